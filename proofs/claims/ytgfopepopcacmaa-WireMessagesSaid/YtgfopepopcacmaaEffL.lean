/-
  list at effects, (*wire.Reader).Effects: the walks.
-/
import Derived.Test.YtgfopepopcacmaaEffA
namespace Go.Proofs.Ytgfopepopcacmaa
open Go.RowKit

def EffU (w : World) (b : Nat) (sl : Value) (bs : List UInt8) (p : Nat) (f : Bool) (e : Ending) (w' : World) : Prop :=
  ∃ (x : EffT) (mv dv : Value) (q : Nat) (g : Bool), e = .returned (.agg (rowE (x.1 ++ x.2.1.1) mv dv).toArray) ∧ (x.1 ++ x.2.1.1).length = 13 ∧ IsSl mv ∧ IsSl dv ∧ Own w' w.heap.size mv x.2.1.2 ∧ Own w' w.heap.size dv x.2.2 ∧ IsR w' b sl bs q g ∧ w.grownBy w' (some b) ∧
    (g = false → f = false ∧ rdE bs p = some (x, q)) ∧ (g = true → unl f (rdE bs p) = none)
theorem reff_u (b : Nat) (sl : Value) (bs : List UInt8) (p : Nat) (f : Bool) (w : World) (h : IsR w b sl bs p f) :
    Calls Try.prog 88 #[.pointer (some ⟨b, 0, none⟩)] w (EffU w b sl bs p f) := by
  refine (reff_any b sl bs p f w h).mono fun e w' hr => ?_
  cases f with
  | true =>
    obtain ⟨h1, h2, h3⟩ := hr
    exact ⟨([0, 0, 0, 0, 0], ([0, 0, 0, 0, 0, 0, 0, 0], []), []), .slice none 0 0, .slice none 0 0, p, true, h1, rfl, ⟨_, _, _, rfl⟩, ⟨_, _, _, rfl⟩, Own.nil _ _, Own.nil _ _, h2, h3, (fun e => by cases e), fun _ => rfl⟩
  | false =>
    cases hd : rdE bs p with
    | none =>
      rw [unl_f, hd] at hr
      obtain ⟨h1, h2, h3⟩ := hr
      exact ⟨([0, 0, 0, 0, 0], ([0, 0, 0, 0, 0, 0, 0, 0], []), []), .slice none 0 0, .slice none 0 0, p, true, h1, rfl, ⟨_, _, _, rfl⟩, ⟨_, _, _, rfl⟩, Own.nil _ _, Own.nil _ _, h2, h3, (fun e => by cases e), (fun _ => by rw [unl_f, hd])⟩
    | some r =>
      obtain ⟨x, q⟩ := r
      rw [unl_f, hd] at hr
      obtain ⟨v, h1, ⟨mv, dv, rfl, hm, h2⟩, h3, h4⟩ := hr
      obtain ⟨a, c, rfl⟩ := h2.rd.len
      obtain ⟨am, cm, rfl⟩ := hm.rd.len
      exact ⟨x, _, _, q, false, h1, rdE_len hd, ⟨_, _, _, rfl⟩, ⟨_, _, _, rfl⟩, hm, h2, h3, h4, fun _ => ⟨rfl, hd⟩, (fun e => by cases e)⟩

def rdNE (bs : List UInt8) : Nat → Nat → Option (List EffT × Nat)
  | 0, q => some ([], q)
  | n + 1, q => match rdE bs q with
    | none => none
    | some (x, q') => (rdNE bs n q').map fun r => (x :: r.1, r.2)
def rdLE (most : Int) (bs : List UInt8) (p : Nat) : Option (List EffT × Nat) :=
  match rdBounded 0 most bs p with
  | none => none
  | some (n, q) => rdNE bs n.toNat q
theorem rdNE_step {bs : List UInt8} {n i q : Nat} (h : i < n) : rdNE bs (n - i) q = match rdE bs q with
    | none => none
    | some (x, q') => (rdNE bs (n - (i + 1)) q').map fun r => (x :: r.1, r.2) := by
  rw [show n - i = (n - (i + 1)) + 1 by omega]
  rfl

abbrev EffP := EffT × Value × Value
def cellsP (ps : List EffP) : List Value := ps.flatMap fun p => rowE (p.1.1 ++ p.1.2.1.1) p.2.1 p.2.2
def ELp (w : World) (B : Nat) (v : Value) (ps : List EffP) : Prop :=
  w.ownsRow B 75 15 v ps.length (cellsP ps) ∧ ∀ p ∈ ps, (p.1.1 ++ p.1.2.1.1).length = 13 ∧ Own w B p.2.1 p.1.2.1.2 ∧ Own w B p.2.2 p.1.2.2 ∧ ∀ k, v.ownBlock = some k → p.2.1.ownBlock ≠ some k ∧ p.2.2.ownBlock ≠ some k
def ELs (B : Nat) (xs : List EffT) (v : Value) (w : World) : Prop := ∃ ps, ps.map (·.1) = xs ∧ ELp w B v ps
theorem ELp.nil (w : World) (B : Nat) : ELp w B (.slice none 0 0) [] := ⟨World.ownsRow_nil w B _ 15, fun p hp => by simp at hp⟩
theorem own15_kept {w w' : World} {base : Nat} {e : TypeId} {v : Value} {n : Nat} {xs : List Value} {row : Option Nat} (h : w.ownsRow base e 15 v n xs) (hg : w.grownBy w' row) (hr : ∀ k, row = some k → k < base ∨ w.heap.size ≤ k) : w'.ownsRow base e 15 v n xs :=
  h.kept hg (by cases hv : v.ownBlock with
    | none => exact .inl rfl
    | some k => exact .inr (fun e => by have := h.lt k hv; have := hr k e.symm; omega))
theorem Own.kept2 {w w' : World} {B : Nat} {v : Value} {l : List UInt8} {row : Option Nat} (h : Own w B v l) (hg : w.grownBy w' row) (hr : ∀ k, row = some k → k < B ∨ w.heap.size ≤ k) : Own w' B v l :=
  h.kept hg (fun k hk e => by have := h.lt k hk; have := hr k e; omega)
theorem ELp.kept {w w' : World} {B : Nat} {v : Value} {ps : List EffP} {row : Option Nat} (h : ELp w B v ps) (hg : w.grownBy w' row) (hr : ∀ k, row = some k → k < B ∨ w.heap.size ≤ k) : ELp w' B v ps :=
  ⟨own15_kept h.1 hg hr, fun p hp => ⟨(h.2 p hp).1, (h.2 p hp).2.1.kept2 hg hr, (h.2 p hp).2.2.1.kept2 hg hr, (h.2 p hp).2.2.2⟩⟩
theorem own15_mono {w : World} {B B' : Nat} {e : TypeId} {v : Value} {n : Nat} {xs : List Value} (h : w.ownsRow B e 15 v n xs) (hb : B' ≤ B) : w.ownsRow B' e 15 v n xs := by
  obtain ⟨h1, h2⟩ := h
  refine ⟨h1, ?_⟩
  rcases h2 with h2 | ⟨g, cap, cur, e, h3, h4⟩
  · exact .inl h2
  · exact .inr ⟨g, cap, cur, e, by omega, h4⟩
theorem ELp.mono {w : World} {B B' : Nat} {v : Value} {ps : List EffP} (h : ELp w B v ps) (hb : B' ≤ B) : ELp w B' v ps :=
  ⟨own15_mono h.1 hb, fun p hp => ⟨(h.2 p hp).1, (h.2 p hp).2.1.mono hb, (h.2 p hp).2.2.1.mono hb, (h.2 p hp).2.2.2⟩⟩
theorem ELp.slice {w : World} {B : Nat} {v : Value} {ps : List EffP} (h : ELp w B v ps) : ∃ a c, v = .slice a ps.length c := by
  rcases h.1.2 with ⟨rfl, h2⟩ | ⟨g, cap, cur, rfl, _⟩
  · exact ⟨none, 0, by rw [h2]⟩
  · exact ⟨_, _, rfl⟩
theorem infoE : (Try.prog.info? 75).map (fun i => (i.zero, i.size, i.bytes)) = some (some (.agg #[.int .i64 0, .int .i64 0, .int .i64 0, .int .i64 0, .int .i64 0, .int .i64 0, .int .i64 0, .int .i64 0, .int .i64 0, .int .i64 0, .int .i64 0, .int .i64 0, .int .i64 0, .slice none 0 0, .slice none 0 0]), 15, 152) := by kernel_rfl

/-- append of one effect to a list of the call's own -/
theorem ELp.app {w : World} {B : Nat} {v : Value} {ps : List EffP} (h : ELp w B v ps) (x : EffT) (mv dv : Value) (hx : (x.1 ++ x.2.1.1).length = 13) (hms : IsSl mv) (hds : IsSl dv) (hm : Own w B mv x.2.1.2) (hd : Own w B dv x.2.2)
    (hne : ∀ k, v.ownBlock = some k → mv.ownBlock ≠ some k ∧ dv.ownBlock ≠ some k) (g : Nat) {T : TypeId} (hg : w.heap[g]? = some (.cells (rowE (x.1 ++ x.2.1.1) mv dv).toArray T (0, 0))) (hn : ps.length ≤ 1000) (hB : B ≤ w.heap.size) (ty : TypeId) :
    ∃ v' w', (Builtin.append_ #[60, 60] ty #[v, .slice (some ⟨g, 0, none⟩) 1 1]).run Try.prog w = .ok v' w' ∧ ELp w' B v' (ps ++ [(x, mv, dv)]) ∧ w.grownBy w' v.ownBlock ∧ Fr w v v' := by
  obtain ⟨i0, hi, hz0, hz1, hz2⟩ := info_parts infoE
  obtain ⟨v', w', hr, ho, hgr, hf⟩ := run_append_own2 (P := Try.prog) w B 60 ty _ i0 _ 15 152 Try.underlying60 hi hz0 hz1 hz2 rfl (by decide) v ps.length (cellsP ps) h.1
    ⟨g, 0, none⟩ 1 1 (rowE (x.1 ++ x.2.1.1) mv dv) (by rw [rowE_len, hx]) (fun j u hu => by rw [addr_add, Nat.zero_add]; simp only [World.cell?, hg]; rw [List.getElem?_toArray]; exact hu) (rowE_ones hms hds) (by simp only [maxLen]; omega) (by omega) hB
  refine ⟨v', w', hr, ⟨by rw [List.length_append]; unfold cellsP at ho ⊢; rw [List.flatMap_append]; simpa using ho, ?_⟩, hgr, hf⟩
  have key : ∀ u l, Own w B u l → (∀ k, v.ownBlock = some k → u.ownBlock ≠ some k) → Own w' B u l ∧ ∀ k, v'.ownBlock = some k → u.ownBlock ≠ some k := fun u l hu hun =>
    ⟨hu.kept hgr (fun k hk e => hun k e hk), fun k hk e => by
      rcases hf k hk with h1 | h1
      · exact hun k h1 e
      · have := (hu.lt k e).2; omega⟩
  intro p hp
  rcases List.mem_append.1 hp with hp | hp
  · obtain ⟨h1, h2, h3, h4⟩ := h.2 p hp
    have k1 := key _ _ h2 (fun k hk => (h4 k hk).1)
    have k2 := key _ _ h3 (fun k hk => (h4 k hk).2)
    exact ⟨h1, k1.1, k2.1, fun k hk => ⟨k1.2 k hk, k2.2 k hk⟩⟩
  · simp at hp
    subst hp
    have k1 := key _ _ hm (fun k hk => (hne k hk).1)
    have k2 := key _ _ hd (fun k hk => (hne k hk).2)
    exact ⟨hx, k1.1, k2.1, fun k hk => ⟨k1.2 k hk, k2.2 k hk⟩⟩
theorem app_eff {ops : Array Oper} {rest : List Oper} {o : Oper} {a : Act} {w : World} {Q : Exit → Act → World → Prop} (hgd : o.guard = none) (s y : Operand)
    (ho : o.op = .call { callee := .builtin .append, args := #[s, y], argTypes := #[60, 60] })
    (B : Nat) (v : Value) (ps : List EffP) (x : EffT) (mv dv : Value) (g : Nat) (T : TypeId) (hs : a.eval s = v) (hy : a.eval y = .slice (some ⟨g, 0, none⟩) 1 1) (h : ELp w B v ps) (hx : (x.1 ++ x.2.1.1).length = 13) (hms : IsSl mv) (hds : IsSl dv) (hm : Own w B mv x.2.1.2) (hd : Own w B dv x.2.2)
    (hne : ∀ k, v.ownBlock = some k → mv.ownBlock ≠ some k ∧ dv.ownBlock ≠ some k) (hg : w.heap[g]? = some (.cells (rowE (x.1 ++ x.2.1.1) mv dv).toArray T (0, 0))) (hn : ps.length ≤ 1000) (hB : B ≤ w.heap.size)
    (hK : ∀ v' w', ELp w' B v' (ps ++ [(x, mv, dv)]) → w.grownBy w' v.ownBlock → Fr w v v' → wpList Try.prog ops Q rest (a.put o.dst v') w') : wpList Try.prog ops Q (o :: rest) a w := by
  obtain ⟨v', w', hr, h2, h3, h4⟩ := h.app x mv dv hx hms hds hm hd hne g hg hn hB o.type
  refine wpList_plain hgd fun _ hK2 => ?_
  unfold Oper.wp execOp
  simp only [ho, resolve, invoke, builtin, Sem.run_bind, Sem.run_pure, Result.andThen_ok, List.map_toArray, List.map_cons, List.map_nil, hs, hy, hr]
  exact hK2 _ _ (hK v' w' h2 h3 h4)

/-- what a slice literal of one struct is built of -/
theorem fold_zip : ∀ (xs : List Value) (k : Nat) (z : Array Value), k + xs.length ≤ z.size → (xs.zipIdx k).foldl (fun cs x => cs.setIfInBounds x.2 x.1) z = (z.toList.take k ++ xs ++ z.toList.drop (k + xs.length)).toArray
  | [], k, z, h => by simp
  | x :: xs, k, z, h => by
    rw [List.zipIdx_cons, List.foldl_cons, fold_zip xs (k + 1) _ (by simp at h ⊢; omega)]
    have e := list_seg_step z.toList k x xs (by simp at h ⊢; omega)
    simpa [Array.toList_setIfInBounds, Nat.add_assoc] using e
theorem fold_rowE {zs : List Int} {mv dv : Value} (h : zs.length = 13) : List.foldl (fun (cs : Array Value) (x : Value × Nat) => cs.setIfInBounds x.2 x.1) #[.int .i64 0, .int .i64 0, .int .i64 0, .int .i64 0, .int .i64 0, .int .i64 0, .int .i64 0, .int .i64 0, .int .i64 0, .int .i64 0, .int .i64 0, .int .i64 0, .int .i64 0, .slice none 0 0, .slice none 0 0] (rowE zs mv dv).zipIdx = (rowE zs mv dv).toArray := by
  rw [fold_zip (rowE zs mv dv) 0 _ (by rw [rowE_len, h]; decide), rowE_len, h]
  simp
end Go.Proofs.Ytgfopepopcacmaa
