/-
  Lists of changes in memory: of the call's own, and readable ones.
-/
import Derived.Test.YtnkgoaloigmmfaaIPages
namespace Go.Proofs.Ytnkgoaloigmmfaa
open Go.RowKit

abbrev CT := Int × List UInt8
abbrev ChP := CT × Value
def IsSl (v : Value) : Prop := ∃ a n c, v = .slice a n c
theorem Rd.isSl {w : World} {v : Value} {l : List UInt8} (h : Rd w v l) : IsSl v := by obtain ⟨a, c, rfl⟩ := h.len; exact ⟨_, _, _, rfl⟩
def rowC (k : Int) (dv : Value) : List Value := [.int .i64 k, dv]
def cellsC (ps : List ChP) : List Value := ps.flatMap fun p => rowC p.1.1 p.2
theorem cellsC_len (ps : List ChP) : (cellsC ps).length = ps.length * 2 := by
  induction ps with
  | nil => rfl
  | cons p ps ih => simp only [cellsC, List.flatMap_cons, List.length_append, List.length_cons] at ih ⊢; rw [ih]; simp [rowC]; omega
theorem cellsC_get0 : ∀ (ps : List ChP) {i : Nat} {p : ChP}, ps[i]? = some p → (cellsC ps)[i * 2]? = some (.int .i64 p.1.1)
  | [], i, p, h => by simp at h
  | q :: ps, 0, p, h => by simp at h; subst h; rfl
  | q :: ps, i + 1, p, h => by
    have := cellsC_get0 ps (i := i) (p := p) (by simpa using h)
    rw [show (i + 1) * 2 = i * 2 + 2 by omega]
    exact this
theorem cellsC_get1 : ∀ (ps : List ChP) {i : Nat} {p : ChP}, ps[i]? = some p → (cellsC ps)[i * 2 + 1]? = some p.2
  | [], i, p, h => by simp at h
  | q :: ps, 0, p, h => by simp at h; subst h; rfl
  | q :: ps, i + 1, p, h => by
    have := cellsC_get1 ps (i := i) (p := p) (by simpa using h)
    rw [show (i + 1) * 2 + 1 = (i * 2 + 1) + 2 by omega]
    exact this

/-- a list of changes of the call's own, in blocks from B on -/
def CLp (te : TypeId) (w : World) (B : Nat) (v : Value) (ps : List ChP) : Prop :=
  w.ownsRow B te 2 v ps.length (cellsC ps) ∧ ∀ p ∈ ps, Own w B p.2 p.1.2 ∧ ∀ k, v.ownBlock = some k → p.2.ownBlock ≠ some k
theorem CLp.nil (te : TypeId) (w : World) (B : Nat) : CLp te w B (.slice none 0 0) [] := ⟨World.ownsRow_nil w B _ 2, fun p hp => by simp at hp⟩
theorem own2_kept {w w' : World} {base : Nat} {e : TypeId} {v : Value} {n : Nat} {xs : List Value} {row : Option Nat} (h : w.ownsRow base e 2 v n xs) (hg : w.grownBy w' row) (hr : ∀ k, v.ownBlock = some k → row ≠ some k) : w'.ownsRow base e 2 v n xs :=
  h.kept hg (by cases hv : v.ownBlock with
    | none => exact .inl rfl
    | some k => exact .inr (fun e => hr k hv e.symm))
theorem CLp.kept {te : TypeId} {w w' : World} {B : Nat} {v : Value} {ps : List ChP} {row : Option Nat} (h : CLp te w B v ps) (hg : w.grownBy w' row) (hr : ∀ k, row = some k → k < B ∨ w.heap.size ≤ k) : CLp te w' B v ps :=
  ⟨own2_kept h.1 hg (fun k hk e => by have := h.1.lt k hk; have := hr k e; omega), fun p hp => ⟨(h.2 p hp).1.kept hg (fun k hk e => by have := (h.2 p hp).1.lt k hk; have := hr k e; omega), (h.2 p hp).2⟩⟩
theorem CLp.grown {te : TypeId} {w w' : World} {B : Nat} {v : Value} {ps : List ChP} (h : CLp te w B v ps) (hg : w.grownBy w' none) : CLp te w' B v ps := h.kept hg (by simp)
theorem CLp.mono {te : TypeId} {w : World} {B B' : Nat} {v : Value} {ps : List ChP} (h : CLp te w B v ps) (hb : B' ≤ B) : CLp te w B' v ps := by
  refine ⟨?_, fun p hp => ⟨(h.2 p hp).1.mono hb, (h.2 p hp).2⟩⟩
  obtain ⟨h1, h2⟩ := h.1
  refine ⟨h1, ?_⟩
  rcases h2 with h2 | ⟨g, cap, cur, e, h3, h4⟩
  · exact .inl h2
  · exact .inr ⟨g, cap, cur, e, by omega, h4⟩
theorem CLp.slice {te : TypeId} {w : World} {B : Nat} {v : Value} {ps : List ChP} (h : CLp te w B v ps) : ∃ a c, v = .slice a ps.length c := by
  rcases h.1.2 with ⟨rfl, h2⟩ | ⟨g, cap, cur, rfl, _⟩
  · exact ⟨none, 0, by rw [h2]⟩
  · exact ⟨_, _, rfl⟩

/-- a row whose block holds cells is not one that holds none -/
theorem noncell_ne {w : World} {base size n : Nat} {e : TypeId} {v : Value} {xs : List Value} (h : w.ownsRow base e size v n xs) {row : Option Nat} (hr : ∀ r, row = some r → ∃ o : Obj, w.heap[r]? = some o ∧ o.isCells = false) :
    ∀ k, v.ownBlock = some k → row ≠ some k := by
  intro k hk e
  obtain ⟨o, ho, hc⟩ := hr k e
  obtain ⟨_, h2⟩ := h
  rcases h2 with ⟨rfl, _⟩ | ⟨g, cap, cur, rfl, _, hg, _⟩
  · simp [Value.ownBlock] at hk
  · simp only [Value.ownBlock, Option.some.injEq] at hk
    subst hk
    rw [hg] at ho
    cases ho
    cases hc
theorem CLp.abide {te : TypeId} {w w' : World} {B : Nat} {v : Value} {ps : List ChP} {row : Option Nat} (h : CLp te w B v ps) (hg : w.grownBy w' row) (hr : ∀ r, row = some r → ∃ o : Obj, w.heap[r]? = some o ∧ o.isCells = false) : CLp te w' B v ps :=
  ⟨own2_kept h.1 hg (noncell_ne h.1 hr), fun p hp => ⟨(h.2 p hp).1.kept hg (noncell_ne (h.2 p hp).1 hr), (h.2 p hp).2⟩⟩
theorem Rd.abide {w w' : World} {v : Value} {l : List UInt8} {row : Option Nat} (h : Rd w v l) (hg : w.grownBy w' row) (hr : ∀ r, row = some r → ∃ o : Obj, w.heap[r]? = some o ∧ o.isCells = false) : Rd w' v l := by
  rcases h with h | ⟨b, off, cap, rfl, h1, h2, h3⟩
  · exact .inl h
  · exact .inr ⟨b, off, cap, rfl, h1, h2, fun j x hj => cell_kept (h3 j x hj) hg hr⟩

/-- append of one change to a list of the call's own -/
theorem CLp.app {ts te : TypeId} (hu : Try.prog.underlying ts = some (.slice te)) (hin : (Try.prog.info? te).map (fun i => (i.zero, i.size, i.bytes)) = some (some (.agg #[.int .i64 0, .slice none 0 0]), 2, 32))
    {w : World} {B : Nat} {v : Value} {ps : List ChP} (h : CLp te w B v ps) (x : CT) (dv : Value) (hd : Own w B dv x.2)
    (hne : ∀ k, v.ownBlock = some k → dv.ownBlock ≠ some k) (g : Nat) {T : TypeId} (hg : w.heap[g]? = some (.cells #[.int .i64 x.1, dv] T (0, 0))) (hn : ps.length ≤ 1000000) (hB : B ≤ w.heap.size) (ty : TypeId) :
    ∃ v' w', (Builtin.append_ #[ts, ts] ty #[v, .slice (some ⟨g, 0, none⟩) 1 1]).run Try.prog w = .ok v' w' ∧ CLp te w' B v' (ps ++ [(x, dv)]) ∧ w.grownBy w' v.ownBlock ∧ Fr w v v' := by
  obtain ⟨i0, hi, hz0, hz1, hz2⟩ := info_parts hin
  obtain ⟨ad, cd, rfl⟩ := hd.rd.len
  obtain ⟨v', w', hr, ho, hgr, hf⟩ := run_append_own2 (P := Try.prog) w B ts ty te i0 _ 2 32 hu hi hz0 hz1 hz2 rfl (by decide) v ps.length (cellsC ps) h.1
    ⟨g, 0, none⟩ 1 1 (rowC x.1 (.slice ad x.2.length cd)) rfl (fun j u hu => by rw [addr_add, Nat.zero_add]; simp only [World.cell?, hg]; rw [List.getElem?_toArray]; exact hu) (fun u hu => by simp [rowC] at hu; rcases hu with rfl | rfl <;> rfl) (by simp only [maxLen]; omega) (by omega) hB
  refine ⟨v', w', hr, ⟨by rw [List.length_append]; unfold cellsC at ho ⊢; rw [List.flatMap_append]; simpa using ho, ?_⟩, hgr, hf⟩
  have key : ∀ u l, Own w B u l → (∀ k, v.ownBlock = some k → u.ownBlock ≠ some k) → Own w' B u l ∧ ∀ k, v'.ownBlock = some k → u.ownBlock ≠ some k := fun u l hu hun =>
    ⟨hu.kept hgr (fun k hk e => hun k e hk), fun k hk e => by
      rcases hf k hk with h1 | h1
      · exact hun k h1 e
      · have := (hu.lt k e).2; omega⟩
  intro p hp
  rcases List.mem_append.1 hp with hp | hp
  · obtain ⟨h2, h4⟩ := h.2 p hp
    exact key _ _ h2 h4
  · simp at hp
    subst hp
    exact key _ _ hd hne

/-- a slice of bytes that can be read; an empty one may begin anywhere -/
def RdW (w : World) (v : Value) (l : List UInt8) : Prop := Rd w v l ∨ ∃ a, v = .slice (some a) 0 0 ∧ l = []
theorem Rd.w {w : World} {v : Value} {l : List UInt8} (h : Rd w v l) : RdW w v l := .inl h
theorem RdW.len {w : World} {v : Value} {l : List UInt8} (h : RdW w v l) : ∃ a c, v = .slice a l.length c := by
  rcases h with h | ⟨a, rfl, rfl⟩
  · exact h.len
  · exact ⟨_, _, rfl⟩
theorem RdW.ne {w : World} {v : Value} {l : List UInt8} (h : RdW w v l) (hl : l ≠ []) : Rd w v l := by
  rcases h with h | ⟨a, rfl, rfl⟩
  · exact h
  · exact absurd rfl hl
theorem RdW.blk {w : World} {v : Value} {l : List UInt8} (h : RdW w v l) (hl : l ≠ []) : ∀ k, v.ownBlock = some k → k < w.heap.size := fun k hk => (h.ne hl).blk hl k hk
theorem RdW.grown {w w' : World} {v : Value} {l : List UInt8} (h : RdW w v l) (hg : w.grownBy w' none) : RdW w' v l := by
  rcases h with h | h
  · exact .inl (h.grown hg)
  · exact .inr h
theorem RdW.kept {w w' : World} {v : Value} {l : List UInt8} {row : Option Nat} (h : RdW w v l) (hg : w.grownBy w' row) (hne : l ≠ [] → ∀ k, v.ownBlock = some k → row ≠ some k) : RdW w' v l := by
  by_cases hl : l = []
  · subst hl
    rcases h with h | h
    · rcases h with h | ⟨b, off, cap, h1, h2, h3, h4⟩
      · exact .inl (.inl h)
      · exact .inl (.inr ⟨b, off, cap, h1, h2, h3, fun j x hj => by simp at hj⟩)
    · exact .inr h
  · exact .inl ((h.ne hl).kept hg (hne hl))
theorem RdW.small {w : World} {v : Value} {l : List UInt8} (h : RdW w v l) : (l.length : Int) ≤ 9223372036854775807 := by
  rcases h with h | ⟨a, rfl, rfl⟩
  · exact h.small
  · simp
theorem run_toStringW (w : World) (v : Value) (l : List UInt8) (h : RdW w v l) :
    (convert 22 9 v).run Try.prog w = .ok (.string (str l)) w := by
  rcases h with h | ⟨a, rfl, rfl⟩
  · exact run_toString w v l h
  · have hl : (loadCells a 0).run Try.prog w = .ok (([] : List Int).map (Value.int .u8)).toArray w := by
      have := run_loadCells_list (P := Try.prog) w a [] (fun j v hj => by simp at hj)
      simpa using this
    rw [run_convert_bytes_string w 22 9 5 _ 0 0 Try.underlying22 Try.underlying5 Try.underlying9, run_bytesToString w _ 0 0 [] hl]
    rfl
theorem run_appW (w : World) (B : Nat) (v src : Value) (l m : List UInt8) (ty : TypeId) (hown : Own w B v l) (hsrc : RdW w src m) (hB : B ≤ w.heap.size) (hb : l.length + m.length ≤ 140737488355328) :
    ∃ v' w', (Builtin.append_ #[22, 22] ty #[v, src]).run Try.prog w = .ok v' w' ∧ Own w' B v' (l ++ m) ∧ w.grownBy w' v.ownBlock ∧ Fr w v v' := by
  rcases hsrc with h | ⟨ad, rfl, rfl⟩
  · exact run_app w B v src l m ty hown h hB hb
  · obtain ⟨i0, hi, hz0, hz1, hz2⟩ := info_parts info5
    obtain ⟨v', w', hr, ho, hg, hf⟩ := run_append_own2 (P := Try.prog) w B 22 ty _ i0 (.int .u8 0) 1 1 Try.underlying22 hi hz0 hz1 hz2 rfl (by decide) v l.length (bvs l) hown
      ad 0 0 (bvs []) (by simp [bvs]) (fun j u hu => by simp [bvs] at hu) (bvs_one []) (by simp only [maxLen]; simp only [List.length_nil] at hb; omega) (by simp only [List.length_nil] at hb; omega) hB
    refine ⟨v', w', hr, ?_, hg, hf⟩
    unfold Own
    rw [bvs_append, List.length_append]
    exact ho
theorem app_bytesW {ops : Array Oper} {rest : List Oper} {o : Oper} {a : Act} {w : World} {Q : Exit → Act → World → Prop} (hgd : o.guard = none) (s x : Operand)
    (ho : o.op = .call { callee := .builtin .append, args := #[s, x], argTypes := #[22, 22] })
    (B : Nat) (v src : Value) (l m : List UInt8) (hs : a.eval s = v) (hx : a.eval x = src) (hown : Own w B v l) (hsrc : RdW w src m) (hB : B ≤ w.heap.size) (hb : l.length + m.length ≤ 140737488355328)
    (h : ∀ v' w', Own w' B v' (l ++ m) → w.grownBy w' v.ownBlock → Fr w v v' → wpList Try.prog ops Q rest (a.put o.dst v') w') : wpList Try.prog ops Q (o :: rest) a w := by
  obtain ⟨v', w', hr, h2, h3, h4⟩ := run_appW w B v src l m o.type hown hsrc hB hb
  refine wpList_plain hgd fun _ hK => ?_
  unfold Oper.wp execOp
  simp only [ho, resolve, invoke, builtin, Sem.run_bind, Sem.run_pure, Result.andThen_ok, List.map_toArray, List.map_cons, List.map_nil, hs, hx, hr]
  exact hK _ _ (h v' w' h2 h3 h4)

theorem equal_w (va vb : Value) (a b : List UInt8) (w : World) (ha : RdW w va a) (hb : RdW w vb b) :
    Calls Try.prog 33 #[va, vb] w fun e w' => e = .returned (.bool (a == b)) ∧ w = w' := by
  have h1 := run_toStringW w va a ha
  have h2 := run_toStringW w vb b hb
  have HE := Lib.hid (str_beq a b)
  clear ha hb
  go_enter Try.func33, Try.ntmps33
  go_wp2
  go_ret
  exact ⟨congrArg (fun z => Ending.returned (.bool z)) HE.out, rfl⟩

/-- a list of changes that can be read -/
def RdCs (w : World) (v : Value) (ps : List ChP) : Prop :=
  ((v = .slice none 0 0 ∧ ps = []) ∨ ∃ b off cap, v = .slice (some ⟨b, off, none⟩) ps.length cap ∧ ps.length ≤ cap ∧ cap ≤ maxLen ∧ ∀ (j : Nat) (c : Value), (cellsC ps)[j]? = some c → w.cell? ⟨b, off + j, none⟩ = some c) ∧
  ∀ p ∈ ps, RdW w p.2 p.1.2
theorem RdCs.kept {w w' : World} {v : Value} {ps : List ChP} {row : Option Nat} (h : RdCs w v ps) (hg : w.grownBy w' row) (hv : ∀ k, v.ownBlock = some k → row ≠ some k) (hd : ∀ p ∈ ps, ∀ k, p.2.ownBlock = some k → row ≠ some k) : RdCs w' v ps := by
  refine ⟨?_, fun p hp => (h.2 p hp).kept hg (fun _ => hd p hp)⟩
  rcases h.1 with h1 | ⟨b, off, cap, rfl, h1, h2, h3⟩
  · exact .inl h1
  · exact .inr ⟨b, off, cap, rfl, h1, h2, fun j c hj => hg.cell (h3 j c hj) (fun e => hv b rfl e.symm)⟩
theorem RdCs.grown {w w' : World} {v : Value} {ps : List ChP} (h : RdCs w v ps) (hg : w.grownBy w' none) : RdCs w' v ps := h.kept hg (by simp) (by simp)
theorem RdCs.len {w : World} {v : Value} {ps : List ChP} (h : RdCs w v ps) : ∃ a c, v = .slice a ps.length c := by
  rcases h.1 with ⟨rfl, rfl⟩ | ⟨b, off, cap, rfl, _⟩
  · exact ⟨none, 0, rfl⟩
  · exact ⟨_, _, rfl⟩
theorem RdCs.small {w : World} {v : Value} {ps : List ChP} (h : RdCs w v ps) : (ps.length : Int) ≤ 9223372036854775807 := by
  rcases h.1 with ⟨rfl, rfl⟩ | ⟨b, off, cap, rfl, h1, h2, _⟩
  · simp
  · simp only [maxLen] at h2; omega
theorem RdCs.at {w : World} {a : Option Addr} {n c : Nat} {ps : List ChP} (h : RdCs w (.slice a n c) ps) {i : Nat} {p : ChP} (hi : ps[i]? = some p) :
    ∃ b off, a = some ⟨b, off, none⟩ ∧ w.cell? ⟨b, off + i * 2, none⟩ = some (.int .i64 p.1.1) ∧ w.cell? ⟨b, off + i * 2 + 1, none⟩ = some p.2 := by
  rcases h.1 with ⟨_, rfl⟩ | ⟨b, off, cap, h0, h1, h2, h3⟩
  · simp at hi
  · simp only [Value.slice.injEq] at h0
    exact ⟨b, off, h0.1, h3 _ _ (cellsC_get0 ps hi), by rw [Nat.add_assoc]; exact h3 _ _ (cellsC_get1 ps hi)⟩
theorem CLp.rd {te : TypeId} {w : World} {B : Nat} {v : Value} {ps : List ChP} (h : CLp te w B v ps) : RdCs w v ps := by
  refine ⟨?_, fun p hp => .inl (h.2 p hp).1.rd⟩
  have h0 := h.1
  obtain ⟨h1, h2⟩ := h.1
  rcases h2 with ⟨rfl, hn⟩ | ⟨g, cap, cur, rfl, hb, hg, hnc, hcm, hcs, htake⟩
  · exact .inl ⟨rfl, List.eq_nil_of_length_eq_zero hn⟩
  · refine .inr ⟨g, 0, cap, rfl, hnc, hcm, fun j c hj => ?_⟩
    have := World.ownsRow.cells h0 (g := g) rfl j c hj
    rwa [addr_add] at this
end Go.Proofs.Ytnkgoaloigmmfaa
