/-
  wire.fill.
-/
import Derived.Test.YtfldooljmjeaoaaVL
namespace Go.Proofs.Ytfldooljmjeaoaa
open Go.RowKit Go.Shelf

def rdIs : Nat → List UInt8 → Nat → Option (List Int × Nat)
  | 0, _, p => some ([], p)
  | n + 1, bs, p => match rdIs n bs p with
    | none => none
    | some (zs, q) => (rdInt bs q).map fun r => (zs ++ [r.1], r.2)
theorem rdIs_none {bs : List UInt8} {p : Nat} : ∀ {i n : Nat}, i ≤ n → rdIs i bs p = none → rdIs n bs p = none := by
  intro i n h
  induction n with
  | zero => intro h1; have : i = 0 := by omega
            subst this; exact h1
  | succ n ih =>
    intro h1
    rcases Nat.lt_or_ge i (n + 1) with h2 | h2
    · rw [rdIs, ih (by omega) h1]
    · have : i = n + 1 := by omega
      subst this; exact h1

/-- the reader's Int, in one form: what was read, and the state behind it -/
def IntU (w : World) (b : Nat) (sl : Value) (bs : List UInt8) (p : Nat) (f : Bool) (e : Ending) (w' : World) : Prop :=
  ∃ (z : Int) (q : Nat) (g : Bool), e = .returned (.int .i64 z) ∧ IsR w' b sl bs q g ∧ w.grownBy w' (some b) ∧ (g = false → f = false ∧ rdInt bs p = some (z, q)) ∧ (g = true → unl f (rdInt bs p) = none) ∧ (-9223372036854775808 ≤ z ∧ z ≤ 9223372036854775807)
theorem rdInt_range {bs : List UInt8} {p : Nat} {z : Int} {q : Nat} (h : rdInt bs p = some (z, q)) : -9223372036854775808 ≤ z ∧ z ≤ 9223372036854775807 := by
  unfold rdInt at h
  split at h
  · cases h
  · rename_i h0
    simp only [Option.some.injEq, Prod.mk.injEq] at h
    have := (num_canon (bs := bs.drop p) (u := (num (bs.drop p)).1) (k := (num (bs.drop p)).2) rfl h0).1
    rw [← h.1]
    exact unzz_range this
theorem rint_u (b : Nat) (sl : Value) (bs : List UInt8) (p : Nat) (f : Bool) (w : World) (h : IsR w b sl bs p f) :
    Calls Try.prog 48 #[.pointer (some ⟨b, 0, none⟩)] w (IntU w b sl bs p f) := by
  refine (rint_f b sl bs p f w h).mono fun e w' hr => ?_
  cases f with
  | true =>
    obtain ⟨h1, h2, h3⟩ := hr
    exact ⟨0, p, true, h1, h2, h3, (fun e => by cases e), fun _ => rfl, by omega⟩
  | false =>
    cases hd : rdInt bs p with
    | none =>
      rw [unl_f, hd] at hr
      obtain ⟨h1, h2, h3⟩ := hr
      exact ⟨0, p, true, h1, h2, h3, (fun e => by cases e), (fun _ => by rw [unl_f, hd]), by omega⟩
    | some r =>
      obtain ⟨z, q⟩ := r
      rw [unl_f, hd] at hr
      obtain ⟨h1, h2, h3⟩ := hr
      exact ⟨z, q, false, h1, h2, h3, fun _ => ⟨rfl, hd⟩, (fun e => by cases e), rdInt_range hd⟩

def fillRow (off : Nat) (cs : List Value) (zs : List Int) : List Value := cs.take off ++ ivs zs ++ cs.drop (off + zs.length)
theorem fillRow_len {off : Nat} {cs : List Value} {zs : List Int} (h : off + zs.length ≤ cs.length) : (fillRow off cs zs).length = cs.length := by
  unfold fillRow ivs; simp; omega
theorem fillRow_nil (off : Nat) (cs : List Value) : fillRow off cs [] = cs := by unfold fillRow ivs; simp
theorem fillRow_snoc {off : Nat} {cs : List Value} {zs : List Int} {z : Int} (h : off + zs.length < cs.length) : (fillRow off cs zs).set (off + zs.length) (.int .i64 z) = fillRow off cs (zs ++ [z]) := by
  have e1 : (cs.take off ++ ivs zs).length = off + zs.length := by unfold ivs; simp; omega
  unfold fillRow
  rw [List.set_append_right _ _ (by omega), e1, Nat.sub_self, List.drop_eq_getElem_cons h, List.set_cons_zero]
  simp [ivs, Nat.add_assoc]
theorem fillRow_get {off : Nat} {cs : List Value} {zs : List Int} (h : off + zs.length < cs.length) : (fillRow off cs zs)[off + zs.length]? = cs[off + zs.length]? := by
  have e1 : (cs.take off ++ ivs zs).length = off + zs.length := by unfold ivs; simp; omega
  unfold fillRow
  rw [List.getElem?_append_right (by omega), e1, Nat.sub_self, List.getElem?_drop, Nat.add_zero]

def FillInv (w0 : World) (b : Nat) (sl : Value) (bs : List UInt8) (p : Nat) (f : Bool) (g off : Nat) (cs : List Value) (t : TypeId) (n : Nat) (w : World) (k : Value) (wr : World) : Prop :=
  ∃ (i : Nat) (zs : List Int) (q : Nat) (f' : Bool), k = .int .i64 (i : Int) ∧ i ≤ n ∧ wr.heap[g]? = some (.cells (fillRow off cs zs).toArray t (0, 0)) ∧ w0.grownBy wr (some b) ∧ IsR wr b sl bs q f' ∧ (f = true → f' = true) ∧
    (f' = false → f = false ∧ rdIs i bs p = some (zs, q)) ∧ (f' = true → unl f (rdIs i bs p) = none) ∧ zs.length = i ∧ (∀ z ∈ zs, -9223372036854775808 ≤ z ∧ z ≤ 9223372036854775807) ∧ w.heap.size ≤ wr.heap.size ∧ (∀ j, j < w.heap.size → j ≠ b → j ≠ g → wr.heap[j]? = w.heap[j]?)

def ptrs (g off n : Nat) : List Value := (List.range n).map fun j => .pointer (some ⟨g, off + j, none⟩)
def FillPost (w0 : World) (b : Nat) (sl : Value) (bs : List UInt8) (p : Nat) (f : Bool) (g off : Nat) (cs : List Value) (t : TypeId) (n : Nat) (w : World) (e : Ending) (wr : World) : Prop :=
  e = .returned (.tuple #[]) ∧ ∃ (zs : List Int) (q : Nat) (f' : Bool), wr.heap[g]? = some (.cells (fillRow off cs zs).toArray t (0, 0)) ∧ w0.grownBy wr (some b) ∧ IsR wr b sl bs q f' ∧
    (f' = false → f = false ∧ rdIs n bs p = some (zs, q)) ∧ (f' = true → unl f (rdIs n bs p) = none) ∧ zs.length = n ∧ (∀ z ∈ zs, -9223372036854775808 ≤ z ∧ z ≤ 9223372036854775807) ∧ w.heap.size ≤ wr.heap.size ∧ (∀ k, k < w.heap.size → k ≠ b → k ≠ g → wr.heap[k]? = w.heap[k]?)

theorem unl_step {bs : List UInt8} {p q i : Nat} {f f' g : Bool} {zs : List Int} {z : Int} {q2 : Nat} (h0 : f = true → f' = true) (h1 : f' = false → f = false ∧ rdIs i bs p = some (zs, q)) (h2 : f' = true → unl f (rdIs i bs p) = none)
    (k1 : g = false → f' = false ∧ rdInt bs q = some (z, q2)) (k2 : g = true → unl f' (rdInt bs q) = none) :
    (f = true → g = true) ∧ (g = false → f = false ∧ rdIs (i + 1) bs p = some (zs ++ [z], q2)) ∧ (g = true → unl f (rdIs (i + 1) bs p) = none) := by
  cases f with
  | true =>
    have := h0 rfl
    subst this
    cases g with
    | true => exact ⟨fun _ => rfl, fun e => (by cases e), fun _ => rfl⟩
    | false => have := (k1 rfl).1; cases this
  | false =>
    refine ⟨(fun e => by cases e), fun e => ⟨rfl, ?_⟩, fun e => ?_⟩
    · obtain ⟨e1, e2⟩ := k1 e
      rw [rdIs, (h1 e1).2]
      simp only [e2, Option.map_some]
    · rw [unl_f]
      cases f' with
      | true => exact rdIs_none (Nat.le_succ i) (by have := h2 rfl; rwa [unl_f] at this)
      | false =>
        rw [rdIs, (h1 rfl).2]
        have := k2 e
        rw [unl_f] at this
        simp only [this, Option.map_none]

set_option maxRecDepth 100000 in
set_option maxHeartbeats 1000000 in
theorem fill_any (w0 : World) (b : Nat) (sl : Value) (bs : List UInt8) (p : Nat) (f : Bool) (pv : Value) (g off n : Nat) (cs : List Value) (t : TypeId) (w : World) (h : IsR w b sl bs p f) (hp : RdL w pv (ptrs g off n))
    (hrow : w.heap[g]? = some (.cells cs.toArray t (0, 0))) (hn : off + n ≤ cs.length) (hgb : g ≠ b) (hpb : ∀ k, pv.ownBlock = some k → k ≠ b ∧ k ≠ g) (hb0 : b < w0.heap.size) (hsg : bs ≠ [] → ∀ k, sl.ownBlock = some k → k < w0.heap.size) (hg0 : w0.grownBy w (some b)) (hge : w0.heap.size ≤ g) (hsm : n ≤ 1000)
    (hcs : ∀ j, j < n → ∃ z, cs[off + j]? = some (.int .i64 z)) :
    Calls Try.prog 52 #[.pointer (some ⟨b, 0, none⟩), pv] w (FillPost w0 b sl bs p f g off cs t n w) := by
  have hln : (ptrs g off n).length = n := by simp [ptrs]
  obtain ⟨pa, pc, rfl⟩ := hp.len
  rw [hln] at *
  have H := Lib.hid h
  have HP := Lib.hid hp
  have HR := Lib.hid hrow
  have HPB := Lib.hid hpb
  have HSG := Lib.hid hsg
  have HG := Lib.hid hg0
  have HCS := Lib.hid hcs
  clear h hp hrow hpb hsg hg0 hcs hln
  go_enter Try.func52, Try.ntmps52
  go_wp2
  go_loopw [8] (fun k wr => FillInv w0 b sl bs p f g off cs t n w k wr ∧ RdL wr (.slice pa n pc) (ptrs g off n)) (fun k _ => n - (intOf k).toNat)
  case atStart =>
    refine ⟨⟨0, [], p, f, rfl, Nat.zero_le _, by rw [fillRow_nil]; exact HR.out, HG.out, H.out, fun h => h, fun e => ⟨e, rfl⟩, fun e => by rw [e]; rfl, rfl, by simp, Nat.le_refl _, fun _ _ _ _ => rfl⟩, HP.out⟩
  case round =>
    obtain ⟨⟨i, zs, q, f', rfl, hin, hrow, hg, hR, s0, s1, s2, hzl, hzr, hsz, hko⟩, hp⟩ := hrel
    have HKO := Lib.hid hko
    have HSZ := Lib.hid hsz
    have S0 := Lib.hid s0
    have S1 := Lib.hid s1
    have S2 := Lib.hid s2
    have HZL := Lib.hid hzl
    have HZR := Lib.hid hzr
    have HRW := Lib.hid hrow
    have HGW := Lib.hid hg
    have HRR := Lib.hid hR
    have HPW := Lib.hid hp
    clear s0 s1 s2 hzl hzr hrow hg hR hp hko hsz
    by_cases hlt : i < n
    · obtain ⟨gb, go, rfl, hcell⟩ := HPW.out.at (j := i) (x := .pointer (some ⟨g, off + i, none⟩)) (by simp [ptrs, hlt])
      have HC := Lib.hid (rint_u b sl bs q f' wr HRR.out)
      go_wp2_with fail
      refine HC.out.mono ?_
      rintro e w2 ⟨z, q2, f2, rfl, hR2, hg2, t1, t2, t3⟩
      have hrow2 := box_kept HRW.out hg2 hgb
      have hlen : off + zs.length < cs.length := by have := HZL.out; omega
      have hcl : w2.cell? ⟨g, off + i, none⟩ = (fillRow off cs zs).toArray[off + i]? := by simp [World.cell?, hrow2]
      obtain ⟨z0, hz0⟩ := HCS.out i hlt
      rw [show off + i = off + zs.length by rw [HZL.out], List.getElem?_toArray, fillRow_get hlen, HZL.out, hz0] at hcl
      have hfr : w2.frozen? ⟨g, off + i, none⟩ = false := frozen_of_row _ _ _ _ _ hrow2
      have hrow3 := heap_setCell_same w2 g (off + i) _ _ (.int .i64 z) hrow2
      rw [List.setIfInBounds_toArray, show off + i = off + zs.length by rw [HZL.out], fillRow_snoc hlen, HZL.out] at hrow3
      have hst := unl_step S0.out S1.out S2.out t1 t2
      have HROW := Lib.hid hrow3
      have HST := Lib.hid hst
      have HR3 := Lib.hid (hR2.far hb0 HSG.out (gb_setCell w2 ⟨g, off + i, none⟩ (.int .i64 z)) (fun k hk => by have e : g = k := Option.some.inj hk; omega))
      have HG3 := Lib.hid (gb_trans (gb_same HGW.out hg2) (gb_setCell w2 ⟨g, off + i, none⟩ (.int .i64 z)) (fun k hk => .inr (by cases hk; exact hge)))
      have HP3 := Lib.hid ((HPW.out.kept hg2 (fun _ k hk e => (HPB.out k hk).1 (Option.some.inj e).symm)).kept (gb_setCell w2 ⟨g, off + i, none⟩ (.int .i64 z)) (fun _ k hk e => (HPB.out k hk).2 (Option.some.inj e).symm))
      have HT3 := Lib.hid t3
      have HSZ3 : Hid (w.heap.size ≤ (w2.setCell ⟨g, off + i, none⟩ (.int .i64 z)).heap.size) := Lib.hid (by have h1 := hg2.size; have h2 := HSZ.out; simp; omega)
      have HKO3 : Hid (∀ k, k < w.heap.size → k ≠ b → k ≠ g → (w2.setCell ⟨g, off + i, none⟩ (.int .i64 z)).heap[k]? = w.heap[k]?) := Lib.hid (fun k h1 h2 h3 => by rw [heap_setCell_other _ _ _ _ h3, hg2.block k (Nat.lt_of_lt_of_le h1 HSZ.out) (fun e => h2 (Option.some.inj e))]; exact HKO.out k h1 h2 h3)
      clear hrow2 hlen hz0 hrow3 hst hR2 hg2 t1 t2 t3
      go_wp2
      obtain ⟨u0, u1, u2⟩ := HST.out
      exact ⟨⟨⟨i + 1, zs ++ [z], q2, f2, by go_num, by omega, HROW.out, HG3.out, HR3.out, u0, u1, u2, by rw [List.length_append, HZL.out]; rfl, fun y hy => by rcases List.mem_append.1 hy with h | h; exact HZR.out y h; rw [List.mem_singleton.1 h]; exact HT3.out, HSZ3.out, HKO3.out⟩, HP3.out⟩, by simp [intOf]; omega⟩
    · obtain rfl : i = n := by omega
      go_wp2
      go_returns
      exact ⟨rfl, zs, q, f', HRW.out, HGW.out, HRR.out, S1.out, S2.out, HZL.out, HZR.out, HSZ.out, HKO.out⟩
end Go.Proofs.Ytfldooljmjeaoaa
