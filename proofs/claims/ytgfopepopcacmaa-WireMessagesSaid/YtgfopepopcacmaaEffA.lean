/-
  (*wire.Reader).effect: the walk.
-/
import Derived.Test.YtgfopepopcacmaaEffR
namespace Go.Proofs.Ytgfopepopcacmaa
open Go.RowKit

theorem keeps_ownE : KeepsG (fun B (x : EffT) v w => OwnE B x v w) := by
  rintro B x v W W' row ⟨mv, dv, rfl, hm, ho⟩ hg hr
  exact ⟨mv, dv, rfl, hm.kept hg (fun k hk e => by have := hm.lt k hk; have := hr k e; omega), ho.kept hg (fun k hk e => by have := ho.lt k hk; have := hr k e; omega)⟩
theorem mono_ownE : MonoG (fun B (x : EffT) v w => OwnE B x v w) := by
  rintro B B' x v W hB ⟨mv, dv, rfl, hm, ho⟩
  exact ⟨mv, dv, rfl, hm.mono hB, ho.mono hB⟩
theorem good_rowE : ∀ v, G_rowE v → ∃ cs : Array Value, v = .agg cs ∧ cs.size = 15 ∧ cs.toList.all (·.oneCell') = true := by
  rintro v ⟨zs, mv, dv, hl, rfl, hm, hd⟩
  exact ⟨_, rfl, by rw [List.size_toArray, rowE_len, hl], rowE_one hm hd⟩
abbrev zeff : Value := .agg #[.int .i64 0, .int .i64 0, .int .i64 0, .int .i64 0, .int .i64 0, .int .i64 0, .int .i64 0, .int .i64 0, .int .i64 0, .int .i64 0, .int .i64 0, .int .i64 0, .int .i64 0, .slice none 0 0, .slice none 0 0]
theorem rdE_len {bs : List UInt8} {p : Nat} {x : EffT} {q : Nat} (h : rdE bs p = some (x, q)) : (x.1 ++ x.2.1.1).length = 13 := by
  unfold rdE at h
  split at h
  · cases h
  · rename_i z1 q1 h1
    split at h
    · cases h
    · rename_i m q2 h2
      split at h
      · cases h
      · simp only [Option.some.injEq, Prod.mk.injEq] at h
        rw [← h.1, List.length_append, rdIs_len h1, rdM_len h2]

set_option maxRecDepth 100000 in
set_option maxHeartbeats 2000000 in
theorem reff_any (b : Nat) (sl : Value) (bs : List UInt8) (p : Nat) (f : Bool) (w : World) (h : IsR w b sl bs p f) :
    Calls Try.prog 88 #[.pointer (some ⟨b, 0, none⟩)] w (ROutE w b sl bs p zeff (fun x v w' => OwnE w.heap.size x v w') (unl f (rdE bs p))) := by
  have hm := hmf
  have hbl := h.lt
  obtain ⟨w0, hw0⟩ : ∃ W, W = (w.alloc (Obj.cells #[.pointer (some ⟨b, 0, none⟩)] 25)).alloc (Obj.cells #[.int .i64 0, .int .i64 0, .int .i64 0, .int .i64 0, .int .i64 0, .int .i64 0, .int .i64 0, .int .i64 0, .int .i64 0, .int .i64 0, .int .i64 0, .int .i64 0, .int .i64 0, .slice none 0 0, .slice none 0 0] 75) := ⟨_, rfl⟩
  obtain ⟨hb0, hb1, hg0⟩ := two_blocks hw0
  have hs0 : w0.heap.size = w.heap.size + 2 := by rw [hw0]; simp
  have HV := Lib.hid (valueS_Effect b sl bs p f w0 101 #[.pointer (some ⟨w.heap.size, 0, none⟩)] G_rowE (fun B x v w => OwnE B x v w) (rdE bs p) (h.grown hg0) (fun _ _ => rfl) good_rowE keeps_ownE mono_ownE (fun hf W hW => by
    subst hf
    exact eff1 b sl bs p W W.heap.size w.heap.size (h.grown (gb_same hg0 hW)) (Nat.le_refl _) (blk_kept hb0 hW) (by omega)))
  have HB1 := Lib.hid hb1
  have HG0 := Lib.hid hg0
  have HS0 := Lib.hid hs0
  have HW := Lib.hid hw0
  have HSL := Lib.hid (fun hne => Rd.blk h.rd hne)
  have HLEN := Lib.hid (fun x q hh => @rdE_len bs p x q hh)
  clear h hb0 hb1 hg0 hs0 hw0
  go_enter Try.func88, Try.ntmps88
  go_wp2_with fail
  rw [← HW.out]
  refine HV.out.mono ?_
  rintro e w1 hr
  generalize hro : unl f (rdE bs p) = ro at *
  cases ro with
  | none =>
    obtain ⟨rfl, hR1, hg1⟩ := hr
    have HR1 := Lib.hid hR1
    have HG1 := Lib.hid hg1
    have HX1 := Lib.hid (box_kept HB1.out hg1 (show w.heap.size + 1 ≠ b by omega))
    have HRO := Lib.hid hro
    clear hR1 hg1 hro
    go_wp2_with ((with_reducible refine is_store 75 2 5 ?_); refine st_row 75 2 5 (w.heap.size + 1) _ _ _ rfl rfl HX1.out sz_eff rfl rfl ?_; go_must (intro w2 hb2 hg2))
    refine ret_row rfl (w.heap.size + 1) _ _ rfl hb2 Try.underlying75 sz_eff ?_
    rw [HRO.out]
    exact ⟨rfl, HR1.out.far hbl HSL.out hg2 (fun k hk => by have e := Option.some.inj hk; omega), gb_trans (gb_same (gb_none _ HG0.out) HG1.out) hg2 (fun k hk => .inr (by have e := Option.some.inj hk; omega))⟩
  | some r =>
    obtain ⟨x, q⟩ := r
    obtain ⟨v, rfl, ⟨mv, dv, rfl, hom, ho⟩, hR1, hg1⟩ := hr
    have hx8 : (x.1 ++ x.2.1.1).length = 13 := by
      cases f with
      | true => cases hro
      | false => exact HLEN.out _ _ hro
    obtain ⟨ad, cd, rfl⟩ := ho.rd.len
    obtain ⟨am, cm, rfl⟩ := hom.rd.len
    have HM1 := Lib.hid hom
    have HR1 := Lib.hid hR1
    have HG1 := Lib.hid hg1
    have HO1 := Lib.hid ho
    have HC9 : Hid ((rowE (x.1 ++ x.2.1.1) (.slice am x.2.1.2.length cm) (.slice ad x.2.2.length cd)).toArray.size = 15) := Lib.hid (by rw [List.size_toArray, rowE_len, hx8])
    have HX1 := Lib.hid (box_kept HB1.out hg1 (show w.heap.size + 1 ≠ b by omega))
    have HRO := Lib.hid hro
    clear hR1 hg1 hro ho hx8 hom
    go_wp2_with ((with_reducible refine is_store 75 2 5 ?_); go_must (refine st_row 75 2 5 (w.heap.size + 1) _ (rowE (x.1 ++ x.2.1.1) (.slice am x.2.1.2.length cm) (.slice ad x.2.2.length cd)).toArray _ rfl rfl HX1.out (by rw [HC9.out]; exact sz_eff) (by rw [HC9.out]; rfl) (rowE_one ⟨_, _, _, rfl⟩ ⟨_, _, _, rfl⟩) ?_; intro w2 hb2 hg2))
    refine ret_row rfl (w.heap.size + 1) _ _ rfl hb2 Try.underlying75 (by rw [HC9.out]; exact sz_eff) ?_
    rw [HRO.out]
    refine ⟨_, rfl, ⟨_, _, rfl, (HM1.out.kept hg2 (fun k hk e => by have e2 := Option.some.inj e; have := HM1.out.lt k hk; have := HS0.out; omega)).mono (show w.heap.size ≤ w0.heap.size by rw [HS0.out]; omega), (HO1.out.kept hg2 (fun k hk e => by have e2 := Option.some.inj e; have := HO1.out.lt k hk; have := HS0.out; omega)).mono (show w.heap.size ≤ w0.heap.size by rw [HS0.out]; omega)⟩, HR1.out.far hbl HSL.out hg2 (fun k hk => by have e := Option.some.inj hk; omega), gb_trans (gb_same (gb_none _ HG0.out) HG1.out) hg2 (fun k hk => .inr (by have e := Option.some.inj hk; omega))⟩
end Go.Proofs.Ytgfopepopcacmaa
