/-
  (*wire.Reader).Msg: the walk.
-/
import Derived.Test.YtgfopepopcacmaaValS
namespace Go.Proofs.Ytgfopepopcacmaa
open Go.RowKit

theorem keeps_ownM : KeepsG (fun B (x : List Int × List UInt8) v w => OwnM B x v w) := by
  rintro B x v W W' row ⟨dv, rfl, ho⟩ hg hr
  exact ⟨dv, rfl, ho.kept hg (fun k hk e => by have := ho.lt k hk; have := hr k e; omega)⟩
theorem mono_ownM : MonoG (fun B (x : List Int × List UInt8) v w => OwnM B x v w) := by
  rintro B B' x v W hB ⟨dv, rfl, ho⟩
  exact ⟨dv, rfl, ho.mono hB⟩
theorem good_row {n : Nat} : ∀ v, G_row n v → ∃ cs : Array Value, v = .agg cs ∧ cs.size = n + 1 ∧ cs.toList.all (·.oneCell') = true := by
  rintro v ⟨zs, dv, hl, rfl, hd⟩
  exact ⟨_, rfl, by rw [List.size_toArray, rowI_len, hl], rowI_one hd⟩
abbrev zmsg : Value := .agg #[.int .i64 0, .int .i64 0, .int .i64 0, .int .i64 0, .int .i64 0, .int .i64 0, .int .i64 0, .int .i64 0, .slice none 0 0]
theorem rdIs_len : ∀ {n : Nat} {bs : List UInt8} {p : Nat} {zs : List Int} {q : Nat}, rdIs n bs p = some (zs, q) → zs.length = n := by
  intro n
  induction n with
  | zero => intro bs p zs q h; simp only [rdIs, Option.some.injEq, Prod.mk.injEq] at h; rw [← h.1]; rfl
  | succ n ih =>
    intro bs p zs q h
    rw [rdIs] at h
    cases hr : rdIs n bs p with
    | none => rw [hr] at h; cases h
    | some r =>
      obtain ⟨ys, q1⟩ := r
      rw [hr] at h
      simp only [Option.map_eq_some_iff, Prod.mk.injEq] at h
      obtain ⟨y, _, rfl, _⟩ := h
      rw [List.length_append, ih hr]
      rfl
theorem rdM_len {bs : List UInt8} {p : Nat} {x : List Int × List UInt8} {q : Nat} (h : rdM bs p = some (x, q)) : x.1.length = 8 := by
  unfold rdM at h
  split at h
  · cases h
  · rename_i z1 q1 h1
    split at h
    · cases h
    · rename_i z2 q2 h2
      split at h
      · cases h
      · simp only [Option.some.injEq, Prod.mk.injEq] at h
        rw [← h.1, List.length_append, rdIs_len h1, rdIs_len h2]

set_option maxRecDepth 100000 in
set_option maxHeartbeats 2000000 in
theorem rmsg_any (b : Nat) (sl : Value) (bs : List UInt8) (p : Nat) (f : Bool) (w : World) (h : IsR w b sl bs p f) :
    Calls Try.prog 51 #[.pointer (some ⟨b, 0, none⟩)] w (ROutE w b sl bs p zmsg (fun x v w' => OwnM w.heap.size x v w') (unl f (rdM bs p))) := by
  have hm := hmf
  have hbl := h.lt
  obtain ⟨w0, hw0⟩ : ∃ W, W = (w.alloc (Obj.cells #[.pointer (some ⟨b, 0, none⟩)] 25)).alloc (Obj.cells #[.int .i64 0, .int .i64 0, .int .i64 0, .int .i64 0, .int .i64 0, .int .i64 0, .int .i64 0, .int .i64 0, .slice none 0 0] 57) := ⟨_, rfl⟩
  obtain ⟨hb0, hb1, hg0⟩ := two_blocks hw0
  have hs0 : w0.heap.size = w.heap.size + 2 := by rw [hw0]; simp
  have HV := Lib.hid (valueS_Msg b sl bs p f w0 85 #[.pointer (some ⟨w.heap.size, 0, none⟩)] (G_row 8) (fun B x v w => OwnM B x v w) (rdM bs p) (h.grown hg0) (fun _ _ => rfl) good_row keeps_ownM mono_ownM (fun hf W hW => by
    subst hf
    exact msg1 b sl bs p W W.heap.size w.heap.size (h.grown (gb_same hg0 hW)) (Nat.le_refl _) (blk_kept hb0 hW) (by omega)))
  have HB1 := Lib.hid hb1
  have HG0 := Lib.hid hg0
  have HS0 := Lib.hid hs0
  have HW := Lib.hid hw0
  have HSL := Lib.hid (fun hne => Rd.blk h.rd hne)
  have HLEN := Lib.hid (fun x q hh => @rdM_len bs p x q hh)
  clear h hb0 hb1 hg0 hs0 hw0
  go_enter Try.func51, Try.ntmps51
  go_wp2_with fail
  rw [← HW.out]
  refine HV.out.mono ?_
  rintro e w1 hr
  generalize hro : unl f (rdM bs p) = ro at *
  cases ro with
  | none =>
    obtain ⟨rfl, hR1, hg1⟩ := hr
    have HR1 := Lib.hid hR1
    have HG1 := Lib.hid hg1
    have HX1 := Lib.hid (box_kept HB1.out hg1 (show w.heap.size + 1 ≠ b by omega))
    have HRO := Lib.hid hro
    clear hR1 hg1 hro
    go_wp2_with ((with_reducible refine is_store 57 2 5 ?_); refine st_row 57 2 5 (w.heap.size + 1) _ _ _ rfl rfl HX1.out sz_msg rfl rfl ?_; go_must (intro w2 hb2 hg2))
    refine ret_row rfl (w.heap.size + 1) _ _ rfl hb2 Try.underlying57 sz_msg ?_
    rw [HRO.out]
    exact ⟨rfl, HR1.out.far hbl HSL.out hg2 (fun k hk => by have e := Option.some.inj hk; omega), gb_trans (gb_same (gb_none _ HG0.out) HG1.out) hg2 (fun k hk => .inr (by have e := Option.some.inj hk; omega))⟩
  | some r =>
    obtain ⟨x, q⟩ := r
    obtain ⟨v, rfl, ⟨dv, rfl, ho⟩, hR1, hg1⟩ := hr
    have hx8 : x.1.length = 8 := by
      cases f with
      | true => cases hro
      | false => exact HLEN.out _ _ hro
    obtain ⟨ad, cd, rfl⟩ := ho.rd.len
    have HR1 := Lib.hid hR1
    have HG1 := Lib.hid hg1
    have HO1 := Lib.hid ho
    have HC9 : Hid ((rowI x.1 (.slice ad x.2.length cd)).toArray.size = 9) := Lib.hid (by rw [List.size_toArray, rowI_len, hx8])
    have HX1 := Lib.hid (box_kept HB1.out hg1 (show w.heap.size + 1 ≠ b by omega))
    have HRO := Lib.hid hro
    clear hR1 hg1 hro ho hx8
    go_wp2_with ((with_reducible refine is_store 57 2 5 ?_); go_must (refine st_row 57 2 5 (w.heap.size + 1) _ (rowI x.1 (.slice ad x.2.length cd)).toArray _ rfl rfl HX1.out (by rw [HC9.out]; exact sz_msg) (by rw [HC9.out]; rfl) (rowI_one ⟨_, _, _, rfl⟩) ?_; intro w2 hb2 hg2))
    refine ret_row rfl (w.heap.size + 1) _ _ rfl hb2 Try.underlying57 (by rw [HC9.out]; exact sz_msg) ?_
    rw [HRO.out]
    refine ⟨_, rfl, ⟨_, rfl, (HO1.out.kept hg2 (fun k hk e => by have e2 := Option.some.inj e; have := HO1.out.lt k hk; have := HS0.out; omega)).mono (show w.heap.size ≤ w0.heap.size by rw [HS0.out]; omega)⟩, HR1.out.far hbl HSL.out hg2 (fun k hk => by have e := Option.some.inj hk; omega), gb_trans (gb_same (gb_none _ HG0.out) HG1.out) hg2 (fun k hk => .inr (by have e := Option.some.inj hk; omega))⟩
end Go.Proofs.Ytgfopepopcacmaa
