/-
  Statement SumRight is proved: called with any message, the law ratoonlaw02.SumRight returns true, and its argument and all old memory stay as they were. No condition.
-/
import Derived.Test.YtbibgjkcapjgnaaSumRight
import Derived.Test.YtbibgjkcapjgnaaArgM
namespace Go.Proofs.Ytbibgjkcapjgnaa
open Go.ChangeShapes Go.WideShapes Go.ChangeAt Go.RowKit

set_option maxRecDepth 100000 in
theorem sumRight_lifted (os : Os) (started : os.Started) (H : Type) (enc : TypeId × Value → H) :
    ReturnsInHanded {} Try.checked os 6 .any (Rows.sumRightSpec.pre6 enc Try.prog Try.f6 Rows.sumRightRow.domain false) (Rows.sumRightSpec.post enc Try.prog Try.f6 false true false false) := by
  refine returnsInHanded_of_change (C := Try.checked) Try.own started (by kernel_rfl) Try.func6
    (ChangeSpec.witness6 (enc := enc) (C := Try.checked) false ⟨#[], #[.agg #[.int .i64 0, .int .i64 0, .int .i64 0, .int .i64 0, .int .i64 0, .int .i64 0, .int .i64 0, .int .i64 0, .slice none 0 0]], []⟩ 8 (by kernel_rfl) (by kernel_rfl) (by kernel_rfl) (by kernel_rfl)) ?_
  intro W base args ds gs before hval0 hW hcnd _
  have hval : ∀ (j : Nat) t v, Try.f6.params[j]? = some t → args[j]? = some v → Value.okWide Try.prog W .any base t v := hval0
  have hW' := hW
  obtain ⟨p, q, hA0, hV, rfl, hfz, hnd⟩ := hW
  have hA : DataW.TrodAll enc Try.prog W 0 (fun _ => true) true Try.f6.params.toList args.toList ds p := hA0
  rw [Try.params6] at hA hval
  obtain ⟨v0, d0, rfl, rfl, h0⟩ := trodAll_one hA
  obtain ⟨rfl, rfl⟩ := trodVars_none hV
  obtain ⟨cs, rfl, hl, hc⟩ := agg_cells [3, 3, 3, 3, 3, 3, 3, 3, 23] (by kernel_rfl) (by kernel_rfl) (by kernel_rfl) (hval 0 39 v0 rfl rfl)
  obtain ⟨x0, x1, x2, x3, x4, x5, x6, x7, x8, rfl⟩ := len9 hl
  obtain ⟨m0, rfl, _, _⟩ := cell_int Try.underlying3 (hc 0 _ _ rfl rfl)
  obtain ⟨m1, rfl, _, _⟩ := cell_int Try.underlying3 (hc 1 _ _ rfl rfl)
  obtain ⟨m2, rfl, _, _⟩ := cell_int Try.underlying3 (hc 2 _ _ rfl rfl)
  obtain ⟨m3, rfl, _, _⟩ := cell_int Try.underlying3 (hc 3 _ _ rfl rfl)
  obtain ⟨m4, rfl, _, _⟩ := cell_int Try.underlying3 (hc 4 _ _ rfl rfl)
  obtain ⟨m5, rfl, _, _⟩ := cell_int Try.underlying3 (hc 5 _ _ rfl rfl)
  obtain ⟨m6, rfl, _, _⟩ := cell_int Try.underlying3 (hc 6 _ _ rfl rfl)
  obtain ⟨m7, rfl, _, _⟩ := cell_int Try.underlying3 (hc 7 _ _ rfl rfl)
  obtain ⟨l, hb⟩ := msg_data (hc 8 _ _ rfl rfl) h0
  refine (sumRight_any m0 m1 m2 m3 m4 m5 m6 m7 x8 l W hb).mono fun e W' ⟨he, hg⟩ => ?_
  subst he
  exact ⟨_, rfl, law_post hW' rfl rfl rfl rfl (by kernel_rfl) (by kernel_rfl) hg⟩

theorem sumRight_holds : Rows.SumRightSaid :=
  OpenClaim.holds_of_wide 6 Try.f6 rfl rfl rfl rfl rfl rfl rfl ⟨rfl, rfl, rfl, rfl, rfl⟩ rfl rfl rfl rfl rfl (by kernel_rfl) Try.func6 (by kernel_rfl)
    (of_decide_eq_true (by kernel_rfl)) (by unfold Func.isWrapper; first | (rw [if_pos (by decide +kernel)]; kernel_rfl) | (rw [if_neg (by decide +kernel)]; exact ⟨rfl, rfl⟩))
    (fun os started H enc _ => sumRight_lifted os started H enc)
end Go.Proofs.Ytbibgjkcapjgnaa
