/-
  Statement WireInverse is proved: called with any list of integers, any list of strings and any bytes, the law ratoonlaw01.WireInverse returns true, and its arguments and all old memory stay as they were. No condition.
-/
import Derived.Test.YtmleeidanbhihaaWireInv
import Derived.Test.YtmleeidanbhihaaArgs
namespace Go.Proofs.Ytmleeidanbhihaa
open Go.ChangeShapes Go.WideShapes Go.ChangeAt Go.RowKit

set_option maxRecDepth 100000 in
theorem wireInv_lifted (os : Os) (started : os.Started) (H : Type) (enc : TypeId × Value → H) :
    ReturnsInHanded {} Try.checked os 4 .any (Rows.wireInverseSpec.pre6 enc Try.prog Try.f4 Rows.wireInverseRow.domain false) (Rows.wireInverseSpec.post enc Try.prog Try.f4 false true false false) := by
  refine returnsInHanded_of_change (C := Try.checked) Try.own started (by kernel_rfl) Try.func4
    (ChangeSpec.witness6 (enc := enc) (C := Try.checked) false ⟨#[], #[.slice none 0 0, .slice none 0 0, .slice none 0 0], []⟩ 8 (by kernel_rfl) (by kernel_rfl) (by kernel_rfl) (by kernel_rfl)) ?_
  intro W base args ds gs before hval0 hW hcnd _
  have hval : ∀ (j : Nat) t v, Try.f4.params[j]? = some t → args[j]? = some v → Value.okWide Try.prog W .any base t v := hval0
  have hW' := hW
  obtain ⟨p, q, hA0, hV, rfl, hfz, hnd⟩ := hW
  have hA : DataW.TrodAll enc Try.prog W 0 (fun _ => true) true Try.f4.params.toList args.toList ds p := hA0
  rw [Try.params4] at hA hval
  obtain ⟨v0, v1, v2, d0, d1, d2, p0, p1, p2, rfl, rfl, rfl, h0, h1, h2⟩ := trodAll_three hA
  obtain ⟨rfl, rfl⟩ := trodVars_none hV
  obtain ⟨zs, a1, a2, a3⟩ := arg_ints (hval 0 37 v0 rfl rfl) h0
  obtain ⟨ss, b1, b2, b3⟩ := arg_strings (hval 1 38 v1 rfl rfl) h1
  obtain ⟨l, c1, c2⟩ := arg_bytes (hval 2 22 v2 rfl rfl) h2
  refine (wireInv_any v0 v1 v2 zs ss l W a1 b1 c1 a2 a3 b3 c2 b2).mono fun e W' ⟨he, hg⟩ => ?_
  subst he
  exact ⟨_, rfl, law_post hW' rfl rfl rfl rfl (by kernel_rfl) (by kernel_rfl) hg⟩

theorem wireInv_holds : Rows.WireInverseSaid :=
  OpenClaim.holds_of_wide 4 Try.f4 rfl rfl rfl rfl rfl rfl rfl ⟨rfl, rfl, rfl, rfl, rfl⟩ rfl rfl rfl rfl rfl (by kernel_rfl) Try.func4 (by kernel_rfl)
    (of_decide_eq_true (by kernel_rfl)) (by unfold Func.isWrapper; first | (rw [if_pos (by decide +kernel)]; kernel_rfl) | (rw [if_neg (by decide +kernel)]; exact ⟨rfl, rfl⟩))
    (fun os started H enc _ => wireInv_lifted os started H enc)
end Go.Proofs.Ytmleeidanbhihaa
