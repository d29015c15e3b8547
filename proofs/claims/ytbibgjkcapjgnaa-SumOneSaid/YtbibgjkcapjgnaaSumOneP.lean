/-
  Statement SumOne is proved: called with any two numbers, any byte slice and any change, the law ratoonlaw02.SumOne returns true, and its arguments and all old memory stay as they were. No condition.
-/
import Derived.Test.YtbibgjkcapjgnaaSumOne
import Derived.Test.YtbibgjkcapjgnaaArgM
namespace Go.Proofs.Ytbibgjkcapjgnaa
open Go.ChangeShapes Go.WideShapes Go.ChangeAt Go.RowKit

set_option maxRecDepth 100000 in
theorem sumOne_lifted (os : Os) (started : os.Started) (H : Type) (enc : TypeId × Value → H) :
    ReturnsInHanded {} Try.checked os 4 .any (Rows.sumOneSpec.pre6 enc Try.prog Try.f4 Rows.sumOneRow.domain false) (Rows.sumOneSpec.post enc Try.prog Try.f4 false true false false) := by
  refine returnsInHanded_of_change (C := Try.checked) Try.own started (by kernel_rfl) Try.func4
    (ChangeSpec.witness6 (enc := enc) (C := Try.checked) false ⟨#[], #[.agg #[.int .u64 0, .int .u64 0], .slice none 0 0, .agg #[.int .u16 0, .int .u8 0]], []⟩ 8 (by kernel_rfl) (by kernel_rfl) (by kernel_rfl) (by kernel_rfl)) ?_
  intro W base args ds gs before hval0 hW hcnd _
  have hval : ∀ (j : Nat) t v, Try.f4.params[j]? = some t → args[j]? = some v → Value.okWide Try.prog W .any base t v := hval0
  have hW' := hW
  obtain ⟨p, q, hA0, hV, rfl, hfz, hnd⟩ := hW
  have hA : DataW.TrodAll enc Try.prog W 0 (fun _ => true) true Try.f4.params.toList args.toList ds p := hA0
  rw [Try.params4] at hA hval
  obtain ⟨v0, v1, v2, d0, d1, d2, p0, p1, p2, rfl, rfl, rfl, h0, h1, h2⟩ := trodAll_three hA
  obtain ⟨rfl, rfl⟩ := trodVars_none hV
  obtain ⟨cs, rfl, hl, hc⟩ := agg_cells [22, 22] (by kernel_rfl) (by kernel_rfl) (by kernel_rfl) (hval 0 31 v0 rfl rfl)
  obtain ⟨x0, x1, rfl⟩ := len2 hl
  obtain ⟨n0, rfl, hn0⟩ := cell_u64 (hc 0 _ _ rfl rfl)
  obtain ⟨n1, rfl, hn1⟩ := cell_u64 (hc 1 _ _ rfl rfl)
  obtain ⟨l, hb⟩ := arg_bytes (hval 1 23 v1 rfl rfl) h1
  obtain ⟨ks, rfl, kl, kc⟩ := agg_cells [32, 5] (by kernel_rfl) (by kernel_rfl) (by kernel_rfl) (hval 2 34 v2 rfl rfl)
  obtain ⟨y0, y1, rfl⟩ := len2 kl
  obtain ⟨a, rfl, ha⟩ := cell_u16 (kc 0 _ _ rfl rfl)
  obtain ⟨t, rfl⟩ := cell_u8 (kc 1 _ _ rfl rfl)
  refine (sumOne_any n0 n1 v1 l a t W hn0 hn1 ha hb).mono fun e W' ⟨he, hg⟩ => ?_
  subst he
  exact ⟨_, rfl, law_post hW' rfl rfl rfl rfl (by kernel_rfl) (by kernel_rfl) hg⟩

theorem sumOne_holds : Rows.SumOneSaid :=
  OpenClaim.holds_of_wide 4 Try.f4 rfl rfl rfl rfl rfl rfl rfl ⟨rfl, rfl, rfl, rfl, rfl⟩ rfl rfl rfl rfl rfl (by kernel_rfl) Try.func4 (by kernel_rfl)
    (of_decide_eq_true (by kernel_rfl)) (by unfold Func.isWrapper; first | (rw [if_pos (by decide +kernel)]; kernel_rfl) | (rw [if_neg (by decide +kernel)]; exact ⟨rfl, rfl⟩))
    (fun os started H enc _ => sumOne_lifted os started H enc)
end Go.Proofs.Ytbibgjkcapjgnaa
