/-
  Statement SumDamage is proved: called with any message, any change and any byte, the law ratoonlaw02.SumDamage returns true, and its arguments and all old memory stay as they were. No condition.
-/
import Derived.Test.YtbibgjkcapjgnaaSumDamage
import Derived.Test.YtbibgjkcapjgnaaArgM
namespace Go.Proofs.Ytbibgjkcapjgnaa
open Go.ChangeShapes Go.WideShapes Go.ChangeAt Go.RowKit

set_option maxRecDepth 100000 in
theorem sumDamage_lifted (os : Os) (started : os.Started) (H : Type) (enc : TypeId × Value → H) :
    ReturnsInHanded {} Try.checked os 7 .any (Rows.sumDamageSpec.pre6 enc Try.prog Try.f7 Rows.sumDamageRow.domain false) (Rows.sumDamageSpec.post enc Try.prog Try.f7 false true false false) := by
  refine returnsInHanded_of_change (C := Try.checked) Try.own started (by kernel_rfl) Try.func7
    (ChangeSpec.witness6 (enc := enc) (C := Try.checked) false ⟨#[], #[.agg #[.int .i64 0, .int .i64 0, .int .i64 0, .int .i64 0, .int .i64 0, .int .i64 0, .int .i64 0, .int .i64 0, .slice none 0 0], .agg #[.int .u16 0, .int .u8 0], .int .u8 0], []⟩ 8 (by kernel_rfl) (by kernel_rfl) (by kernel_rfl) (by kernel_rfl)) ?_
  intro W base args ds gs before hval0 hW hcnd _
  have hval : ∀ (j : Nat) t v, Try.f7.params[j]? = some t → args[j]? = some v → Value.okWide Try.prog W .any base t v := hval0
  have hW' := hW
  obtain ⟨p, q, hA0, hV, rfl, hfz, hnd⟩ := hW
  have hA : DataW.TrodAll enc Try.prog W 0 (fun _ => true) true Try.f7.params.toList args.toList ds p := hA0
  rw [Try.params7] at hA hval
  obtain ⟨v0, v1, v2, d0, d1, d2, p0, p1, p2, rfl, rfl, rfl, h0, h1, h2⟩ := trodAll_three hA
  obtain ⟨rfl, rfl⟩ := trodVars_none hV
  obtain ⟨cs, rfl, hl, hc⟩ := agg_cells [3, 3, 3, 3, 3, 3, 3, 3, 23] (by kernel_rfl) (by kernel_rfl) (by kernel_rfl) (hval 0 39 v0 rfl rfl)
  obtain ⟨x0, x1, x2, x3, x4, x5, x6, x7, x8, rfl⟩ := len9 hl
  obtain ⟨m0, rfl, _, _⟩ := cell_int Try.underlying3 (hc 0 _ _ rfl rfl)
  obtain ⟨m1, rfl, _, _⟩ := cell_int Try.underlying3 (hc 1 _ _ rfl rfl)
  obtain ⟨m2, rfl, _, _⟩ := cell_int Try.underlying3 (hc 2 _ _ rfl rfl)
  obtain ⟨m3, rfl, _, _⟩ := cell_int Try.underlying3 (hc 3 _ _ rfl rfl)
  obtain ⟨m4, rfl, _, _⟩ := cell_int Try.underlying3 (hc 4 _ _ rfl rfl)
  obtain ⟨m5, rfl, _, _⟩ := cell_int Try.underlying3 (hc 5 _ _ rfl rfl)
  obtain ⟨m6, rfl, _, _⟩ := cell_int Try.underlying3 (hc 6 _ _ rfl rfl)
  obtain ⟨m7, rfl, _, _⟩ := cell_int Try.underlying3 (hc 7 _ _ rfl rfl)
  obtain ⟨l, hb⟩ := msg_data (hc 8 _ _ rfl rfl) h0
  obtain ⟨ks, rfl, kl, kc⟩ := agg_cells [32, 5] (by kernel_rfl) (by kernel_rfl) (by kernel_rfl) (hval 1 34 v1 rfl rfl)
  obtain ⟨y0, y1, rfl⟩ := len2 kl
  obtain ⟨a, rfl, ha⟩ := cell_u16 (kc 0 _ _ rfl rfl)
  obtain ⟨t, rfl⟩ := cell_u8 (kc 1 _ _ rfl rfl)
  obtain ⟨m, rfl⟩ := arg_u8 (hval 2 5 v2 rfl rfl) h2
  refine (sumDamage_any m0 m1 m2 m3 m4 m5 m6 m7 x8 l a t m W ha hb).mono fun e W' ⟨he, hg⟩ => ?_
  subst he
  exact ⟨_, rfl, law_post hW' rfl rfl rfl rfl (by kernel_rfl) (by kernel_rfl) hg⟩

theorem sumDamage_holds : Rows.SumDamageSaid :=
  OpenClaim.holds_of_wide 7 Try.f7 rfl rfl rfl rfl rfl rfl rfl ⟨rfl, rfl, rfl, rfl, rfl⟩ rfl rfl rfl rfl rfl (by kernel_rfl) Try.func7 (by kernel_rfl)
    (of_decide_eq_true (by kernel_rfl)) (by unfold Func.isWrapper; first | (rw [if_pos (by decide +kernel)]; kernel_rfl) | (rw [if_neg (by decide +kernel)]; exact ⟨rfl, rfl⟩))
    (fun os started H enc _ => sumDamage_lifted os started H enc)
end Go.Proofs.Ytbibgjkcapjgnaa
