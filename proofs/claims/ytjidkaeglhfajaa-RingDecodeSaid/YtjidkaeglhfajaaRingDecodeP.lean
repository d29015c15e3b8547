/-
  Statement RingDecode is proved: called with any bytes, the law ratoonlaw06.RingDecode returns true, and its arguments and all old memory stay as they were. No condition.
-/
import Derived.Test.YtjidkaeglhfajaaRDe
namespace Go.Proofs.Ytjidkaeglhfajaa
open Go.ChangeShapes Go.WideShapes Go.ChangeAt Go.RowKit

theorem slice_blk {P : Program} {W : World} {base : Nat} {t e : TypeId} {v : Value} (ht : P.underlying t = some (.slice e)) (hval : Value.okWide P W .any base t v) : ∀ k, v.ownBlock = some k → k < W.heap.size := by
  obtain ⟨a, n, c, rfl⟩ := okWide_slice ht hval
  simp only [Value.okWide, ht, Cell.okWide] at hval
  intro k hk
  cases a with
  | none => cases hk
  | some a =>
    unfold Cell.ok at hval
    rw [ht] at hval
    obtain ⟨_, _, _, _, row, cells, hsh, _⟩ := hval
    simp only [Value.ownBlock, Option.some.injEq] at hk
    subst hk
    unfold World.shape? at hsh
    cases hb : W.heap[a.block]? with
    | none => simp [hb] at hsh
    | some o => exact (Array.getElem?_eq_some_iff.1 hb).1
set_option maxRecDepth 100000 in
theorem ringDecode_lifted (os : Os) (started : os.Started) (H : Type) (enc : TypeId × Value → H) :
    ReturnsInHanded {} Try.checked os 7 .any (Rows.ringDecodeSpec.pre6 enc Try.prog Try.f7 Rows.ringDecodeRow.domain false) (Rows.ringDecodeSpec.post enc Try.prog Try.f7 false true false false) := by
  refine returnsInHanded_of_change (C := Try.checked) Try.own started (by kernel_rfl) Try.func7
    (ChangeSpec.witness6 (enc := enc) (C := Try.checked) false ⟨#[], #[.slice none 0 0], []⟩ 8 (by kernel_rfl) (by kernel_rfl) (by kernel_rfl) (by kernel_rfl)) ?_
  intro W base args ds gs before hval0 hW hcnd _
  have hval : ∀ (j : Nat) t v, Try.f7.params[j]? = some t → args[j]? = some v → Value.okWide Try.prog W .any base t v := hval0
  have hW' := hW
  obtain ⟨p, q, hA0, hV, rfl, hfz, hnd⟩ := hW
  have hA : DataW.TrodAll enc Try.prog W 0 (fun _ => true) true Try.f7.params.toList args.toList ds p := hA0
  rw [Try.params7] at hA hval
  obtain ⟨v0, d0, rfl, rfl, h0⟩ := trodAll_one hA
  obtain ⟨rfl, rfl⟩ := trodVars_none hV
  obtain ⟨b, hb⟩ := arg_bytes (hval 0 22 v0 rfl rfl) h0
  refine (ringDecode_any v0 b W hb (slice_blk Try.underlying22 (hval 0 22 v0 rfl rfl))).mono fun e W' ⟨he, hg⟩ => ?_
  subst he
  exact ⟨_, rfl, law_post hW' rfl rfl rfl rfl (by kernel_rfl) (by kernel_rfl) hg⟩

theorem ringDecode_holds : Rows.RingDecodeSaid :=
  OpenClaim.holds_of_wide 7 Try.f7 rfl rfl rfl rfl rfl rfl rfl ⟨rfl, rfl, rfl, rfl, rfl⟩ rfl rfl rfl rfl rfl (by kernel_rfl) Try.func7 (by kernel_rfl)
    (of_decide_eq_true (by kernel_rfl)) (by unfold Func.isWrapper; first | (rw [if_pos (by decide +kernel)]; kernel_rfl) | (rw [if_neg (by decide +kernel)]; exact ⟨rfl, rfl⟩))
    (fun os started H enc _ => ringDecode_lifted os started H enc)
end Go.Proofs.Ytjidkaeglhfajaa
