/-
  Statement RingQueue is proved: called with any bytes, any list of calls and any size, the law ratoonlaw06.RingQueue returns true, and its arguments and all old memory stay as they were. No condition.
-/
import Derived.Test.YtfldooljmjeaoaaRQv
namespace Go.Proofs.Ytfldooljmjeaoaa
open Go.ChangeShapes Go.WideShapes Go.ChangeAt Go.RowKit

theorem slice_blk {P : Program} {W : World} {base : Nat} {t e : TypeId} {v : Value} (ht : P.underlying t = some (.slice e)) (hval : Value.okWide P W .any base t v) : ∀ k, v.ownBlock = some k → k < W.heap.size := by
  obtain ⟨a, n, c, rfl⟩ := okWide_slice ht hval
  simp only [Value.okWide, ht, Cell.okWide] at hval
  intro k hk
  cases a with
  | none => cases hk
  | some a =>
    unfold Cell.ok at hval
    rw [ht] at hval
    obtain ⟨_, _, _, _, row, cells, hsh, _⟩ := hval
    simp only [Value.ownBlock, Option.some.injEq] at hk
    subst hk
    unfold World.shape? at hsh
    cases hb : W.heap[a.block]? with
    | none => simp [hb] at hsh
    | some o => exact (Array.getElem?_eq_some_iff.1 hb).1
set_option maxRecDepth 100000 in
theorem ringQueue_lifted (os : Os) (started : os.Started) (H : Type) (enc : TypeId × Value → H) :
    ReturnsInHanded {} Try.checked os 3 .any (Rows.ringQueueSpec.pre6 enc Try.prog Try.f3 Rows.ringQueueRow.domain false) (Rows.ringQueueSpec.post enc Try.prog Try.f3 false true false false) := by
  refine returnsInHanded_of_change (C := Try.checked) Try.own started (by kernel_rfl) Try.func3
    (ChangeSpec.witness6 (enc := enc) (C := Try.checked) false ⟨#[], #[.slice none 0 0, .slice none 0 0, .int .i64 0], []⟩ 8 (by kernel_rfl) (by kernel_rfl) (by kernel_rfl) (by kernel_rfl)) ?_
  intro W base args ds gs before hval0 hW hcnd _
  have hval : ∀ (j : Nat) t v, Try.f3.params[j]? = some t → args[j]? = some v → Value.okWide Try.prog W .any base t v := hval0
  have hW' := hW
  obtain ⟨p, q, hA0, hV, rfl, hfz, hnd⟩ := hW
  have hA : DataW.TrodAll enc Try.prog W 0 (fun _ => true) true Try.f3.params.toList args.toList ds p := hA0
  rw [Try.params3] at hA hval
  obtain ⟨v0, v1, v2, d0, d1, d2, p0, p1, p2, rfl, rfl, rfl, h0, h1, h2⟩ := trodAll_three hA
  obtain ⟨rfl, rfl⟩ := trodVars_none hV
  obtain ⟨l0, hb⟩ := arg_bytes (hval 0 22 v0 rfl rfl) h0
  obtain ⟨ps, hl, hps⟩ := arg_calls2 (hval 1 23 v1 rfl rfl) h1
  obtain ⟨n, rfl, _⟩ := arg_int (hval 2 3 v2 rfl rfl) h2
  have hblk := slice_blk Try.underlying22 (hval 0 22 v0 rfl rfl)
  refine (ringQueue_any v0 v1 l0 ps n W hb hblk hl hps).mono fun e W' ⟨he, hg⟩ => ?_
  subst he
  exact ⟨_, rfl, law_post hW' rfl rfl rfl rfl (by kernel_rfl) (by kernel_rfl) hg⟩

theorem ringQueue_holds : Rows.RingQueueSaid :=
  OpenClaim.holds_of_wide 3 Try.f3 rfl rfl rfl rfl rfl rfl rfl ⟨rfl, rfl, rfl, rfl, rfl⟩ rfl rfl rfl rfl rfl (by kernel_rfl) Try.func3 (by kernel_rfl)
    (of_decide_eq_true (by kernel_rfl)) (by unfold Func.isWrapper; first | (rw [if_pos (by decide +kernel)]; kernel_rfl) | (rw [if_neg (by decide +kernel)]; exact ⟨rfl, rfl⟩))
    (fun os started H enc _ => ringQueue_lifted os started H enc)
end Go.Proofs.Ytfldooljmjeaoaa
