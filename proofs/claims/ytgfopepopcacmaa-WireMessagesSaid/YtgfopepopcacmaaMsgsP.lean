/-
  Statement WireMessages is proved: called with any message, any list of effects and any entry, the law ratoonlaw01.WireMessages returns true, and its arguments and all old memory stay as they were. No condition.
-/
import Derived.Test.YtgfopepopcacmaaMsgsL
import Derived.Test.YtgfopepopcacmaaArgE
import Derived.SizedLaws
namespace Go.Proofs.Ytgfopepopcacmaa
open Go.ChangeShapes Go.WideShapes Go.ChangeAt Go.RowKit

section
variable {H : Type} {enc : TypeId × Value → H} {W : World} {base : Nat}
theorem list9 {cs : List Value} (h : cs.length = 9) : ∃ c0 c1 c2 c3 c4 c5 c6 c7 c8, cs = [c0, c1, c2, c3, c4, c5, c6, c7, c8] :=
  match cs, h with | [a, b, c, d, e, f, g, i, j], _ => ⟨a, b, c, d, e, f, g, i, j, rfl⟩
theorem list8 {cs : List Value} (h : cs.length = 8) : ∃ c0 c1 c2 c3 c4 c5 c6 c7, cs = [c0, c1, c2, c3, c4, c5, c6, c7] :=
  match cs, h with | [a, b, c, d, e, f, g, i], _ => ⟨a, b, c, d, e, f, g, i, rfl⟩
theorem c_arr3 : Try.prog.cellsOf 63 = 3 := by kernel_rfl
theorem c_ent : Try.prog.cellsOf 65 = 8 := by kernel_rfl
theorem struct_arg {P : Program} {t : TypeId} {fs : Array Field} {v : Value} (ht : P.underlying t = some (.struct fs)) (hval : Value.okWide P W .any base t v) : ∃ cs : Array Value, v = .agg cs ∧ cs.toList.length = P.cellsOf t := by
  unfold Value.okWide at hval
  rw [ht] at hval
  obtain ⟨cs, h1, h2, _⟩ := hval
  exact ⟨cs, h1, by simpa using h2⟩

set_option maxRecDepth 100000 in
theorem arg_msg {v : Value} {d : DataW H} {p : List MemPlace} (hval : Value.okWide Try.prog W .any base 57 v) (h0 : DataW.Trod enc Try.prog W 0 (fun _ => true) true 57 v d p) (hwt : Wt Try.prog 57 d) :
    ∃ (z0 z1 z2 z3 z4 z5 z6 z7 : Int) (mv : Value) (l : List UInt8), v = .agg #[.int .i64 z0, .int .i64 z1, .int .i64 z2, .int .i64 z3, .int .i64 z4, .int .i64 z5, .int .i64 z6, .int .i64 z7, mv] ∧ (∀ z ∈ [z0, z1, z2, z3, z4, z5, z6, z7], OkI z) ∧ RdW W mv l ∧ l.length ≤ reachBytes := by
  obtain ⟨fuel, h⟩ := h0
  obtain ⟨cs, rfl, hcs⟩ := struct_arg Try.underlying57 hval
  rw [c_msg] at hcs
  obtain ⟨c0, c1, c2, c3, c4, c5, c6, c7, c8, hl⟩ := list9 hcs
  have hca : cs = #[c0, c1, c2, c3, c4, c5, c6, c7, c8] := by rw [← hl]
  subst hca
  simp only [Value.cells] at h
  have hm := Try.underlying57
  have har := Try.underlying55
  obtain ⟨_, _, m0, m0w⟩ := trod_field hm h 0 _ rfl 1 c_int hwt
  obtain ⟨_, _, m1, m1w⟩ := trod_field hm h 1 _ rfl 1 c_int hwt
  obtain ⟨_, _, m2, m2w⟩ := trod_field hm h 2 _ rfl 1 c_int hwt
  obtain ⟨_, _, m3, m3w⟩ := trod_field hm h 3 _ rfl 1 c_int hwt
  obtain ⟨_, _, mA, mAw⟩ := trod_field hm h 4 _ rfl 4 c_arr hwt
  obtain ⟨_, _, mD, mDw⟩ := trod_field hm h 5 _ rfl 1 c_bytes hwt
  obtain ⟨_, _, b0, _⟩ := trod_elem har mA 0 (by omega) c_int mAw
  obtain ⟨_, _, b1, _⟩ := trod_elem har mA 1 (by omega) c_int mAw
  obtain ⟨_, _, b2, _⟩ := trod_elem har mA 2 (by omega) c_int mAw
  obtain ⟨_, _, b3, _⟩ := trod_elem har mA 3 (by omega) c_int mAw
  obtain ⟨n5, rfl, r5⟩ := leaf_int m0
  obtain ⟨n6, rfl, r6⟩ := leaf_int m1
  obtain ⟨n7, rfl, r7⟩ := leaf_int m2
  obtain ⟨n8, rfl, r8⟩ := leaf_int m3
  obtain ⟨n9, rfl, r9⟩ := leaf_int b0
  obtain ⟨n10, rfl, r10⟩ := leaf_int b1
  obtain ⟨n11, rfl, r11⟩ := leaf_int b2
  obtain ⟨n12, rfl, r12⟩ := leaf_int b3
  obtain ⟨s1, lm, hlm, hlr⟩ := leaf_bytes mD mDw
  refine ⟨n5, n6, n7, n8, n9, n10, n11, n12, c8, lm, rfl, ?_, hlm, hlr⟩
  intro z hz
  simp only [List.mem_cons, List.not_mem_nil, or_false] at hz
  rcases hz with rfl | rfl | rfl | rfl | rfl | rfl | rfl | rfl <;> assumption
set_option maxRecDepth 100000 in
theorem arg_ent {v : Value} {d : DataW H} {p : List MemPlace} (hval : Value.okWide Try.prog W .any base 65 v) (h0 : DataW.Trod enc Try.prog W 0 (fun _ => true) true 65 v d p) (hwt : Wt Try.prog 65 d) :
    ∃ (z0 z1 z2 z3 z4 z5 z6 : Int) (mv : Value) (l : List UInt8), v = .agg #[.int .i64 z0, .int .i64 z1, .int .i64 z2, .int .i64 z3, .int .i64 z4, .int .i64 z5, .int .i64 z6, mv] ∧ (∀ z ∈ [z0, z1, z2, z3, z4, z5, z6], OkI z) ∧ RdW W mv l ∧ l.length ≤ reachBytes := by
  obtain ⟨fuel, h⟩ := h0
  obtain ⟨cs, rfl, hcs⟩ := struct_arg Try.underlying65 hval
  rw [c_ent] at hcs
  obtain ⟨c0, c1, c2, c3, c4, c5, c6, c7, hl⟩ := list8 hcs
  have hca : cs = #[c0, c1, c2, c3, c4, c5, c6, c7] := by rw [← hl]
  subst hca
  simp only [Value.cells] at h
  have hm := Try.underlying65
  have har := Try.underlying63
  obtain ⟨_, _, m0, m0w⟩ := trod_field hm h 0 _ rfl 1 c_int hwt
  obtain ⟨_, _, m1, m1w⟩ := trod_field hm h 1 _ rfl 1 c_int hwt
  obtain ⟨_, _, m2, m2w⟩ := trod_field hm h 2 _ rfl 1 c_int hwt
  obtain ⟨_, _, mA, mAw⟩ := trod_field hm h 3 _ rfl 3 c_arr3 hwt
  obtain ⟨_, _, m3, m3w⟩ := trod_field hm h 4 _ rfl 1 c_int hwt
  obtain ⟨_, _, mD, mDw⟩ := trod_field hm h 5 _ rfl 1 c_bytes hwt
  obtain ⟨_, _, b0, _⟩ := trod_elem har mA 0 (by omega) c_int mAw
  obtain ⟨_, _, b1, _⟩ := trod_elem har mA 1 (by omega) c_int mAw
  obtain ⟨_, _, b2, _⟩ := trod_elem har mA 2 (by omega) c_int mAw
  obtain ⟨n5, rfl, r5⟩ := leaf_int m0
  obtain ⟨n6, rfl, r6⟩ := leaf_int m1
  obtain ⟨n7, rfl, r7⟩ := leaf_int m2
  obtain ⟨n8, rfl, r8⟩ := leaf_int m3
  obtain ⟨n9, rfl, r9⟩ := leaf_int b0
  obtain ⟨n10, rfl, r10⟩ := leaf_int b1
  obtain ⟨n11, rfl, r11⟩ := leaf_int b2
  obtain ⟨s1, lm, hlm, hlr⟩ := leaf_bytes mD mDw
  refine ⟨n5, n6, n7, n9, n10, n11, n8, c7, lm, rfl, ?_, hlm, hlr⟩
  intro z hz
  simp only [List.mem_cons, List.not_mem_nil, or_false] at hz
  rcases hz with rfl | rfl | rfl | rfl | rfl | rfl | rfl <;> assumption
end


set_option maxRecDepth 100000 in
theorem wireMessages_lifted (os : Os) (started : os.Started) (H : Type) (enc : TypeId × Value → H) :
    ReturnsInHanded {} Try.checked os 7 .any (Rows.wireMessagesSpec.pre6 enc Try.prog Try.f7 Rows.wireMessagesRow.domain false) (Rows.wireMessagesSpec.post enc Try.prog Try.f7 false true false false) := by
  refine returnsInHanded_of_change_sized (C := Try.checked) Try.own started (by kernel_rfl) Try.func7
    (ChangeSpec.witness6 (enc := enc) (C := Try.checked) false ⟨#[], #[.agg #[.int .i64 0, .int .i64 0, .int .i64 0, .int .i64 0, .int .i64 0, .int .i64 0, .int .i64 0, .int .i64 0, .slice none 0 0], .slice none 0 0, .agg #[.int .i64 0, .int .i64 0, .int .i64 0, .int .i64 0, .int .i64 0, .int .i64 0, .int .i64 0, .slice none 0 0]], []⟩ 8 (by kernel_rfl) (by kernel_rfl) (by kernel_rfl) (by kernel_rfl)) ?_
  intro W base args ds gs before hval0 hW hcnd hsz0 _
  have hval : ∀ (j : Nat) t v, Try.f7.params[j]? = some t → args[j]? = some v → Value.okWide Try.prog W .any base t v := hval0
  have hsz : (DataW.weightsEach Try.prog (Try.f7.params.toList ++ []) (ds ++ gs)).all (· ≤ reachBytes) = true := hsz0
  have hW' := hW
  obtain ⟨p, q, hA0, hV, rfl, hfz, hnd⟩ := hW
  have hA : DataW.TrodAll enc Try.prog W 0 (fun _ => true) true Try.f7.params.toList args.toList ds p := hA0
  rw [Try.params7] at hA hval hsz
  obtain ⟨v0, v1, v2, d0, d1, d2, p0, p1, p2, rfl, rfl, rfl, h0, h1, h2⟩ := trodAll_three hA
  obtain ⟨rfl, rfl⟩ := trodVars_none hV
  have hwt : ∀ (j : Nat) (t : TypeId) (d : DataW H), [57, 60, 65][j]? = some t → [d0, d1, d2][j]? = some d → Wt Try.prog t d := fun j t d ht hd k hk => by
    have hj : j < 3 := (List.getElem?_eq_some_iff.1 ht).1
    have := List.all_eq_true.1 hsz k (DataW.weights_mem_each (j := j) (t := t) (d := d) (by rw [List.append_nil]; exact ht) (by rw [List.append_nil]; exact hd) k hk)
    simpa using this
  obtain ⟨z0, z1, z2, z3, z4, z5, z6, z7, mv, ml, rfl, m1, m2, m3⟩ := arg_msg (hval 0 57 v0 rfl rfl) h0 (hwt 0 _ _ rfl rfl)
  obtain ⟨l, c1, c2⟩ := arg_effects (hval 1 60 v1 rfl rfl) h1 (hwt 1 _ _ rfl rfl)
  obtain ⟨y0, y1, y2, y3, y4, y5, y6, xv, xl, rfl, x1, x2, x3⟩ := arg_ent (hval 2 65 v2 rfl rfl) h2 (hwt 2 _ _ rfl rfl)
  refine (wireMsgs_any z0 z1 z2 z3 z4 z5 z6 z7 y0 y1 y2 y3 y4 y5 y6 mv xv v1 ml xl l W m1 x1 m2 x2 c1 m3 x3 c2).mono fun e W' ⟨he, hg⟩ => ?_
  subst he
  exact ⟨_, rfl, law_post hW' rfl rfl rfl rfl (by kernel_rfl) (by kernel_rfl) hg⟩

theorem wireMessages_holds : Rows.WireMessagesSaid :=
  OpenClaim.holds_of_wide 7 Try.f7 rfl rfl rfl rfl rfl rfl rfl ⟨rfl, rfl, rfl, rfl, rfl⟩ rfl rfl rfl rfl rfl (by kernel_rfl) Try.func7 (by kernel_rfl)
    (of_decide_eq_true (by kernel_rfl)) (by unfold Func.isWrapper; first | (rw [if_pos (by decide +kernel)]; kernel_rfl) | (rw [if_neg (by decide +kernel)]; exact ⟨rfl, rfl⟩))
    (fun os started H enc _ => wireMessages_lifted os started H enc)
end Go.Proofs.Ytgfopepopcacmaa
