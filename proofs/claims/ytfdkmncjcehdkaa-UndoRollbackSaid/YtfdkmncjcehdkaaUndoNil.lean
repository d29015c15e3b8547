/-
  law.UndoNil: the walk.
-/
import Derived.Test.YtfdkmncjcehdkaaUAwake
import Derived.Test.YtfdkmncjcehdkaaUArg
namespace Go.Proofs.Ytfdkmncjcehdkaa
open Go.RowKit

theorem resize_nil (w : World) (n : Int) : Calls Try.prog 30 #[.pointer none, .int .i64 n] w (NumP 7 w) := by
  have HO := Lib.hid (open_nil w)
  go_enter Try.func30, Try.ntmps30
  go_wp2_with (go_at_call 18; refine HO.out.mono ?_; rintro e w' ⟨rfl, rfl⟩)
  go_ret
  exact ⟨rfl, rfl⟩
theorem back_nil (w : World) (n : Int) : Calls Try.prog 20 #[.pointer none, .int .i64 n] w (NumP 7 w) := by
  have HO := Lib.hid (open_nil w)
  go_enter Try.func20, Try.ntmps20
  go_wp2_with (go_at_call 18; refine HO.out.mono ?_; rintro e w' ⟨rfl, rfl⟩)
  go_ret
  exact ⟨rfl, rfl⟩
theorem commit_nil (w : World) : Calls Try.prog 35 #[.pointer none] w (NumP 7 w) := by
  have HO := Lib.hid (open_nil w)
  go_enter Try.func35, Try.ntmps35
  go_wp2_with (go_at_call 18; refine HO.out.mono ?_; rintro e w' ⟨rfl, rfl⟩)
  go_ret
  exact ⟨rfl, rfl⟩
theorem rollback_nil (w : World) : Calls Try.prog 21 #[.pointer none] w (NumP 7 w) := by
  have HO := Lib.hid (back_nil w 0)
  go_enter Try.func21, Try.ntmps21
  go_wp2_with (go_at_call 20; refine HO.out.mono ?_; rintro e w' ⟨rfl, rfl⟩)
  go_ret
  exact ⟨rfl, rfl⟩
def NumG (n : Int) (w : World) (e : Ending) (w' : World) : Prop := e = .returned (.int .i64 n) ∧ w.grownBy w' none
set_option maxRecDepth 100000 in
set_option maxHeartbeats 2000000 in
theorem do_nil (p : RP) (w : World) (hp : OkP w p) : Calls Try.prog 13 #[.pointer none, .agg #[.int .i64 p.1.1, .int .i64 p.1.2.1, p.2]] w (NumG 7 w) := by
  obtain ⟨ad, cd, hd⟩ := hp.1.len
  rw [hd]
  obtain ⟨hb0, hb1⟩ := hp.2.1
  clear hd hp
  generalize p.1.2.2.length = n at *
  obtain ⟨⟨op, N, l⟩, v⟩ := p
  simp only at *
  have HB := Lib.hid begin_nil
  have HW := Lib.hid (fun w => write_nil w N (.slice ad n cd))
  have HR := Lib.hid (fun w => resize_nil w N)
  have HK := Lib.hid (fun w => back_nil w N)
  have HC := Lib.hid commit_nil
  have HL := Lib.hid rollback_nil
  have hcases : op = 0 ∨ op = 1 ∨ op = 2 ∨ op = 3 ∨ op = 4 ∨ ((op == 0) = false ∧ (op == 1) = false ∧ (op == 2) = false ∧ (op == 3) = false ∧ (op == 4) = false) := by
    by_cases h0 : op = 0; · exact .inl h0
    by_cases h1 : op = 1; · exact .inr (.inl h1)
    by_cases h2 : op = 2; · exact .inr (.inr (.inl h2))
    by_cases h3 : op = 3; · exact .inr (.inr (.inr (.inl h3)))
    by_cases h4 : op = 4; · exact .inr (.inr (.inr (.inr (.inl h4))))
    exact .inr (.inr (.inr (.inr (.inr ⟨by simpa using h0, by simpa using h1, by simpa using h2, by simpa using h3, by simpa using h4⟩))))
  rcases hcases with rfl | rfl | rfl | rfl | rfl | ⟨h0, h1, h2, h3, h4⟩
  all_goals
    go_enter Try.func13, Try.ntmps13
    go_wp2_with (first | (go_at_call 19; (with_reducible refine (HB.out _).mono ?_); rintro e w' ⟨rfl, rfl⟩) | (go_at_call 31; (with_reducible refine (HW.out _).mono ?_); rintro e w' ⟨rfl, rfl⟩) | (go_at_call 30; (with_reducible refine (HR.out _).mono ?_); rintro e w' ⟨rfl, rfl⟩) | (go_at_call 20; (with_reducible refine (HK.out _).mono ?_); rintro e w' ⟨rfl, rfl⟩) | (go_at_call 35; (with_reducible refine (HC.out _).mono ?_); rintro e w' ⟨rfl, rfl⟩) | (go_at_call 21; (with_reducible refine (HL.out _).mono ?_); rintro e w' ⟨rfl, rfl⟩))
    go_ret
    exact ⟨rfl, gb_alloc _ _ _⟩
set_option maxRecDepth 100000 in
theorem resize_limit {w : World} {F : Nat → Prop} {g : Nat} {iv rv : Value} {img : List UInt8} {ps : List RP} (h : LogF w F g iv rv img ps true) (n : Int) (hn : 24000 < n) : Calls Try.prog 30 #[.pointer (some ⟨g, 0, none⟩), .int .i64 n] w (NumP 6 w) := by
  have HO := Lib.hid (open_any h)
  clear h
  go_enter Try.func30, Try.ntmps30
  go_wp2_with (go_at_call 18; refine HO.out.mono ?_; rintro e w' ⟨rfl, rfl⟩)
  go_ret
  exact ⟨rfl, rfl⟩
theorem big0_facts (n : Nat) : ∃ l : List UInt8, List.replicate n 0 = l ∧ l.length = n := ⟨_, rfl, List.length_replicate⟩
set_option maxRecDepth 100000 in
set_option maxHeartbeats 4000000 in
theorem undoNil_any (p : RP) (w : World) (hp : OkP w p) : Calls Try.prog 8 #[.agg #[.int .i64 p.1.1, .int .i64 p.1.2.1, p.2]] w (BoolQ true w) := by
  obtain ⟨lb, e0, e1⟩ := big0_facts 24001
  obtain ⟨lc, e2, e3⟩ := big0_facts 24000
  have E0 := Lib.hid e0
  have E1 := Lib.hid e1
  have E2 := Lib.hid e2
  have E3 := Lib.hid e3
  clear e0 e1 e2 e3
  obtain ⟨w1, hw1⟩ : ∃ w1, w.alloc (.cells #[.int .i64 p.1.1, .int .i64 p.1.2.1, p.2] 37) = w1 := ⟨_, rfl⟩
  have hg1 : w.grownBy w1 none := by rw [← hw1]; exact gb_alloc _ _ _
  have hb1 : w1.heap[w.heap.size]? = some (.cells #[.int .i64 p.1.1, .int .i64 p.1.2.1, p.2] 37 (0, 0)) := by rw [← hw1]; exact heap_at_alloc _ _
  have HW := Lib.hid (awake_any w1)
  have HW1 := Lib.hid hw1
  have HG1 := Lib.hid hg1
  have HB1 := Lib.hid hb1
  have HP := Lib.hid hp
  obtain ⟨ad, cd, hd⟩ := hp.1.len
  clear hw1 hg1 hb1 hp
  rw [hd] at HB1 HW1 ⊢
  have HD := Lib.hid hd
  clear hd
  go_enter Try.func8, Try.ntmps8
  go_wp2_with fail
  rw [HW1.out]
  refine HW.out.mono ?_
  rintro e w2 ⟨rfl, hg2⟩
  have hq := blk_kept HB1.out hg2
  have q0 : w2.cell? ⟨w.heap.size, 0, none⟩ = some (.int .i64 p.1.1) := cell_row hq
  have q1 : w2.cell? ⟨w.heap.size, 1, none⟩ = some (.int .i64 p.1.2.1) := cell_row hq
  have q2 : w2.cell? ⟨w.heap.size, 2, none⟩ = some (.slice ad p.1.2.2.length cd) := cell_row hq
  have hdo := do_nil p w2 ⟨(HP.out.1.grown HG1.out).grown hg2, HP.out.2⟩
  rw [HD.out] at hdo
  have HDO := Lib.hid hdo
  have HG2 := Lib.hid (gb_same HG1.out hg2)
  clear hg2 hq hdo
  go_wp2_with fail
  refine HDO.out.mono ?_
  rintro e w3 ⟨rfl, hg3⟩
  have HG3 := Lib.hid (gb_same HG2.out hg3)
  have HIN := Lib.hid image_nil
  have HRN := Lib.hid records_nil
  have HON := Lib.hid open_nil
  clear hg3 q0 q1 q2
  go_wp2_with (first | (go_at_call 14; (with_reducible refine (HIN.out _).mono ?_); rintro e w' ⟨rfl, rfl⟩) | (go_at_call 17; (with_reducible refine (HRN.out _).mono ?_); rintro e w' ⟨rfl, rfl⟩) | (go_at_call 18; (with_reducible refine (HON.out _).mono ?_); rintro e w' ⟨rfl, rfl⟩) | ((with_reducible refine mk_step rfl _ _ rfl 24001 rfl rfl (by omega) ?_); go_must (intro w4 ho4 hg4; rw [E0.out] at ho4; have HO4 := Lib.hid ho4; have HG4 := Lib.hid (gb_same HG3.out hg4); clear ho4 hg4)))
  refine (new_big _ lb w4 HO4.out.rd (by rw [E1.out]; omega)).mono ?_
  rintro e w' ⟨rfl, rfl⟩
  go_wp2_with ((with_reducible refine mk_step rfl _ _ rfl 24000 rfl rfl (by omega) ?_); go_must (intro w5 ho5 hg5; rw [E2.out] at ho5; have HO5 := Lib.hid ho5; have HG5 := Lib.hid (gb_same HG4.out hg5); clear ho5 hg5))
  refine (new_any _ lc w5 HO5.out.rd (by rw [E3.out]; omega)).mono ?_
  rintro e w6 ⟨g, F, iv, rfl, hg6, hl6, hF6⟩
  have HIM := image_any hl6 (by rw [E3.out]; omega)
  have HL6 := Lib.hid hl6
  have HG6 := Lib.hid (gb_same HG5.out hg6)
  have HF6 := Lib.hid (fun k hk => Nat.le_trans HG5.out.size (hF6 k hk))
  have HIM2 := Lib.hid HIM
  clear HIM hl6 hg6 hF6
  go_wp2_with fail
  refine HIM2.out.mono ?_
  rintro e w7 ⟨v7, rfl, ho7, hg7⟩
  have HL7 := Lib.hid (HL6.out.grown hg7 (by simp))
  have HG7 := Lib.hid (gb_same HG6.out hg7)
  obtain ⟨a7, c7, rfl⟩ := ho7.rd.len
  have hl7 : lc.length = 24000 := E3.out
  rw [hl7]
  clear ho7 hg7 hl7
  go_wp2_with fail
  refine (begin_any HL7.out).mono ?_
  rintro e w8 ⟨rfl, F8, iv8, rv8, ps8, hl8, _, hf8⟩
  have HRL := Lib.hid (resize_limit hl8 24001 (by omega))
  have HF8 := Lib.hid hf8
  clear hl8 hf8
  go_wp2_with fail
  refine HRL.out.mono ?_
  rintro e w' ⟨rfl, rfl⟩
  go_wp2_with fail
  go_ret
  exact ⟨rfl, HF8.out.gb HG7.out HF6.out⟩
end Go.Proofs.Ytfdkmncjcehdkaa
