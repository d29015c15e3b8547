/-
  The methods on nil, and law.first: the walks.
-/
import Derived.Test.YtjidkaeglhfajaaRAw
namespace Go.Proofs.Ytjidkaeglhfajaa
open Go.RowKit

theorem lenB_nil (w : World) : Calls Try.prog 26 #[.pointer none] w (RetS (.int .i64 0) w) := by
  go_enter Try.func26, Try.ntmps26
  go_wp2
  go_ret
  exact ⟨rfl, rfl⟩
theorem freeB_nil (w : World) : Calls Try.prog 27 #[.pointer none] w (RetS (.int .i64 0) w) := by
  go_enter Try.func27, Try.ntmps27
  go_wp2
  go_ret
  exact ⟨rfl, rfl⟩
theorem encodeB_nil (w : World) : Calls Try.prog 28 #[.pointer none] w (RetS (.slice none 0 0) w) := by
  go_enter Try.func28, Try.ntmps28
  go_wp2
  go_ret
  exact ⟨rfl, rfl⟩
theorem peekB_nil (w : World) (z : Int) : Calls Try.prog 21 #[.pointer none, .int .i64 z] w (RetS (.slice none 0 0) w) := by
  have HL := Lib.hid (lenB_nil w)
  by_cases h : 0 < z
  · go_enter Try.func21, Try.ntmps21
    go_wp2_with fail
    refine HL.out.mono ?_
    rintro e w' ⟨rfl, rfl⟩
    go_wp2
    go_ret
    exact ⟨rfl, rfl⟩
  · have h2 : z ≤ 0 := by omega
    go_enter Try.func21, Try.ntmps21
    go_wp2_with fail
    refine HL.out.mono ?_
    rintro e w' ⟨rfl, rfl⟩
    go_wp2
    go_ret
    exact ⟨rfl, rfl⟩
theorem takeB_nil (w : World) (z : Int) : Calls Try.prog 20 #[.pointer none, .int .i64 z] w (RetS (.slice none 0 0) w) := by
  have HL := Lib.hid (peekB_nil w z)
  go_enter Try.func20, Try.ntmps20
  go_wp2_with fail
  refine HL.out.mono ?_
  rintro e w' ⟨rfl, rfl⟩
  go_wp2
  go_ret
  exact ⟨rfl, rfl⟩
set_option maxRecDepth 100000 in
theorem putB_nil (w : World) (v : Value) (b : List UInt8) (hv : RdW w v b) : Calls Try.prog 17 #[.pointer none, v] w (RetS (.int .i64 0) w) := by
  have hsm := hv.small
  have HF := Lib.hid (freeB_nil w)
  obtain ⟨a, c, rfl, hcap⟩ := hv.form
  clear hv
  have hex : ∃ N, b.length = N := ⟨_, rfl⟩
  obtain ⟨N, hN⟩ := hex
  rw [hN] at *
  clear hN
  by_cases h : N = 0
  · subst h
    go_enter Try.func17, Try.ntmps17
    go_wp2_with fail
    refine HF.out.mono ?_
    rintro e w1 ⟨rfl, rfl⟩
    go_wp2
    go_loopw [17] (fun i wr => i = .int .i64 0 ∧ wr = w) (fun _ _ => 0)
    case atStart => exact ⟨rfl, rfl⟩
    case round =>
      obtain ⟨rfl, rfl⟩ := hrel
      go_wp2
      go_ret
      exact ⟨rfl, rfl⟩
  · have h0 : (0 : Int) < (N : Int) := by omega
    clear h
    go_enter Try.func17, Try.ntmps17
    go_wp2_with fail
    refine HF.out.mono ?_
    rintro e w1 ⟨rfl, rfl⟩
    go_wp2
    go_loopw [17] (fun i wr => i = .int .i64 0 ∧ wr = w) (fun _ _ => 0)
    case atStart => exact ⟨rfl, rfl⟩
    case round =>
      obtain ⟨rfl, rfl⟩ := hrel
      go_wp2
      go_ret
      exact ⟨rfl, rfl⟩
set_option maxRecDepth 100000 in
theorem indexB_nil (w : World) (c : Int) : Calls Try.prog 23 #[.pointer none, .int .u8 c] w (RetS (.int .i64 (-1)) w) := by
  have HL := Lib.hid (lenB_nil w)
  go_enter Try.func23, Try.ntmps23
  go_wp2_with fail
  refine HL.out.mono ?_
  rintro e w1 ⟨rfl, rfl⟩
  go_wp2
  go_loopw [8] (fun i wr => i = .int .i64 0 ∧ wr = w) (fun _ _ => 0)
  case atStart => exact ⟨rfl, rfl⟩
  case round =>
    obtain ⟨rfl, rfl⟩ := hrel
    go_wp2
    go_ret
    exact ⟨rfl, rfl⟩

theorem lenM_nil (w : World) : Calls Try.prog 44 #[.pointer none] w (RetS (.int .i64 0) w) := by
  go_enter Try.func44, Try.ntmps44
  go_wp2
  go_ret
  exact ⟨rfl, rfl⟩
theorem dropM_nil (w : World) (x : Int) : Calls Try.prog 43 #[.pointer none, .int .i64 x] w (NumG 0 w) := by
  go_enter Try.func43, Try.ntmps43
  go_wp2
  go_ret
  exact ⟨rfl, gb_alloc _ _ _⟩
theorem encodeM_nil (w : World) : Calls Try.prog 45 #[.pointer none] w (RetS (.slice none 0 0) w) := by
  go_enter Try.func45, Try.ntmps45
  go_wp2
  go_ret
  exact ⟨rfl, rfl⟩
def ValG (v : Value) (w : World) (e : Ending) (w' : World) : Prop := e = .returned v ∧ w.grownBy w' none
theorem putM_nil (w : World) (m : Mg) (dv : Value) : Calls Try.prog 37 #[.pointer none, .agg (m.row dv)] w (NumG 7 w) := by
  go_enter Try.func37, Try.ntmps37
  go_wp2
  go_ret
  exact ⟨rfl, gb_alloc _ _ _⟩
def noMsg : Value := .tuple #[.agg zrowM, .bool false]
/-- the return of a struct out of a block, and a value -/
theorem ret_cb {fn : Func} {R : Ending → World → Prop} {p q : Tmp} {ty : TypeId} {tmps : Array Value} {w : World} {fs : Array Field} (hr : fn.results = #[.cell p ty, .tmp q]) (g : Nat) (t : TypeId) (cs : Array Value) (u : Value)
    (hp : tmps.getD p undef = .pointer (some ⟨g, 0, none⟩)) (hs : tmps.getD q undef = u) (hg : w.heap[g]? = some (.cells cs t (0, 0))) (hu : Try.prog.underlying ty = some (.struct fs)) (hi : (Try.prog.info? ty).map (·.size) = some cs.size)
    (h : R (.returned (.tuple #[.agg cs, u])) w) : bodyPost Try.prog fn R .ret { tmps := tmps, defers := [] } w := by
  refine bodyPost_ret (v := .tuple #[.agg cs, u]) ?_ rfl h
  have hp' : tmps[p]?.getD undef = .pointer (some ⟨g, 0, none⟩) := by simpa using hp
  have hs' : tmps[q]?.getD undef = u := by simpa using hs
  simp [results, hr, hp', hs', asAddr, run_loadVar_row w g t ty cs (0, 0) _ hg hu rfl hi]
set_option maxRecDepth 100000 in
theorem firstM_nil (w : World) : Calls Try.prog 41 #[.pointer none] w (ValG noMsg w) := by
  have HL := Lib.hid lenM_nil
  go_enter Try.func41, Try.ntmps41
  go_wp2_with (go_at_call 44; refine (HL.out _).mono ?_; rintro e w1 ⟨rfl, rfl⟩)
  refine ret_cb rfl w.heap.size 65 zrowM (.bool false) rfl rfl (heap_at_alloc _ _) Try.underlying65 msize ?_
  exact ⟨rfl, gb_alloc _ _ _⟩
set_option maxRecDepth 100000 in
theorem takeM_nil (w : World) : Calls Try.prog 38 #[.pointer none] w (ValG noMsg w) := by
  have HF := Lib.hid firstM_nil
  unfold ValG noMsg zrowM at HF
  go_enter Try.func38, Try.ntmps38
  go_wp2_with fail
  refine (HF.out _).mono ?_
  rintro e w1 ⟨rfl, hg1⟩
  have HB1 := Lib.hid (blk_kept (heap_at_alloc w _) hg1)
  have HG1 := Lib.hid (gb_same (gb_alloc w _ none) hg1)
  clear hg1
  have HBX := Lib.hid (blk_kept HB1.out (gb_alloc w1 (.cells zrowM 65) none))
  unfold zrowM at HBX
  go_wp2_with ((with_reducible refine is_store 65 2 20 ?_); go_must (refine st_row 65 2 20 w.heap.size _ zrowM _ rfl rfl HBX.out msize rfl rfl ?_; intro w4 hb4 hg4))
  refine ret_cb rfl w.heap.size 65 zrowM (.bool false) rfl rfl hb4 Try.underlying65 msize ?_
  exact ⟨rfl, gb_new (gb_same HG1.out (gb_alloc _ _ _)) hg4 (Nat.le_refl _)⟩
def firstB (b : List UInt8) : UInt8 := b.headD 0
set_option maxRecDepth 100000 in
theorem first_no (w : World) (a : Option Addr) (c : Nat) : Calls Try.prog 24 #[.slice a 0 c] w (RetS (.int .u8 0) w) := by
  go_enter Try.func24, Try.ntmps24
  go_wp2
  go_ret
  exact ⟨rfl, rfl⟩
set_option maxRecDepth 100000 in
theorem first_yes (w : World) (bb off n c : Nat) (x : Int) (hn : (0 : Int) < (n : Int)) (hsm : (n : Int) ≤ 9223372036854775807) (hc : w.cell? ⟨bb, off, none⟩ = some (.int .u8 x)) : Calls Try.prog 24 #[.slice (some ⟨bb, off, none⟩) n c] w (RetS (.int .u8 x) w) := by
  have h0 : ((n : Int) == 0) = false := by rw [beq_eq_false_iff_ne]; omega
  go_enter Try.func24, Try.ntmps24
  go_wp2
  go_ret
  exact ⟨rfl, rfl⟩
theorem first_any (w : World) (v : Value) (b : List UInt8) (hv : RdW w v b) : Calls Try.prog 24 #[v] w (RetS (.int .u8 ((firstB b).toNat : Int)) w) := by
  have hsm := hv.small
  cases b with
  | nil =>
    obtain ⟨a, c, rfl⟩ := hv.len
    exact first_no w a c
  | cons x b =>
    obtain ⟨a, c, rfl⟩ := hv.len
    obtain ⟨bb, off, rfl, hc⟩ := hv.at (j := 0) (x := x) rfl
    rw [Nat.add_zero] at hc
    exact first_yes w bb off _ c _ (by simp) hsm hc
set_option maxRecDepth 100000 in
set_option maxHeartbeats 4000000 in
theorem ringNil_any (w : World) (v : Value) (b : List UInt8) (m : Mg) (dv : Value) (hv : RdW w v b) (hd : RdW w dv m.z) : Calls Try.prog 8 #[v, .agg (m.row dv)] w (BoolQ true w) := by
  obtain ⟨ad, cd, rfl⟩ := hd.len
  have HV := Lib.hid hv
  have HA := Lib.hid awake_any
  have HF := Lib.hid firstM_nil
  have HT := Lib.hid takeM_nil
  unfold ValG noMsg zrowM at HF HT
  have HPB := Lib.hid putB_nil
  have HTB := Lib.hid takeB_nil
  have HKB := Lib.hid peekB_nil
  have HIB := Lib.hid indexB_nil
  have HLB := Lib.hid lenB_nil
  have HRB := Lib.hid freeB_nil
  have HEB := Lib.hid encodeB_nil
  have HPM := Lib.hid (putM_nil · m (.slice ad m.z.length cd))
  have HDM := Lib.hid dropM_nil
  have HLM := Lib.hid lenM_nil
  have HEM := Lib.hid encodeM_nil
  have HFI := Lib.hid first_any
  unfold Mg.row at HPM ⊢
  clear hv hd
  go_enter Try.func8, Try.ntmps8
  go_wp2_with fail
  refine (HA.out _).mono ?_
  rintro e w1 ⟨rfl, hg1⟩
  have HG1 := Lib.hid (gb_same (gb_alloc _ _ _) hg1)
  have HB1 := Lib.hid (blk_kept (heap_at_alloc w _) hg1)
  clear hg1
  go_wp2_with fail
  refine (HF.out _).mono ?_
  rintro e w2 ⟨rfl, hg2⟩
  have HG2 := Lib.hid (gb_same HG1.out hg2)
  have HB2 := Lib.hid (blk_kept HB1.out hg2)
  clear hg2
  go_wp2_with fail
  have hg3 := gb_alloc w2 (.cells zrowM 65) none
  unfold zrowM at hg3
  generalize w2.alloc (.cells #[.int .i64 0, .int .i64 0, .int .i64 0, .int .i64 0, .int .i64 0, .int .i64 0, .int .i64 0, .int .i64 0, .slice none 0 0] 65) = w3 at *
  have HG3 := Lib.hid (gb_same HG2.out hg3)
  have HB3 := Lib.hid (blk_kept HB2.out hg3)
  clear hg3
  refine (HT.out _).mono ?_
  rintro e w4 ⟨rfl, hg4⟩
  have HG4 := Lib.hid (gb_same HG3.out hg4)
  have HB4 := Lib.hid (blk_kept HB3.out hg4)
  clear hg4
  go_wp2_with fail
  have hg5 := gb_alloc w4 (.cells zrowM 65) none
  unfold zrowM at hg5
  generalize w4.alloc (.cells #[.int .i64 0, .int .i64 0, .int .i64 0, .int .i64 0, .int .i64 0, .int .i64 0, .int .i64 0, .int .i64 0, .slice none 0 0] 65) = w5 at *
  have HG5 := Lib.hid (gb_same HG4.out hg5)
  have HB5 := Lib.hid (blk_kept HB4.out hg5)
  have HV5 := Lib.hid (HV.out.grown HG5.out)
  clear hg5
  obtain ⟨t0, t1, t2, t3, t4, t5, t6, t7, t8⟩ := row_cells HB5.out
  refine (HPB.out _ _ _ HV5.out).mono ?_
  rintro e w' ⟨rfl, rfl⟩
  go_wp2_with (first | (go_at_call 20; (with_reducible refine (HTB.out _ _).mono ?_); rintro e w' ⟨rfl, rfl⟩) | (go_at_call 21; (with_reducible refine (HKB.out _ _).mono ?_); rintro e w' ⟨rfl, rfl⟩) | (go_at_call 24; (with_reducible refine (HFI.out _ _ _ HV5.out).mono ?_); rintro e w' ⟨rfl, rfl⟩) | (go_at_call 23; (with_reducible refine (HIB.out _ _).mono ?_); rintro e w' ⟨rfl, rfl⟩) | (go_at_call 26; (with_reducible refine (HLB.out _).mono ?_); rintro e w' ⟨rfl, rfl⟩) | (go_at_call 27; (with_reducible refine (HRB.out _).mono ?_); rintro e w' ⟨rfl, rfl⟩) | (go_at_call 28; (with_reducible refine (HEB.out _).mono ?_); rintro e w' ⟨rfl, rfl⟩))
  refine (HPM.out _).mono ?_
  rintro e w6 ⟨rfl, hg6⟩
  have HG6 := Lib.hid (gb_same HG5.out hg6)
  have HB6 := Lib.hid (blk_kept HB5.out hg6)
  clear hg6 t0 t1 t2 t3 t4 t5 t6 t7 t8
  obtain ⟨t0, t1, t2, t3, t4, t5, t6, t7, t8⟩ := row_cells HB6.out
  go_wp2_with fail
  refine (HDM.out _ _).mono ?_
  rintro e w7 ⟨rfl, hg7⟩
  have HG7 := Lib.hid (gb_same HG6.out hg7)
  clear hg7 t0 t1 t2 t3 t4 t5 t6 t7 t8
  go_wp2_with (first | (go_at_call 44; (with_reducible refine (HLM.out _).mono ?_); rintro e w' ⟨rfl, rfl⟩) | (go_at_call 45; (with_reducible refine (HEM.out _).mono ?_); rintro e w' ⟨rfl, rfl⟩))
  go_ret
  exact ⟨rfl, HG7.out⟩
end Go.Proofs.Ytjidkaeglhfajaa
