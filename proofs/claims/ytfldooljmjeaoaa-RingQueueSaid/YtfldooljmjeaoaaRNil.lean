/-
  The methods on nil, and law.first: the walks.
-/
import Derived.Test.YtfldooljmjeaoaaRAw
namespace Go.Proofs.Ytfldooljmjeaoaa
open Go.RowKit

theorem lenB_nil (w : World) : Calls Try.prog 44 #[.pointer none] w (RetS (.int .i64 0) w) := by
  go_enter Try.func44, Try.ntmps44
  go_wp2
  go_ret
  exact ⟨rfl, rfl⟩
theorem freeB_nil (w : World) : Calls Try.prog 42 #[.pointer none] w (RetS (.int .i64 0) w) := by
  go_enter Try.func42, Try.ntmps42
  go_wp2
  go_ret
  exact ⟨rfl, rfl⟩
theorem peekB_nil (w : World) (z : Int) : Calls Try.prog 26 #[.pointer none, .int .i64 z] w (RetS (.slice none 0 0) w) := by
  have HL := Lib.hid (lenB_nil w)
  by_cases h : 0 < z
  · go_enter Try.func26, Try.ntmps26
    go_wp2_with fail
    refine HL.out.mono ?_
    rintro e w' ⟨rfl, rfl⟩
    go_wp2
    go_ret
    exact ⟨rfl, rfl⟩
  · have h2 : z ≤ 0 := by omega
    go_enter Try.func26, Try.ntmps26
    go_wp2_with fail
    refine HL.out.mono ?_
    rintro e w' ⟨rfl, rfl⟩
    go_wp2
    go_ret
    exact ⟨rfl, rfl⟩
theorem takeB_nil (w : World) (z : Int) : Calls Try.prog 25 #[.pointer none, .int .i64 z] w (RetS (.slice none 0 0) w) := by
  have HL := Lib.hid (peekB_nil w z)
  go_enter Try.func25, Try.ntmps25
  go_wp2_with fail
  refine HL.out.mono ?_
  rintro e w' ⟨rfl, rfl⟩
  go_wp2
  go_ret
  exact ⟨rfl, rfl⟩
set_option maxRecDepth 100000 in
theorem putB_nil (w : World) (v : Value) (b : List UInt8) (hv : RdW w v b) : Calls Try.prog 24 #[.pointer none, v] w (RetS (.int .i64 0) w) := by
  have hsm := hv.small
  have HF := Lib.hid (freeB_nil w)
  obtain ⟨a, c, rfl, hcap⟩ := hv.form
  clear hv
  have hex : ∃ N, b.length = N := ⟨_, rfl⟩
  obtain ⟨N, hN⟩ := hex
  rw [hN] at *
  clear hN
  by_cases h : N = 0
  · subst h
    go_enter Try.func24, Try.ntmps24
    go_wp2_with fail
    refine HF.out.mono ?_
    rintro e w1 ⟨rfl, rfl⟩
    go_wp2
    go_loopw [17] (fun i wr => i = .int .i64 0 ∧ wr = w) (fun _ _ => 0)
    case atStart => exact ⟨rfl, rfl⟩
    case round =>
      obtain ⟨rfl, rfl⟩ := hrel
      go_wp2
      go_ret
      exact ⟨rfl, rfl⟩
  · have h0 : (0 : Int) < (N : Int) := by omega
    clear h
    go_enter Try.func24, Try.ntmps24
    go_wp2_with fail
    refine HF.out.mono ?_
    rintro e w1 ⟨rfl, rfl⟩
    go_wp2
    go_loopw [17] (fun i wr => i = .int .i64 0 ∧ wr = w) (fun _ _ => 0)
    case atStart => exact ⟨rfl, rfl⟩
    case round =>
      obtain ⟨rfl, rfl⟩ := hrel
      go_wp2
      go_ret
      exact ⟨rfl, rfl⟩
theorem lenM_nil (w : World) : Calls Try.prog 19 #[.pointer none] w (RetS (.int .i64 0) w) := by
  go_enter Try.func19, Try.ntmps19
  go_wp2
  go_ret
  exact ⟨rfl, rfl⟩
theorem dropM_nil (w : World) (x : Int) : Calls Try.prog 18 #[.pointer none, .int .i64 x] w (NumG 0 w) := by
  go_enter Try.func18, Try.ntmps18
  go_wp2
  go_ret
  exact ⟨rfl, gb_alloc _ _ _⟩
theorem encodeM_nil (w : World) : Calls Try.prog 21 #[.pointer none] w (RetS (.slice none 0 0) w) := by
  go_enter Try.func21, Try.ntmps21
  go_wp2
  go_ret
  exact ⟨rfl, rfl⟩
def ValG (v : Value) (w : World) (e : Ending) (w' : World) : Prop := e = .returned v ∧ w.grownBy w' none
theorem putM_nil (w : World) (m : Mg) (dv : Value) : Calls Try.prog 12 #[.pointer none, .agg (m.row dv)] w (NumG 7 w) := by
  go_enter Try.func12, Try.ntmps12
  go_wp2
  go_ret
  exact ⟨rfl, gb_alloc _ _ _⟩
def noMsg : Value := .tuple #[.agg zrowM, .bool false]
/-- the return of a struct out of a block, and a value -/
theorem ret_cb {fn : Func} {R : Ending → World → Prop} {p q : Tmp} {ty : TypeId} {tmps : Array Value} {w : World} {fs : Array Field} (hr : fn.results = #[.cell p ty, .tmp q]) (g : Nat) (t : TypeId) (cs : Array Value) (u : Value)
    (hp : tmps.getD p undef = .pointer (some ⟨g, 0, none⟩)) (hs : tmps.getD q undef = u) (hg : w.heap[g]? = some (.cells cs t (0, 0))) (hu : Try.prog.underlying ty = some (.struct fs)) (hi : (Try.prog.info? ty).map (·.size) = some cs.size)
    (h : R (.returned (.tuple #[.agg cs, u])) w) : bodyPost Try.prog fn R .ret { tmps := tmps, defers := [] } w := by
  refine bodyPost_ret (v := .tuple #[.agg cs, u]) ?_ rfl h
  have hp' : tmps[p]?.getD undef = .pointer (some ⟨g, 0, none⟩) := by simpa using hp
  have hs' : tmps[q]?.getD undef = u := by simpa using hs
  simp [results, hr, hp', hs', asAddr, run_loadVar_row w g t ty cs (0, 0) _ hg hu rfl hi]
set_option maxRecDepth 100000 in
theorem firstM_nil (w : World) : Calls Try.prog 16 #[.pointer none] w (ValG noMsg w) := by
  have HL := Lib.hid lenM_nil
  go_enter Try.func16, Try.ntmps16
  go_wp2_with (go_at_call 19; refine (HL.out _).mono ?_; rintro e w1 ⟨rfl, rfl⟩)
  refine ret_cb rfl w.heap.size 39 zrowM (.bool false) rfl rfl (heap_at_alloc _ _) Try.underlying39 msize ?_
  exact ⟨rfl, gb_alloc _ _ _⟩
set_option maxRecDepth 100000 in
theorem takeM_nil (w : World) : Calls Try.prog 13 #[.pointer none] w (ValG noMsg w) := by
  have HF := Lib.hid firstM_nil
  unfold ValG noMsg zrowM at HF
  go_enter Try.func13, Try.ntmps13
  go_wp2_with fail
  refine (HF.out _).mono ?_
  rintro e w1 ⟨rfl, hg1⟩
  have HB1 := Lib.hid (blk_kept (heap_at_alloc w _) hg1)
  have HG1 := Lib.hid (gb_same (gb_alloc w _ none) hg1)
  clear hg1
  have HBX := Lib.hid (blk_kept HB1.out (gb_alloc w1 (.cells zrowM 39) none))
  unfold zrowM at HBX
  go_wp2_with ((with_reducible refine is_store 39 2 20 ?_); go_must (refine st_row 39 2 20 w.heap.size _ zrowM _ rfl rfl HBX.out msize rfl rfl ?_; intro w4 hb4 hg4))
  refine ret_cb rfl w.heap.size 39 zrowM (.bool false) rfl rfl hb4 Try.underlying39 msize ?_
  exact ⟨rfl, gb_new (gb_same HG1.out (gb_alloc _ _ _)) hg4 (Nat.le_refl _)⟩
def firstB (b : List UInt8) : UInt8 := b.headD 0
end Go.Proofs.Ytfldooljmjeaoaa
