/-
  ring.NewBytes, place, Len, Free: the walks.
-/
import Derived.Test.YtfldooljmjeaoaaRQ
import Derived.BigQuiet
namespace Go.Proofs.Ytfldooljmjeaoaa
open Go.RowKit

theorem info5' : (Try.prog.info? 5).map (fun i => (i.zero, i.size, i.bytes)) = some (some (.int .u8 0), 1, 1) := by kernel_rfl
theorem bvs_zeros (n : Nat) : List.replicate n (Value.int .u8 0) = bvs (List.replicate n 0) := by
  unfold bvs; rw [List.map_replicate]; rfl
theorem mk_run (n : Nat) (w : World) (hn : n ≤ 1099511627776) :
    ∃ w', (Instr.makeSlice 22 (.int .i64 n) (.int .i64 n)).run Try.prog w = .ok (.slice (some ⟨w.heap.size, 0, none⟩) n n) w' ∧ Own w' w.heap.size (.slice (some ⟨w.heap.size, 0, none⟩) n n) (List.replicate n 0) ∧ w.grownBy w' none := by
  obtain ⟨i0, hi, hz0, hz1, hz2⟩ := info_parts info5
  obtain ⟨w', h1, h2, h3⟩ := run_make_full (P := Try.prog) w w.heap.size 22 5 i0 (.int .u8 0) 1 Try.underlying22 hi hz0 hz1 .i64 .i64 n (by rw [hz2]; omega) (by unfold maxLen; omega) (Nat.le_refl _)
  refine ⟨w', h1, ?_, h3⟩
  unfold Own
  rw [List.length_replicate, ← bvs_zeros]
  have e : (madeCells (Value.int .u8 0).cells (n * 1)).toList = List.replicate n (Value.int .u8 0) := by rw [Nat.mul_one]; exact toList_madeCells_one _ _
  rw [← e]; exact h2
theorem mk_step {ops : Array Oper} {rest : List Oper} {o : Oper} {a : Act} {w : World} {Q : Exit → Act → World → Prop} (hgd : o.guard = none) (l c : Operand) (ho : o.op = .makeSlice 22 l c)
    (n : Nat) (hl : a.eval l = .int .i64 n) (hc : a.eval c = .int .i64 n) (hn : n ≤ 1099511627776)
    (h : ∀ w', Own w' w.heap.size (.slice (some ⟨w.heap.size, 0, none⟩) n n) (List.replicate n 0) → w.grownBy w' none → wpList Try.prog ops Q rest (a.put o.dst (.slice (some ⟨w.heap.size, 0, none⟩) n n)) w') : wpList Try.prog ops Q (o :: rest) a w := by
  obtain ⟨w', hr, h2, h3⟩ := mk_run n w hn
  refine wpList_plain hgd fun _ hK => ?_
  unfold Oper.wp execOp
  simp only [ho, hl, hc, hr, Sem.run_bind, Sem.run_pure, Result.andThen_ok]
  exact hK _ _ (h w' h2 h3)

def NewB (n : Nat) (w : World) (e : Ending) (w' : World) : Prop :=
  ∃ g s, e = .returned (.tuple #[.pointer (some ⟨g, 0, none⟩), .int .i64 0]) ∧ w.heap.size ≤ g ∧ w.heap.size ≤ s ∧ w.grownBy w' none ∧ IsB w' g s n 0 (List.replicate n 0) []
theorem newB_box {w w' : World} {n : Nat} (hn : 0 < n) (hn2 : n ≤ 4096) (h : Own w' w.heap.size (.slice (some ⟨w.heap.size, 0, none⟩) n n) (List.replicate n 0)) :
    IsB (w'.alloc (.cells #[.slice (some ⟨w.heap.size, 0, none⟩) n n, .int .i64 0, .int .i64 0] 78)) w'.heap.size w.heap.size n 0 (List.replicate n 0) [] := by
  have hlt := (h.lt w.heap.size rfl).2
  exact ⟨heap_at_alloc _ _, (h.mono (Nat.zero_le _)).grown (gb_alloc _ _ none), by omega, by simp, hn, by simp, by simp, hn2⟩
set_option maxRecDepth 100000 in
theorem newB_any (n : Nat) (w : World) (hn : 0 < n) (hn2 : n ≤ 4096) : Calls Try.prog 23 #[.int .i64 n] w (NewB n w) := by
  have h1 : ¬ (n : Int) < 1 := by omega
  have h2 : ¬ (4096 : Int) < n := by omega
  go_enter Try.func23, Try.ntmps23
  go_wp2_with ((with_reducible refine mk_step rfl _ _ rfl n rfl rfl (by omega) ?_); go_must (intro w1 ho1 hg1; have HO := Lib.hid ho1; have HG := Lib.hid hg1; clear ho1 hg1))
  go_ret2
  have := HG.out.size
  exact ⟨_, _, rfl, by omega, by omega, gb_same HG.out (gb_alloc _ _ _), newB_box hn hn2 HO.out⟩
def NoT (n : Int) (w : World) (e : Ending) (w' : World) : Prop := e = .returned (.tuple #[.pointer none, .int .i64 n]) ∧ w = w'
set_option maxRecDepth 100000 in
theorem newB_no (n : Int) (w : World) (hn : n < 1 ∨ 4096 < n) : Calls Try.prog 23 #[.int .i64 n] w (NoT 2 w) := by
  by_cases h1 : n < 1
  · clear hn
    go_enter Try.func23, Try.ntmps23
    go_wp2
    go_ret2
    exact ⟨rfl, rfl⟩
  · have h2 : 4096 < n := by omega
    clear hn
    go_enter Try.func23, Try.ntmps23
    go_wp2
    go_ret2
    exact ⟨rfl, rfl⟩

set_option maxRecDepth 100000 in
theorem place_any {w : World} {g s n f : Nat} {cs l : List UInt8} (h : IsB w g s n f cs l) {i : Nat} (hi : i ≤ n) : Calls Try.prog 43 #[.pointer (some ⟨g, 0, none⟩), .int .i64 i] w (NumG ((f + i) % n : Nat) w) := by
  have hc := h.c0
  have hc1 := h.c1
  have hle := h.le
  have hf := h.fst
  obtain ⟨m, hm⟩ : ∃ m, f + i = m := ⟨_, rfl⟩
  have e1 : IntKind.i64.wrap ((f : Int) + (i : Int)) = (m : Int) := by rw [IntKind.wrap_i64] <;> omega
  have hmod : (m : Int).tmod (n : Int) = ((m % n : Nat) : Int) := rfl
  rw [hm]
  have hr : m % n ≤ 4096 := by have := Nat.mod_lt m (show 0 < n by omega); omega
  clear hm
  generalize m % n = r at *
  have hl0 : ((n : Int) == 0) = false := by rw [beq_eq_false_iff_ne]; omega
  have hl1 : ¬ (n : Int) = 0 := by omega
  clear h
  go_enter Try.func43, Try.ntmps43
  go_wp2
  go_quiet (fail)
  go_wp2
  go_ret
  refine ⟨?_, gb_drewN _ _ _⟩
  rfl
set_option maxRecDepth 100000 in
theorem lenB_any {w : World} {g s n f : Nat} {cs l : List UInt8} (h : IsB w g s n f cs l) : Calls Try.prog 44 #[.pointer (some ⟨g, 0, none⟩)] w (NumS (l.length : Nat) w) := by
  have hc := h.c2
  clear h
  go_enter Try.func44, Try.ntmps44
  go_wp2
  go_ret
  exact ⟨rfl, rfl⟩
set_option maxRecDepth 100000 in
theorem freeB_any {w : World} {g s n f : Nat} {cs l : List UInt8} (h : IsB w g s n f cs l) : Calls Try.prog 42 #[.pointer (some ⟨g, 0, none⟩)] w (NumG ((n - l.length : Nat) : Nat) w) := by
  have hc := h.c2
  have hc0 := h.c0
  have hle := h.le
  have hcnt := h.cnt
  rw [show ((n - l.length : Nat) : Int) = (n : Int) - (l.length : Int) by omega]
  clear h
  go_enter Try.func42, Try.ntmps42
  go_wp2
  go_quiet (fail)
  go_wp2
  go_ret
  refine ⟨?_, gb_drewN _ _ _⟩
  rfl
end Go.Proofs.Ytfldooljmjeaoaa
