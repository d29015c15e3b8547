/-
  image.pages: the iterator over the pages of an image.
-/
import Derived.Test.YtnkgoaloigmmfaaIPag
import Derived.RangeFuncNested
import Derived.RangeFuncBound
import Derived.RangeFuncCalls
import Derived.RangeFuncLeaves
import Derived.Shelf.Abstract
import Derived.Shelf.RegionOpen
import Derived.OwnWalkIn
import Derived.TacticsInMore
import Derived.LoopNIn
import Derived.LoopIn
namespace Go.Proofs.Ytnkgoaloigmmfaa
open Go.RowKit Go.Shelf

attribute [local go_sem] Oper.semAt_some

theorem range_snoc (k : Nat) : List.range (k + 1) = List.range k ++ [k] := List.range_succ

set_option maxRecDepth 100000 in
set_option maxHeartbeats 2000000 in
theorem pages1_in (n : Nat) (hn : 2 ≤ n) (l Bs : Nat) (v : Value) (bs : List UInt8) (N : Nat) (hN : cntI bs.length = N) (Kp : World → World → Prop) (hKr : ∀ W, Kp W W) (hKt : ∀ {A B C : World}, Kp A B → Kp B C → Kp A C) (J Jx : List Nat → World → Prop)
    (hY : ∀ (pre : List Nat) (x : Nat) W, J pre W → pre.length < N → x < N → YieldAt Fence.wide (n - 1) Try.prog l #[.int .i64 (x : Int), cutV v bs.length x] W fun e W' =>
      (e = .returned (.bool true) ∧ J (pre ++ [x]) W' ∧ Kp W W') ∨ (e = .returned (.bool false) ∧ Jx (pre ++ [x]) W'))
    (W : World) (hR : ∀ W', Kp W W' → W'.cell? ⟨Bs, 0, none⟩ = some v ∧ Rd W' v bs) (h0 : J [] W) :
    CallsIn Fence.wide n Try.prog 39 #[.func (.yield l) #[] #[], .pointer (some ⟨Bs, 0, none⟩)] W fun e W' => (∃ v, e = .returned v) ∧
      ((∃ ys, ys = List.range N ∧ J ys W') ∨ (∃ pre, (∃ k, k ≤ N ∧ pre = List.range k) ∧ Jx pre W')) := by
  have hsm := (hR W (hKr _)).2.small
  obtain ⟨a, c, rfl⟩ := (hR W (hKr _)).2.len
  have hBs := (hR W (hKr _)).1
  have HC := Lib.hid (fun W => count_any bs.length W (by omega) hsm)
  rw [hN] at HC
  have HR := Lib.hid hR
  have hle : (N : Int) ≤ bs.length := by rw [← hN]; exact cntI_le _ (by omega)
  clear hR hN
  have h1 : 1 ≤ n - 1 := by omega
  refine callsIn_of_wp Try.func39 rfl trivial ?_ rfl
  simp only [Try.ntmps39, List.size_toArray, List.length_cons, List.length_nil, Nat.reduceAdd, Nat.reduceSub, Array.replicate_succ, Array.replicate_zero, List.push_toArray, List.append_toArray, List.nil_append, List.cons_append]
  gi_wp2_with (refine ⟨trivial, (fun h => (by cases h)), ?_⟩; gi_at_call 12; refine (callsIn_wide.2 (HC.out _)).mono ?_; rintro e w' ⟨rfl, rfl⟩)
  gi_loopw [7] (fun i wr => ∃ k : Nat, k ≤ N ∧ i = .int .i64 k ∧ J (List.range k) wr ∧ Hid (Kp W wr))
    (fun i _ => N - (intOf i).toNat)
  case atStart => exact ⟨0, Nat.zero_le _, rfl, h0, Lib.hid (hKr _)⟩
  case round =>
    obtain ⟨k, hk, rfl, hJs, HNX⟩ := hrel
    have hcx := (HR.out wr HNX.out).1
    have HU := Lib.hid (fun W (hW : wr = W) => cut_any _ bs k W (HR.out W (hW ▸ HNX.out)).2 (by omega) (by omega))
    by_cases hlt : k < N
    · obtain ⟨fn, tmps, assign, body, hy, hR⟩ := hY _ k wr hJs (by rw [List.length_range]; exact hlt) hlt
      have HJ := Lib.hid hJs
      clear hJs
      generalize cutV (.slice a bs.length c) bs.length k = u at *
      gi_wp2_with (refine ⟨trivial, (fun h => (by cases h)), ?_⟩; gi_at_call 30; refine (callsIn_wide.2 (HU.out _ rfl)).mono ?_; rintro e w' ⟨rfl, rfl⟩)
      refine ⟨(fun h => (by cases h)), hR.mono ?_⟩
      rintro e W3 (⟨rfl, hJ3, hk3⟩ | ⟨rfl, hJx3⟩)
      · gi_wp2
        go_roundw
        case rel => exact ⟨k + 1, by omega, by simp, by rw [range_snoc]; exact hJ3, Lib.hid (hKt HNX.out hk3)⟩
        case measure => simp [intOf]; omega
      · gi_wp2
        refine bodyPost_ret (results_none rfl _ _ _) rfl ?_
        exact ⟨⟨_, rfl⟩, .inr ⟨_, ⟨k + 1, by omega, (range_snoc _).symm⟩, hJx3⟩⟩
    · obtain rfl : k = N := by omega
      gi_wp2
      go_end0
      exact ⟨⟨_, rfl⟩, .inl ⟨_, rfl, hJs⟩⟩
theorem pages_any (v : Value) (bs : List UInt8) (w : World) (hv : Rd w v bs) :
    Calls Try.prog 32 #[v] w fun e w' => e = .returned (.func (.func 39) #[] #[.pointer (some ⟨w.heap.size, 0, none⟩)]) ∧ w' = w.alloc (.cells #[v] 22) := by
  obtain ⟨a, c, rfl⟩ := hv.len
  have hmf : ∀ (fn : Fn) (first cap : Array Value) (w : World), (Instr.makeFunc fn first cap).run Try.prog w = .ok (.func fn first cap) w := fun _ _ _ _ => rfl
  go_enter Try.func32, Try.ntmps32
  go_wp2
  go_ret
  exact ⟨rfl, rfl⟩
/-- the number of a page -/
abbrev PgNo := { x : Nat // x < 1000000 }
theorem pages_stops (n : Nat) (hn : 2 ≤ n) (Bs : Nat) (v : Value) (bs : List UInt8) (N : Nat) (w : World) (hN : cntI bs.length = N) (hN2 : N < 1000000) (Kp : World → World → Prop) (hKr : ∀ W, Kp W W) (hKt : ∀ {A B C : World}, Kp A B → Kp B C → Kp A C)
    (hR : ∀ W W', Below w.heap.size w W → Kp W W' → W'.cell? ⟨Bs, 0, none⟩ = some v ∧ Rd W' v bs) :
    SeqStopsK Fence.wide n Try.prog 39 #[.pointer (some ⟨Bs, 0, none⟩)] (fun x : PgNo => #[Value.int .i64 (x.1 : Int), cutV v bs.length x.1]) Kp (fun ys => ys.map (·.1) = List.range N) (fun _ => True) N w := fun l J Jx W hW _ _ hY h0 => by
  refine (pages1_in n hn l Bs v bs N hN Kp hKr (fun h k => hKt h k) (fun pre W => ∃ ys : List PgNo, ys.map (·.1) = pre ∧ J ys W) (fun pre W => ∃ ys : List PgNo, ys.map (·.1) = pre ∧ Jx ys W) ?_ W (fun W' h => hR W W' hW h) ⟨[], rfl, h0⟩).mono ?_
  · rintro pre x W1 ⟨ys, rfl, hj⟩ hlen hx
    obtain ⟨fn, tmps, assign, body, hy, hRd⟩ := hY ys ⟨x, by omega⟩ W1 hj (by simpa using hlen)
    refine ⟨fn, tmps, assign, body, hy, hRd.mono ?_⟩
    rintro e W' (⟨h1, h2, h3⟩ | ⟨h1, h2⟩)
    · exact .inl ⟨h1, ⟨_, by simp, h2⟩, h3⟩
    · exact .inr ⟨h1, ⟨_, by simp, h2⟩⟩
  · rintro e W' ⟨h1, ⟨_, rfl, ys, h2, h3⟩ | ⟨pre, _, ys, h2, h3⟩⟩
    · exact ⟨h1, .inl ⟨ys, h2, h3⟩⟩
    · exact ⟨h1, .inr ⟨ys, trivial, h3⟩⟩
end Go.Proofs.Ytnkgoaloigmmfaa
