/-
  law.awake: the walk.
-/
import Derived.Test.YtfdkmncjcehdkaaURecs
namespace Go.Proofs.Ytfdkmncjcehdkaa
open Go.RowKit

theorem Rd.lit' (w : World) (cs : Array Value) (l : List UInt8) (n : Nat) (hcs : cs.toList = bvs l) (hn : l.length = n) (hm : n ≤ maxLen) : Rd (w.alloc (.cells cs 5)) (.slice (some ⟨w.heap.size, 0, none⟩) n n) l := Rd.lit w cs l n hcs hn hm
theorem aw_rec : putAt [1, 2, 3] 1 [7, 8] = [1, 7, 8] ∧ sub [1, 2, 3] 1 3 = [2, 3] ∧ recL [1, 7, 3] [((1 : Int), (3 : Int), [2, 3])] = [1, 2, 3] ∧ okAll [((1 : Int), (3 : Int), [2, 3])] = true := by decide +kernel
set_option maxRecDepth 100000 in
set_option maxHeartbeats 2000000 in
theorem awake_any (w : World) : Calls Try.prog 9 #[] w (BoolQ true w) := by
  obtain ⟨w1, hw1⟩ : ∃ w1, w.alloc (.cells #[.int .u8 1, .int .u8 2, .int .u8 3] 5) = w1 := ⟨_, rfl⟩
  have h1 : Rd w1 (.slice (some ⟨w.heap.size, 0, none⟩) 3 3) [1, 2, 3] := by rw [← hw1]; exact Rd.lit' w _ [1, 2, 3] 3 rfl rfl (by simp [maxLen])
  have hg1 : w.grownBy w1 none := by rw [← hw1]; exact gb_alloc _ _ _
  have HN := Lib.hid (new_any _ [1, 2, 3] w1 h1 (by simp))
  have HG1 := Lib.hid hg1
  have HW1 := Lib.hid hw1
  clear h1 hg1 hw1
  go_enter Try.func9, Try.ntmps9
  go_wp2_with fail
  rw [HW1.out]
  refine HN.out.mono ?_
  rintro e w2 ⟨g, F, iv, rfl, hg2, hl2, hF2⟩
  have HB := Lib.hid (begin_any hl2)
  have HG2 := Lib.hid hg2
  have HF2 := Lib.hid hF2
  clear hg2 hl2 hF2
  go_wp2_with fail
  refine HB.out.mono ?_
  rintro e w3 ⟨rfl, F3, iv3, rv3, ps3, hl3, hp3, hf3⟩
  obtain rfl : ps3 = [] := by cases ps3 with | nil => rfl | cons x xs => simp at hp3
  obtain ⟨w4, hw4⟩ : ∃ w4, w3.alloc (.cells #[.int .u8 7, .int .u8 8] 5) = w4 := ⟨_, rfl⟩
  have h4 : Rd w4 (.slice (some ⟨w3.heap.size, 0, none⟩) 2 2) [7, 8] := by rw [← hw4]; exact Rd.lit' w3 _ [7, 8] 2 rfl rfl (by simp [maxLen])
  have hg4 : w3.grownBy w4 none := by rw [← hw4]; exact gb_alloc _ _ _
  have hWR := write_any (hl3.grown hg4 (by simp)) 1 (b := [7, 8]) (bv := .slice (some ⟨w3.heap.size, 0, none⟩) 2 2) (.inl h4) (by simp) (fun _ k hk hF => by have := hl3.lt k hF; simp only [Value.ownBlock, Option.some.injEq] at hk; omega) (by simp) (by simp)
  rw [show ((1 : Nat) : Int) = 1 from rfl, aw_rec.1] at hWR
  have HWR := Lib.hid hWR
  have HW4 := Lib.hid hw4
  have HF3 := Lib.hid hf3
  have HF4 : Hid (Foot w3 w4 F3 F3) := Lib.hid (Foot.of_gb hg4 (by simp))
  clear hWR hw4 hf3 hl3 hp3 h4 hg4
  go_wp2_with fail
  rw [HW4.out]
  refine HWR.out.mono ?_
  rintro e w5 ⟨rfl, F5, iv5, rv5, ps5, hl5, hp5, hf5⟩
  have e5 : ps5.map (·.1) = [((1 : Int), (3 : Int), [2, 3])] := hp5.trans (by decide +kernel)
  have hrc := records_any hl5 (by have := congrArg List.length e5; simp at this; omega) (fun p hp => by
    have h := List.mem_map_of_mem (f := (·.1)) hp
    rw [e5] at h
    simp at h
    rw [h]; simp)
  rw [e5] at hrc
  have HRC := Lib.hid hrc
  have HF5 := Lib.hid hf5
  clear hl5 hp5 hf5 e5 hrc
  go_wp2_with fail
  refine HRC.out.mono ?_
  rintro e w6 ⟨v6, ps6, rfl, hr6, hp6, hg6, _, _⟩
  obtain ⟨p, rfl⟩ : ∃ p, ps6 = [p] := by
    match ps6, hp6 with
    | [p], _ => exact ⟨p, rfl⟩
    | [], h => simp at h
    | _ :: _ :: _, h => simp at h
  obtain ⟨a6, c6, rfl⟩ := hr6.1.len
  obtain ⟨gb, off, rfl, q0, q1, _⟩ := hr6.1.at (i := 0) rfl
  have hp : p.1 = ((1 : Int), (3 : Int), [2, 3]) := by simpa using hp6
  rw [hp] at q0 q1
  simp only [Nat.zero_mul, Nat.add_zero] at q0 q1
  obtain ⟨w7, hw7⟩ : ∃ w7, w6.alloc (.cells #[.int .u8 1, .int .u8 7, .int .u8 3] 5) = w7 := ⟨_, rfl⟩
  have h7 : Rd w7 (.slice (some ⟨w6.heap.size, 0, none⟩) 3 3) [1, 7, 3] := by rw [← hw7]; exact Rd.lit' w6 _ [1, 7, 3] 3 rfl rfl (by simp [maxLen])
  have hg7 : w6.grownBy w7 none := by rw [← hw7]; exact gb_alloc _ _ _
  have hRV := recover_any _ _ [1, 7, 3] [p] w7 h7 (hr6.grown hg7) (by simp) (by simp)
  rw [hp6, aw_rec.2.2.1, aw_rec.2.2.2] at hRV
  have HRV := Lib.hid hRV
  have HW7 := Lib.hid hw7
  have HG7 := Lib.hid hg7
  have HG6 := Lib.hid hg6
  have q0' := hg7.cell q0 (by simp)
  have q1' := hg7.cell q1 (by simp)
  clear hRV hw7 hg7 hg6 h7 hp6 hp q0 q1 hr6
  go_wp2_with fail
  rw [HW7.out]
  refine HRV.out.mono ?_
  rintro e w8 ⟨v8, er, rfl, hg8, hok, _⟩
  obtain ⟨rfl, ho8⟩ := hok rfl
  obtain ⟨a8, c8, rfl⟩ := ho8.rd.len
  have hts : (convert 22 9 (.slice a8 3 c8)).run Try.prog w8 = .ok (.string { data := #[1, 2, 3] }) w8 := run_toString w8 _ _ ho8.rd
  have r0 := hg8.cell q0' (by simp)
  have r1 := hg8.cell q1' (by simp)
  have HG8 := Lib.hid hg8
  clear hg8 hok ho8 q0' q1'
  go_wp2_with fail
  go_ret
  exact ⟨rfl, gb_same HG1.out (gb_same ((HF3.out.trans (HF4.out.trans HF5.out)).gb HG2.out HF2.out) (gb_same HG6.out (gb_same HG7.out HG8.out)))⟩
end Go.Proofs.Ytfdkmncjcehdkaa
