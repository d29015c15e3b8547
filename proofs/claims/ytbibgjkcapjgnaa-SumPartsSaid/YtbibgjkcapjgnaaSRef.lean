/-
  ref.Eight, ref.Of, ref.Answer: the walks.
-/
import Derived.Test.YtbibgjkcapjgnaaSOf
import Derived.Test.YtbibgjkcapjgnaaRow
namespace Go.Proofs.Ytbibgjkcapjgnaa
open Go.RowKit

def EInv (w : World) (n : Nat) (x b k : Value) (wr : World) : Prop :=
  ∃ i : Nat, i ≤ 8 ∧ k = .int .i64 (i : Int) ∧ x = .int .u64 ((n / 256 ^ i : Nat) : Int) ∧ Own wr w.heap.size b ((eight n).take i) ∧ w.grownBy wr none

def EightPost (w : World) (n : Nat) (e : Ending) (w' : World) : Prop := ∃ v, e = .returned v ∧ Rd w' v (eight n) ∧ w.grownBy w' none

theorem div_lt64 {n : Nat} (i : Nat) (hn : n < 18446744073709551616) : n / 256 ^ i < 18446744073709551616 := Nat.lt_of_le_of_lt (Nat.div_le_self _ _) hn
theorem div_next (n i : Nat) : n / 256 ^ (i + 1) = n / 256 ^ i / 256 := by rw [Nat.pow_succ, Nat.div_div_eq_div_mul]
theorem bv_rem {x : Nat} : Value.int .u8 ((x : Int) % 256 % 256) = bv (UInt8.ofNat x) := by unfold bv; rw [UInt8.toNat_ofNat']; congr 1; omega
theorem bv_rem' {x : Nat} : Value.int .u8 ((x : Int) % 256) = bv (UInt8.ofNat x) := by unfold bv; rw [UInt8.toNat_ofNat']; congr 1

set_option maxRecDepth 100000 in
set_option maxHeartbeats 400000 in
theorem eight_any (n : Nat) (w : World) (hn : n < 18446744073709551616) :
    Calls Try.prog 25 #[.int .u64 (n : Int)] w (EightPost w n) := by
  have HN := Lib.hid hn
  clear hn
  go_enter Try.func25, Try.ntmps25
  go_wp2
  go_loopw [0, 3, 4] (fun x b k wr => EInv w n x b k wr) (fun _ _ k _ => 8 - (intOf k).toNat)
  case atStart => exact ⟨0, Nat.zero_le _, rfl, by simp, Own.nil _ _, gb_refl _ _⟩
  case round =>
    obtain ⟨i, hi, rfl, rfl, ho, hg⟩ := hrel
    by_cases hlt : i < 8
    · have HS := Lib.hid (eight_take n i hlt)
      have HD := Lib.hid (div_next n i)
      have hx := div_lt64 i HN.out
      have hl : ((eight n).take i).length ≤ 8 := by simp; omega
      generalize n / 256 ^ i = x at *
      generalize (eight n).take i = l at *
      have hsz := hg.size
      go_wp2_with (at_builtin; refine app_bytes rfl _ _ rfl w.heap.size u3 _ l [UInt8.ofNat x] rfl rfl (ho.grown (gb_alloc _ _ _)) (Rd.litv _ _ _ _ (by first | exact bv_rem | exact bv_rem')) (by simp; omega) (by simp; omega) ?_; intro v' w1 ho1 hg1 hf1)
      exact ⟨⟨i + 1, by omega, by go_num, by rw [HD.out]; rfl, by rw [HS.out]; exact ho1, gb_trans (gb_same hg (gb_alloc _ _ _)) hg1 (fun k hk => .inr (by have := (ho.lt k hk).1; omega))⟩, by simp [intOf]; omega⟩
    · obtain rfl : i = 8 := by omega
      go_wp2
      go_ret
      exact ⟨_, rfl, ho.rd, hg⟩

theorem un_nat (n : Nat) (h : n < 18446744073709551616) : un (n : Int) = n := by unfold un; omega

def NatPost (w : World) (n : Nat) (e : Ending) (w' : World) : Prop := e = .returned (.int .u64 (n : Int)) ∧ w.grownBy w' none
def IntPost (w : World) (n : Int) (e : Ending) (w' : World) : Prop := e = .returned (.int .i64 n) ∧ w.grownBy w' none

set_option maxRecDepth 100000 in
theorem rof_any (v : Value) (l : List UInt8) (w : World) (hv : Rd w v l) :
    Calls Try.prog 13 #[v] w (NatPost w (ofL l)) := by
  have hs := hv.small
  have HF := Lib.hid (rfrom_any 125762890854254 v l w (by omega) hv)
  have HE := Lib.hid (eight_any l.length w (by omega))
  have hlt := fromL_lt (h := 125762890854254) (by omega) l
  have HR : Hid (fromL (fromL 125762890854254 l) (eight l.length) = ofL l) := Lib.hid (by unfold ofL numL; rw [un_nat _ (by omega)])
  obtain ⟨a, c, rfl⟩ := hv.len
  clear hv
  go_enter Try.func13, Try.ntmps13
  go_wp2_with fail
  refine HF.out.mono ?_; rintro e w' ⟨rfl, rfl⟩
  go_wp2_with fail
  refine HE.out.mono ?_; rintro e w1 ⟨v1, rfl, hr1, hg1⟩
  have HG := Lib.hid (rfrom_any (fromL 125762890854254 l) v1 (eight l.length) w1 hlt hr1)
  clear hr1
  go_wp2_with fail
  refine HG.out.mono ?_; rintro e w2 ⟨rfl, rfl⟩
  go_wp2
  go_ret
  exact ⟨congrArg (fun n : Nat => Ending.returned (.int .u64 (n : Int))) HR.out, hg1⟩

theorem wrap_un (z : Int) : IntKind.u64.wrap z = (un z : Int) := by rw [IntKind.wrap_u64, un_cast]

theorem numL_def (h : Nat) (n : Int) : numL h n = fromL h (eight (un n)) := by unfold numL; exact Eq.refl _
def numsL (h : Nat) (zs : List Int) : Nat := zs.foldl numL h
theorem numsL_lt {h : Nat} (hh : h < 18446744073709551616) : ∀ (zs : List Int), numsL h zs < 18446744073709551616 := by
  intro zs
  induction zs generalizing h with
  | nil => exact hh
  | cons z zs ih => exact ih (numL_lt hh z)
theorem numsL_take {h : Nat} {zs : List Int} {i : Nat} (hi : i < zs.length) : numsL h (zs.take (i + 1)) = fromL (numsL h (zs.take i)) (eight (un zs[i])) := by
  rw [List.take_succ_eq_append_getElem hi]; unfold numsL; rw [List.foldl_append, List.foldl_cons, List.foldl_nil, numL_def]

theorem numsL_cons (h : Nat) (z : Int) (zs : List Int) : numsL h (z :: zs) = numsL (numL h z) zs := List.foldl_cons ..
theorem numsL_nil (h : Nat) : numsL h [] = h := List.foldl_nil
theorem numsL_four (h : Nat) (a b c d : Int) : numsL h (List.take 4 [a, b, c, d]) = numL (numL (numL (numL h a) b) c) d := by
  rw [show List.take 4 [a, b, c, d] = [a, b, c, d] from rfl, numsL_cons, numsL_cons, numsL_cons, numsL_cons, numsL_nil]

def AInv (w : World) (zs : List Int) (h k : Value) (wr : World) : Prop :=
  ∃ i : Nat, i ≤ 4 ∧ k = .int .i64 (i : Int) ∧ h = .int .u64 ((numsL 125762890854254 (zs.take i) : Nat) : Int) ∧ w.grownBy wr none

set_option maxRecDepth 100000 in
set_option maxHeartbeats 1000000 in
theorem ranswer_any (d t a : Int) (v : Value) (l : List UInt8) (w : World) (hv : Rd w v l) :
    Calls Try.prog 15 #[.int .i64 d, .int .i64 t, .int .i64 a, v] w (IntPost w (answer d t a l)) := by
  have hs := hv.small
  obtain ⟨ad, c, rfl⟩ := hv.len
  have HV := Lib.hid hv
  clear hv
  obtain ⟨w0, hw0⟩ : ∃ W, W = w.alloc (Obj.cells #[.int .i64 d, .int .i64 t, .int .i64 a, .int .i64 (l.length : Int)] 3) := ⟨_, rfl⟩
  have HB : Hid (w0.heap[w.heap.size]? = some (Obj.cells #[.int .i64 d, .int .i64 t, .int .i64 a, .int .i64 (l.length : Int)] 3)) := Lib.hid (by rw [hw0]; exact heap_at_alloc _ _)
  have HG0 : Hid (w.grownBy w0 none) := Lib.hid (by rw [hw0]; exact gb_alloc _ _ _)
  have HW := Lib.hid hw0
  clear hw0
  go_enter Try.func15, Try.ntmps15
  go_wp2
  rw [← HW.out]
  go_loopw [9, 11] (fun h k wr => AInv w0 [d, t, a, (l.length : Int)] h k wr) (fun _ k _ => 4 - (intOf k).toNat)
  case atStart => exact ⟨0, Nat.zero_le _, rfl, rfl, gb_refl _ _⟩
  case round =>
    obtain ⟨i, hi, rfl, rfl, hg⟩ := hrel
    by_cases hlt : i < 4
    · obtain ⟨z, hz⟩ : ∃ z, [d, t, a, (l.length : Int)][i] = z := ⟨_, rfl⟩
      have hcell : wr.cell? ⟨w.heap.size, i, none⟩ = some (.int .i64 z) := by
        rw [cell_row (blk_kept HB.out hg), ← hz]
        match i, hlt with
        | 0, _ => rfl
        | 1, _ => rfl
        | 2, _ => rfl
        | 3, _ => rfl
      have HS : Hid (numsL 125762890854254 (List.take (i + 1) [d, t, a, (l.length : Int)]) = fromL (numsL 125762890854254 (List.take i [d, t, a, (l.length : Int)])) (eight (un z))) := Lib.hid (by rw [← hz]; exact numsL_take hlt)
      have hh := numsL_lt (h := 125762890854254) (by omega) (List.take i [d, t, a, (l.length : Int)])
      have HZ := Lib.hid hz
      have HG := Lib.hid hg
      clear hz hg
      go_wp2_with fail
      rw [wrap_un]
      refine (eight_any _ _ (un_lt z)).mono ?_
      rintro e w1 ⟨v1, rfl, hr1, hg1⟩
      have HF := Lib.hid (rfrom_any _ v1 _ w1 hh hr1)
      have HG1 := Lib.hid hg1
      clear hr1 hg1
      go_wp2_with fail
      refine HF.out.mono ?_
      rintro e w2 ⟨rfl, rfl⟩
      go_wp2
      exact ⟨⟨i + 1, by omega, by go_num, by rw [HS.out], gb_same HG.out HG1.out⟩, by simp [intOf]; omega⟩
    · obtain rfl : i = 4 := by omega
      have hh := numsL_lt (h := 125762890854254) (by omega) (List.take 4 [d, t, a, (l.length : Int)])
      have HF := Lib.hid (rfrom_any _ _ l wr hh (HV.out.grown (gb_same HG0.out hg)))
      have HE : Hid (wrap64 ((fromL (numsL 125762890854254 (List.take 4 [d, t, a, (l.length : Int)])) l : Nat) : Int) = answer d t a l) := Lib.hid (by rw [wrap_sg (fromL_lt hh l), numsL_four]; unfold answer ansL; exact Eq.refl _)
      have HG := Lib.hid hg
      clear hg
      go_wp2_with fail
      refine HF.out.mono ?_
      rintro e w2 ⟨rfl, rfl⟩
      go_wp2
      go_ret
      exact ⟨congrArg (fun n => Ending.returned (.int .i64 n)) HE.out, gb_same HG0.out HG.out⟩
end Go.Proofs.Ytbibgjkcapjgnaa
