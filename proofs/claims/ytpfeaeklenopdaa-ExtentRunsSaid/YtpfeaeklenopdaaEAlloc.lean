/-
  extent.Alloc: the walk.
-/
import Derived.Test.YtpfeaeklenopdaaEGap
namespace Go.Proofs.Ytpfeaeklenopdaa
open Go.RowKit Go.Shelf

/-- n bits from a on are set -/
def setRun (l : List UInt8) (a : Nat) : Nat → List UInt8
  | 0 => l
  | j + 1 => setB (setRun l a j) (a + j) true
theorem setRun_len (l : List UInt8) (a : Nat) : ∀ j, (setRun l a j).length = l.length
  | 0 => rfl
  | j + 1 => by rw [setRun, setB_len, setRun_len l a j]
def allocO (l : List UInt8) (x y n : Int) : Except Int (Nat × List UInt8) :=
  if validB l x y && decide (1 ≤ n) then
    match gapS l x.toNat y.toNat n.toNat with
    | none => .error 13
    | some a => .ok (a, setRun l a n.toNat)
  else .error 1
def AllocP (w : World) (o : Except Int (Nat × List UInt8)) (e : Ending) (w' : World) : Prop :=
  match o with
  | .error c => e = .returned (.tuple #[.int .i64 0, .slice none 0 0, .int .i64 c]) ∧ w.grownBy w' none
  | .ok p => ∃ v', e = .returned (.tuple #[.int .i64 (p.1 : Int), v', .int .i64 0]) ∧ Own w' w.heap.size v' p.2 ∧ w.grownBy w' none
theorem gapS_spec {l : List UInt8} {f t n a : Nat} (h : gapS l f t n = some a) : f ≤ a ∧ a + n ≤ t ∧ findL l a (a + n) true = [] := by
  unfold gapS at h
  have h1 := List.mem_of_find?_eq_some h
  have h2 := List.find?_some h
  rw [List.mem_range'_1] at h1
  unfold okG at h2
  simp only [Bool.and_eq_true, decide_eq_true_eq, List.isEmpty_iff] at h2
  exact ⟨h1.1, h2.1, h2.2⟩
set_option maxRecDepth 100000 in
set_option maxHeartbeats 2000000 in
theorem alloc_any (v : Value) (l : List UInt8) (x y n : Int) (w : World) (hv : Rd w v l) (hl : l.length ≤ 1000000) (hn1 : -9223372036854775808 ≤ n) (hn2 : n ≤ 9223372036854775807) :
    Calls Try.prog 22 #[v, .int .i64 x, .int .i64 y, .int .i64 n] w (AllocP w (allocO l x y n)) := by
  have hs := valid_any v l x y w hv hl
  unfold allocO
  by_cases hb : validB l x y = true
  · rw [hb] at hs ⊢
    by_cases hn : 1 ≤ n
    · rw [show (true && decide (1 ≤ n)) = true by simp [hn], if_pos rfl]
      obtain ⟨f, t, rfl, rfl, hft, ht⟩ := validB_spec hb
      obtain ⟨m, rfl⟩ := Int.eq_ofNat_of_zero_le (show 0 ≤ n by omega)
      simp only [Int.toNat_natCast]
      have hm : 1 ≤ m := by omega
      have HS := Lib.hid hs
      have HG := Lib.hid (gap_any v l f t m w hft ht hm hn2 hv hl)
      have hnl : ¬ (m : Int) < 1 := by omega
      cases hg : gapS l f t m with
      | none =>
        rw [hg] at HG
        obtain ⟨a, c, rfl⟩ := hv.len
        clear hs hb hv hg hn hn1
        go_enter Try.func22, Try.ntmps22
        go_wp2_with (first | (go_at_call 35; refine HS.out.mono ?_; rintro e w' ⟨rfl, rfl⟩) | (go_at_call 44; refine HG.out.mono ?_; go_must (rintro e w1 ⟨rfl, hg1⟩; have HG1 := Lib.hid hg1; clear hg1; simp only [Option.getD_none, Option.isSome_none])))
        refine bodyPost_ret (v := .tuple #[.int .i64 0, .slice none 0 0, .int .i64 13]) (by simp [results, Try.results22, go_sem]) rfl ?_
        exact ⟨rfl, HG1.out⟩
      | some at0 =>
        rw [hg] at HG
        obtain ⟨ha1, ha2, _⟩ := gapS_spec hg
        have HC := Lib.hid (fun W (h : w.grownBy W none) => clone_any v l W (hv.grown h) (by omega))
        have HA := Lib.hid (show at0 + m ≤ 8 * l.length by omega)
        have haI : (at0 : Int) + (m : Int) ≤ 8000000 := by omega
        have HL := Lib.hid hl
        obtain ⟨a, c, rfl⟩ := hv.len
        clear hs hb hv hg hn hn1 ha1 ha2 hl ht hft
        go_enter Try.func22, Try.ntmps22
        go_wp2_with (first | (go_at_call 35; refine HS.out.mono ?_; rintro e w' ⟨rfl, rfl⟩) | (go_at_call 44; refine HG.out.mono ?_; go_must (rintro e w1 ⟨rfl, hg1⟩; have HG1 := Lib.hid hg1; clear hg1; simp only [Option.getD_some, Option.isSome_some])) | (go_at_call 39; refine (HC.out _ HG1.out).mono ?_; go_must (rintro e w2 ⟨v2, rfl, ho2, hg2⟩; have HO2 : Hid (Own w2 w.heap.size v2 l) := Lib.hid (ho2.mono HG1.out.size); have HG2 : Hid (w.grownBy w2 none) := Lib.hid (gb_same HG1.out hg2); clear ho2 hg2)))
        go_loopw [35] (fun i wr => ∃ k : Nat, k ≤ m ∧ i = .int .i64 (k : Int) ∧ Hid (Own wr w.heap.size v2 (setRun l at0 k)) ∧ Hid (w.grownBy wr none)) (fun i _ => m - (intOf i).toNat)
        case atStart => exact ⟨0, Nat.zero_le _, rfl, HO2, HG2⟩
        case round =>
          obtain ⟨k, hk, rfl, HO, HGR⟩ := hrel
          by_cases hlt : k < m
          · have hkI : (k : Int) < (m : Int) := by omega
            have hp := put_any v2 (setRun l at0 k) (at0 + k) w.heap.size true wr HO.out (by rw [setRun_len]; exact HL.out) (by rw [setRun_len]; have := HA.out; omega)
            rw [Int.natCast_add] at hp
            have HP := Lib.hid hp
            clear hp
            go_wp2_with (go_at_call 40; refine HP.out.mono ?_; go_must (rintro e w3 ⟨⟨u, rfl⟩, ho3, hg3⟩; have HO3 : Hid (Own w3 w.heap.size v2 (setRun l at0 (k + 1))) := Lib.hid ho3; have HG3 : Hid (w.grownBy w3 none) := Lib.hid (gb_trans HGR.out hg3 (fun j hj => .inr (HO.out.lt j hj).1)); clear ho3 hg3))
            go_roundw
            case rel => exact ⟨k + 1, by omega, by go_num, HO3, HG3⟩
            case measure => simp [intOf]; omega
          · obtain rfl : k = m := by omega
            go_wp2
            refine bodyPost_ret (v := .tuple #[.int .i64 (at0 : Int), v2, .int .i64 0]) (by simp [results, Try.results22, go_sem]) rfl ?_
            exact ⟨_, rfl, HO.out, HGR.out⟩
    · rw [show (true && decide (1 ≤ n)) = false by simp [hn], if_neg (by simp)]
      have HS := Lib.hid hs
      obtain ⟨a, c, rfl⟩ := hv.len
      have hnl : n < 1 := by omega
      clear hs hb hv
      go_enter Try.func22, Try.ntmps22
      go_wp2_with (go_at_call 35; refine HS.out.mono ?_; rintro e w' ⟨rfl, rfl⟩)
      refine bodyPost_ret (v := .tuple #[.int .i64 0, .slice none 0 0, .int .i64 1]) (by simp [results, Try.results22, go_sem]) rfl ?_
      exact ⟨rfl, gb_refl _ _⟩
  · have hb2 : validB l x y = false := by simpa using hb
    rw [hb2] at hs ⊢
    rw [Bool.false_and, if_neg (by simp)]
    have HS := Lib.hid hs
    obtain ⟨a, c, rfl⟩ := hv.len
    clear hs hb hb2 hv
    go_enter Try.func22, Try.ntmps22
    go_wp2_with (go_at_call 35; refine HS.out.mono ?_; rintro e w' ⟨rfl, rfl⟩)
    refine bodyPost_ret (v := .tuple #[.int .i64 0, .slice none 0 0, .int .i64 1]) (by simp [results, Try.results22, go_sem]) rfl ?_
    exact ⟨rfl, gb_refl _ _⟩
end Go.Proofs.Ytpfeaeklenopdaa
