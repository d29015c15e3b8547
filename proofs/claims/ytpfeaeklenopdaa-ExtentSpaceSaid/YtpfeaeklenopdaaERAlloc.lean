/-
  The reference's clear and Alloc: the walks.
-/
import Derived.Test.YtpfeaeklenopdaaEAlloc
namespace Go.Proofs.Ytpfeaeklenopdaa
open Go.RowKit Go.Shelf

def allocG (l : List UInt8) (f t m : Nat) : Except Int (Nat × List UInt8) := match gapS l f t m with | none => .error 13 | some a => .ok (a, setRun l a m)
theorem allocO_ok {l : List UInt8} {f t m : Nat} (hb : validB l f t = true) (hm : 1 ≤ m) : allocO l f t m = allocG l f t m := by
  unfold allocO allocG
  rw [hb, show (true && decide (1 ≤ (m : Int))) = true by simp; omega, if_pos rfl]
  simp only [Int.toNat_natCast]
  cases gapS l f t m <;> rfl
theorem allocG_some {l : List UInt8} {f t m a : Nat} (h : gapS l f t m = some a) : allocG l f t m = .ok (a, setRun l a m) := by unfold allocG; rw [h]
theorem allocG_none {l : List UInt8} {f t m : Nat} (h : gapS l f t m = none) : allocG l f t m = .error 13 := by unfold allocG; rw [h]
theorem allocO_bad {l : List UInt8} {x y n : Int} (h : validB l x y = false ∨ n < 1) : allocO l x y n = .error 1 := by
  unfold allocO
  rw [if_neg]
  rcases h with h | h
  · rw [h]; simp
  · simp; intro _; omega
theorem okG_all {l : List UInt8} {t n a : Nat} (h1 : a + n ≤ t) (h2 : findL l a (a + n) true = []) : okG l t n a = true := by
  unfold okG; rw [h2]; simp [h1]
set_option maxRecDepth 100000 in
set_option maxHeartbeats 1000000 in
theorem rclr_any (v : Value) (l : List UInt8) (k t m : Nat) (w : World) (hv : Rd w v l) (hl : l.length ≤ 1000000) (hkt : k ≤ t) (ht : t ≤ 8 * l.length) (hm2 : (m : Int) ≤ 9223372036854775807) :
    Calls Try.prog 45 #[v, .int .i64 (k : Int), .int .i64 (t : Int), .int .i64 (m : Int)] w fun e w' => e = .returned (.bool (okG l t m k)) ∧ w = w' := by
  have HG := Lib.hid (fun (j : Nat) (hj : (j : Int) ≤ 9223372036854775807) => rget_any v l j w hv hl (by omega) hj)
  have htI : (t : Int) ≤ 8000000 := by omega
  have hktI : (k : Int) ≤ (t : Int) := by omega
  obtain ⟨a, c, rfl⟩ := hv.len
  clear hv
  by_cases hlt : k + m ≤ t
  · have hkm : ¬ (m : Int) > (t : Int) - (k : Int) := by omega
    have hkm2 : (k : Int) + (m : Int) ≤ 8000000 := by omega
    clear hl
    go_enter Try.func45, Try.ntmps45
    go_wp2
    go_loopw [9] (fun i wr => ∃ j : Nat, k ≤ j ∧ j ≤ k + m ∧ i = .int .i64 (j : Int) ∧ findL l k j true = [] ∧ w = wr) (fun i _ => k + m - (intOf i).toNat)
    case atStart => exact ⟨k, Nat.le_refl _, Nat.le_add_right _ _, rfl, findL_nil _ _ _, rfl⟩
    case round =>
      obtain ⟨j, hj1, hj2, rfl, hf, rfl⟩ := hrel
      by_cases hjm : j < k + m
      · have hjI : (j : Int) < (k : Int) + (m : Int) := by omega
        have hg := HG.out j (by omega)
        unfold bitI at hg
        simp only [Int.toNat_natCast, show decide (0 ≤ (j : Int)) = true by simp, Bool.true_and] at hg
        have hfs := findL_snoc (l := l) (f := k) (k := j) (on := true) hj1
        cases hb : bitN l j
        · rw [hb] at hg hfs
          rw [if_neg (by simp), hf] at hfs
          have HG2 := Lib.hid hg
          have HFS := Lib.hid hfs
          clear hg hfs hb hf
          go_wp2_with (go_at_call 19; refine HG2.out.mono ?_; rintro e w' ⟨rfl, rfl⟩)
          go_roundw
          case rel => exact ⟨j + 1, by omega, by omega, by go_num, HFS.out, trivial⟩
          case measure => simp [intOf]; omega
        · have ho : okG l t m k = false := okG_set (x := j) hj1 hjm hb
          rw [hb] at hg
          have HO := Lib.hid ho
          have HG2 := Lib.hid hg
          clear hg hfs hb hf ho
          go_wp2_with (go_at_call 19; refine HG2.out.mono ?_; rintro e w' ⟨rfl, rfl⟩)
          go_ret
          exact ⟨by rw [HO.out]; rfl, rfl⟩
      · have hjE : j = k + m := by omega
        subst hjE
        have hjI : ¬ ((k + m : Nat) : Int) < (k : Int) + (m : Int) := by omega
        have HO := Lib.hid (okG_all hlt hf)
        clear hf
        go_wp2
        go_ret
        exact ⟨by rw [HO.out]; rfl, rfl⟩
  · have hkm : (m : Int) > (t : Int) - (k : Int) := by omega
    rw [okG_far (by omega)]
    clear hl
    go_enter Try.func45, Try.ntmps45
    go_wp2
    go_ret
    exact ⟨rfl, rfl⟩
set_option maxRecDepth 100000 in
set_option maxHeartbeats 2000000 in
theorem ralloc_any (v : Value) (l : List UInt8) (x y n : Int) (w : World) (hv : Rd w v l) (hl : l.length ≤ 1000000) (hn1 : -9223372036854775808 ≤ n) (hn2 : n ≤ 9223372036854775807) :
    Calls Try.prog 23 #[v, .int .i64 x, .int .i64 y, .int .i64 n] w (AllocP w (allocO l x y n)) := by
  have hs := rvalid_any v l x y w hv hl
  by_cases hb : validB l x y = true
  · rw [hb] at hs
    by_cases hn : 1 ≤ n
    · obtain ⟨f, t, rfl, rfl, hft, ht⟩ := validB_spec hb
      obtain ⟨m, rfl⟩ := Int.eq_ofNat_of_zero_le (show 0 ≤ n by omega)
      have hm : 1 ≤ m := by omega
      rw [allocO_ok hb hm]
      have HS := Lib.hid hs
      have HCL := Lib.hid (fun (k : Nat) (hk : k ≤ t) => rclr_any v l k t m w hv hl hk ht hn2)
      have hnl : ¬ (m : Int) < 1 := by omega
      have htI : (t : Int) ≤ 8000000 := by omega
      have HV := Lib.hid hv
      have HL := Lib.hid hl
      have HM := Lib.hid hm
      have HT := Lib.hid ht
      have HFT := Lib.hid hft
      obtain ⟨a, c, rfl⟩ := hv.len
      clear hs hb hv hn hn1 hm hl ht hft
      go_enter Try.func23, Try.ntmps23
      go_wp2_with (go_at_call 37; refine HS.out.mono ?_; rintro e w' ⟨rfl, rfl⟩)
      go_loopw [11] (fun i wr => ∃ k : Nat, f ≤ k ∧ k ≤ t ∧ i = .int .i64 (k : Int) ∧ Hid (∀ b, f ≤ b → b < k → okG l t m b = false) ∧ w = wr) (fun i _ => t - (intOf i).toNat)
      case atStart => exact ⟨f, Nat.le_refl _, HFT.out, rfl, Lib.hid (fun b h1 h2 => by omega), rfl⟩
      case round =>
        obtain ⟨k, hk1, hk2, rfl, HNO, rfl⟩ := hrel
        by_cases hkt : k < t
        · have hktI : (k : Int) < (t : Int) := by omega
          have hc := HCL.out k hk2
          cases hok : okG l t m k
          · rw [hok] at hc
            have HC1 := Lib.hid hc
            have HN2 : Hid (∀ b, f ≤ b → b < k + 1 → okG l t m b = false) := Lib.hid (fun b h1 h2 => by
              by_cases hbk : b < k
              · exact HNO.out b h1 hbk
              · obtain rfl : b = k := by omega
                exact hok)
            clear hc hok
            go_wp2_with (go_at_call 45; refine HC1.out.mono ?_; rintro e w' ⟨rfl, rfl⟩)
            go_roundw
            case rel => exact ⟨k + 1, by omega, by omega, by go_num, HN2, trivial⟩
            case measure => simp [intOf]; omega
          · rw [hok] at hc
            have HC1 := Lib.hid hc
            have hkm : k + m ≤ t ∧ findL l k (k + m) true = [] := by
              unfold okG at hok
              simp only [Bool.and_eq_true, decide_eq_true_eq, List.isEmpty_iff] at hok
              exact hok
            have HO3 : Hid (allocG l f t m = .ok (k, setRun l k m)) := Lib.hid (allocG_some (gapS_some hk1 HM.out hkm.1 hkm.2 HNO.out))
            have hkI : (k : Int) + (m : Int) ≤ 8000000 := by omega
            have HKM := Lib.hid hkm.1
            clear hc hok hkm
            go_wp2_with (go_at_call 45; refine HC1.out.mono ?_; rintro e w' ⟨rfl, rfl⟩)
            go_loopw [12, 13] (fun u i wr => ∃ j : Nat, j ≤ m ∧ i = .int .i64 ((k : Int) + (j : Int)) ∧ Hid (Rd wr u (setRun l k j)) ∧ Hid (1 ≤ j → Own wr w.heap.size u (setRun l k j)) ∧ Hid (w.grownBy wr none)) (fun _ i _ => k + m - (intOf i).toNat)
            case atStart => exact ⟨0, Nat.zero_le _, by simp, HV, Lib.hid (fun h => by omega), Lib.hid (gb_refl _ _)⟩
            case round =>
              obtain ⟨j, hj, rfl, HR, HO, HG⟩ := hrel
              by_cases hjm : j < m
              · have hjI : (k : Int) + (j : Int) < (k : Int) + (m : Int) := by omega
                have hjI2 : (k : Int) + (j : Int) ≤ 8000000 := by omega
                have hp := rput_any _ (setRun l k j) (k + j) true wr HR.out (by rw [setRun_len]; exact HL.out) (by rw [setRun_len]; have := HKM.out; have := HT.out; omega)
                rw [Int.natCast_add] at hp
                have HP := Lib.hid hp
                obtain ⟨au, cu, hu⟩ := HR.out.len
                subst hu
                clear hp
                go_wp2_with (go_at_call 41; refine HP.out.mono ?_; go_must (rintro e w6 ⟨v6, rfl, ho6, hg6⟩; have HO6 : Hid (Own w6 w.heap.size v6 (setRun l k (j + 1))) := Lib.hid (ho6.mono HG.out.size); have HG6 : Hid (w.grownBy w6 none) := Lib.hid (gb_same HG.out hg6); clear ho6 hg6))
                go_roundw
                case rel => exact ⟨j + 1, by omega, by rw [Int.natCast_add]; congr 1, Lib.hid HO6.out.rd, Lib.hid (fun _ => HO6.out), HG6⟩
                case measure => simp [intOf]; omega
              · obtain rfl : j = m := by omega
                have HOW := Lib.hid (HO.out HM.out)
                go_wp2
                refine bodyPost_ret (v := .tuple #[.int .i64 (k : Int), u12, .int .i64 0]) (by simp [results, Try.results23, go_sem]) rfl ?_
                rw [HO3.out]
                exact ⟨_, rfl, HOW.out, HG.out⟩
        · obtain rfl : k = t := by omega
          have HO3 : Hid (allocG l f k m = .error 13) := Lib.hid (allocG_none (gapS_none HNO.out))
          go_wp2
          refine bodyPost_ret (v := .tuple #[.int .i64 0, .slice none 0 0, .int .i64 13]) (by simp [results, Try.results23, go_sem]) rfl ?_
          rw [HO3.out]
          exact ⟨rfl, gb_refl _ _⟩
    · rw [allocO_bad (.inr (by omega))]
      have HS := Lib.hid hs
      obtain ⟨a, c, rfl⟩ := hv.len
      have hnl : n < 1 := by omega
      clear hs hb hv
      go_enter Try.func23, Try.ntmps23
      go_wp2_with (go_at_call 37; refine HS.out.mono ?_; rintro e w' ⟨rfl, rfl⟩)
      refine bodyPost_ret (v := .tuple #[.int .i64 0, .slice none 0 0, .int .i64 1]) (by simp [results, Try.results23, go_sem]) rfl ?_
      exact ⟨rfl, gb_refl _ _⟩
  · have hb2 : validB l x y = false := by simpa using hb
    rw [hb2] at hs
    rw [allocO_bad (.inl hb2)]
    have HS := Lib.hid hs
    obtain ⟨a, c, rfl⟩ := hv.len
    clear hs hb hb2 hv
    go_enter Try.func23, Try.ntmps23
    go_wp2_with (go_at_call 37; refine HS.out.mono ?_; rintro e w' ⟨rfl, rfl⟩)
    refine bodyPost_ret (v := .tuple #[.int .i64 0, .slice none 0 0, .int .i64 1]) (by simp [results, Try.results23, go_sem]) rfl ?_
    exact ⟨rfl, gb_refl _ _⟩
end Go.Proofs.Ytpfeaeklenopdaa
