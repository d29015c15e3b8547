/-
  image.Count, image.size, image.cut, bytes.Clone, bytes.Equal, image.Page: the walks.
-/
import Derived.Test.YtnkgoaloigmmfaaCore
import Derived.Deep.QuietTactic
import Derived.BigQuiet
namespace Go.Proofs.Ytnkgoaloigmmfaa
open Go.RowKit

/-- the number of pages -/
def cntI (n : Int) : Int := if n ≤ 0 then 0 else (n - 1) / 128 + 1
/-- the bytes of a page of n bytes -/
def szN (n : Nat) (k : Int) : Nat := if k < 0 then 0 else min (n - k.toNat * 128) 128
/-- a page -/
def pg (l : List UInt8) (k : Int) : List UInt8 := if k < 0 then [] else (l.drop (k.toNat * 128)).take 128
theorem pg_len (l : List UInt8) (k : Int) : (pg l k).length = szN l.length k := by
  unfold pg szN
  split
  · rfl
  · simp [Nat.min_comm]
theorem szN_le (n : Nat) (k : Int) : szN n k ≤ 128 ∧ szN n k ≤ n := by
  unfold szN; split <;> omega
theorem szN_zero {n : Nat} {k : Int} (h : k < 0 ∨ cntI n ≤ k) : szN n k = 0 := by
  unfold szN cntI at *
  split <;> rename_i h1
  · rfl
  · rcases h with h | h
    · omega
    · split at h <;> omega
theorem szN_pos {n : Nat} {k : Int} (h0 : 0 ≤ k) (h : k < cntI n) : szN n k = min (n - k.toNat * 128) 128 ∧ 0 < szN n k ∧ k.toNat * 128 < n := by
  unfold szN cntI at *
  rw [if_neg (by omega)]
  split at h <;> omega
theorem cntI_nonneg (n : Int) : 0 ≤ cntI n := by unfold cntI; split <;> omega
theorem cntI_le (n : Int) (h : 0 ≤ n) : cntI n ≤ n := by unfold cntI; split <;> omega

theorem count_any (n : Int) (w : World) (h1 : -9223372036854775808 ≤ n) (h2 : n ≤ 9223372036854775807) :
    Calls Try.prog 12 #[.int .i64 n] w fun e w' => e = .returned (.int .i64 (cntI n)) ∧ w = w' := by
  by_cases h0 : n ≤ 0
  · go_enter Try.func12, Try.ntmps12
    go_wp2
    go_ret
    exact ⟨by unfold cntI; rw [if_pos h0]; rfl, rfl⟩
  · have h3 : 1 ≤ n := by omega
    go_enter Try.func12, Try.ntmps12
    go_wp2
    go_ret
    exact ⟨congrArg (fun z => Ending.returned (.int .i64 z)) (by unfold cntI; rw [if_neg (by omega)]), rfl⟩

theorem size_any (n : Nat) (k : Int) (w : World) (h2 : (n : Int) ≤ 9223372036854775807) (h3 : -9223372036854775808 ≤ k) (h4 : k ≤ 9223372036854775807) :
    Calls Try.prog 35 #[.int .i64 (n : Int), .int .i64 k] w fun e w' => e = .returned (.int .i64 (szN n k : Int)) ∧ w = w' := by
  have HC := Lib.hid (count_any n w (by omega) h2)
  by_cases h0 : k < 0
  · go_enter Try.func35, Try.ntmps35
    go_wp2
    go_ret
    exact ⟨by rw [szN_zero (.inl h0)]; rfl, rfl⟩
  · by_cases h1 : cntI n ≤ k
    · have hd : decide (cntI n ≤ k) = true := by simpa using h1
      have HZ := Lib.hid (szN_zero (n := n) (.inr h1))
      go_enter Try.func35, Try.ntmps35
      go_wp2_with (go_at_call 12; refine HC.out.mono ?_; rintro e w' ⟨rfl, rfl⟩)
      go_ret
      exact ⟨by rw [HZ.out]; rfl, rfl⟩
    · obtain ⟨e1, e2, e3⟩ := szN_pos (n := n) (k := k) (by omega) (by omega)
      have HZ := Lib.hid e1
      have h5 : k < cntI n := by omega
      have h6 : 0 ≤ k := by omega
      have h7 : k * 128 < n := by omega
      clear e1 e2 e3
      go_enter Try.func35, Try.ntmps35
      go_wp2_with (go_at_call 12; refine HC.out.mono ?_; rintro e w' ⟨rfl, rfl⟩)
      all_goals
        go_ret
        refine ⟨congrArg (fun z => Ending.returned (.int .i64 z)) ?_, rfl⟩
        rw [HZ.out]
        omega

/-- the value of a page in the memory of its image -/
def cutV : Value → Nat → Int → Value
  | .slice (some ⟨b, off, _⟩) _ _, n, k => if szN n k = 0 then .slice none 0 0 else .slice (some ⟨b, off + k.toNat * 128, none⟩) (szN n k) (szN n k)
  | _, _, _ => .slice none 0 0
theorem cutV_at (b off m c n : Nat) (k : Int) : cutV (.slice (some ⟨b, off, none⟩) m c) n k = if szN n k = 0 then .slice none 0 0 else .slice (some ⟨b, off + k.toNat * 128, none⟩) (szN n k) (szN n k) := rfl
theorem cutV_rd {w : World} {v : Value} {l : List UInt8} (h : Rd w v l) (k : Int) : Rd w (cutV v l.length k) (pg l k) := by
  have hl := pg_len l k
  rcases h with ⟨rfl, rfl⟩ | ⟨b, off, cap, rfl, h1, h2, h3⟩
  · refine .inl ⟨rfl, ?_⟩
    apply List.eq_nil_of_length_eq_zero
    rw [hl]; unfold szN; simp
  · rw [cutV_at]
    split
    · rename_i h0
      exact .inl ⟨rfl, List.eq_nil_of_length_eq_zero (by rw [hl, h0])⟩
    · have hle := szN_le l.length k
      refine .inr ⟨b, off + k.toNat * 128, szN l.length k, by rw [hl], by omega, by unfold maxLen at *; omega, fun j x hj => ?_⟩
      rw [Nat.add_assoc]
      apply h3
      unfold pg at hj
      split at hj
      · simp at hj
      · rw [List.getElem?_take] at hj
        split at hj
        · rw [List.getElem?_drop] at hj; exact hj
        · simp at hj
theorem sl_eq {a : Option Addr} {x y : Nat} (h : x = y) : Ending.returned (.slice a x x) = .returned (.slice a y y) := by rw [h]
set_option maxRecDepth 100000 in
theorem cut_any (v : Value) (l : List UInt8) (k : Int) (w : World) (hv : Rd w v l) (h3 : -9223372036854775808 ≤ k) (h4 : k ≤ 9223372036854775807) :
    Calls Try.prog 30 #[v, .int .i64 k] w fun e w' => e = .returned (cutV v l.length k) ∧ w = w' := by
  have hs := hv.small
  have HC := Lib.hid (size_any l.length k w hs h3 h4)
  rcases hv with ⟨rfl, rfl⟩ | ⟨b, off, cap, rfl, h1, h2, _⟩
  · have hz : szN 0 k = 0 := by unfold szN; simp
    rw [List.length_nil, hz] at HC
    go_enter Try.func30, Try.ntmps30
    go_wp2_with (go_at_call 35; refine HC.out.mono ?_; rintro e w' ⟨rfl, rfl⟩)
    go_ret
    exact ⟨rfl, rfl⟩
  · by_cases hz : szN l.length k = 0
    · have HE : Hid (cutV (.slice (some ⟨b, off, none⟩) l.length cap) l.length k = .slice none 0 0) := Lib.hid (by rw [cutV_at, if_pos hz])
      rw [hz] at HC
      clear hz
      go_enter Try.func30, Try.ntmps30
      go_wp2_with (go_at_call 35; refine HC.out.mono ?_; rintro e w' ⟨rfl, rfl⟩)
      go_ret
      exact ⟨by rw [HE.out]; rfl, rfl⟩
    · have HE : Hid (cutV (.slice (some ⟨b, off, none⟩) l.length cap) l.length k = .slice (some ⟨b, off + k.toNat * 128, none⟩) (szN l.length k) (szN l.length k)) := Lib.hid (by rw [cutV_at, if_neg hz])
      have hk : 0 ≤ k ∧ k < cntI l.length := by
        refine ⟨?_, ?_⟩
        · exact Int.not_lt.1 (fun h => hz (szN_zero (.inl h)))
        · exact Int.not_le.1 (fun h => hz (szN_zero (.inr h)))
      obtain ⟨e1, e2, e3⟩ := szN_pos hk.1 hk.2
      obtain ⟨m, rfl⟩ := Int.eq_ofNat_of_zero_le hk.1
      obtain ⟨n, hn⟩ : ∃ n, szN l.length (m : Int) = n := ⟨_, rfl⟩
      rw [hn] at HC HE e1 e2
      simp only [Int.toNat_natCast] at e1 e3 HE
      have h5 : m * 128 + n ≤ l.length := by omega
      have h6 : 1 ≤ n := e2
      have h7 : m * 128 + n ≤ cap := by omega
      have h8 : m * 128 ≤ m * 128 + n := by omega
      have h9 : ((n : Int) == 0) = false := by simp; omega
      clear e1 e2 e3 hz hk h3 h4 hn
      unfold maxLen at h2
      go_enter Try.func30, Try.ntmps30
      go_wp2_with (go_at_call 35; refine HC.out.mono ?_; rintro e w' ⟨rfl, rfl⟩)
      go_ret
      exact ⟨(sl_eq (show m * 128 + n - m * 128 = n by omega)).trans (by rw [HE.out]), rfl⟩

def OwnP (w : World) (l : List UInt8) (e : Ending) (w' : World) : Prop := ∃ v', e = .returned v' ∧ Own w' w.heap.size v' l ∧ w.grownBy w' none
set_option maxRecDepth 100000 in
theorem clone_any (v : Value) (l : List UInt8) (w : World) (hv : Rd w v l) (hl : l.length ≤ 140737488355328) :
    Calls Try.prog 29 #[v] w (OwnP w l) := by
  have HV := Lib.hid hv
  have q22 : ∀ (w : World) (a : Option Addr) (n c n' c' : Nat), (binOp .eql 22 (.slice a n c) (.slice none n' c')).run Try.prog w = .ok (.bool a.isNone) w := fun w a n c n' c' => Lib.run_eql_slice_nil w _ _ a n c n' c' Try.underlying22
  rcases hv with ⟨rfl, rfl⟩ | ⟨b, off, cap, rfl, h1, h2, _⟩
  · go_enter Try.func29, Try.ntmps29
    go_wp2
    go_ret
    exact ⟨_, rfl, Own.nil _ _, gb_refl _ _⟩
  · have HO := Lib.hid (Own.lit w #[] [] 0 w.heap.size rfl rfl (Nat.le_refl _) (Nat.zero_le _))
    go_enter Try.func29, Try.ntmps29
    go_wp2_with (at_builtin; refine app_bytes rfl _ _ rfl w.heap.size _ _ [] l rfl rfl HO.out (HV.out.grown (gb_alloc _ _ _)) (by simp) (by simp; omega) ?_; go_must (intro v2 w2 ho2 hg2 hf2; rw [List.nil_append] at ho2))
    go_ret
    exact ⟨_, rfl, ho2, gb_trans (gb_alloc _ _ none) hg2 (fun k hk => .inr (HO.out.lt k hk).1)⟩

theorem str_beq (a b : List UInt8) : ((str a).toList == (str b).toList) = (a == b) := by
  rw [ByteArray.toList_eq, ByteArray.toList_eq, str_toList, str_toList]
set_option maxRecDepth 100000 in
theorem equal_any (va vb : Value) (a b : List UInt8) (w : World) (ha : Rd w va a) (hb : Rd w vb b) :
    Calls Try.prog 33 #[va, vb] w fun e w' => e = .returned (.bool (a == b)) ∧ w = w' := by
  have h1 := run_toString w va a ha
  have h2 := run_toString w vb b hb
  have HE := Lib.hid (str_beq a b)
  clear ha hb
  go_enter Try.func33, Try.ntmps33
  go_wp2
  go_ret
  exact ⟨congrArg (fun z => Ending.returned (.bool z)) HE.out, rfl⟩

set_option maxRecDepth 100000 in
theorem page_any (v : Value) (l : List UInt8) (k : Int) (w : World) (hv : Rd w v l) (h3 : -9223372036854775808 ≤ k) (h4 : k ≤ 9223372036854775807) :
    Calls Try.prog 13 #[v, .int .i64 k] w (OwnP w (pg l k)) := by
  have HC := Lib.hid (cut_any v l k w hv h3 h4)
  have HL := Lib.hid (clone_any _ _ w (cutV_rd hv k) (by have := pg_len l k; have := szN_le l.length k; omega))
  obtain ⟨a, c, rfl⟩ := hv.len
  generalize cutV (.slice a l.length c) l.length k = u at *
  clear hv
  go_enter Try.func13, Try.ntmps13
  go_wp2_with (first | (go_at_call 30; refine HC.out.mono ?_; rintro e w' ⟨rfl, rfl⟩) | (go_at_call 29; refine HL.out.mono ?_; rintro e w' ⟨v', rfl, ho, hg⟩))
  go_ret
  exact ⟨_, rfl, ho, hg⟩
end Go.Proofs.Ytnkgoaloigmmfaa
