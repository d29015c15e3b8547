/-
  few, joined, SameInts, SameStrings: the walks.
-/
import Derived.Test.YtgfopepopcacmaaEnc2
import Derived.Deep.QuietTactic
import Derived.BigQuiet
namespace Go.Proofs.Ytgfopepopcacmaa
open Go.RowKit

def fewB (ss : List ByteArray) : Bool := decide ((∀ s ∈ ss, s.size ≤ 200) ∧ ss.length ≤ 40)
def BoolQ (t : Bool) (w : World) (e : Ending) (w' : World) : Prop := e = .returned (.bool t) ∧ w.grownBy w' none

set_option maxRecDepth 100000 in
set_option maxHeartbeats 1000000 in
theorem few_any (lv : Value) (w : World) (ss : List ByteArray) (hl : RdL w lv (svs ss)) (hlz : (ss.length : Int) ≤ 9223372036854775807) (hsz : ∀ s ∈ ss, s.size ≤ 9223372036854775807) :
    Calls Try.prog 16 #[lv] w (BoolQ (fewB ss) w) := by
  obtain ⟨a0, c0, rfl⟩ := hl.len
  have hivl : (svs ss).length = ss.length := by simp [svs]
  rw [hivl] at hl ⊢
  have HL := Lib.hid hl
  have HSZ := Lib.hid hsz
  clear hl hsz
  go_enter Try.func16, Try.ntmps16
  go_wp2
  go_loop [3] (fun k => ∃ i : Nat, k = .int .i64 (i : Int) ∧ i ≤ ss.length ∧ ∀ s ∈ ss.take i, s.size ≤ 200) (fun k => ss.length - (intOf k).toNat)
  case atStart => exact ⟨0, rfl, Nat.zero_le _, by simp⟩
  case round =>
    obtain ⟨i, rfl, hi, hall⟩ := hrel
    have HA := Lib.hid hall
    clear hall
    by_cases hlt : i < ss.length
    · have hzi : ss[i]? = some ss[i] := by simp [hlt]
      obtain ⟨b, off, rfl, hcell⟩ := HL.out.at (j := i) (x := .string ss[i]) (by simp [svs, hlt])
      have hs1 := HSZ.out ss[i] (by simp)
      by_cases hbig : 200 < ss[i].size
      · have HF : Hid (fewB ss = false) := Lib.hid (by
          simp only [fewB, decide_eq_false_iff_not, not_and]
          intro h
          have := h ss[i] (by simp)
          omega)
        clear hzi
        generalize ss[i] = z at *
        go_wp2
        go_ret
        exact ⟨by rw [HF.out]; rfl, gb_refl _ _⟩
      · have HA2 : Hid (∀ s ∈ ss.take (i + 1), s.size ≤ 200) := Lib.hid (by
          intro s hs
          rw [List.take_add_one, hzi] at hs
          simp only [Option.toList_some, List.mem_append, List.mem_singleton] at hs
          rcases hs with hs | rfl
          · exact HA.out s hs
          · omega)
        clear hzi
        generalize ss[i] = z at *
        go_wp2
        exact ⟨⟨i + 1, by go_num, by omega, HA2.out⟩, by simp [intOf]; omega⟩
    · have hiz : i = ss.length := by omega
      have HF : Hid (fewB ss = decide ((ss.length : Int) ≤ 40)) := Lib.hid (by
        have h1 := HA.out
        rw [hiz, List.take_length] at h1
        simp only [fewB]
        rw [Bool.eq_iff_iff]
        simp only [decide_eq_true_eq]
        constructor
        · intro h; omega
        · intro h; exact ⟨h1, by omega⟩)
      clear hiz
      go_wp2
      go_ret
      exact ⟨by rw [HF.out]; rfl, gb_refl _ _⟩

set_option maxRecDepth 100000 in
set_option maxHeartbeats 400000 in
theorem joined_any (a b : Value) (w : World) (x y : List UInt8) (ha : Rd w a x) (hb : Rd w b y) (hx : x.length ≤ 1099511627776) (hy : y.length ≤ 1099511627776) :
    Calls Try.prog 23 #[a, b] w fun e w' => ∃ v, e = .returned v ∧ Own w' w.heap.size v (x ++ y) ∧ w.grownBy w' none := by
  have HA := Lib.hid ha
  have HBB := Lib.hid hb
  clear ha hb
  have tok1 : True := trivial
  go_enter Try.func23, Try.ntmps23
  go_wp2_with (first | (at_builtin; have _t := tok1; refine app_bytes rfl _ _ rfl w.heap.size (.slice (some ⟨w.heap.size, 0, none⟩) 0 0) _ [] x rfl rfl (World.ownsRow_made w #[] 0 (Nat.le_refl _) (by simp) rfl) (HA.out.grown (gb_alloc _ _ _)) (by simp) (by simp; omega) ?_; intro v1 w1 ho1 hg1 hf1; have g1 : w.grownBy w1 none := gb_new (gb_alloc _ _ _) hg1 (Nat.le_refl _); clear tok1 hg1 hf1) | (at_builtin; refine app_bytes rfl _ _ rfl w.heap.size v1 _ x y rfl rfl ho1 (HBB.out.grown g1) g1.size (by omega) ?_; intro v2 w2 ho2 hg2 hf2))
  go_ret
  exact ⟨v2, rfl, ho2, gb_trans g1 hg2 (fun k hk => .inr (ho1.lt k hk).1)⟩

set_option maxRecDepth 100000 in
set_option maxHeartbeats 1000000 in
theorem sameInts_true (a b : Value) (w : World) (zs : List Int) (ha : RdL w a (ivs zs)) (hb : RdL w b (ivs zs)) (hlz : (zs.length : Int) ≤ 9223372036854775807) :
    Calls Try.prog 24 #[a, b] w (BoolQ true w) := by
  obtain ⟨a0, c0, rfl⟩ := ha.len
  obtain ⟨a1, c1, rfl⟩ := hb.len
  have hivl : (ivs zs).length = zs.length := by simp [ivs]
  rw [hivl] at ha hb ⊢
  have HA := Lib.hid ha
  have HB := Lib.hid hb
  clear ha hb
  go_enter Try.func24, Try.ntmps24
  go_wp2
  go_loopw [5] (fun k wr => ∃ i nq : Nat, k = .int .i64 (i : Int) ∧ i ≤ zs.length ∧ wr = w.drewN nq) (fun k _ => zs.length - (intOf k).toNat)
  case atStart => exact ⟨0, 0, rfl, Nat.zero_le _, rfl⟩
  case round =>
    obtain ⟨i, nq, rfl, hi, rfl⟩ := hrel
    by_cases hlt : i < zs.length
    · obtain ⟨g, off, rfl, hcell⟩ := HA.out.at (j := i) (x := .int .i64 zs[i]) (by simp [ivs, hlt])
      obtain ⟨g', off', rfl, hcell'⟩ := HB.out.at (j := i) (x := .int .i64 zs[i]) (by simp [ivs, hlt])
      generalize zs[i] = z at *
      have hi0 : (0 : Int) ≤ (i : Int) := Int.natCast_nonneg _
      have hi1 : (i : Int) < (zs.length : Int) := by omega
      go_wp2
      go_quiet (fail)
      go_wp2
      refine ⟨⟨i + 1, _, by go_num, by omega, rfl⟩, by simp [intOf]; omega⟩
    · go_wp2
      go_ret
      exact ⟨rfl, gb_drewN _ _ _⟩
set_option maxRecDepth 100000 in
set_option maxHeartbeats 1000000 in
theorem sameStrs_true (a b : Value) (w : World) (ss : List ByteArray) (ha : RdL w a (svs ss)) (hb : RdL w b (svs ss)) (hlz : (ss.length : Int) ≤ 9223372036854775807) :
    Calls Try.prog 26 #[a, b] w (BoolQ true w) := by
  obtain ⟨a0, c0, rfl⟩ := ha.len
  obtain ⟨a1, c1, rfl⟩ := hb.len
  have hivl : (svs ss).length = ss.length := by simp [svs]
  rw [hivl] at ha hb ⊢
  have HA := Lib.hid ha
  have HB := Lib.hid hb
  clear ha hb
  go_enter Try.func26, Try.ntmps26
  go_wp2
  go_loopw [5] (fun k wr => ∃ i nq : Nat, k = .int .i64 (i : Int) ∧ i ≤ ss.length ∧ wr = w.drewN nq) (fun k _ => ss.length - (intOf k).toNat)
  case atStart => exact ⟨0, 0, rfl, Nat.zero_le _, rfl⟩
  case round =>
    obtain ⟨i, nq, rfl, hi, rfl⟩ := hrel
    by_cases hlt : i < ss.length
    · obtain ⟨g, off, rfl, hcell⟩ := HA.out.at (j := i) (x := .string ss[i]) (by simp [svs, hlt])
      obtain ⟨g', off', rfl, hcell'⟩ := HB.out.at (j := i) (x := .string ss[i]) (by simp [svs, hlt])
      generalize ss[i] = z at *
      have hi0 : (0 : Int) ≤ (i : Int) := Int.natCast_nonneg _
      have hi1 : (i : Int) < (ss.length : Int) := by omega
      go_wp2
      go_quiet (fail)
      go_wp2
      refine ⟨⟨i + 1, _, by go_num, by omega, rfl⟩, by simp [intOf]; omega⟩
    · go_wp2
      go_ret
      exact ⟨rfl, gb_drewN _ _ _⟩
end Go.Proofs.Ytgfopepopcacmaa
