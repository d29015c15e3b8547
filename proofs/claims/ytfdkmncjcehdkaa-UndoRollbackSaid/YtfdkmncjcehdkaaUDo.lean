/-
  law.few, and law.do of a write or a resizing: the walks.
-/
import Derived.Test.YtfdkmncjcehdkaaUResize
import Derived.Test.YtfdkmncjcehdkaaUTMath
namespace Go.Proofs.Ytfdkmncjcehdkaa
open Go.RowKit

def BoolS (t : Bool) (w : World) (e : Ending) (w' : World) : Prop := e = .returned (.bool t) ∧ w = w'
def sfewR (s : RT) : Bool := decide (s.2.2.length ≤ 300) && !(decide (s.1 = 2) && decide (2000 < s.2.1) && decide (s.2.1 ≤ 24000))
def sfewB (n : Nat) (ss : List RT) : Bool := ss.all sfewR && decide (n ≤ 1000) && decide (ss.length ≤ 30)
theorem sfewB_no {n : Nat} {ps : List RP} {p : RP} (hp : p ∈ ps) (h : sfewR p.1 = false) : sfewB n (ps.map (·.1)) = false := by
  unfold sfewB
  have : (ps.map (·.1)).all sfewR = false := by
    rw [List.all_eq_false]
    exact ⟨p.1, List.mem_map_of_mem hp, by simp [h]⟩
  rw [this]; rfl
set_option maxRecDepth 100000 in
set_option maxHeartbeats 2000000 in
theorem sfew_any (vb lv : Value) (b : List UInt8) (ps : List RP) (w : World) (hb : Rd w vb b) (hl : RdRs w lv ps) :
    Calls Try.prog 10 #[vb, lv] w (BoolS (sfewB b.length (ps.map (·.1))) w) := by
  have hsm := hl.1.small
  have hsb := hb.small
  obtain ⟨ab, cb, rfl⟩ := hb.len
  obtain ⟨al, cl, rfl⟩ := hl.1.len
  have HL := Lib.hid hl
  clear hl hb
  go_enter Try.func10, Try.ntmps10
  go_wp2_with fail
  go_loop [5] (fun i => ∃ k : Nat, k ≤ ps.length ∧ i = .int .i64 k ∧ Hid (∀ p ∈ ps.take k, sfewR p.1 = true)) (fun i => ps.length - (intOf i).toNat)
  case atStart => exact ⟨0, Nat.zero_le _, rfl, Lib.hid (by simp)⟩
  case round =>
    obtain ⟨k, hk, rfl, HOK⟩ := hrel
    by_cases hlt : k < ps.length
    · obtain ⟨p, hp⟩ : ∃ p, ps[k]? = some p := ⟨ps[k], by simp [hlt]⟩
      have hpm := List.mem_of_getElem? hp
      obtain ⟨gb, off, rfl, q0, q1, q2⟩ := HL.out.1.at hp
      have hrd := HL.out.2 p hpm
      have hds := hrd.small
      obtain ⟨ad, cd, hpd⟩ := hrd.len
      rw [hpd] at q2
      have HSN : Hid (∀ (hf : sfewR p.1 = true), ∀ q ∈ ps.take (k + 1), sfewR q.1 = true) := Lib.hid (fun hf q hq => by
        rw [List.take_add_one, hp] at hq
        rcases List.mem_append.1 hq with h | h
        · exact HOK.out q h
        · simp at h; subst h; exact hf)
      have HNO := Lib.hid (fun hf => sfewB_no (n := b.length) hpm hf)
      clear hp hpm hrd hpd
      obtain ⟨⟨op, n, d⟩, dv⟩ := p
      simp only at *
      by_cases h1 : d.length ≤ 300
      · have h1' : (d.length : Int) ≤ 300 := by omega
        have h1b : decide (d.length ≤ 300) = true := by simpa using h1
        by_cases h2 : op = 2
        · subst h2
          by_cases h3 : 2000 < n
          · by_cases h4 : n ≤ 24000
            · have HF : Hid (sfewR (2, n, d) = false) := Lib.hid (by unfold sfewR; simp [h1, h3, h4])
              clear h1 h1b
              go_wp2
              go_ret
              exact ⟨by rw [HNO.out HF.out]; rfl, rfl⟩
            · have HF : Hid (sfewR (2, n, d) = true) := Lib.hid (by unfold sfewR; simp [h1, h4])
              clear h1 h1b
              go_wp2
              go_round
              case rel => exact ⟨k + 1, by omega, by go_num, Lib.hid (HSN.out HF.out)⟩
              case measure => simp [intOf]; omega
          · have HF : Hid (sfewR (2, n, d) = true) := Lib.hid (by unfold sfewR; simp [h1, h3])
            clear h1 h1b
            go_wp2
            go_round
            case rel => exact ⟨k + 1, by omega, by go_num, Lib.hid (HSN.out HF.out)⟩
            case measure => simp [intOf]; omega
        · have HF : Hid (sfewR (op, n, d) = true) := Lib.hid (by unfold sfewR; simp [h1, h2])
          have h2' : (op == 2) = false := by simpa using h2
          clear h1 h1b h2
          go_wp2
          go_round
          case rel => exact ⟨k + 1, by omega, by go_num, Lib.hid (HSN.out HF.out)⟩
          case measure => simp [intOf]; omega
      · have HF : Hid (sfewR (op, n, d) = false) := Lib.hid (by unfold sfewR; simp; intro h; omega)
        have h1' : (300 : Int) < d.length := by omega
        clear h1
        go_wp2
        go_ret
        exact ⟨by rw [HNO.out HF.out]; rfl, rfl⟩
    · obtain rfl : k = ps.length := by omega
      have hall : (ps.map (·.1)).all sfewR = true := by
        rw [List.all_eq_true]
        intro r hr
        obtain ⟨p, hp, rfl⟩ := List.mem_map.1 hr
        have h := HOK.out
        rw [List.take_of_length_le (Nat.le_refl _)] at h
        exact h p hp
      have HA := Lib.hid hall
      clear hall
      by_cases h4 : b.length ≤ 1000
      · have h4' : (b.length : Int) ≤ 1000 := by omega
        by_cases h3 : ps.length ≤ 30
        · have h3' : (ps.length : Int) ≤ 30 := by omega
          have HE : Hid (sfewB b.length (ps.map (·.1)) = true) := Lib.hid (by unfold sfewB; rw [HA.out]; simp [h3, h4])
          clear h3 h4
          go_wp2
          go_ret
          exact ⟨by rw [HE.out]; rfl, rfl⟩
        · have hd : decide ((ps.length : Int) ≤ 30) = false := by simp; omega
          have HE : Hid (sfewB b.length (ps.map (·.1)) = false) := Lib.hid (by unfold sfewB; rw [HA.out]; simp; omega)
          clear h3 h4
          go_wp2
          go_ret
          exact ⟨by rw [HE.out]; rfl, rfl⟩
      · have hd : decide ((b.length : Int) ≤ 1000) = false := by simp; omega
        have HE : Hid (sfewB b.length (ps.map (·.1)) = false) := Lib.hid (by unfold sfewB; rw [HA.out]; simp; omega)
        clear h4
        go_wp2
        go_ret
        exact ⟨by rw [HE.out]; rfl, rfl⟩
theorem sfewB_spec {n : Nat} {ps : List RP} (h : sfewB n (ps.map (·.1)) = true) : n ≤ 1000 ∧ ps.length ≤ 30 ∧ ∀ p ∈ ps, p.1.2.2.length ≤ 300 := by
  unfold sfewB at h
  rw [Bool.and_eq_true, Bool.and_eq_true, List.all_eq_true, decide_eq_true_eq, decide_eq_true_eq, List.length_map] at h
  refine ⟨h.1.2, h.2, fun p hp => ?_⟩
  have := h.1.1 p.1 (List.mem_map_of_mem hp)
  unfold sfewR at this
  rw [Bool.and_eq_true, decide_eq_true_eq] at this
  exact this.1

/-- a write or a resizing, as the law calls it -/
def DoP (w : World) (F : Nat → Prop) (g : Nat) (img : List UInt8) (rs : List RT) (s : RT) (e : Ending) (w' : World) : Prop :=
  ∃ er : Int, e = .returned (.int .i64 er) ∧ ((wrS img s = none ∧ (er == 0) = false ∧ w.grownBy w' none) ∨
    (∃ img' r F' iv' rv' ps', er = 0 ∧ wrS img s = some (img', r) ∧ LogF w' F' g iv' rv' img' ps' true ∧ ps'.map (·.1) = rs ++ [r] ∧ Foot w w' F F'))
set_option maxRecDepth 100000 in
set_option maxHeartbeats 2000000 in
theorem do_wr {w : World} {F : Nat → Prop} {g : Nat} {iv rv : Value} {img : List UInt8} {ps : List RP} (h : LogF w F g iv rv img ps true) (s : RP) (hop : s.1.1 = 1 ∨ s.1.1 = 2) (hs : OkP w s) (hnb : s.1.2.2 ≠ [] → ∀ k, s.2.ownBlock = some k → ¬ F k)
    (hi : img.length ≤ 24000) (hn : ps.length + 1 ≤ 1000000) :
    Calls Try.prog 13 #[.pointer (some ⟨g, 0, none⟩), .agg #[.int .i64 s.1.1, .int .i64 s.1.2.1, s.2]] w (DoP w F g img (ps.map (·.1)) s.1) := by
  obtain ⟨ad, cd, hd⟩ := hs.1.len
  obtain ⟨⟨op, n, d⟩, dv⟩ := s
  simp only at hd hop
  subst hd
  have hrd : RdW w (.slice ad d.length cd) d := hs.1
  have hn2 : OkI n := hs.2.2
  obtain ⟨w1, hw1⟩ : ∃ w1, w.alloc (.cells #[.int .i64 op, .int .i64 n, .slice ad d.length cd] 37) = w1 := ⟨_, rfl⟩
  have hg1 : w.grownBy w1 none := by rw [← hw1]; exact gb_alloc _ _ _
  have H1 := Lib.hid (h.grown hg1 (by simp))
  have HRD := Lib.hid (hrd.grown hg1)
  have HNB : Hid (d ≠ [] → ∀ k, (Value.slice ad d.length cd).ownBlock = some k → ¬ F k) := Lib.hid hnb
  have HG1 := Lib.hid hg1
  have HW1 := Lib.hid hw1
  have HI := Lib.hid hi
  have HN := Lib.hid hn
  have HN2 := Lib.hid hn2
  have HFR : Hid (Foot w w1 F F) := Lib.hid (Foot.of_gb hg1 (by simp))
  clear hw1 hg1 h hrd hs hnb
  rcases hop with rfl | rfl
  · by_cases hc : n < 0 ∨ (img.length : Int) - d.length < n
    · have HE : Hid (wrS img ((1 : Int), n, d) = none) := Lib.hid (by unfold wrS; rw [if_pos rfl, if_pos hc])
      have HWR := Lib.hid (write_range H1.out n HRD.out hc)
      clear hc
      go_enter Try.func13, Try.ntmps13
      go_wp2_with fail
      rw [HW1.out]
      (with_reducible refine HWR.out.mono ?_)
      rintro e w' ⟨rfl, rfl⟩
      go_wp2_with fail
      go_ret
      exact ⟨2, rfl, .inl ⟨HE.out, rfl, HG1.out⟩⟩
    · obtain ⟨o, rfl⟩ := Int.eq_ofNat_of_zero_le (show 0 ≤ n by omega)
      have ho : o + d.length ≤ img.length := by omega
      have HE : Hid (wrS img ((1 : Int), (o : Int), d) = some (putAt img o d, wrRec img o d.length)) := Lib.hid (by unfold wrS; rw [if_pos rfl, if_neg hc]; rfl)
      have HWR := Lib.hid (write_any H1.out o HRD.out ho HNB.out (by omega) hn)
      clear hc
      go_enter Try.func13, Try.ntmps13
      go_wp2_with fail
      rw [HW1.out]
      (with_reducible refine HWR.out.mono ?_)
      rintro e w2 ⟨rfl, F2, iv2, rv2, ps2, hl2, hp2, hf2⟩
      have HL2 := Lib.hid (And.intro hl2 (And.intro hp2 hf2))
      clear hl2 hp2 hf2
      go_wp2_with fail
      go_ret
      exact ⟨0, rfl, .inr ⟨_, _, F2, iv2, rv2, ps2, rfl, HE.out, HL2.out.1, HL2.out.2.1, HFR.out.trans HL2.out.2.2⟩⟩
  · by_cases hc : n < 0
    · have HE : Hid (wrS img ((2 : Int), n, d) = none) := Lib.hid (by unfold wrS; rw [if_neg (by simp), if_pos (.inl hc)])
      have HWR := Lib.hid (resize_neg H1.out n hc)
      clear hc
      go_enter Try.func13, Try.ntmps13
      go_wp2_with fail
      rw [HW1.out]
      (with_reducible refine HWR.out.mono ?_)
      rintro e w' ⟨rfl, rfl⟩
      go_wp2_with fail
      go_ret
      exact ⟨2, rfl, .inl ⟨HE.out, rfl, HG1.out⟩⟩
    · by_cases hc2 : 24000 < n
      · have HE : Hid (wrS img ((2 : Int), n, d) = none) := Lib.hid (by unfold wrS; rw [if_neg (by simp), if_pos (.inr hc2)])
        have HWR := Lib.hid (resize_limit H1.out n hc2)
        clear hc hc2
        go_enter Try.func13, Try.ntmps13
        go_wp2_with fail
        rw [HW1.out]
        (with_reducible refine HWR.out.mono ?_)
        rintro e w' ⟨rfl, rfl⟩
        go_wp2_with fail
        go_ret
        exact ⟨6, rfl, .inl ⟨HE.out, rfl, HG1.out⟩⟩
      · obtain ⟨o, rfl⟩ := Int.eq_ofNat_of_zero_le (show 0 ≤ n by omega)
        have HE : Hid (wrS img ((2 : Int), (o : Int), d) = some (sized img o, szRec img o)) := Lib.hid (by unfold wrS; rw [if_neg (by simp), if_neg (by simp only; omega)]; rfl)
        have HWR := Lib.hid (resize_any H1.out o (by omega) (by omega) hn)
        clear hc hc2
        go_enter Try.func13, Try.ntmps13
        go_wp2_with fail
        rw [HW1.out]
        (with_reducible refine HWR.out.mono ?_)
        rintro e w2 ⟨rfl, F2, iv2, rv2, ps2, hl2, hp2, hf2⟩
        have HL2 := Lib.hid (And.intro hl2 (And.intro hp2 hf2))
        clear hl2 hp2 hf2
        go_wp2_with fail
        go_ret
        exact ⟨0, rfl, .inr ⟨_, _, F2, iv2, rv2, ps2, rfl, HE.out, HL2.out.1, HL2.out.2.1, HFR.out.trans HL2.out.2.2⟩⟩
end Go.Proofs.Ytfdkmncjcehdkaa
