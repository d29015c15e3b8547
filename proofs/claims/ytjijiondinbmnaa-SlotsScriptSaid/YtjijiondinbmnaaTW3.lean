/-
  The reference's table: Put, Handles: the walks.
-/
import Derived.Test.YtjijiondinbmnaaTW2
namespace Go.Proofs.Ytjijiondinbmnaa
open Go.RowKit

set_option maxRecDepth 100000 in
set_option maxHeartbeats 4000000 in
theorem rput_any {w : World} {s c : Nat} {l : List SS} (h : IsW w s c l) (v : Int) (hv : OkI v) : Calls Try.prog 36 #[.slice (some ⟨s, 0, none⟩) l.length c, .int .i64 v] w (TabP (putL l v) #[.int .i64 (putH l), .int .i64 (putE l)] w) := by
  have hlen := h.len
  have H := Lib.hid h
  clear h
  go_enter Try.func36, Try.ntmps36
  go_wp2_with fail
  go_loopw [7, 8] (fun b i wr => ∃ k : Nat, k ≤ l.length ∧ i = .int .i64 k ∧ b = .int .i64 (bI (bestN l k)) ∧ Hid (w.grownBy wr none)) (fun _ i _ => l.length - (intOf i).toNat)
  case atStart => exact ⟨0, Nat.zero_le _, rfl, rfl, Lib.hid (gb_refl _ _)⟩
  case round =>
    obtain ⟨k, hk, rfl, rfl, HG⟩ := hrel
    have HT := Lib.hid (H.out.grown HG.out)
    by_cases hlt : k < l.length
    · obtain ⟨p, hp⟩ : ∃ p, l[k]? = some p := ⟨l[k], by simp [hlt]⟩
      obtain ⟨q0, q1, _⟩ := HT.out.at hp
      have HP := Lib.hid hp
      have hok := H.out.ok p (List.mem_of_getElem? hp)
      have hgen := hok.1
      clear hp hok
      obtain ⟨gen, full, val⟩ := p
      simp only at q0 q1 HP hgen
      cases full with
      | true =>
        have HE := Lib.hid (bestN_skip HP.out (.inl rfl))
        go_wp2
        go_quiet (fail)
        go_wp2
        go_roundw
        case rel => exact ⟨k + 1, by omega, by go_num, by rw [HE.out], Lib.hid (gb_same HG.out (gb_drewN _ _ _))⟩
        case measure => simp [intOf]; omega
      | false =>
        by_cases hg0 : gen = 1000
        · have HE := Lib.hid (bestN_skip HP.out (.inr hg0))
          subst hg0
          go_wp2
          go_quiet (fail)
          go_wp2
          go_roundw
          case rel => exact ⟨k + 1, by omega, by go_num, by rw [HE.out], Lib.hid (gb_same HG.out (gb_drewN _ _ _))⟩
          case measure => simp [intOf]; omega
        · have hg1 : decide ((gen : Int) < 1000) = true := by rw [decide_eq_true_iff]; omega
          have hg1' : (gen : Int) < 1000 := by omega
          cases hb : bestN l k with
          | none =>
            have HE := Lib.hid (bestN_first HP.out rfl hg0 hb)
            simp only [bI]
            clear hb
            go_wp2
            go_quiet (fail)
            go_wp2
            go_roundw
            case rel => exact ⟨k + 1, by omega, by go_num, by rw [HE.out], Lib.hid (gb_same HG.out (gb_drewN _ _ _))⟩
            case measure => simp [intOf]; omega
          | some b =>
            obtain ⟨hbk, ⟨g2, f2, v2⟩, hq, _⟩ := bestN_spec hb
            have HE := Lib.hid (bestN_next HP.out rfl hg0 hb hq)
            obtain ⟨r0, _, _⟩ := HT.out.at hq
            simp only [bI]
            simp only at r0
            have hb0 : decide ((b : Int) < 0) = false := by rw [decide_eq_false_iff_not]; omega
            have hb1 : ((b : Int) < 0) = False := by simp
            clear hb hq
            by_cases hgt : gen < g2
            · have hgt' : (gen : Int) < (g2 : Int) := by omega
              have hgd : decide ((gen : Int) < (g2 : Int)) = true := by rw [decide_eq_true_iff]; omega
              rw [if_pos hgt] at HE
              clear hgt
              go_wp2
              go_quiet (fail)
              go_wp2
              go_roundw
              case rel => exact ⟨k + 1, by omega, by go_num, by rw [HE.out], Lib.hid (gb_same HG.out (gb_drewN _ _ _))⟩
              case measure => simp [intOf]; omega
            · have hgt' : ¬ (gen : Int) < (g2 : Int) := by omega
              have hgd : decide ((gen : Int) < (g2 : Int)) = false := by rw [decide_eq_false_iff_not]; omega
              rw [if_neg hgt] at HE
              clear hgt
              go_wp2
              go_quiet (fail)
              go_wp2
              go_roundw
              case rel => exact ⟨k + 1, by omega, by go_num, by rw [HE.out], Lib.hid (gb_same HG.out (gb_drewN _ _ _))⟩
              case measure => simp [intOf]; omega
    · obtain rfl : k = l.length := by omega
      clear hlt
      cases hb : bestN l l.length with
      | none =>
        obtain ⟨e1, e2, e3⟩ := put_eq_none (v := v) hb
        have HE := Lib.hid (And.intro e1 (And.intro e2 e3))
        simp only [bI]
        clear hb e1 e2 e3
        go_wp2
        go_ret3
        rw [HE.out.1, HE.out.2.1, HE.out.2.2]
        exact ⟨s, c, rfl, HG.out, HT.out⟩
      | some b =>
        obtain ⟨hbk, p, hp, hfull, hne⟩ := bestN_spec hb
        obtain ⟨e1, e2, e3⟩ := putL_eq (v := v) hb hp
        have HE := Lib.hid (And.intro e1 (And.intro e2 e3))
        have HP := Lib.hid hp
        have hhs := hnd_small hlen hp (H.out.ok p (List.mem_of_getElem? hp)).1
        have hhd := hnd_at hp
        have HC := Lib.hid (copied_any HT.out (by omega))
        have hb0 : ((b : Int) < 0) = False := by simp
        simp only [bI]
        clear hb e1 e2 e3 hp
        go_wp2_with fail
        refine HC.out.mono ?_
        rintro e w2 ⟨s2, c2, rfl, hs2, hg2, hw2⟩
        obtain ⟨_, q1, q2⟩ := hw2.at HP.out
        have y1 := hw2.frozen (b * 3 + 1)
        have y2 := hw2.frozen (b * 3 + 2)
        obtain ⟨k1, k2⟩ := hw2.put HP.out hne v hv
        have hs2' : s < s2 := by have := HT.out.lt; omega
        have ht2 := (HT.out.grown hg2).kept k2 (by simp; omega)
        obtain ⟨t0, _, _⟩ := ht2.at HP.out
        obtain ⟨m, hm⟩ : ∃ m, p.1 * l.length = m := ⟨_, rfl⟩
        have hx : IntKind.i64.wrap ((p.1 : Int) * (l.length : Int)) = (m : Int) := by
          rw [← Int.natCast_mul, hm, IntKind.wrap_i64]; omega
        rw [hm] at hhs hhd
        rw [hhd] at hhs HE
        have hmk := hhs.2
        have hml := hhs.1
        have HW := Lib.hid k1
        have HG2 := Lib.hid (gb_trans (gb_same HG.out hg2) k2 (fun k e => .inr (by cases e; exact Nat.le_trans HG.out.size hs2)))
        clear hs2 hg2 hw2 k1 k2 ht2 hhs hhd hm hs2'
        go_wp2
        go_quiet (fail)
        go_wp2
        go_ret3
        rw [HE.out.1, HE.out.2.1, HE.out.2.2]
        exact ⟨s2, c2, by rw [List.length_set]; rfl, gb_same HG2.out (gb_drewN _ _ _), HW.out.grown (gb_drewN _ _ _)⟩
set_option maxRecDepth 100000 in
set_option maxHeartbeats 2000000 in
theorem rhandlesW_any {w : World} {s c : Nat} {l : List SS} (h : IsW w s c l) : Calls Try.prog 18 #[.slice (some ⟨s, 0, none⟩) l.length c] w (HanP (hsN l l.length) w) := by
  have hlen := h.len
  have H := Lib.hid h
  have HK := Lib.hid h.ok
  clear h
  go_enter Try.func18, Try.ntmps18
  go_wp2_with fail
  go_loopw [3, 4] (fun v i wr => ∃ k : Nat, k ≤ l.length ∧ i = .int .i64 k ∧ Hid (OwnI wr w.heap.size v (hsN l k)) ∧ Hid (w.grownBy wr none)) (fun _ i _ => l.length - (intOf i).toNat)
  case atStart => exact ⟨0, Nat.zero_le _, rfl, Lib.hid (OwnI.nil _ _), Lib.hid (gb_refl _ _)⟩
  case round =>
    obtain ⟨k, hk, rfl, HO, HG⟩ := hrel
    have HT := Lib.hid (H.out.grown HG.out)
    by_cases hlt : k < l.length
    · obtain ⟨p, hp⟩ : ∃ p, l[k]? = some p := ⟨l[k], by simp [hlt]⟩
      obtain ⟨q0, q1, q2⟩ := HT.out.at hp
      have HP := Lib.hid hp
      have hhs := hnd_small hlen hp (HK.out p (List.mem_of_getElem? hp)).1
      have hhd := hnd_at hp
      clear hp
      obtain ⟨gen, full, val⟩ := p
      simp only at q0 q1 q2 HP hhs hhd
      cases full with
      | false =>
        have HE := Lib.hid (hsN_free HP.out rfl)
        go_wp2
        go_roundw
        case rel => exact ⟨k + 1, by omega, by go_num, by rw [HE.out]; exact HO, HG⟩
        case measure => simp [intOf]; omega
      | true =>
        have HE := Lib.hid (hsN_full HP.out rfl)
        obtain ⟨m, hm⟩ : ∃ m, gen * l.length = m := ⟨_, rfl⟩
        have hx : IntKind.i64.wrap ((gen : Int) * (l.length : Int)) = (m : Int) := by
          rw [← Int.natCast_mul, hm, IntKind.wrap_i64]; omega
        rw [hm] at hhs hhd
        rw [hhd] at HE hhs
        have hmk := hhs.2
        have hml := hhs.1
        have hy : IntKind.i64.wrap ((m : Int) + (k : Int)) = ((m + k : Nat) : Int) := by rw [IntKind.wrap_i64]; omega
        have hz := hsN_len l k
        have HZ := Lib.hid (show (hsN l k).length ≤ 1000000 by omega)
        clear hz hhs hhd hm
        go_wp2_with (at_builtin; refine app_int rfl _ _ rfl w.heap.size _ (hsN l k) ((m + k : Nat) : Int) wr.heap.size rfl rfl (HO.out.grown (gb_alloc _ _ _)) ?c1 ?c2 HZ.out ?_)
        case c1 => rw [World.cell?_alloc_at _ _ _ _ rfl]; simp
        case c2 => exact Nat.le_trans HG.out.size (gb_alloc _ _ none).size
        intro v' w4 ho4 hg4 hf4
        have HO4 := Lib.hid ho4
        have HG4 : Hid (w.grownBy w4 none) := Lib.hid (gb_trans (gb_same HG.out (gb_alloc _ _ _)) hg4 (fun k e => .inr (World.ownsRow.lt HO.out k e).1))
        clear ho4 hg4 hf4
        go_wp2
        go_roundw
        case rel => exact ⟨k + 1, by omega, by go_num, by rw [HE.out]; exact HO4, HG4⟩
        case measure => simp [intOf]; omega
    · obtain rfl : k = l.length := by omega
      clear hlt
      go_wp2
      go_ret
      exact ⟨_, rfl, HO.out, HG.out⟩
end Go.Proofs.Ytjijiondinbmnaa
