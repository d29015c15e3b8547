/-
  The reference's Handles: the walk.
-/
import Derived.Test.YtjijiondinbmnaaTRDec
import Derived.Test.YtjijiondinbmnaaWSI
namespace Go.Proofs.Ytjijiondinbmnaa
open Go.RowKit

set_option maxRecDepth 100000 in
set_option maxHeartbeats 2000000 in
theorem rhandles_any {w : World} {s : Nat} {l : List SS} (h : IsV w s l) (hok : ∀ p ∈ l, SOk p) : Calls Try.prog 18 #[.slice (some ⟨s, 0, none⟩) l.length l.length] w (HanP (hsN l l.length) w) := by
  have hlen := h.len
  have H := Lib.hid h
  have HK := Lib.hid hok
  clear h hok
  go_enter Try.func18, Try.ntmps18
  go_wp2_with fail
  go_loopw [3, 4] (fun v i wr => ∃ k : Nat, k ≤ l.length ∧ i = .int .i64 k ∧ Hid (OwnI wr w.heap.size v (hsN l k)) ∧ Hid (w.grownBy wr none)) (fun _ i _ => l.length - (intOf i).toNat)
  case atStart => exact ⟨0, Nat.zero_le _, rfl, Lib.hid (OwnI.nil _ _), Lib.hid (gb_refl _ _)⟩
  case round =>
    obtain ⟨k, hk, rfl, HO, HG⟩ := hrel
    have HT := Lib.hid (H.out.grown HG.out)
    by_cases hlt : k < l.length
    · obtain ⟨p, hp⟩ : ∃ p, l[k]? = some p := ⟨l[k], by simp [hlt]⟩
      obtain ⟨q0, q1, q2⟩ := HT.out.at hp
      have HP := Lib.hid hp
      have hhs := hnd_small hlen hp (HK.out p (List.mem_of_getElem? hp)).1
      have hhd := hnd_at hp
      clear hp
      obtain ⟨gen, full, val⟩ := p
      simp only at q0 q1 q2 HP hhs hhd
      cases full with
      | false =>
        have HE := Lib.hid (hsN_free HP.out rfl)
        go_wp2
        go_roundw
        case rel => exact ⟨k + 1, by omega, by go_num, by rw [HE.out]; exact HO, HG⟩
        case measure => simp [intOf]; omega
      | true =>
        have HE := Lib.hid (hsN_full HP.out rfl)
        obtain ⟨m, hm⟩ : ∃ m, gen * l.length = m := ⟨_, rfl⟩
        have hx : IntKind.i64.wrap ((gen : Int) * (l.length : Int)) = (m : Int) := by
          rw [← Int.natCast_mul, hm, IntKind.wrap_i64]; omega
        rw [hm] at hhs hhd
        rw [hhd] at HE hhs
        have hmk := hhs.2
        have hml := hhs.1
        have hy : IntKind.i64.wrap ((m : Int) + (k : Int)) = ((m + k : Nat) : Int) := by rw [IntKind.wrap_i64]; omega
        have hz := hsN_len l k
        have HZ := Lib.hid (show (hsN l k).length ≤ 1000000 by omega)
        clear hz hhs hhd hm
        go_wp2_with (at_builtin; refine app_int rfl _ _ rfl w.heap.size _ (hsN l k) ((m + k : Nat) : Int) wr.heap.size rfl rfl (HO.out.grown (gb_alloc _ _ _)) ?c1 ?c2 HZ.out ?_)
        case c1 => rw [World.cell?_alloc_at _ _ _ _ rfl]; simp
        case c2 => exact Nat.le_trans HG.out.size (gb_alloc _ _ none).size
        intro v' w4 ho4 hg4 hf4
        have HO4 := Lib.hid ho4
        have HG4 : Hid (w.grownBy w4 none) := Lib.hid (gb_trans (gb_same HG.out (gb_alloc _ _ _)) hg4 (fun k e => .inr (World.ownsRow.lt HO.out k e).1))
        clear ho4 hg4 hf4
        go_wp2
        go_roundw
        case rel => exact ⟨k + 1, by omega, by go_num, by rw [HE.out]; exact HO4, HG4⟩
        case measure => simp [intOf]; omega
    · obtain rfl : k = l.length := by omega
      clear hlt
      go_wp2
      go_ret
      exact ⟨_, rfl, HO.out, HG.out⟩
end Go.Proofs.Ytjijiondinbmnaa
