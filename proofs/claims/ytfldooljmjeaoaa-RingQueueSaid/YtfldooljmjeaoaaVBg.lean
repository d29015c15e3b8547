/-
  The reference's reader: begins.
-/
import Derived.Test.YtfldooljmjeaoaaVQ
import Derived.BigQuiet
namespace Go.Proofs.Ytfldooljmjeaoaa
open Go.RowKit Go.Shelf

def beg (bs : List UInt8) (p : Nat) (l : List UInt8) : Bool := decide ((bs.drop p).take l.length = l)
theorem beg_short {bs l : List UInt8} {p : Nat} (h : bs.length - p < l.length) : beg bs p l = false := by
  unfold beg
  rw [decide_eq_false_iff_not]
  intro e
  have := congrArg List.length e
  rw [List.length_take, List.length_drop] at this
  omega
theorem beg_no {bs l : List UInt8} {p i : Nat} (hi : i < l.length) (h : bs[p + i]? ≠ l[i]?) : beg bs p l = false := by
  unfold beg
  rw [decide_eq_false_iff_not]
  intro e
  apply h
  have := congrArg (·[i]?) e
  simp only [List.getElem?_take, List.getElem?_drop] at this
  rw [if_pos hi] at this
  exact this
theorem beg_yes {bs l : List UInt8} {p : Nat} (h : ∀ j, j < l.length → bs[p + j]? = l[j]?) : beg bs p l = true := by
  unfold beg
  rw [decide_eq_true_iff]
  apply List.ext_getElem?
  intro j
  rw [List.getElem?_take, List.getElem?_drop]
  split
  · rename_i hj; exact h j hj
  · rename_i hj; rw [List.getElem?_eq_none (by omega)]
def BegP (t : Bool) (w : World) (e : Ending) (w' : World) : Prop := e = .returned (.bool t) ∧ w.grownBy w' none
set_option maxRecDepth 100000 in
set_option maxHeartbeats 2000000 in
theorem begins_any (b : Nat) (sl xv : Value) (bs l : List UInt8) (p : Nat) (f : Bool) (w : World) (h : IsQ w b sl bs p f) (hx : Rd w xv l) (hl : l.length ≤ 1000) : Calls Try.prog 69 #[.pointer (some ⟨b, 0, none⟩), xv] w (BegP (beg bs p l) w) := by
  obtain ⟨a, c, rfl⟩ := h.rd.len
  obtain ⟨ax, cx, rfl⟩ := hx.len
  have c0 := h.c0
  have c1 := h.c1
  have hle := h.le
  have hsm := h.sm
  have H := Lib.hid h
  have HX := Lib.hid hx
  clear h hx
  by_cases hs : bs.length - p < l.length
  · have hs' : (bs.length : Int) - (p : Int) < (l.length : Int) := by omega
    rw [beg_short hs]
    clear hs
    go_enter Try.func69, Try.ntmps69
    go_wp2
    go_quiet (fail)
    go_wp2
    go_ret
    exact ⟨rfl, gb_drewN _ _ _⟩
  · have hs' : ¬ (bs.length : Int) - (p : Int) < (l.length : Int) := by omega
    go_enter Try.func69, Try.ntmps69
    go_wp2
    go_quiet (fail)
    go_wp2
    go_loopw [5] (fun i wr => ∃ k : Nat, k ≤ l.length ∧ i = .int .i64 k ∧ Hid (∀ j, j < k → bs[p + j]? = l[j]?) ∧ Hid (w.grownBy wr none)) (fun i _ => l.length - (intOf i).toNat)
    case atStart => exact ⟨0, Nat.zero_le _, rfl, Lib.hid (by simp), Lib.hid (gb_drewN _ _ _)⟩
    case round =>
      obtain ⟨k, hk, rfl, HJ, HG⟩ := hrel
      have d0 := HG.out.cell c0 (by simp)
      have d1 := HG.out.cell c1 (by simp)
      by_cases hlt : k < l.length
      · obtain ⟨x, hx⟩ : ∃ x, bs[p + k]? = some x := ⟨_, List.getElem?_eq_getElem (by omega)⟩
        obtain ⟨y, hy⟩ : ∃ y, l[k]? = some y := ⟨_, List.getElem?_eq_getElem hlt⟩
        obtain ⟨gx, ox, rfl, rx⟩ := Rd.at (H.out.rd.grown HG.out) hx
        obtain ⟨gy, oy, rfl, ry⟩ := Rd.at (HX.out.grown HG.out) hy
        have hpk : p + k < bs.length := by omega
        by_cases he : x = y
        · have HJ2 : Hid (∀ j, j < k + 1 → bs[p + j]? = l[j]?) := Lib.hid (fun j hj => by
            by_cases hjk : j = k
            · subst hjk; rw [hx, hy, he]
            · exact HJ.out j (by omega))
          subst he
          clear hx hy c0 c1
          go_wp2
          go_quiet (fail)
          go_wp2
          go_roundw
          case rel => exact ⟨k + 1, by omega, by go_num, HJ2, Lib.hid (gb_same HG.out (gb_drewN _ _ _))⟩
          case measure => simp [intOf]; omega
        · have hne : ((x.toNat : Int) != (y.toNat : Int)) = true := by
            have : x.toNat ≠ y.toNat := fun e => he (UInt8.toNat_inj.1 e)
            simp; omega
          rw [beg_no hlt (by rw [hx, hy]; simpa using he)]
          clear hx hy c0 c1 he
          go_wp2
          go_quiet (fail)
          go_wp2
          go_ret
          exact ⟨rfl, gb_same HG.out (gb_drewN _ _ _)⟩
      · obtain rfl : k = l.length := by omega
        have HBY := Lib.hid (beg_yes HJ.out)
        clear hlt
        go_wp2
        go_ret
        exact ⟨by rw [HBY.out]; rfl, HG.out⟩
end Go.Proofs.Ytfldooljmjeaoaa
