/-
  The reference's reader: Bool.
-/
import Derived.Test.YtjijiondinbmnaaTQ
namespace Go.Proofs.Ytjijiondinbmnaa
open Go.RowKit

def bV : Option (Bool × Nat) → Bool | some r => r.1 | none => false
def bQ (p : Nat) : Option (Bool × Nat) → Nat | some r => r.2 | none => p
theorem qb_none {w w1 : World} {b : Nat} {sl : Value} {bs : List UInt8} {p : Nat} {f : Bool} (h : IsQ w b sl bs p f) (hg : w.grownBy w1 none) (hr : unl f (rdBool bs p) = none) :
    GotQ (.bool (bV (unl f (rdBool bs p)))) b sl bs (bQ p (unl f (rdBool bs p))) (unl f (rdBool bs p)).isNone w (.returned (.bool false)) (w1.setCell ⟨b, 2, none⟩ (.bool true)) := by
  rw [hr]
  exact ⟨rfl, (h.grown hg).setF true, gb_trans (gb_none (some b) hg) (gb_setCell _ _ _) (fun _ e => .inl e)⟩
set_option maxRecDepth 100000 in
set_option maxHeartbeats 4000000 in
theorem qBool_any (b : Nat) (sl : Value) (bs : List UInt8) (p : Nat) (f : Bool) (w : World) (h : IsQ w b sl bs p f) :
    Calls Try.prog 33 #[.pointer (some ⟨b, 0, none⟩)] w (GotQ (.bool (bV (unl f (rdBool bs p)))) b sl bs (bQ p (unl f (rdBool bs p))) (unl f (rdBool bs p)).isNone w) := by
  obtain ⟨a, c, rfl⟩ := h.rd.len
  have c0 := h.c0
  have c1 := h.c1
  have c2 := h.c2
  have f2 := h.fr 2
  have f1 := h.fr 1
  have hle := h.le
  have hsm := h.sm
  have H := Lib.hid h
  clear h
  cases f with
  | true =>
    have HB := Lib.hid (fun w1 hg => qb_none (w1 := w1) H.out hg rfl)
    go_enter Try.func33, Try.ntmps33
    go_wp2
    go_quiet (fail)
    go_wp2
    go_ret
    exact HB.out _ (gb_drewN _ _ _)
  | false =>
    by_cases hp : p < bs.length
    · have hpd : decide ((bs.length : Int) ≤ (p : Int)) = false := by rw [decide_eq_false_iff_not]; omega
      have hpn : ¬ (bs.length : Int) ≤ (p : Int) := by omega
      obtain ⟨x, hx⟩ : ∃ x, bs[p]? = some x := ⟨_, List.getElem?_eq_getElem hp⟩
      obtain ⟨gx, ox, rfl, rx⟩ := Rd.at H.out.rd hx
      obtain ⟨d, hd⟩ : ∃ d, x.toNat = d := ⟨_, rfl⟩
      rw [hd] at rx
      by_cases hd1 : 1 < d
      · have hd1' : (1 : Int) < (d : Int) := by omega
        have HB := Lib.hid (fun w1 hg => qb_none (w1 := w1) H.out hg (by rw [unl_f]; unfold rdBool; rw [hx]; simp only; rw [if_neg (by omega)]))
        clear hx hd hd1
        go_enter Try.func33, Try.ntmps33
        go_wp2
        go_quiet (fail)
        go_wp2
        go_ret
        exact HB.out _ (gb_drewN _ _ _)
      · have hd1' : ¬ (1 : Int) < (d : Int) := by omega
        have hr : rdBool bs p = some (decide (d = 1), p + 1) := by
          unfold rdBool; rw [hx]; simp only; rw [if_pos (by omega), hd]
        have HR := Lib.hid hr
        have HSP := Lib.hid (fun (w1 : World) (hg : w.grownBy w1 none) => (H.out.grown hg).setP (p + 1) (by omega))
        have HBK := Lib.hid (World.block_lt_of_cell? _ _ rx)
        have HNE := Lib.hid (show gx ≠ b from fun e => H.out.ne (by rw [e]; rfl))
        clear hx hd hr
        go_enter Try.func33, Try.ntmps33
        go_wp2
        go_quiet (fail)
        go_wp2
        have hsp := HSP.out (w.drewN nq) (gb_drewN _ _ _)
        rw [show (((p + 1 : Nat)) : Int) = (p : Int) + 1 from rfl] at hsp
        have hgs : w.grownBy ((w.drewN nq).setCell ⟨b, 1, none⟩ (.int .i64 ((p : Int) + 1))) (some b) := gb_trans (gb_none (some b) (gb_drewN _ _ _)) (gb_setCell _ ⟨b, 1, none⟩ _) (fun _ e => .inl e)
        have hrx := hgs.cell rx (by have := HNE.out; simp; omega)
        generalize (w.drewN nq).setCell ⟨b, 1, none⟩ (.int .i64 ((p : Int) + 1)) = w2 at *
        have e0 := hsp.c0
        have e1 := hsp.c1
        rw [show (((p + 1 : Nat)) : Int) = (p : Int) + 1 from rfl] at e1
        have HS2 := Lib.hid hsp
        have HG2 := Lib.hid hgs
        clear hsp hgs c0 c1 c2 f1 f2 rx hpd
        go_quiet (fail)
        go_wp2
        go_ret
        refine ⟨?_, ?_, ?_⟩
        · rw [unl_f, HR.out]
          have hde : ((d : Int) == 1) = decide (d = 1) := by
            by_cases h : d = 1
            · subst h; rfl
            · rw [decide_eq_false h, beq_eq_false_iff_ne]; omega
          show Ending.returned (Value.bool ((d : Int) == 1)) = Ending.returned (Value.bool (decide (d = 1)))
          rw [hde]
        · rw [unl_f, HR.out]
          exact HS2.out.grown (gb_drewN _ _ _)
        · exact gb_trans HG2.out (gb_drewN _ _ none) (by simp)
    · have hpe : p = bs.length := by omega
      have hpd : (bs.length : Int) ≤ (p : Int) := by omega
      have HB := Lib.hid (fun w1 hg => qb_none (w1 := w1) H.out hg (by rw [unl_f]; unfold rdBool; rw [List.getElem?_eq_none (by omega)]))
      go_enter Try.func33, Try.ntmps33
      go_wp2
      go_quiet (fail)
      go_wp2
      go_ret
      exact HB.out _ (gb_drewN _ _ _)
end Go.Proofs.Ytjijiondinbmnaa
