/-
  The generic function value at slices: what is read is told by a relation.
-/
import Derived.Test.YtgfopepopcacmaaBool
namespace Go.Proofs.Ytgfopepopcacmaa
open Go.RowKit

def PartsE {α : Type} (w : World) (b : Nat) (sl : Value) (bs : List UInt8) (good : Value → Prop) (G : α → Value → World → Prop) (r : Option (α × Nat)) (e : Ending) (w' : World) : Prop :=
  match r with
  | some (x, q) => ∃ v, e = .returned v ∧ good v ∧ G x v w' ∧ IsR w' b sl bs q false ∧ w.grownBy w' (some b)
  | none => ∃ v q, e = .returned v ∧ good v ∧ IsR w' b sl bs q true ∧ w.grownBy w' (some b)
def ROutE {α : Type} (w : World) (b : Nat) (sl : Value) (bs : List UInt8) (p : Nat) (zero : Value) (G : α → Value → World → Prop) (r : Option (α × Nat)) (e : Ending) (w' : World) : Prop :=
  match r with
  | some (x, q) => ∃ v, e = .returned v ∧ G x v w' ∧ IsR w' b sl bs q false ∧ w.grownBy w' (some b)
  | none => e = .returned zero ∧ IsR w' b sl bs p true ∧ w.grownBy w' (some b)

theorem ROutE.from {α : Type} {w w1 w' : World} {b : Nat} {sl : Value} {bs : List UInt8} {p : Nat} {z : Value} {G : α → Value → World → Prop} {r : Option (α × Nat)} {e : Ending} (h : ROutE w1 b sl bs p z G r e w') (hg : w.grownBy w1 none) : ROutE w b sl bs p z G r e w' := by
  cases r with
  | none => exact ⟨h.1, h.2.1, gb_same (gb_none _ hg) h.2.2⟩
  | some r => obtain ⟨v, h1, h2, h3, h4⟩ := h; exact ⟨v, h1, h2, h3, gb_same (gb_none _ hg) h4⟩
theorem ROutE.ret {α : Type} {w w' : World} {b : Nat} {sl : Value} {bs : List UInt8} {p : Nat} {z : Value} {G : α → Value → World → Prop} {r : Option (α × Nat)} {e : Ending} (h : ROutE w b sl bs p z G r e w') : ∃ v, e = .returned v ∧ ROutE w b sl bs p z G r (.returned v) w' := by
  cases r with
  | none => exact ⟨z, h.1, rfl, h.2⟩
  | some r => obtain ⟨v, h1, h2⟩ := h; exact ⟨v, h1, v, rfl, h2⟩

set_option maxRecDepth 100000 in
set_option maxHeartbeats 400000 in
theorem valueE_s_byte {α : Type} (b : Nat) (sl : Value) (bs : List UInt8) (p : Nat) (f : Bool) (w : World) (K : FuncId) (caps : Array Value) (G : α → Value → World → Prop) (r : Option (α × Nat)) (h : IsR w b sl bs p f)
    (hK : ∀ (args : Array Value) (w : World), (callFunc K args).run Try.prog w = .ok (.enter K args) w)
    (HP : f = false → ∀ W, W = w → Calls Try.prog K caps W (PartsE W b sl bs G_s_byte G r)) :
    Calls Try.prog 73 #[.pointer (some ⟨b, 0, none⟩), .func (.func K) #[] caps] w (ROutE w b sl bs p (.slice none 0 0) G (unl f r)) := by
  have c1 := h.c1
  have c2 := h.c2
  have H := Lib.hid h
  cases f with
  | true =>
    clear h c1 HP hK
    go_enter Try.func73, Try.ntmps73
    go_wp2
    go_ret
    exact ⟨rfl, H.out, gb_refl _ _⟩
  | false =>
    have HQ := Lib.hid (HP rfl w rfl)
    rw [unl_f]
    clear h HP
    cases r with
    | none =>
      go_enter Try.func73, Try.ntmps73
      go_wp2_with fail
      refine HQ.out.mono ?_
      rintro e w1 ⟨v, q, rfl, ⟨a, n, c, rfl⟩, hR, hg⟩
      have d1 := hR.c1
      have d2 := hR.c2
      have f1 := hR.fr 1
      go_wp2
      go_ret
      exact ⟨rfl, hR.back p H.out.le, gb_same hg (gb_setCell _ _ _)⟩
    | some r =>
      obtain ⟨x0, q⟩ := r
      go_enter Try.func73, Try.ntmps73
      go_wp2_with fail
      refine HQ.out.mono ?_
      rintro e w1 ⟨v, rfl, ⟨a, n, c, rfl⟩, hG, hR, hg⟩
      have d1 := hR.c1
      have d2 := hR.c2
      have f1 := hR.fr 1
      have HG := Lib.hid hG
      clear hG
      go_wp2
      go_ret
      exact ⟨_, rfl, HG.out, hR, hg⟩

set_option maxRecDepth 100000 in
set_option maxHeartbeats 400000 in
theorem valueE_s_int {α : Type} (b : Nat) (sl : Value) (bs : List UInt8) (p : Nat) (f : Bool) (w : World) (K : FuncId) (caps : Array Value) (G : α → Value → World → Prop) (r : Option (α × Nat)) (h : IsR w b sl bs p f)
    (hK : ∀ (args : Array Value) (w : World), (callFunc K args).run Try.prog w = .ok (.enter K args) w)
    (HP : f = false → ∀ W, W = w → Calls Try.prog K caps W (PartsE W b sl bs G_s_int G r)) :
    Calls Try.prog 93 #[.pointer (some ⟨b, 0, none⟩), .func (.func K) #[] caps] w (ROutE w b sl bs p (.slice none 0 0) G (unl f r)) := by
  have c1 := h.c1
  have c2 := h.c2
  have H := Lib.hid h
  cases f with
  | true =>
    clear h c1 HP hK
    go_enter Try.func93, Try.ntmps93
    go_wp2
    go_ret
    exact ⟨rfl, H.out, gb_refl _ _⟩
  | false =>
    have HQ := Lib.hid (HP rfl w rfl)
    rw [unl_f]
    clear h HP
    cases r with
    | none =>
      go_enter Try.func93, Try.ntmps93
      go_wp2_with fail
      refine HQ.out.mono ?_
      rintro e w1 ⟨v, q, rfl, ⟨a, n, c, rfl⟩, hR, hg⟩
      have d1 := hR.c1
      have d2 := hR.c2
      have f1 := hR.fr 1
      go_wp2
      go_ret
      exact ⟨rfl, hR.back p H.out.le, gb_same hg (gb_setCell _ _ _)⟩
    | some r =>
      obtain ⟨x0, q⟩ := r
      go_enter Try.func93, Try.ntmps93
      go_wp2_with fail
      refine HQ.out.mono ?_
      rintro e w1 ⟨v, rfl, ⟨a, n, c, rfl⟩, hG, hR, hg⟩
      have d1 := hR.c1
      have d2 := hR.c2
      have f1 := hR.fr 1
      have HG := Lib.hid hG
      clear hG
      go_wp2
      go_ret
      exact ⟨_, rfl, HG.out, hR, hg⟩

set_option maxRecDepth 100000 in
set_option maxHeartbeats 400000 in
theorem valueE_s_string {α : Type} (b : Nat) (sl : Value) (bs : List UInt8) (p : Nat) (f : Bool) (w : World) (K : FuncId) (caps : Array Value) (G : α → Value → World → Prop) (r : Option (α × Nat)) (h : IsR w b sl bs p f)
    (hK : ∀ (args : Array Value) (w : World), (callFunc K args).run Try.prog w = .ok (.enter K args) w)
    (HP : f = false → ∀ W, W = w → Calls Try.prog K caps W (PartsE W b sl bs G_s_string G r)) :
    Calls Try.prog 95 #[.pointer (some ⟨b, 0, none⟩), .func (.func K) #[] caps] w (ROutE w b sl bs p (.slice none 0 0) G (unl f r)) := by
  have c1 := h.c1
  have c2 := h.c2
  have H := Lib.hid h
  cases f with
  | true =>
    clear h c1 HP hK
    go_enter Try.func95, Try.ntmps95
    go_wp2
    go_ret
    exact ⟨rfl, H.out, gb_refl _ _⟩
  | false =>
    have HQ := Lib.hid (HP rfl w rfl)
    rw [unl_f]
    clear h HP
    cases r with
    | none =>
      go_enter Try.func95, Try.ntmps95
      go_wp2_with fail
      refine HQ.out.mono ?_
      rintro e w1 ⟨v, q, rfl, ⟨a, n, c, rfl⟩, hR, hg⟩
      have d1 := hR.c1
      have d2 := hR.c2
      have f1 := hR.fr 1
      go_wp2
      go_ret
      exact ⟨rfl, hR.back p H.out.le, gb_same hg (gb_setCell _ _ _)⟩
    | some r =>
      obtain ⟨x0, q⟩ := r
      go_enter Try.func95, Try.ntmps95
      go_wp2_with fail
      refine HQ.out.mono ?_
      rintro e w1 ⟨v, rfl, ⟨a, n, c, rfl⟩, hG, hR, hg⟩
      have d1 := hR.c1
      have d2 := hR.c2
      have f1 := hR.fr 1
      have HG := Lib.hid hG
      clear hG
      go_wp2
      go_ret
      exact ⟨_, rfl, HG.out, hR, hg⟩

set_option maxRecDepth 100000 in
set_option maxHeartbeats 400000 in
theorem valueE_s_Effect {α : Type} (b : Nat) (sl : Value) (bs : List UInt8) (p : Nat) (f : Bool) (w : World) (K : FuncId) (caps : Array Value) (G : α → Value → World → Prop) (r : Option (α × Nat)) (h : IsR w b sl bs p f)
    (hK : ∀ (args : Array Value) (w : World), (callFunc K args).run Try.prog w = .ok (.enter K args) w)
    (HP : f = false → ∀ W, W = w → Calls Try.prog K caps W (PartsE W b sl bs G_s_Effect G r)) :
    Calls Try.prog 98 #[.pointer (some ⟨b, 0, none⟩), .func (.func K) #[] caps] w (ROutE w b sl bs p (.slice none 0 0) G (unl f r)) := by
  have c1 := h.c1
  have c2 := h.c2
  have H := Lib.hid h
  cases f with
  | true =>
    clear h c1 HP hK
    go_enter Try.func98, Try.ntmps98
    go_wp2
    go_ret
    exact ⟨rfl, H.out, gb_refl _ _⟩
  | false =>
    have HQ := Lib.hid (HP rfl w rfl)
    rw [unl_f]
    clear h HP
    cases r with
    | none =>
      go_enter Try.func98, Try.ntmps98
      go_wp2_with fail
      refine HQ.out.mono ?_
      rintro e w1 ⟨v, q, rfl, ⟨a, n, c, rfl⟩, hR, hg⟩
      have d1 := hR.c1
      have d2 := hR.c2
      have f1 := hR.fr 1
      go_wp2
      go_ret
      exact ⟨rfl, hR.back p H.out.le, gb_same hg (gb_setCell _ _ _)⟩
    | some r =>
      obtain ⟨x0, q⟩ := r
      go_enter Try.func98, Try.ntmps98
      go_wp2_with fail
      refine HQ.out.mono ?_
      rintro e w1 ⟨v, rfl, ⟨a, n, c, rfl⟩, hG, hR, hg⟩
      have d1 := hR.c1
      have d2 := hR.c2
      have f1 := hR.fr 1
      have HG := Lib.hid hG
      clear hG
      go_wp2
      go_ret
      exact ⟨_, rfl, HG.out, hR, hg⟩

end Go.Proofs.Ytgfopepopcacmaa
