/-
  The generic function value at plain types; Bounded.
-/
import Derived.Test.YtgfopepopcacmaaNil
import Derived.Deep.RegionHeld3
namespace Go.Proofs.Ytgfopepopcacmaa
open Go.RowKit

set_option maxHeartbeats 400000 in
theorem rint_failed (b : Nat) (sl : Value) (bs : List UInt8) (p : Nat) (w : World) (h : IsR w b sl bs p true) :
    Calls Try.prog 40 #[.pointer (some ⟨b, 0, none⟩)] w (ROut w b sl bs p (.int .i64 0) none) := by
  have c2 := h.c2
  have H := Lib.hid h
  clear h
  go_enter Try.func40, Try.ntmps40
  go_wp2
  go_ret
  exact ⟨rfl, H.out, gb_refl _ _⟩

/-- an operation's outcome, unless the reader has failed before -/
def unl {α : Type} (f : Bool) (r : Option α) : Option α := if f then none else r
theorem unl_t {α : Type} (r : Option α) : unl true r = none := rfl
theorem unl_f {α : Type} (r : Option α) : unl false r = r := rfl

def intO (r : Option (Int × Nat)) : Option (Value × Nat) := r.map fun r => (.int .i64 r.1, r.2)
theorem rint_f (b : Nat) (sl : Value) (bs : List UInt8) (p : Nat) (f : Bool) (w : World) (h : IsR w b sl bs p f) :
    Calls Try.prog 40 #[.pointer (some ⟨b, 0, none⟩)] w (ROut w b sl bs p (.int .i64 0) (unl f (intO (rdInt bs p)))) := by
  cases f with
  | true => exact rint_failed b sl bs p w h
  | false => exact rint_any b sl bs p w h

/-- what the parts of a value do: they read it, or the reader has failed -/
def Parts (w : World) (b : Nat) (sl : Value) (bs : List UInt8) (good : Value → Prop) (r : Option (Value × Nat)) (e : Ending) (w' : World) : Prop :=
  match r with
  | some (v, q) => e = .returned v ∧ good v ∧ IsR w' b sl bs q false ∧ w.grownBy w' (some b)
  | none => ∃ v q, e = .returned v ∧ good v ∧ IsR w' b sl bs q true ∧ w.grownBy w' (some b)

theorem IsR.back {w : World} {b : Nat} {sl : Value} {bs : List UInt8} {q : Nat} {f : Bool} (h : IsR w b sl bs q f) (p : Nat) (hp : p ≤ bs.length) : IsR (w.setCell ⟨b, 1, none⟩ (.int .i64 (p : Int))) b sl bs p f := h.setP p hp

def G_int (v : Value) : Prop := ∃ n, v = .int .i64 n
set_option maxRecDepth 100000 in
set_option maxHeartbeats 400000 in
theorem value_int (b : Nat) (sl : Value) (bs : List UInt8) (p : Nat) (f : Bool) (w : World) (K : FuncId) (caps : Array Value) (r : Option (Value × Nat)) (h : IsR w b sl bs p f)
    (hK : ∀ (args : Array Value) (w : World), (callFunc K args).run Try.prog w = .ok (.enter K args) w)
    (HP : f = false → ∀ W, W = w → Calls Try.prog K caps W (Parts W b sl bs G_int r)) :
    Calls Try.prog 66 #[.pointer (some ⟨b, 0, none⟩), .func (.func K) #[] caps] w (ROut w b sl bs p (.int .i64 0) (unl f r)) := by
  have c1 := h.c1
  have c2 := h.c2
  have H := Lib.hid h
  cases f with
  | true =>
    clear h c1 HP hK
    go_enter Try.func66, Try.ntmps66
    go_wp2
    go_ret
    exact ⟨rfl, H.out, gb_refl _ _⟩
  | false =>
    have HQ := Lib.hid (HP rfl w rfl)
    rw [unl_f]
    clear h HP
    cases r with
    | none =>
      go_enter Try.func66, Try.ntmps66
      go_wp2_with fail
      refine HQ.out.mono ?_
      rintro e w1 ⟨v, q, rfl, ⟨n, rfl⟩, hR, hg⟩
      have d1 := hR.c1
      have d2 := hR.c2
      have f1 := hR.fr 1
      go_wp2
      go_ret
      exact ⟨rfl, hR.back p H.out.le, gb_same hg (gb_setCell _ _ _)⟩
    | some r =>
      obtain ⟨v0, q⟩ := r
      go_enter Try.func66, Try.ntmps66
      go_wp2_with fail
      refine HQ.out.mono ?_
      rintro e w1 ⟨rfl, ⟨n, rfl⟩, hR, hg⟩
      have d1 := hR.c1
      have d2 := hR.c2
      have f1 := hR.fr 1
      go_wp2
      go_ret
      exact ⟨rfl, hR, hg⟩

def G_bool (v : Value) : Prop := ∃ n, v = .bool n
set_option maxRecDepth 100000 in
set_option maxHeartbeats 400000 in
theorem value_bool (b : Nat) (sl : Value) (bs : List UInt8) (p : Nat) (f : Bool) (w : World) (K : FuncId) (caps : Array Value) (r : Option (Value × Nat)) (h : IsR w b sl bs p f)
    (hK : ∀ (args : Array Value) (w : World), (callFunc K args).run Try.prog w = .ok (.enter K args) w)
    (HP : f = false → ∀ W, W = w → Calls Try.prog K caps W (Parts W b sl bs G_bool r)) :
    Calls Try.prog 68 #[.pointer (some ⟨b, 0, none⟩), .func (.func K) #[] caps] w (ROut w b sl bs p (.bool false) (unl f r)) := by
  have c1 := h.c1
  have c2 := h.c2
  have H := Lib.hid h
  cases f with
  | true =>
    clear h c1 HP hK
    go_enter Try.func68, Try.ntmps68
    go_wp2
    go_ret
    exact ⟨rfl, H.out, gb_refl _ _⟩
  | false =>
    have HQ := Lib.hid (HP rfl w rfl)
    rw [unl_f]
    clear h HP
    cases r with
    | none =>
      go_enter Try.func68, Try.ntmps68
      go_wp2_with fail
      refine HQ.out.mono ?_
      rintro e w1 ⟨v, q, rfl, ⟨n, rfl⟩, hR, hg⟩
      have d1 := hR.c1
      have d2 := hR.c2
      have f1 := hR.fr 1
      go_wp2
      go_ret
      exact ⟨rfl, hR.back p H.out.le, gb_same hg (gb_setCell _ _ _)⟩
    | some r =>
      obtain ⟨v0, q⟩ := r
      go_enter Try.func68, Try.ntmps68
      go_wp2_with fail
      refine HQ.out.mono ?_
      rintro e w1 ⟨rfl, ⟨n, rfl⟩, hR, hg⟩
      have d1 := hR.c1
      have d2 := hR.c2
      have f1 := hR.fr 1
      go_wp2
      go_ret
      exact ⟨rfl, hR, hg⟩

def G_string (v : Value) : Prop := ∃ n, v = .string n
set_option maxRecDepth 100000 in
set_option maxHeartbeats 400000 in
theorem value_string (b : Nat) (sl : Value) (bs : List UInt8) (p : Nat) (f : Bool) (w : World) (K : FuncId) (caps : Array Value) (r : Option (Value × Nat)) (h : IsR w b sl bs p f)
    (hK : ∀ (args : Array Value) (w : World), (callFunc K args).run Try.prog w = .ok (.enter K args) w)
    (HP : f = false → ∀ W, W = w → Calls Try.prog K caps W (Parts W b sl bs G_string r)) :
    Calls Try.prog 71 #[.pointer (some ⟨b, 0, none⟩), .func (.func K) #[] caps] w (ROut w b sl bs p (.string ⟨#[]⟩) (unl f r)) := by
  have c1 := h.c1
  have c2 := h.c2
  have H := Lib.hid h
  cases f with
  | true =>
    clear h c1 HP hK
    go_enter Try.func71, Try.ntmps71
    go_wp2
    go_ret
    exact ⟨rfl, H.out, gb_refl _ _⟩
  | false =>
    have HQ := Lib.hid (HP rfl w rfl)
    rw [unl_f]
    clear h HP
    cases r with
    | none =>
      go_enter Try.func71, Try.ntmps71
      go_wp2_with fail
      refine HQ.out.mono ?_
      rintro e w1 ⟨v, q, rfl, ⟨n, rfl⟩, hR, hg⟩
      have d1 := hR.c1
      have d2 := hR.c2
      have f1 := hR.fr 1
      go_wp2
      go_ret
      exact ⟨rfl, hR.back p H.out.le, gb_same hg (gb_setCell _ _ _)⟩
    | some r =>
      obtain ⟨v0, q⟩ := r
      go_enter Try.func71, Try.ntmps71
      go_wp2_with fail
      refine HQ.out.mono ?_
      rintro e w1 ⟨rfl, ⟨n, rfl⟩, hR, hg⟩
      have d1 := hR.c1
      have d2 := hR.c2
      have f1 := hR.fr 1
      go_wp2
      go_ret
      exact ⟨rfl, hR, hg⟩

def G_s_byte (v : Value) : Prop := ∃ a n c, v = .slice a n c
def G_s_int (v : Value) : Prop := ∃ a n c, v = .slice a n c
def G_s_string (v : Value) : Prop := ∃ a n c, v = .slice a n c
def G_s_Effect (v : Value) : Prop := ∃ a n c, v = .slice a n c
theorem cf_test : ∀ (args : Array Value) (w : World), (callFunc 67 args).run Try.prog w = .ok (.enter 67 args) w := fun _ _ => rfl
end Go.Proofs.Ytgfopepopcacmaa
