/-
  Bool.
-/
import Derived.Test.YtgfopepopcacmaaNext
namespace Go.Proofs.Ytgfopepopcacmaa
open Go.RowKit

def rdBool (bs : List UInt8) (p : Nat) : Option (Bool × Nat) :=
  match bs[p]? with
  | none => none
  | some c => if c.toNat ≤ 1 then some (decide (c.toNat = 1), p + 1) else none
def boolO (r : Option (Bool × Nat)) : Option (Value × Nat) := r.map fun r => (.bool r.1, r.2)

theorem Rd.head {w : World} {a : Option Addr} {n c : Nat} {x : UInt8} {l : List UInt8} (h : Rd w (.slice a n c) (x :: l)) : ∃ g off, a = some ⟨g, off, none⟩ ∧ w.cell? ⟨g, off, none⟩ = some (.int .u8 (x.toNat : Int)) := by
  rcases h with ⟨h1, h2⟩ | ⟨g, off, cap, h1, _, _, h3⟩
  · cases h2
  · simp only [Value.slice.injEq] at h1
    exact ⟨g, off, h1.1, h3 0 x rfl⟩

set_option maxRecDepth 100000 in
set_option maxHeartbeats 400000 in
theorem bool1 (b : Nat) (sl : Value) (bs : List UInt8) (p : Nat) (w : World) (k0 : Nat) (h : IsR w b sl bs p false)
    (b0 : w.heap[k0]? = some (.cells #[.pointer (some ⟨b, 0, none⟩)] 25 (0, 0))) (n0 : k0 ≠ b) :
    Calls Try.prog 69 #[.pointer (some ⟨k0, 0, none⟩)] w (Parts w b sl bs G_bool (boolO (rdBool bs p))) := by
  have c0 := cell_of_one b0
  have HI := Lib.hid (next_any b sl bs p false 1 w h (by omega))
  have B0 := Lib.hid b0
  have hle := h.le
  clear h b0
  unfold rdBool
  by_cases hp : p < bs.length
  · obtain ⟨x, hx⟩ : ∃ x, bs[p]? = some x := ⟨bs[p], by simp [hp]⟩
    have hd : (bs.drop p).take 1 = [x] := by
      obtain ⟨h1, h2⟩ := List.getElem?_eq_some_iff.1 hx
      rw [List.drop_eq_getElem_cons h1, h2]; rfl
    rw [hx]
    unfold NextPost at HI
    rw [if_neg (by simp; omega)] at HI
    clear hx
    by_cases h1 : x.toNat ≤ 1
    · simp only [if_pos h1]
      go_enter Try.func69, Try.ntmps69
      go_wp2_with fail
      refine HI.out.mono ?_
      rintro e w1 ⟨a, c, rfl, hrd, _, hab, hR, hg⟩
      rw [hd] at hrd
      obtain ⟨g, off, rfl, hcell⟩ := hrd.head
      have d0 := cell_of_one (box_kept B0.out hg n0)
      clear hrd hab
      have HR := Lib.hid hR
      clear hR hd
      obtain ⟨d, hd⟩ : ∃ d, x.toNat = d := ⟨_, rfl⟩
      rw [hd] at hcell h1
      have HD := Lib.hid hd
      clear hd
      go_wp2
      go_ret
      refine ⟨?_, ⟨_, rfl⟩, HR.out, hg⟩
      show Ending.returned (Value.bool ((d : Int) == 1)) = Ending.returned (Value.bool (decide (x.toNat = 1)))
      rw [HD.out]
      congr 2
      rw [Bool.eq_iff_iff]; simp; omega
    · simp only [if_neg h1]
      go_enter Try.func69, Try.ntmps69
      go_wp2_with fail
      refine HI.out.mono ?_
      rintro e w1 ⟨a, c, rfl, hrd, _, hab, hR, hg⟩
      rw [hd] at hrd
      obtain ⟨g, off, rfl, hcell⟩ := hrd.head
      have d0 := cell_of_one (box_kept B0.out hg n0)
      have HF := Lib.hid (fail_g b sl bs (p + 1) false w1 hR)
      clear hrd hab hR hd
      obtain ⟨d, hd⟩ : ∃ d, x.toNat = d := ⟨_, rfl⟩
      rw [hd] at hcell h1
      clear hd
      go_wp2_with (go_at_call 50; refine HF.out.mono ?_; rintro e w2 ⟨rfl, hR2, hg2⟩)
      go_ret
      exact ⟨_, p + 1, rfl, ⟨_, rfl⟩, hR2, gb_same hg hg2⟩
  · have hn : bs[p]? = none := by simp; omega
    rw [hn]
    unfold NextPost at HI
    rw [if_pos (by omega)] at HI
    clear hn
    go_enter Try.func69, Try.ntmps69
    go_wp2_with fail
    refine HI.out.mono ?_
    rintro e w1 ⟨rfl, hR, hg⟩
    have d0 := cell_of_one (box_kept B0.out hg n0)
    have HF := Lib.hid (fail_g b sl bs p true w1 hR)
    clear hR
    go_wp2_with (go_at_call 50; refine HF.out.mono ?_; rintro e w2 ⟨rfl, hR2, hg2⟩)
    go_ret
    exact ⟨_, p, rfl, ⟨_, rfl⟩, hR2, gb_same hg hg2⟩

set_option maxRecDepth 100000 in
set_option maxHeartbeats 400000 in
theorem bool_any (b : Nat) (sl : Value) (bs : List UInt8) (p : Nat) (f : Bool) (w : World) (h : IsR w b sl bs p f) :
    Calls Try.prog 29 #[.pointer (some ⟨b, 0, none⟩)] w (ROut w b sl bs p (.bool false) (unl f (boolO (rdBool bs p)))) := by
  have hm := hmf
  have hlt := h.lt
  have H := Lib.hid h
  clear h
  go_enter Try.func29, Try.ntmps29
  go_wp2_with fail
  have hg3 : w.grownBy (w.alloc (.cells #[.pointer (some ⟨b, 0, none⟩)] 25)) none := gb_alloc _ _ _
  refine (value_bool b sl bs p f _ _ _ (boolO (rdBool bs p)) (H.out.grown hg3) (fun _ _ => rfl) ?_).mono ?_
  · rintro rfl W rfl
    exact bool1 b sl bs p _ _ (H.out.grown hg3) (heap_alloc_new _ _) (by omega)
  · rintro e w' hr
    obtain ⟨v, rfl, hr⟩ := hr.ret
    have HR := Lib.hid (hr.from hg3)
    clear hr
    go_wp2
    go_ret
    exact HR.out
end Go.Proofs.Ytgfopepopcacmaa
