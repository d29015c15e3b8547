/-
  Bytes and String, the methods.
-/
import Derived.Test.YtgfopepopcacmaaBytes
namespace Go.Proofs.Ytgfopepopcacmaa
open Go.RowKit

set_option maxRecDepth 100000 in
set_option maxHeartbeats 400000 in
theorem bytes_any (b : Nat) (sl : Value) (bs : List UInt8) (p : Nat) (f : Bool) (w : World) (most : Int) (B : Nat) (h : IsR w b sl bs p f) (hB : B ≤ w.heap.size) (hmo : most ≤ 9223372036854775807) :
    Calls Try.prog 31 #[.pointer (some ⟨b, 0, none⟩), .int .i64 most] w (ROutE w b sl bs p (.slice none 0 0) (fun l v w' => Own w' B v l) (unl f (rdBytes most bs p))) := by
  have hm := hmf
  have hlt := h.lt
  have H := Lib.hid h
  clear h
  go_enter Try.func31, Try.ntmps31
  go_wp2_with fail
  have hg3 : w.grownBy ((w.alloc (.cells #[.pointer (some ⟨b, 0, none⟩)] 25)).alloc (.cells #[.int .i64 most] 3)) none := gb_of_below (by go_grown)
  refine (valueE_s_byte b sl bs p f _ _ _ (fun l v w' => Own w' B v l) (rdBytes most bs p) (H.out.grown hg3) (fun _ _ => rfl) ?_).mono ?_
  · rintro rfl W rfl
    exact bytes1 b sl bs p _ most B _ _ (H.out.grown hg3) (Nat.le_trans hB hg3.size) hmo (blk2_0 _ _ _) (blk2_1 _ _ _) (by omega) (by omega)
  · rintro e w' hr
    obtain ⟨v, rfl, hr⟩ := hr.ret
    have HR := Lib.hid (hr.from hg3)
    clear hr
    go_wp2
    go_ret
    exact HR.out

set_option maxRecDepth 100000 in
set_option maxHeartbeats 400000 in
theorem str_any (b : Nat) (sl : Value) (bs : List UInt8) (p : Nat) (f : Bool) (w : World) (most : Int) (h : IsR w b sl bs p f) (hmo : most ≤ 9223372036854775807) :
    Calls Try.prog 30 #[.pointer (some ⟨b, 0, none⟩), .int .i64 most] w (ROut w b sl bs p (.string ⟨#[]⟩) (unl f (strO (rdBytes most bs p)))) := by
  have hm := hmf
  have hlt := h.lt
  have H := Lib.hid h
  clear h
  go_enter Try.func30, Try.ntmps30
  go_wp2_with fail
  have hg3 : w.grownBy ((w.alloc (.cells #[.pointer (some ⟨b, 0, none⟩)] 25)).alloc (.cells #[.int .i64 most] 3)) none := gb_of_below (by go_grown)
  refine (value_string b sl bs p f _ _ _ (strO (rdBytes most bs p)) (H.out.grown hg3) (fun _ _ => rfl) ?_).mono ?_
  · rintro rfl W rfl
    exact string1 b sl bs p _ most 0 _ _ (H.out.grown hg3) (Nat.zero_le _) hmo (blk2_0 _ _ _) (blk2_1 _ _ _) (by omega) (by omega)
  · rintro e w' hr
    obtain ⟨v, rfl, hr⟩ := hr.ret
    have HR := Lib.hid (hr.from hg3)
    clear hr
    go_wp2
    go_ret
    exact HR.out
end Go.Proofs.Ytgfopepopcacmaa
