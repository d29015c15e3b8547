/-
  Bounded.
-/
import Derived.Test.YtgfopepopcacmaaVal
namespace Go.Proofs.Ytgfopepopcacmaa
open Go.RowKit

def rdBounded (least most : Int) (bs : List UInt8) (p : Nat) : Option (Int × Nat) :=
  match rdInt bs p with
  | none => none
  | some (n, q) => if n < least ∨ most < n then none else some (n, q)

theorem box_kept {w w1 : World} {k b : Nat} {o : Obj} (h : w.heap[k]? = some o) (hg : w.grownBy w1 (some b)) (hne : k ≠ b) : w1.heap[k]? = some o := by
  rw [hg.block k (Array.getElem?_eq_some_iff.1 h).1 (by simpa using hne)]; exact h

theorem blk2_0 (w : World) (A B : Obj) : ((w.alloc A).alloc B).heap[w.heap.size]? = some A := by rw [heap_alloc_old _ _ (by simp)]; exact heap_alloc_new _ _
theorem blk2_1 (w : World) (A B : Obj) : ((w.alloc A).alloc B).heap[w.heap.size + 1]? = some B := heap_alloc2_new w A B
theorem blk3_0 (w : World) (A B C : Obj) : (((w.alloc A).alloc B).alloc C).heap[w.heap.size]? = some A := by rw [heap_alloc_old _ _ (by simp; omega)]; exact blk2_0 w A B
theorem blk3_1 (w : World) (A B C : Obj) : (((w.alloc A).alloc B).alloc C).heap[w.heap.size + 1]? = some B := by rw [heap_alloc_old _ _ (by simp)]; exact blk2_1 w A B
theorem blk3_2 (w : World) (A B C : Obj) : (((w.alloc A).alloc B).alloc C).heap[w.heap.size + 1 + 1]? = some C := by
  have := heap_alloc_new ((w.alloc A).alloc B) C
  simpa using this

theorem ROut.ret {w w' : World} {b : Nat} {sl : Value} {bs : List UInt8} {p : Nat} {z : Value} {r : Option (Value × Nat)} {e : Ending} (h : ROut w b sl bs p z r e w') : ∃ v, e = .returned v ∧ ROut w b sl bs p z r (.returned v) w' := by
  cases r with
  | none => exact ⟨z, h.1, rfl, h.2⟩
  | some r => exact ⟨r.1, h.1, rfl, h.2⟩
theorem ROut.from {w w1 w' : World} {b : Nat} {sl : Value} {bs : List UInt8} {p : Nat} {z : Value} {r : Option (Value × Nat)} {e : Ending} (h : ROut w1 b sl bs p z r e w') (hg : w.grownBy w1 none) : ROut w b sl bs p z r e w' := by
  cases r with
  | none => exact ⟨h.1, h.2.1, gb_same (gb_none _ hg) h.2.2⟩
  | some r => exact ⟨h.1, h.2.1, gb_same (gb_none _ hg) h.2.2⟩

theorem fail_g (b : Nat) (sl : Value) (bs : List UInt8) (p : Nat) (f : Bool) (w : World) (h : IsR w b sl bs p f) :
    Calls Try.prog 50 #[.pointer (some ⟨b, 0, none⟩)] w fun e w' => e = .returned (.tuple #[]) ∧ IsR w' b sl bs p true ∧ w.grownBy w' (some b) :=
  (fail_any b sl bs p f w h).mono fun _ _ ⟨h1, h2⟩ => ⟨h1, by rw [h2]; exact h.setF true, by rw [h2]; exact gb_setCell _ _ _⟩

set_option maxRecDepth 100000 in
set_option maxHeartbeats 400000 in
theorem bounded1 (b : Nat) (sl : Value) (bs : List UInt8) (p : Nat) (w : World) (least most : Int) (k0 k1 k2 : Nat) (h : IsR w b sl bs p false)
    (b0 : w.heap[k0]? = some (.cells #[.pointer (some ⟨b, 0, none⟩)] 25 (0, 0))) (b1 : w.heap[k1]? = some (.cells #[.int .i64 least] 3 (0, 0))) (b2 : w.heap[k2]? = some (.cells #[.int .i64 most] 3 (0, 0)))
    (n0 : k0 ≠ b) (n1 : k1 ≠ b) (n2 : k2 ≠ b) :
    Calls Try.prog 67 #[.pointer (some ⟨k0, 0, none⟩), .pointer (some ⟨k1, 0, none⟩), .pointer (some ⟨k2, 0, none⟩)] w (Parts w b sl bs G_int (intO (rdBounded least most bs p))) := by
  have c0 := cell_of_one b0
  have HI := Lib.hid (rint_any b sl bs p w h)
  have H := Lib.hid h
  have B0 := Lib.hid b0
  have B1 := Lib.hid b1
  have B2 := Lib.hid b2
  clear h b0 b1 b2
  unfold rdBounded
  generalize rdInt bs p = r at *
  cases r with
  | none =>
    go_enter Try.func67, Try.ntmps67
    go_wp2_with fail
    refine HI.out.mono ?_
    rintro e w1 ⟨rfl, hR, hg⟩
    have d0 := cell_of_one (box_kept B0.out hg n0)
    have d1 := cell_of_one (box_kept B1.out hg n1)
    have d2 := cell_of_one (box_kept B2.out hg n2)
    have HF := Lib.hid (fail_g b sl bs p true w1 hR)
    have HR := Lib.hid hR
    clear hR
    go_wp2_with (go_at_call 50; refine HF.out.mono ?_; rintro e w2 ⟨rfl, hR2, hg2⟩)
    all_goals go_ret
    all_goals first
      | exact ⟨_, p, rfl, ⟨_, rfl⟩, hR2, gb_same hg hg2⟩
      | exact ⟨_, p, rfl, ⟨_, rfl⟩, HR.out, hg⟩
  | some r =>
    obtain ⟨n, q⟩ := r
    by_cases hc : n < least ∨ most < n
    · simp only [if_pos hc]
      go_enter Try.func67, Try.ntmps67
      go_wp2_with fail
      refine HI.out.mono ?_
      rintro e w1 ⟨rfl, hR, hg⟩
      have d0 := cell_of_one (box_kept B0.out hg n0)
      have d1 := cell_of_one (box_kept B1.out hg n1)
      have d2 := cell_of_one (box_kept B2.out hg n2)
      have HF := Lib.hid (fail_g b sl bs q false w1 hR)
      clear hR
      rcases hc with hc | hc
      · go_wp2_with (go_at_call 50; refine HF.out.mono ?_; rintro e w2 ⟨rfl, hR2, hg2⟩)
        go_ret
        exact ⟨_, q, rfl, ⟨_, rfl⟩, hR2, gb_same hg hg2⟩
      · go_wp2_with (go_at_call 50; refine HF.out.mono ?_; rintro e w2 ⟨rfl, hR2, hg2⟩)
        all_goals go_ret
        all_goals exact ⟨_, q, rfl, ⟨_, rfl⟩, hR2, gb_same hg hg2⟩
    · simp only [if_neg hc]
      have h1 : least ≤ n := by omega
      have h2 : n ≤ most := by omega
      clear hc
      go_enter Try.func67, Try.ntmps67
      go_wp2_with fail
      refine HI.out.mono ?_
      rintro e w1 ⟨rfl, hR, hg⟩
      have d0 := cell_of_one (box_kept B0.out hg n0)
      have d1 := cell_of_one (box_kept B1.out hg n1)
      have d2 := cell_of_one (box_kept B2.out hg n2)
      have HR := Lib.hid hR
      clear hR
      go_wp2
      go_ret
      exact ⟨rfl, ⟨_, rfl⟩, HR.out, hg⟩

set_option maxRecDepth 100000 in
set_option maxHeartbeats 400000 in
theorem bounded_any (b : Nat) (sl : Value) (bs : List UInt8) (p : Nat) (f : Bool) (w : World) (least most : Int) (h : IsR w b sl bs p f) :
    Calls Try.prog 28 #[.pointer (some ⟨b, 0, none⟩), .int .i64 least, .int .i64 most] w (ROut w b sl bs p (.int .i64 0) (unl f (intO (rdBounded least most bs p)))) := by
  have hm := hmf
  have hlt := h.lt
  have H := Lib.hid h
  clear h
  go_enter Try.func28, Try.ntmps28
  go_wp2_with fail
  have hg3 : w.grownBy (((w.alloc (.cells #[.pointer (some ⟨b, 0, none⟩)] 25)).alloc (.cells #[.int .i64 least] 3)).alloc (.cells #[.int .i64 most] 3)) none := gb_of_below (by go_grown)
  refine (value_int b sl bs p f _ _ _ (intO (rdBounded least most bs p)) (H.out.grown hg3) (fun _ _ => rfl) ?_).mono ?_
  · rintro rfl W rfl
    exact bounded1 b sl bs p _ least most _ _ _ (H.out.grown hg3) (blk3_0 _ _ _ _) (blk3_1 _ _ _ _) (blk3_2 _ _ _ _) (by omega) (by omega) (by omega)
  · rintro e w' hr
    obtain ⟨v, rfl, hr⟩ := hr.ret
    have HR := Lib.hid (hr.from hg3)
    clear hr
    go_wp2
    go_ret
    exact HR.out
end Go.Proofs.Ytgfopepopcacmaa
