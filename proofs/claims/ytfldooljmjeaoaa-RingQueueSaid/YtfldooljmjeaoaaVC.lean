/-
  Reader.Bounded, next.
-/
import Derived.Test.YtfldooljmjeaoaaVE
import Derived.Deep.RegionHeld3
namespace Go.Proofs.Ytfldooljmjeaoaa
open Go.RowKit Go.Shelf
theorem hmf : ∀ (fn : Fn) (first cap : Array Value) (w : World), (Instr.makeFunc fn first cap).run Try.prog w = .ok (.func fn first cap) w := fun _ _ _ _ => rfl

set_option maxHeartbeats 400000 in
theorem rint_failed (b : Nat) (sl : Value) (bs : List UInt8) (p : Nat) (w : World) (h : IsR w b sl bs p true) :
    Calls Try.prog 48 #[.pointer (some ⟨b, 0, none⟩)] w (ROut w b sl bs p (.int .i64 0) none) := by
  have c2 := h.c2
  have H := Lib.hid h
  clear h
  go_enter Try.func48, Try.ntmps48
  go_wp2
  go_ret
  exact ⟨rfl, H.out, gb_refl _ _⟩

/-- an operation's outcome, unless the reader has failed before -/
def unl {α : Type} (f : Bool) (r : Option α) : Option α := if f then none else r
theorem unl_t {α : Type} (r : Option α) : unl true r = none := rfl
theorem unl_f {α : Type} (r : Option α) : unl false r = r := rfl

def intO (r : Option (Int × Nat)) : Option (Value × Nat) := r.map fun r => (.int .i64 r.1, r.2)
theorem rint_f (b : Nat) (sl : Value) (bs : List UInt8) (p : Nat) (f : Bool) (w : World) (h : IsR w b sl bs p f) :
    Calls Try.prog 48 #[.pointer (some ⟨b, 0, none⟩)] w (ROut w b sl bs p (.int .i64 0) (unl f (intO (rdInt bs p)))) := by
  cases f with
  | true => exact rint_failed b sl bs p w h
  | false => exact rint_any b sl bs p w h

/-- what the parts of a value do: they read it, or the reader has failed -/
def Parts (w : World) (b : Nat) (sl : Value) (bs : List UInt8) (good : Value → Prop) (r : Option (Value × Nat)) (e : Ending) (w' : World) : Prop :=
  match r with
  | some (v, q) => e = .returned v ∧ good v ∧ IsR w' b sl bs q false ∧ w.grownBy w' (some b)
  | none => ∃ v q, e = .returned v ∧ good v ∧ IsR w' b sl bs q true ∧ w.grownBy w' (some b)

theorem IsR.back {w : World} {b : Nat} {sl : Value} {bs : List UInt8} {q : Nat} {f : Bool} (h : IsR w b sl bs q f) (p : Nat) (hp : p ≤ bs.length) : IsR (w.setCell ⟨b, 1, none⟩ (.int .i64 (p : Int))) b sl bs p f := h.setP p hp

def G_int (v : Value) : Prop := ∃ n, v = .int .i64 n
set_option maxRecDepth 100000 in
set_option maxHeartbeats 400000 in
theorem value_int (b : Nat) (sl : Value) (bs : List UInt8) (p : Nat) (f : Bool) (w : World) (K : FuncId) (caps : Array Value) (r : Option (Value × Nat)) (h : IsR w b sl bs p f)
    (hK : ∀ (args : Array Value) (w : World), (callFunc K args).run Try.prog w = .ok (.enter K args) w)
    (HP : f = false → ∀ W, W = w → Calls Try.prog K caps W (Parts W b sl bs G_int r)) :
    Calls Try.prog 46 #[.pointer (some ⟨b, 0, none⟩), .func (.func K) #[] caps] w (ROut w b sl bs p (.int .i64 0) (unl f r)) := by
  have c1 := h.c1
  have c2 := h.c2
  have H := Lib.hid h
  cases f with
  | true =>
    clear h c1 HP hK
    go_enter Try.func46, Try.ntmps46
    go_wp2
    go_ret
    exact ⟨rfl, H.out, gb_refl _ _⟩
  | false =>
    have HQ := Lib.hid (HP rfl w rfl)
    rw [unl_f]
    clear h HP
    cases r with
    | none =>
      go_enter Try.func46, Try.ntmps46
      go_wp2_with fail
      refine HQ.out.mono ?_
      rintro e w1 ⟨v, q, rfl, ⟨n, rfl⟩, hR, hg⟩
      have d1 := hR.c1
      have d2 := hR.c2
      have f1 := hR.fr 1
      go_wp2
      go_ret
      exact ⟨rfl, hR.back p H.out.le, gb_same hg (gb_setCell _ _ _)⟩
    | some r =>
      obtain ⟨v0, q⟩ := r
      go_enter Try.func46, Try.ntmps46
      go_wp2_with fail
      refine HQ.out.mono ?_
      rintro e w1 ⟨rfl, ⟨n, rfl⟩, hR, hg⟩
      have d1 := hR.c1
      have d2 := hR.c2
      have f1 := hR.fr 1
      go_wp2
      go_ret
      exact ⟨rfl, hR, hg⟩

def G_bool (v : Value) : Prop := ∃ n, v = .bool n
def G_string (v : Value) : Prop := ∃ n, v = .string n
def G_s_byte (v : Value) : Prop := ∃ a n c, v = .slice a n c
def G_s_int (v : Value) : Prop := ∃ a n c, v = .slice a n c
def G_s_string (v : Value) : Prop := ∃ a n c, v = .slice a n c
def G_s_Effect (v : Value) : Prop := ∃ a n c, v = .slice a n c
theorem cf_test : ∀ (args : Array Value) (w : World), (callFunc 47 args).run Try.prog w = .ok (.enter 47 args) w := fun _ _ => rfl


def rdBounded (least most : Int) (bs : List UInt8) (p : Nat) : Option (Int × Nat) :=
  match rdInt bs p with
  | none => none
  | some (n, q) => if n < least ∨ most < n then none else some (n, q)

theorem box_kept {w w1 : World} {k b : Nat} {o : Obj} (h : w.heap[k]? = some o) (hg : w.grownBy w1 (some b)) (hne : k ≠ b) : w1.heap[k]? = some o := by
  rw [hg.block k (Array.getElem?_eq_some_iff.1 h).1 (by simpa using hne)]; exact h

theorem blk2_0 (w : World) (A B : Obj) : ((w.alloc A).alloc B).heap[w.heap.size]? = some A := by rw [heap_alloc_old _ _ (by simp)]; exact heap_alloc_new _ _
theorem blk2_1 (w : World) (A B : Obj) : ((w.alloc A).alloc B).heap[w.heap.size + 1]? = some B := heap_alloc2_new w A B
theorem blk3_0 (w : World) (A B C : Obj) : (((w.alloc A).alloc B).alloc C).heap[w.heap.size]? = some A := by rw [heap_alloc_old _ _ (by simp; omega)]; exact blk2_0 w A B
theorem blk3_1 (w : World) (A B C : Obj) : (((w.alloc A).alloc B).alloc C).heap[w.heap.size + 1]? = some B := by rw [heap_alloc_old _ _ (by simp)]; exact blk2_1 w A B
theorem blk3_2 (w : World) (A B C : Obj) : (((w.alloc A).alloc B).alloc C).heap[w.heap.size + 1 + 1]? = some C := by
  have := heap_alloc_new ((w.alloc A).alloc B) C
  simpa using this

theorem ROut.ret {w w' : World} {b : Nat} {sl : Value} {bs : List UInt8} {p : Nat} {z : Value} {r : Option (Value × Nat)} {e : Ending} (h : ROut w b sl bs p z r e w') : ∃ v, e = .returned v ∧ ROut w b sl bs p z r (.returned v) w' := by
  cases r with
  | none => exact ⟨z, h.1, rfl, h.2⟩
  | some r => exact ⟨r.1, h.1, rfl, h.2⟩
theorem ROut.from {w w1 w' : World} {b : Nat} {sl : Value} {bs : List UInt8} {p : Nat} {z : Value} {r : Option (Value × Nat)} {e : Ending} (h : ROut w1 b sl bs p z r e w') (hg : w.grownBy w1 none) : ROut w b sl bs p z r e w' := by
  cases r with
  | none => exact ⟨h.1, h.2.1, gb_same (gb_none _ hg) h.2.2⟩
  | some r => exact ⟨h.1, h.2.1, gb_same (gb_none _ hg) h.2.2⟩

theorem fail_g (b : Nat) (sl : Value) (bs : List UInt8) (p : Nat) (f : Bool) (w : World) (h : IsR w b sl bs p f) :
    Calls Try.prog 49 #[.pointer (some ⟨b, 0, none⟩)] w fun e w' => e = .returned (.tuple #[]) ∧ IsR w' b sl bs p true ∧ w.grownBy w' (some b) :=
  (fail_any b sl bs p f w h).mono fun _ _ ⟨h1, h2⟩ => ⟨h1, by rw [h2]; exact h.setF true, by rw [h2]; exact gb_setCell _ _ _⟩

set_option maxRecDepth 100000 in
set_option maxHeartbeats 400000 in
theorem bounded1 (b : Nat) (sl : Value) (bs : List UInt8) (p : Nat) (w : World) (least most : Int) (k0 k1 k2 : Nat) (h : IsR w b sl bs p false)
    (b0 : w.heap[k0]? = some (.cells #[.pointer (some ⟨b, 0, none⟩)] 62 (0, 0))) (b1 : w.heap[k1]? = some (.cells #[.int .i64 least] 3 (0, 0))) (b2 : w.heap[k2]? = some (.cells #[.int .i64 most] 3 (0, 0)))
    (n0 : k0 ≠ b) (n1 : k1 ≠ b) (n2 : k2 ≠ b) :
    Calls Try.prog 47 #[.pointer (some ⟨k0, 0, none⟩), .pointer (some ⟨k1, 0, none⟩), .pointer (some ⟨k2, 0, none⟩)] w (Parts w b sl bs G_int (intO (rdBounded least most bs p))) := by
  have c0 := cell_of_one b0
  have HI := Lib.hid (rint_any b sl bs p w h)
  have H := Lib.hid h
  have B0 := Lib.hid b0
  have B1 := Lib.hid b1
  have B2 := Lib.hid b2
  clear h b0 b1 b2
  unfold rdBounded
  generalize rdInt bs p = r at *
  cases r with
  | none =>
    go_enter Try.func47, Try.ntmps47
    go_wp2_with fail
    refine HI.out.mono ?_
    rintro e w1 ⟨rfl, hR, hg⟩
    have d0 := cell_of_one (box_kept B0.out hg n0)
    have d1 := cell_of_one (box_kept B1.out hg n1)
    have d2 := cell_of_one (box_kept B2.out hg n2)
    have HF := Lib.hid (fail_g b sl bs p true w1 hR)
    have HR := Lib.hid hR
    clear hR
    go_wp2_with (go_at_call 49; refine HF.out.mono ?_; rintro e w2 ⟨rfl, hR2, hg2⟩)
    all_goals go_ret
    all_goals first
      | exact ⟨_, p, rfl, ⟨_, rfl⟩, hR2, gb_same hg hg2⟩
      | exact ⟨_, p, rfl, ⟨_, rfl⟩, HR.out, hg⟩
  | some r =>
    obtain ⟨n, q⟩ := r
    by_cases hc : n < least ∨ most < n
    · simp only [if_pos hc]
      go_enter Try.func47, Try.ntmps47
      go_wp2_with fail
      refine HI.out.mono ?_
      rintro e w1 ⟨rfl, hR, hg⟩
      have d0 := cell_of_one (box_kept B0.out hg n0)
      have d1 := cell_of_one (box_kept B1.out hg n1)
      have d2 := cell_of_one (box_kept B2.out hg n2)
      have HF := Lib.hid (fail_g b sl bs q false w1 hR)
      clear hR
      rcases hc with hc | hc
      · go_wp2_with (go_at_call 49; refine HF.out.mono ?_; rintro e w2 ⟨rfl, hR2, hg2⟩)
        go_ret
        exact ⟨_, q, rfl, ⟨_, rfl⟩, hR2, gb_same hg hg2⟩
      · go_wp2_with (go_at_call 49; refine HF.out.mono ?_; rintro e w2 ⟨rfl, hR2, hg2⟩)
        all_goals go_ret
        all_goals exact ⟨_, q, rfl, ⟨_, rfl⟩, hR2, gb_same hg hg2⟩
    · simp only [if_neg hc]
      have h1 : least ≤ n := by omega
      have h2 : n ≤ most := by omega
      clear hc
      go_enter Try.func47, Try.ntmps47
      go_wp2_with fail
      refine HI.out.mono ?_
      rintro e w1 ⟨rfl, hR, hg⟩
      have d0 := cell_of_one (box_kept B0.out hg n0)
      have d1 := cell_of_one (box_kept B1.out hg n1)
      have d2 := cell_of_one (box_kept B2.out hg n2)
      have HR := Lib.hid hR
      clear hR
      go_wp2
      go_ret
      exact ⟨rfl, ⟨_, rfl⟩, HR.out, hg⟩

set_option maxRecDepth 100000 in
set_option maxHeartbeats 400000 in
theorem bounded_any (b : Nat) (sl : Value) (bs : List UInt8) (p : Nat) (f : Bool) (w : World) (least most : Int) (h : IsR w b sl bs p f) :
    Calls Try.prog 28 #[.pointer (some ⟨b, 0, none⟩), .int .i64 least, .int .i64 most] w (ROut w b sl bs p (.int .i64 0) (unl f (intO (rdBounded least most bs p)))) := by
  have hm := hmf
  have hlt := h.lt
  have H := Lib.hid h
  clear h
  go_enter Try.func28, Try.ntmps28
  go_wp2_with fail
  have hg3 : w.grownBy (((w.alloc (.cells #[.pointer (some ⟨b, 0, none⟩)] 62)).alloc (.cells #[.int .i64 least] 3)).alloc (.cells #[.int .i64 most] 3)) none := gb_of_below (by go_grown)
  refine (value_int b sl bs p f _ _ _ (intO (rdBounded least most bs p)) (H.out.grown hg3) (fun _ _ => rfl) ?_).mono ?_
  · rintro rfl W rfl
    exact bounded1 b sl bs p _ least most _ _ _ (H.out.grown hg3) (blk3_0 _ _ _ _) (blk3_1 _ _ _ _) (blk3_2 _ _ _ _) (by omega) (by omega) (by omega)
  · rintro e w' hr
    obtain ⟨v, rfl, hr⟩ := hr.ret
    have HR := Lib.hid (hr.from hg3)
    clear hr
    go_wp2
    go_ret
    exact HR.out


theorem Rd.sub {w : World} {g off cap : Nat} {bs : List UInt8} (h1 : bs.length ≤ cap) (h2 : cap ≤ maxLen) (h3 : ∀ (j : Nat) (x : UInt8), bs[j]? = some x → w.cell? ⟨g, off + j, none⟩ = some (bv x)) (p n : Nat) (hp : p + n ≤ bs.length) :
    Rd w (.slice (some ⟨g, off + p, none⟩) n (cap - p)) ((bs.drop p).take n) := by
  have hl : ((bs.drop p).take n).length = n := by simp; omega
  refine .inr ⟨g, off + p, cap - p, by rw [hl], by rw [hl]; omega, by omega, fun j x hj => ?_⟩
  rw [List.getElem?_take] at hj
  split at hj
  · rw [List.getElem?_drop] at hj
    rw [Nat.add_assoc]
    exact h3 _ _ hj
  · cases hj

def NextBad (w : World) (b : Nat) (sl : Value) (bs : List UInt8) (p : Nat) (e : Ending) (w' : World) : Prop := e = .returned (.slice none 0 0) ∧ IsR w' b sl bs p true ∧ w.grownBy w' (some b)
def NextGood (w : World) (b : Nat) (sl : Value) (bs : List UInt8) (p : Nat) (n : Nat) (e : Ending) (w' : World) : Prop :=
  ∃ a c, e = .returned (.slice a n c) ∧ Rd w' (.slice a n c) ((bs.drop p).take n) ∧ (∀ W, Rd W sl bs → Rd W (.slice a n c) ((bs.drop p).take n)) ∧ (∀ x, a = some x → x.block ≠ b) ∧ IsR w' b sl bs (p + n) false ∧ w.grownBy w' (some b)
def NextPost (w : World) (b : Nat) (sl : Value) (bs : List UInt8) (p : Nat) (f : Bool) (n : Nat) : Ending → World → Prop :=
  if f = true ∨ bs.length - p < n then NextBad w b sl bs p else NextGood w b sl bs p n

set_option maxRecDepth 100000 in
set_option maxHeartbeats 400000 in
theorem next_any (b : Nat) (sl : Value) (bs : List UInt8) (p : Nat) (f : Bool) (n : Nat) (w : World) (h : IsR w b sl bs p f) (hn : n ≤ 9223372036854775807) :
    Calls Try.prog 68 #[.pointer (some ⟨b, 0, none⟩), .int .i64 (n : Int)] w (NextPost w b sl bs p f n) := by
  have HL := Lib.hid (left_any b sl bs p f w h)
  have c0 := h.c0
  have c1 := h.c1
  have c2 := h.c2
  have f1 := h.fr 1
  have f2 := h.fr 2
  have hle := h.le
  have hsm := h.sm
  have hrd := h.rd
  have hne := h.ne
  have H := Lib.hid h
  clear h
  unfold NextPost
  cases f with
  | true =>
    rw [if_pos (Or.inl rfl)]
    clear c0 c1 hrd hne
    go_enter Try.func68, Try.ntmps68
    go_wp2
    go_ret
    exact ⟨rfl, H.out.setF true, gb_setCell _ _ _⟩
  | false =>
    by_cases hgt : bs.length - p < n
    · rw [if_pos (.inr hgt)]
      have hgt2 : ((bs.length - p : Nat) : Int) < (n : Int) := by omega
      clear c0 c1 hrd hne hgt
      go_enter Try.func68, Try.ntmps68
      go_wp2_with (go_at_call 54; refine HL.out.mono ?_; rintro e w1 ⟨rfl, nq, rfl⟩)
      go_ret
      exact ⟨rfl, (H.out.grown (gb_drewN _ _ _)).setF true, gb_same (gb_drewN _ _ _) (gb_setCell _ _ _)⟩
    · rw [if_neg (by simp; omega)]
      have hle2 : (n : Int) ≤ ((bs.length - p : Nat) : Int) := by omega
      rcases hrd with ⟨rfl, rfl⟩ | ⟨g, off, cap, rfl, h1, h2, h3⟩
      · have hp0 : p = 0 := by simpa using hle
        have hn0 : n = 0 := by simp at hgt; omega
        subst hp0 hn0
        go_enter Try.func68, Try.ntmps68
        go_wp2_with (go_at_call 54; refine HL.out.mono ?_; rintro e w1 ⟨rfl, nq, rfl⟩)
        go_quiet (fail)
        go_wp2
        go_ret
        exact ⟨none, 0, rfl, Or.inl ⟨rfl, rfl⟩, fun _ _ => Or.inl ⟨rfl, rfl⟩, (fun x hx => by cases hx), ((H.out.grown (gb_drewN _ _ _)).setP 0 (by simp)).grown (gb_drewN _ _ _), gb_same (gb_drewN _ _ _) (gb_same (gb_setCell _ _ _) (gb_drewN _ _ _))⟩
      · have hgb : g ≠ b := fun e => hne (by rw [e]; rfl)
        have HS := Lib.hid (Rd.sub h1 h2 h3 p n (by omega))
        have HW : Hid (∀ W, Rd W (.slice (some ⟨g, off, none⟩) bs.length cap) bs → Rd W (.slice (some ⟨g, off + p, none⟩) n (cap - p)) ((bs.drop p).take n)) := Lib.hid (fun W hW => by
          rcases hW with ⟨h4, _⟩ | ⟨g', off', cap', h4, h5, h6, h7⟩
          · cases h4
          · simp only [Value.slice.injEq, Option.some.injEq, Addr.mk.injEq, and_true, true_and] at h4
            obtain ⟨⟨rfl, rfl⟩, rfl⟩ := h4
            exact Rd.sub h1 h2 h7 p n (by omega))
        clear h3 hne
        unfold maxLen at h2
        have hpc : p < cap ∨ p = cap := by omega
        rcases hpc with hpc | hpc
        · go_enter Try.func68, Try.ntmps68
          go_wp2_with (go_at_call 54; refine HL.out.mono ?_; rintro e w1 ⟨rfl, nq, rfl⟩)
          go_quiet (fail)
          go_wp2
          go_ret
          refine ⟨some ⟨g, off + p, none⟩, cap - p, ?_, ((HS.out.kept (gb_drewN _ _ none) (by simp)).kept (gb_setCell _ _ _) (fun k hk e => ?_)).kept (gb_drewN _ _ none) (by simp), HW.out, (fun x hx => by cases hx; exact hgb), ((H.out.grown (gb_drewN _ _ _)).setP (p + n) (by omega)).grown (gb_drewN _ _ _), gb_same (gb_drewN _ _ _) (gb_same (gb_setCell _ _ _) (gb_drewN _ _ _))⟩
          · show Ending.returned (Value.slice _ (p + n - p) _) = _
            rw [show p + n - p = n by omega]
          · simp only [Value.ownBlock, Option.some.injEq] at hk e
            omega
        · have hn0 : n = 0 := by omega
          subst hn0
          subst hpc
          go_enter Try.func68, Try.ntmps68
          go_wp2_with (go_at_call 54; refine HL.out.mono ?_; rintro e w1 ⟨rfl, nq, rfl⟩)
          go_quiet (fail)
          go_wp2
          go_ret
          exact ⟨some ⟨g, off, none⟩, 0, rfl, Rd.empty g off 0 (Nat.zero_le _), fun _ _ => Rd.empty g off 0 (Nat.zero_le _), (fun x hx => by cases hx; exact hgb), ((H.out.grown (gb_drewN _ _ _)).setP (p + 0) (by omega)).grown (gb_drewN _ _ _), gb_same (gb_drewN _ _ _) (gb_same (gb_setCell _ _ _) (gb_drewN _ _ _))⟩


def rdBool (bs : List UInt8) (p : Nat) : Option (Bool × Nat) :=
  match bs[p]? with
  | none => none
  | some c => if c.toNat ≤ 1 then some (decide (c.toNat = 1), p + 1) else none
def boolO (r : Option (Bool × Nat)) : Option (Value × Nat) := r.map fun r => (.bool r.1, r.2)

theorem Rd.head {w : World} {a : Option Addr} {n c : Nat} {x : UInt8} {l : List UInt8} (h : Rd w (.slice a n c) (x :: l)) : ∃ g off, a = some ⟨g, off, none⟩ ∧ w.cell? ⟨g, off, none⟩ = some (.int .u8 (x.toNat : Int)) := by
  rcases h with ⟨h1, h2⟩ | ⟨g, off, cap, h1, _, _, h3⟩
  · cases h2
  · simp only [Value.slice.injEq] at h1
    exact ⟨g, off, h1.1, h3 0 x rfl⟩
end Go.Proofs.Ytfldooljmjeaoaa
