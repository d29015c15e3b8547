/-
  whole, ReadMsg, ReadEffects, ReadEntry: the walks.
-/
import Derived.Test.YtgfopepopcacmaaEffM
namespace Go.Proofs.Ytgfopepopcacmaa
open Go.RowKit

def wholeO {α : Type} (rd : Option (α × Nat)) (n : Nat) : Option α := match rd with
  | some (x, q) => if q = n then some x else none
  | none => none
theorem whole_no {α : Type} {rd : Option (α × Nat)} {bs : List UInt8} {x : α} {q : Nat} {g : Bool} (h1 : g = false → rd = some (x, q)) (h2 : g = true → rd = none) (hE : g = true ∨ q < bs.length) : wholeO rd bs.length = none := by
  unfold wholeO
  cases g with
  | true => rw [h2 rfl]
  | false =>
    rw [h1 rfl]
    rcases hE with h | h
    · cases h
    · simp only
      rw [if_neg (by omega)]
theorem whole_yes {α : Type} {rd : Option (α × Nat)} {bs : List UInt8} {x : α} {q : Nat} {g : Bool} (h1 : g = false → rd = some (x, q)) (hq : q ≤ bs.length) (hE : ¬ (g = true ∨ q < bs.length)) : wholeO rd bs.length = some x := by
  unfold wholeO
  cases g with
  | true => exact absurd (.inl rfl) hE
  | false =>
    rw [h1 rfl]
    simp only
    rw [if_pos (by omega)]
theorem end_no {g : Bool} {bs : List UInt8} {q : Nat} (h : g = true ∨ q < bs.length) : endOf g bs q = 4 := by unfold endOf; rw [if_pos h]
theorem end_yes {g : Bool} {bs : List UInt8} {q : Nat} (h : ¬ (g = true ∨ q < bs.length)) : endOf g bs q = 0 := by unfold endOf; rw [if_neg h]

theorem heap_of_drewN {w w' : World} {n k : Nat} {o : Obj} (h : w' = w.drewN n) (hb : w.heap[k]? = some o) : w'.heap[k]? = some o := by subst h; exact hb

/-- the return of a struct out of a block and of one more value -/
theorem ret_row2 {fn : Func} {R : Ending → World → Prop} {p s : Tmp} {ty : TypeId} {tmps : Array Value} {w : World} {fs : Array Field} (hr : fn.results = #[.cell p ty, .tmp s]) (g : Nat) (t : TypeId) (cs : Array Value) (v : Value)
    (hp : tmps.getD p undef = .pointer (some ⟨g, 0, none⟩)) (hv : tmps.getD s undef = v) (hg : w.heap[g]? = some (.cells cs t (0, 0))) (hu : Try.prog.underlying ty = some (.struct fs)) (hi : (Try.prog.info? ty).map (·.size) = some cs.size)
    (h : R (.returned (.tuple #[.agg cs, v])) w) : bodyPost Try.prog fn R .ret { tmps := tmps, defers := [] } w := by
  refine bodyPost_ret (v := .tuple #[.agg cs, v]) ?_ rfl h
  have hp' : tmps[p]?.getD undef = .pointer (some ⟨g, 0, none⟩) := by simpa using hp
  have hv' : tmps[s]?.getD undef = v := by simpa using hv
  simp [results, hr, hp', hv', asAddr, run_loadVar_row w g t ty cs (0, 0) _ hg hu rfl hi]

def WholeP (n : Nat) (zero : Value) (o : Option (List Int × List UInt8)) (w : World) (e : Ending) (w' : World) : Prop := match o with
  | some x => ∃ mv, e = .returned (.tuple #[.agg (rowI x.1 mv).toArray, .int .i64 0]) ∧ IsSl mv ∧ x.1.length = n ∧ Own w' w.heap.size mv x.2 ∧ w.grownBy w' none
  | none => e = .returned (.tuple #[zero, .int .i64 4]) ∧ w.grownBy w' none

set_option maxRecDepth 100000 in
set_option maxHeartbeats 4000000 in
theorem whole_Msg (v : Value) (bs : List UInt8) (w : World) (hv : Rd w v bs) (hb : bs.length ≤ 1099511627776) :
    Calls Try.prog 75 #[v, .func (.func 51) #[] #[]] w (WholeP 8 zmsg (wholeO (rdM bs 0) bs.length) w) := by
  have hK : ∀ (args : Array Value) (w : World), (callFunc 51 args).run Try.prog w = .ok (.enter 51 args) w := fun _ _ => rfl
  obtain ⟨w0, hw0⟩ : ∃ W, W = w.alloc (Obj.cells #[.int .i64 0, .int .i64 0, .int .i64 0, .int .i64 0, .int .i64 0, .int .i64 0, .int .i64 0, .int .i64 0, .slice none 0 0] 57) := ⟨_, rfl⟩
  have HX0 : Hid (w0.heap[w.heap.size]? = some (.cells #[.int .i64 0, .int .i64 0, .int .i64 0, .int .i64 0, .int .i64 0, .int .i64 0, .int .i64 0, .int .i64 0, .slice none 0 0] 57 (0, 0))) := Lib.hid (by rw [hw0]; exact heap_at_alloc _ _)
  have hg0 : w.grownBy w0 none := by rw [hw0]; exact gb_alloc _ _ _
  have hs0 : w0.heap.size = w.heap.size + 1 := by rw [hw0]; simp
  have HRE := Lib.hid (read_any v bs w0 (hv.grown hg0) hb)
  have HG0 := Lib.hid hg0
  have HS0 := Lib.hid hs0
  have HW := Lib.hid hw0
  clear hw0 hg0 hs0 hv hb
  go_enter Try.func75, Try.ntmps75
  go_wp2_with fail
  rw [← HW.out]
  refine HRE.out.mono ?_
  rintro e w1 ⟨b, sl, rfl, hbge, hR1, hg1, hsl⟩
  have HMU := Lib.hid (rmsg_u b sl bs 0 false w1 hR1)
  have hbn : w.heap.size < b := by have := HS0.out; omega
  have HX1 := Lib.hid (blk_kept HX0.out hg1)
  have HG1 := Lib.hid (gb_same HG0.out hg1)
  have hs1 : w.heap.size + 1 ≤ w1.heap.size := by have h1 := hg1.size; have h2 := HS0.out; omega
  have HSL : Hid (bs ≠ [] → ∀ k, sl.ownBlock = some k → k < w1.heap.size) := Lib.hid (fun hne => Rd.blk hR1.rd hne)
  have hbl := hR1.lt
  clear hR1 hg1 hsl hbge HW HRE HX0
  go_wp2_with fail
  refine HMU.out.mono ?_
  rintro e w2 ⟨zs, mv, l, q, g, rfl, hzl, hmv, hom, hR2, hg2, t1, t2⟩
  have hq := hR2.le
  have HC : Hid ((rowI zs mv).toArray.size = 9) := Lib.hid (by rw [List.size_toArray, rowI_len, hzl])
  have HZL := Lib.hid hzl
  have HMV := Lib.hid hmv
  have HOM := Lib.hid hom
  have HR2 := Lib.hid hR2
  have h1 : Hid (g = false → rdM bs 0 = some ((zs, l), q)) := Lib.hid (fun e => (t1 e).2)
  have h2 : Hid (g = true → rdM bs 0 = none) := Lib.hid (fun e => by have := t2 e; rwa [unl_f] at this)
  have HX2 := Lib.hid (box_kept HX1.out hg2 (show w.heap.size ≠ b by omega))
  have HG2 : Hid (w.grownBy w2 none) := Lib.hid (gb_new HG1.out hg2 (by omega))
  have hs2 : w1.heap.size ≤ w2.heap.size := hg2.size
  have HONE := Lib.hid (rowI_one (zs := zs) hmv)
  clear hzl hmv hom hR2 hg2 t1 t2 HMU HX1 HG1
  by_cases hE : g = true ∨ q < bs.length
  · have HWN := Lib.hid (whole_no h1.out h2.out hE)
    have HEN := Lib.hid (fun W (hR : IsR W b sl bs q g) => by have := end_any b sl bs q g W hR; rw [end_no hE] at this; exact this)
    clear hE
    go_wp2_with (first | ((with_reducible refine is_store 57 7 14 ?_); go_must (refine st_row 57 7 14 w2.heap.size _ (rowI zs mv).toArray _ rfl rfl (heap_at_alloc _ _) (by rw [HC.out]; exact sz_msg) (by rw [HC.out]; rfl) HONE.out ?_; intro w3 hb3 hg3; have g23 : w2.grownBy w3 none := gb_new (gb_alloc _ _ _) hg3 (Nat.le_refl _); have HR3 := Lib.hid (HR2.out.grown g23); have HX3 := Lib.hid (blk_kept HX2.out g23); have HG3 := Lib.hid (gb_same HG2.out g23); clear hb3 hg3 g23)) | (go_at_call 14; refine (HEN.out _ HR3.out).mono ?_; go_must (rintro e w4 ⟨rfl, n4, hw4⟩; have HX4 := Lib.hid (heap_of_drewN hw4 HX3.out); have HG4 : Hid (w.grownBy w4 none) := Lib.hid (by rw [hw4]; exact gb_same HG3.out (gb_drewN _ _ _)); clear hw4)) | ((with_reducible refine is_load 57 19 9 ?_); go_must (refine ld_row 57 19 9 w4.heap.size _ _ rfl (heap_at_alloc _ _) Try.underlying57 sz_msg ?_)) | ((with_reducible refine is_store 57 4 19 ?_); go_must (refine st_row 57 4 19 w.heap.size _ _ _ rfl rfl (blk_kept HX4.out (gb_alloc _ _ _)) sz_msg rfl rfl ?_; intro w5 hb5 hg5)))
    refine ret_row2 rfl w.heap.size _ _ (.int .i64 4) rfl rfl hb5 Try.underlying57 sz_msg ?_
    rw [HWN.out]
    exact ⟨rfl, gb_new (gb_same HG4.out (gb_alloc _ _ _)) hg5 (Nat.le_refl _)⟩
  · have HWN := Lib.hid (whole_yes h1.out hq hE)
    have HEN := Lib.hid (fun W (hR : IsR W b sl bs q g) => by have := end_any b sl bs q g W hR; rw [end_yes hE] at this; exact this)
    clear hE
    go_wp2_with (first | ((with_reducible refine is_store 57 7 14 ?_); go_must (refine st_row 57 7 14 w2.heap.size _ (rowI zs mv).toArray _ rfl rfl (heap_at_alloc _ _) (by rw [HC.out]; exact sz_msg) (by rw [HC.out]; rfl) HONE.out ?_; intro w3 hb3 hg3; have g23 : w2.grownBy w3 none := gb_new (gb_alloc _ _ _) hg3 (Nat.le_refl _); have HR3 := Lib.hid (HR2.out.grown g23); have HX3 := Lib.hid (blk_kept HX2.out g23); have HG3 := Lib.hid (gb_same HG2.out g23); have HB3 := Lib.hid hb3; have HO3 := Lib.hid (HOM.out.grown g23); clear hb3 hg3 g23)) | (go_at_call 14; refine (HEN.out _ HR3.out).mono ?_; go_must (rintro e w4 ⟨rfl, n4, hw4⟩; have HX4 := Lib.hid (heap_of_drewN hw4 HX3.out); have HB4 := Lib.hid (heap_of_drewN hw4 HB3.out); have HO4 : Hid (Own w4 w1.heap.size mv l) := Lib.hid (by rw [hw4]; exact HO3.out.grown (gb_drewN _ _ _)); have HG4 : Hid (w.grownBy w4 none) := Lib.hid (by rw [hw4]; exact gb_same HG3.out (gb_drewN _ _ _)); clear hw4)) | ((with_reducible refine is_load 57 21 7 ?_); go_must (refine ld_row 57 21 7 w2.heap.size _ _ rfl HB4.out Try.underlying57 (by rw [HC.out]; exact sz_msg) ?_)) | ((with_reducible refine is_store 57 4 21 ?_); go_must (refine st_row 57 4 21 w.heap.size _ (rowI zs mv).toArray _ rfl rfl HX4.out (by rw [HC.out]; exact sz_msg) (by rw [HC.out]; rfl) HONE.out ?_; intro w5 hb5 hg5)))
    refine ret_row2 rfl w.heap.size _ _ (.int .i64 0) rfl rfl hb5 Try.underlying57 (by rw [HC.out]; exact sz_msg) ?_
    rw [HWN.out]
    exact ⟨mv, rfl, HMV.out, HZL.out, (HO4.out.kept hg5 (fun k hk e => by have e2 := Option.some.inj e; have := (HO4.out.lt k hk).1; omega)).mono (show w.heap.size ≤ w1.heap.size by omega), gb_new HG4.out hg5 (Nat.le_refl _)⟩

set_option maxRecDepth 100000 in
set_option maxHeartbeats 2000000 in
theorem readMsg_any (v : Value) (bs : List UInt8) (w : World) (hv : Rd w v bs) (hb : bs.length ≤ 1099511627776) :
    Calls Try.prog 33 #[v] w (WholeP 8 zmsg (wholeO (rdM bs 0) bs.length) w) := by
  obtain ⟨w0, hw0⟩ : ∃ W, W = w.alloc (Obj.cells #[.int .i64 0, .int .i64 0, .int .i64 0, .int .i64 0, .int .i64 0, .int .i64 0, .int .i64 0, .int .i64 0, .slice none 0 0] 57) := ⟨_, rfl⟩
  have HX0 : Hid (w0.heap[w.heap.size]? = some (.cells #[.int .i64 0, .int .i64 0, .int .i64 0, .int .i64 0, .int .i64 0, .int .i64 0, .int .i64 0, .int .i64 0, .slice none 0 0] 57 (0, 0))) := Lib.hid (by rw [hw0]; exact heap_at_alloc _ _)
  have hg0 : w.grownBy w0 none := by rw [hw0]; exact gb_alloc _ _ _
  have hs0 : w0.heap.size = w.heap.size + 1 := by rw [hw0]; simp
  have HC := Lib.hid (whole_Msg v bs w0 (hv.grown hg0) hb)
  have HG0 := Lib.hid hg0
  have HS0 := Lib.hid hs0
  have HW := Lib.hid hw0
  clear hw0 hg0 hs0 hv hb
  generalize wholeO (rdM bs 0) bs.length = o at *
  go_enter Try.func33, Try.ntmps33
  go_wp2_with fail
  rw [← HW.out]
  refine HC.out.mono ?_
  rintro e w1 hr
  cases o with
  | none =>
    obtain ⟨rfl, hg1⟩ := hr
    have HX1 := Lib.hid (blk_kept HX0.out hg1)
    have HG1 := Lib.hid (gb_same HG0.out hg1)
    clear hg1
    go_wp2_with ((with_reducible refine is_store 57 2 6 ?_); go_must (refine st_row 57 2 6 w.heap.size _ _ _ rfl rfl HX1.out sz_msg rfl rfl ?_; intro w2 hb2 hg2))
    refine ret_row2 rfl w.heap.size _ _ (.int .i64 4) rfl rfl hb2 Try.underlying57 sz_msg ?_
    exact ⟨rfl, gb_new HG1.out hg2 (Nat.le_refl _)⟩
  | some x =>
    obtain ⟨mv, rfl, hmv, hx8, hom, hg1⟩ := hr
    have HX1 := Lib.hid (blk_kept HX0.out hg1)
    have HG1 := Lib.hid (gb_same HG0.out hg1)
    have HC9 : Hid ((rowI x.1 mv).toArray.size = 9) := Lib.hid (by rw [List.size_toArray, rowI_len, hx8])
    have HONE := Lib.hid (rowI_one (zs := x.1) hmv)
    have HMV := Lib.hid hmv
    have HX8 := Lib.hid hx8
    have HOM := Lib.hid hom
    clear hmv hx8 hom hg1
    go_wp2_with ((with_reducible refine is_store 57 2 6 ?_); go_must (refine st_row 57 2 6 w.heap.size _ (rowI x.1 mv).toArray _ rfl rfl HX1.out (by rw [HC9.out]; exact sz_msg) (by rw [HC9.out]; rfl) HONE.out ?_; intro w2 hb2 hg2))
    refine ret_row2 rfl w.heap.size _ _ (.int .i64 0) rfl rfl hb2 Try.underlying57 (by rw [HC9.out]; exact sz_msg) ?_
    exact ⟨mv, rfl, HMV.out, HX8.out, (HOM.out.kept hg2 (fun k hk e => by have e2 := Option.some.inj e; have := (HOM.out.lt k hk).1; have := HS0.out; omega)).mono (show w.heap.size ≤ w0.heap.size by rw [HS0.out]; omega), gb_new HG1.out hg2 (Nat.le_refl _)⟩

def EntU (w : World) (b : Nat) (sl : Value) (bs : List UInt8) (p : Nat) (f : Bool) (e : Ending) (w' : World) : Prop :=
  ∃ (zs : List Int) (mv : Value) (l : List UInt8) (q : Nat) (g : Bool), e = .returned (.agg (rowI zs mv).toArray) ∧ zs.length = 7 ∧ IsSl mv ∧ Own w' w.heap.size mv l ∧ IsR w' b sl bs q g ∧ w.grownBy w' (some b) ∧ (g = false → f = false ∧ rdX bs p = some ((zs, l), q)) ∧ (g = true → unl f (rdX bs p) = none)
theorem rent_u (b : Nat) (sl : Value) (bs : List UInt8) (p : Nat) (f : Bool) (w : World) (h : IsR w b sl bs p f) :
    Calls Try.prog 53 #[.pointer (some ⟨b, 0, none⟩)] w (EntU w b sl bs p f) := by
  refine (rent_any b sl bs p f w h).mono fun e w' hr => ?_
  cases f with
  | true =>
    obtain ⟨h1, h2, h3⟩ := hr
    exact ⟨[0, 0, 0, 0, 0, 0, 0], .slice none 0 0, [], p, true, h1, rfl, ⟨_, _, _, rfl⟩, Own.nil _ _, h2, h3, (fun e => by cases e), fun _ => rfl⟩
  | false =>
    cases hd : rdX bs p with
    | none =>
      rw [unl_f, hd] at hr
      obtain ⟨h1, h2, h3⟩ := hr
      exact ⟨[0, 0, 0, 0, 0, 0, 0], .slice none 0 0, [], p, true, h1, rfl, ⟨_, _, _, rfl⟩, Own.nil _ _, h2, h3, (fun e => by cases e), (fun _ => by rw [unl_f, hd])⟩
    | some r =>
      obtain ⟨⟨zs, l⟩, q⟩ := r
      rw [unl_f, hd] at hr
      obtain ⟨v, h1, ⟨dv, rfl, h2⟩, h3, h4⟩ := hr
      obtain ⟨a, c, rfl⟩ := h2.rd.len
      exact ⟨zs, _, l, q, false, h1, rdX_len hd, ⟨_, _, _, rfl⟩, h2, h3, h4, fun _ => ⟨rfl, hd⟩, (fun e => by cases e)⟩

set_option maxRecDepth 100000 in
set_option maxHeartbeats 4000000 in
theorem whole_Entry (v : Value) (bs : List UInt8) (w : World) (hv : Rd w v bs) (hb : bs.length ≤ 1099511627776) :
    Calls Try.prog 77 #[v, .func (.func 53) #[] #[]] w (WholeP 7 zent (wholeO (rdX bs 0) bs.length) w) := by
  have hK : ∀ (args : Array Value) (w : World), (callFunc 53 args).run Try.prog w = .ok (.enter 53 args) w := fun _ _ => rfl
  obtain ⟨w0, hw0⟩ : ∃ W, W = w.alloc (Obj.cells #[.int .i64 0, .int .i64 0, .int .i64 0, .int .i64 0, .int .i64 0, .int .i64 0, .int .i64 0, .slice none 0 0] 65) := ⟨_, rfl⟩
  have HX0 : Hid (w0.heap[w.heap.size]? = some (.cells #[.int .i64 0, .int .i64 0, .int .i64 0, .int .i64 0, .int .i64 0, .int .i64 0, .int .i64 0, .slice none 0 0] 65 (0, 0))) := Lib.hid (by rw [hw0]; exact heap_at_alloc _ _)
  have hg0 : w.grownBy w0 none := by rw [hw0]; exact gb_alloc _ _ _
  have hs0 : w0.heap.size = w.heap.size + 1 := by rw [hw0]; simp
  have HRE := Lib.hid (read_any v bs w0 (hv.grown hg0) hb)
  have HG0 := Lib.hid hg0
  have HS0 := Lib.hid hs0
  have HW := Lib.hid hw0
  clear hw0 hg0 hs0 hv hb
  go_enter Try.func77, Try.ntmps77
  go_wp2_with fail
  rw [← HW.out]
  refine HRE.out.mono ?_
  rintro e w1 ⟨b, sl, rfl, hbge, hR1, hg1, hsl⟩
  have HMU := Lib.hid (rent_u b sl bs 0 false w1 hR1)
  have hbn : w.heap.size < b := by have := HS0.out; omega
  have HX1 := Lib.hid (blk_kept HX0.out hg1)
  have HG1 := Lib.hid (gb_same HG0.out hg1)
  have hs1 : w.heap.size + 1 ≤ w1.heap.size := by have h1 := hg1.size; have h2 := HS0.out; omega
  have HSL : Hid (bs ≠ [] → ∀ k, sl.ownBlock = some k → k < w1.heap.size) := Lib.hid (fun hne => Rd.blk hR1.rd hne)
  have hbl := hR1.lt
  clear hR1 hg1 hsl hbge HW HRE HX0
  go_wp2_with fail
  refine HMU.out.mono ?_
  rintro e w2 ⟨zs, mv, l, q, g, rfl, hzl, hmv, hom, hR2, hg2, t1, t2⟩
  have hq := hR2.le
  have HC : Hid ((rowI zs mv).toArray.size = 8) := Lib.hid (by rw [List.size_toArray, rowI_len, hzl])
  have HZL := Lib.hid hzl
  have HMV := Lib.hid hmv
  have HOM := Lib.hid hom
  have HR2 := Lib.hid hR2
  have h1 : Hid (g = false → rdX bs 0 = some ((zs, l), q)) := Lib.hid (fun e => (t1 e).2)
  have h2 : Hid (g = true → rdX bs 0 = none) := Lib.hid (fun e => by have := t2 e; rwa [unl_f] at this)
  have HX2 := Lib.hid (box_kept HX1.out hg2 (show w.heap.size ≠ b by omega))
  have HG2 : Hid (w.grownBy w2 none) := Lib.hid (gb_new HG1.out hg2 (by omega))
  have hs2 : w1.heap.size ≤ w2.heap.size := hg2.size
  have HONE := Lib.hid (rowI_one (zs := zs) hmv)
  clear hzl hmv hom hR2 hg2 t1 t2 HMU HX1 HG1
  by_cases hE : g = true ∨ q < bs.length
  · have HWN := Lib.hid (whole_no h1.out h2.out hE)
    have HEN := Lib.hid (fun W (hR : IsR W b sl bs q g) => by have := end_any b sl bs q g W hR; rw [end_no hE] at this; exact this)
    clear hE
    go_wp2_with (first | ((with_reducible refine is_store 65 7 14 ?_); go_must (refine st_row 65 7 14 w2.heap.size _ (rowI zs mv).toArray _ rfl rfl (heap_at_alloc _ _) (by rw [HC.out]; exact sz_ent) (by rw [HC.out]; rfl) HONE.out ?_; intro w3 hb3 hg3; have g23 : w2.grownBy w3 none := gb_new (gb_alloc _ _ _) hg3 (Nat.le_refl _); have HR3 := Lib.hid (HR2.out.grown g23); have HX3 := Lib.hid (blk_kept HX2.out g23); have HG3 := Lib.hid (gb_same HG2.out g23); clear hb3 hg3 g23)) | (go_at_call 14; refine (HEN.out _ HR3.out).mono ?_; go_must (rintro e w4 ⟨rfl, n4, hw4⟩; have HX4 := Lib.hid (heap_of_drewN hw4 HX3.out); have HG4 : Hid (w.grownBy w4 none) := Lib.hid (by rw [hw4]; exact gb_same HG3.out (gb_drewN _ _ _)); clear hw4)) | ((with_reducible refine is_load 65 19 9 ?_); go_must (refine ld_row 65 19 9 w4.heap.size _ _ rfl (heap_at_alloc _ _) Try.underlying65 sz_ent ?_)) | ((with_reducible refine is_store 65 4 19 ?_); go_must (refine st_row 65 4 19 w.heap.size _ _ _ rfl rfl (blk_kept HX4.out (gb_alloc _ _ _)) sz_ent rfl rfl ?_; intro w5 hb5 hg5)))
    refine ret_row2 rfl w.heap.size _ _ (.int .i64 4) rfl rfl hb5 Try.underlying65 sz_ent ?_
    rw [HWN.out]
    exact ⟨rfl, gb_new (gb_same HG4.out (gb_alloc _ _ _)) hg5 (Nat.le_refl _)⟩
  · have HWN := Lib.hid (whole_yes h1.out hq hE)
    have HEN := Lib.hid (fun W (hR : IsR W b sl bs q g) => by have := end_any b sl bs q g W hR; rw [end_yes hE] at this; exact this)
    clear hE
    go_wp2_with (first | ((with_reducible refine is_store 65 7 14 ?_); go_must (refine st_row 65 7 14 w2.heap.size _ (rowI zs mv).toArray _ rfl rfl (heap_at_alloc _ _) (by rw [HC.out]; exact sz_ent) (by rw [HC.out]; rfl) HONE.out ?_; intro w3 hb3 hg3; have g23 : w2.grownBy w3 none := gb_new (gb_alloc _ _ _) hg3 (Nat.le_refl _); have HR3 := Lib.hid (HR2.out.grown g23); have HX3 := Lib.hid (blk_kept HX2.out g23); have HG3 := Lib.hid (gb_same HG2.out g23); have HB3 := Lib.hid hb3; have HO3 := Lib.hid (HOM.out.grown g23); clear hb3 hg3 g23)) | (go_at_call 14; refine (HEN.out _ HR3.out).mono ?_; go_must (rintro e w4 ⟨rfl, n4, hw4⟩; have HX4 := Lib.hid (heap_of_drewN hw4 HX3.out); have HB4 := Lib.hid (heap_of_drewN hw4 HB3.out); have HO4 : Hid (Own w4 w1.heap.size mv l) := Lib.hid (by rw [hw4]; exact HO3.out.grown (gb_drewN _ _ _)); have HG4 : Hid (w.grownBy w4 none) := Lib.hid (by rw [hw4]; exact gb_same HG3.out (gb_drewN _ _ _)); clear hw4)) | ((with_reducible refine is_load 65 21 7 ?_); go_must (refine ld_row 65 21 7 w2.heap.size _ _ rfl HB4.out Try.underlying65 (by rw [HC.out]; exact sz_ent) ?_)) | ((with_reducible refine is_store 65 4 21 ?_); go_must (refine st_row 65 4 21 w.heap.size _ (rowI zs mv).toArray _ rfl rfl HX4.out (by rw [HC.out]; exact sz_ent) (by rw [HC.out]; rfl) HONE.out ?_; intro w5 hb5 hg5)))
    refine ret_row2 rfl w.heap.size _ _ (.int .i64 0) rfl rfl hb5 Try.underlying65 (by rw [HC.out]; exact sz_ent) ?_
    rw [HWN.out]
    exact ⟨mv, rfl, HMV.out, HZL.out, (HO4.out.kept hg5 (fun k hk e => by have e2 := Option.some.inj e; have := (HO4.out.lt k hk).1; omega)).mono (show w.heap.size ≤ w1.heap.size by omega), gb_new HG4.out hg5 (Nat.le_refl _)⟩

set_option maxRecDepth 100000 in
set_option maxHeartbeats 2000000 in
theorem readEntry_any (v : Value) (bs : List UInt8) (w : World) (hv : Rd w v bs) (hb : bs.length ≤ 1099511627776) :
    Calls Try.prog 35 #[v] w (WholeP 7 zent (wholeO (rdX bs 0) bs.length) w) := by
  obtain ⟨w0, hw0⟩ : ∃ W, W = w.alloc (Obj.cells #[.int .i64 0, .int .i64 0, .int .i64 0, .int .i64 0, .int .i64 0, .int .i64 0, .int .i64 0, .slice none 0 0] 65) := ⟨_, rfl⟩
  have HX0 : Hid (w0.heap[w.heap.size]? = some (.cells #[.int .i64 0, .int .i64 0, .int .i64 0, .int .i64 0, .int .i64 0, .int .i64 0, .int .i64 0, .slice none 0 0] 65 (0, 0))) := Lib.hid (by rw [hw0]; exact heap_at_alloc _ _)
  have hg0 : w.grownBy w0 none := by rw [hw0]; exact gb_alloc _ _ _
  have hs0 : w0.heap.size = w.heap.size + 1 := by rw [hw0]; simp
  have HC := Lib.hid (whole_Entry v bs w0 (hv.grown hg0) hb)
  have HG0 := Lib.hid hg0
  have HS0 := Lib.hid hs0
  have HW := Lib.hid hw0
  clear hw0 hg0 hs0 hv hb
  generalize wholeO (rdX bs 0) bs.length = o at *
  go_enter Try.func35, Try.ntmps35
  go_wp2_with fail
  rw [← HW.out]
  refine HC.out.mono ?_
  rintro e w1 hr
  cases o with
  | none =>
    obtain ⟨rfl, hg1⟩ := hr
    have HX1 := Lib.hid (blk_kept HX0.out hg1)
    have HG1 := Lib.hid (gb_same HG0.out hg1)
    clear hg1
    go_wp2_with ((with_reducible refine is_store 65 2 6 ?_); go_must (refine st_row 65 2 6 w.heap.size _ _ _ rfl rfl HX1.out sz_ent rfl rfl ?_; intro w2 hb2 hg2))
    refine ret_row2 rfl w.heap.size _ _ (.int .i64 4) rfl rfl hb2 Try.underlying65 sz_ent ?_
    exact ⟨rfl, gb_new HG1.out hg2 (Nat.le_refl _)⟩
  | some x =>
    obtain ⟨mv, rfl, hmv, hx8, hom, hg1⟩ := hr
    have HX1 := Lib.hid (blk_kept HX0.out hg1)
    have HG1 := Lib.hid (gb_same HG0.out hg1)
    have HC9 : Hid ((rowI x.1 mv).toArray.size = 8) := Lib.hid (by rw [List.size_toArray, rowI_len, hx8])
    have HONE := Lib.hid (rowI_one (zs := x.1) hmv)
    have HMV := Lib.hid hmv
    have HX8 := Lib.hid hx8
    have HOM := Lib.hid hom
    clear hmv hx8 hom hg1
    go_wp2_with ((with_reducible refine is_store 65 2 6 ?_); go_must (refine st_row 65 2 6 w.heap.size _ (rowI x.1 mv).toArray _ rfl rfl HX1.out (by rw [HC9.out]; exact sz_ent) (by rw [HC9.out]; rfl) HONE.out ?_; intro w2 hb2 hg2))
    refine ret_row2 rfl w.heap.size _ _ (.int .i64 0) rfl rfl hb2 Try.underlying65 (by rw [HC9.out]; exact sz_ent) ?_
    exact ⟨mv, rfl, HMV.out, HX8.out, (HOM.out.kept hg2 (fun k hk e => by have e2 := Option.some.inj e; have := (HOM.out.lt k hk).1; have := HS0.out; omega)).mono (show w.heap.size ≤ w0.heap.size by rw [HS0.out]; omega), gb_new HG1.out hg2 (Nat.le_refl _)⟩

def WholeE (o : Option (List EffT)) (w : World) (e : Ending) (w' : World) : Prop := match o with
  | some x => ∃ v, e = .returned (.tuple #[v, .int .i64 0]) ∧ ELs w.heap.size x v w' ∧ w.grownBy w' none
  | none => e = .returned (.tuple #[.slice none 0 0, .int .i64 4]) ∧ w.grownBy w' none

def EffsU (w : World) (b : Nat) (sl : Value) (bs : List UInt8) (p : Nat) (f : Bool) (B : Nat) (e : Ending) (w' : World) : Prop :=
  ∃ (a : Option Addr) (n c : Nat) (xs : List EffT) (q : Nat) (g : Bool), e = .returned (.slice a n c) ∧ ELs B xs (.slice a n c) w' ∧ IsR w' b sl bs q g ∧ w.grownBy w' (some b) ∧ (g = false → f = false ∧ rdLE 160 bs p = some (xs, q)) ∧ (g = true → unl f (rdLE 160 bs p) = none)
theorem reffs_u (b : Nat) (sl : Value) (bs : List UInt8) (p : Nat) (f : Bool) (w : World) (B : Nat) (h : IsR w b sl bs p f) (hB : B ≤ w.heap.size) :
    Calls Try.prog 52 #[.pointer (some ⟨b, 0, none⟩)] w (EffsU w b sl bs p f B) := by
  refine (mEffects_any b sl bs p f w B h hB).mono fun e w' hr => ?_
  cases f with
  | true =>
    obtain ⟨h1, h2, h3⟩ := hr
    exact ⟨none, 0, 0, [], p, true, h1, ⟨[], rfl, ELp.nil _ _⟩, h2, h3, (fun e => by cases e), fun _ => rfl⟩
  | false =>
    cases hd : rdLE 160 bs p with
    | none =>
      rw [unl_f, hd] at hr
      obtain ⟨h1, h2, h3⟩ := hr
      exact ⟨none, 0, 0, [], p, true, h1, ⟨[], rfl, ELp.nil _ _⟩, h2, h3, (fun e => by cases e), (fun _ => by rw [unl_f, hd])⟩
    | some r =>
      obtain ⟨xs, q⟩ := r
      rw [unl_f, hd] at hr
      obtain ⟨v, h1, ⟨ps, hps, h2⟩, h3, h4⟩ := hr
      obtain ⟨a, c, rfl⟩ := h2.slice
      exact ⟨a, _, c, xs, q, false, h1, ⟨ps, hps, h2⟩, h3, h4, fun _ => ⟨rfl, hd⟩, (fun e => by cases e)⟩
theorem ELs.kept {w w' : World} {B : Nat} {v : Value} {xs : List EffT} {row : Option Nat} (h : ELs B xs v w) (hg : w.grownBy w' row) (hr : ∀ k, row = some k → k < B ∨ w.heap.size ≤ k) : ELs B xs v w' := by
  obtain ⟨ps, h1, h2⟩ := h; exact ⟨ps, h1, h2.kept hg hr⟩
theorem ELs.mono {w : World} {B B' : Nat} {v : Value} {xs : List EffT} (h : ELs B xs v w) (hb : B' ≤ B) : ELs B' xs v w := by
  obtain ⟨ps, h1, h2⟩ := h; exact ⟨ps, h1, h2.mono hb⟩

set_option maxRecDepth 100000 in
set_option maxHeartbeats 4000000 in
theorem whole_Effects (v : Value) (bs : List UInt8) (w : World) (hv : Rd w v bs) (hb : bs.length ≤ 1099511627776) :
    Calls Try.prog 76 #[v, .func (.func 52) #[] #[]] w (WholeE (wholeO (rdLE 160 bs 0) bs.length) w) := by
  have hK : ∀ (args : Array Value) (w : World), (callFunc 52 args).run Try.prog w = .ok (.enter 52 args) w := fun _ _ => rfl
  have HRE := Lib.hid (read_any v bs w hv hb)
  clear hv hb
  go_enter Try.func76, Try.ntmps76
  go_wp2_with fail
  refine HRE.out.mono ?_
  rintro e w1 ⟨b, sl, rfl, hbge, hR1, hg1, hsl⟩
  have HMU := Lib.hid (reffs_u b sl bs 0 false w1 w1.heap.size hR1 (Nat.le_refl _))
  have HG1 := Lib.hid hg1
  clear hR1 hg1 hsl HRE
  go_wp2_with fail
  refine HMU.out.mono ?_
  rintro e w2 ⟨a, n, c, xs, q, g, rfl, hel, hR2, hg2, t1, t2⟩
  have hq := hR2.le
  have HEL := Lib.hid hel
  have h1 : Hid (g = false → rdLE 160 bs 0 = some (xs, q)) := Lib.hid (fun e => (t1 e).2)
  have h2 : Hid (g = true → rdLE 160 bs 0 = none) := Lib.hid (fun e => by have := t2 e; rwa [unl_f] at this)
  have HG2 : Hid (w.grownBy w2 none) := Lib.hid (gb_new HG1.out hg2 hbge)
  have hs1 : w.heap.size ≤ w1.heap.size := HG1.out.size
  by_cases hE : g = true ∨ q < bs.length
  · have HWN := Lib.hid (whole_no h1.out h2.out hE)
    have HEN := Lib.hid (by have := end_any b sl bs q g w2 hR2; rw [end_no hE] at this; exact this)
    clear hE hel hR2 hg2 t1 t2 HMU
    go_wp2_with (go_at_call 14; refine HEN.out.mono ?_; go_must (rintro e w4 ⟨rfl, n4, hw4⟩; have HG4 : Hid (w.grownBy w4 none) := Lib.hid (by rw [hw4]; exact gb_same HG2.out (gb_drewN _ _ _)); clear hw4))
    go_ret2
    rw [HWN.out]
    exact ⟨rfl, HG4.out⟩
  · have HWN := Lib.hid (whole_yes h1.out hq hE)
    have HEN := Lib.hid (by have := end_any b sl bs q g w2 hR2; rw [end_yes hE] at this; exact this)
    clear hE hel hR2 hg2 t1 t2 HMU
    go_wp2_with (go_at_call 14; refine HEN.out.mono ?_; go_must (rintro e w4 ⟨rfl, n4, hw4⟩; have HG4 : Hid (w.grownBy w4 none) := Lib.hid (by rw [hw4]; exact gb_same HG2.out (gb_drewN _ _ _)); have HEL4 : Hid (ELs w1.heap.size xs (.slice a n c) w4) := Lib.hid (HEL.out.kept (show w2.grownBy w4 none by rw [hw4]; exact gb_drewN _ _ _) (by simp)); clear hw4))
    go_ret2
    rw [HWN.out]
    exact ⟨_, rfl, HEL4.out.mono hs1, HG4.out⟩

set_option maxRecDepth 100000 in
set_option maxHeartbeats 2000000 in
theorem readEffects_any (v : Value) (bs : List UInt8) (w : World) (hv : Rd w v bs) (hb : bs.length ≤ 1099511627776) :
    Calls Try.prog 34 #[v] w (WholeE (wholeO (rdLE 160 bs 0) bs.length) w) := by
  have HC := Lib.hid (whole_Effects v bs w hv hb)
  clear hv hb
  generalize wholeO (rdLE 160 bs 0) bs.length = o at *
  go_enter Try.func34, Try.ntmps34
  go_wp2_with fail
  refine HC.out.mono ?_
  rintro e w1 hr
  cases o with
  | none =>
    obtain ⟨rfl, hg1⟩ := hr
    have HG1 := Lib.hid hg1
    clear hg1
    go_wp2
    go_ret2
    exact ⟨rfl, HG1.out⟩
  | some x =>
    obtain ⟨v', rfl, ⟨ps, hps, hel⟩, hg1⟩ := hr
    obtain ⟨a, c, rfl⟩ := hel.slice
    have HG1 := Lib.hid hg1
    have HEL := Lib.hid hel
    have HPS := Lib.hid hps
    clear hg1 hel hps
    go_wp2
    go_ret2
    exact ⟨_, rfl, ⟨ps, HPS.out, HEL.out⟩, HG1.out⟩
end Go.Proofs.Ytgfopepopcacmaa
