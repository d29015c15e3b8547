/-
  The generic function value at structs.
-/
import Derived.Test.YtgfopepopcacmaaMsgR
namespace Go.Proofs.Ytgfopepopcacmaa
open Go.RowKit

def KeepsG {α : Type} (G : Nat → α → Value → World → Prop) : Prop := ∀ B x v W W' row, G B x v W → W.grownBy W' row → (∀ k, row = some k → k < B ∨ W.heap.size ≤ k) → G B x v W'
def MonoG {α : Type} (G : Nat → α → Value → World → Prop) : Prop := ∀ B B' x v W, B' ≤ B → G B x v W → G B' x v W
theorem two_blocks {w w0 : World} {o o' : Obj} (h : w0 = (w.alloc o).alloc o') : w0.heap[w.heap.size]? = some o ∧ w0.heap[w.heap.size + 1]? = some o' ∧ w.grownBy w0 none := by
  subst h
  refine ⟨heap_alloc2_old w o o', heap_alloc2_new w o o', gb_same (gb_alloc _ _ _) (gb_alloc _ _ _)⟩
theorem heap_at_alloc (w : World) (o : Obj) : (w.alloc o).heap[w.heap.size]? = some o := heap_alloc_new w o

set_option maxRecDepth 100000 in
set_option maxHeartbeats 2000000 in
theorem valueS_Msg {α : Type} (b : Nat) (sl : Value) (bs : List UInt8) (p : Nat) (f : Bool) (w : World) (K : FuncId) (caps : Array Value) (good : Value → Prop) (G : Nat → α → Value → World → Prop) (r : Option (α × Nat)) (h : IsR w b sl bs p f)
    (hK : ∀ (args : Array Value) (w : World), (callFunc K args).run Try.prog w = .ok (.enter K args) w)
    (hgood : ∀ v, good v → ∃ cs : Array Value, v = .agg cs ∧ cs.size = 9 ∧ cs.toList.all (·.oneCell') = true) (hGk : KeepsG G) (hGm : MonoG G)
    (HP : f = false → ∀ W, w.grownBy W none → Calls Try.prog K caps W (PartsE W b sl bs good (G W.heap.size) r)) :
    Calls Try.prog 84 #[.pointer (some ⟨b, 0, none⟩), .func (.func K) #[] caps] w (ROutE w b sl bs p (.agg #[.int .i64 0, .int .i64 0, .int .i64 0, .int .i64 0, .int .i64 0, .int .i64 0, .int .i64 0, .int .i64 0, .slice none 0 0]) (G w.heap.size) (unl f r)) := by
  have c1 := h.c1
  have c2 := h.c2
  have hbl := h.lt
  have H := Lib.hid h
  cases f with
  | true =>
    clear h c1 HP hK
    go_enter Try.func84, Try.ntmps84
    go_wp2
    go_returns
    refine ⟨rfl, H.out.grown ?_, gb_none _ ?_⟩ <;> exact gb_of_below (by go_grown)
  | false =>
    have HQ := Lib.hid (HP rfl)
    have HGD := Lib.hid hgood
    have HGK := Lib.hid hGk
    have HGM := Lib.hid hGm
    have HSL := Lib.hid (fun hne => Rd.blk h.rd hne)
    rw [unl_f]
    clear h HP hgood hGk hGm
    go_enter Try.func84, Try.ntmps84
    go_wp2_with fail
    obtain ⟨w0, hw0⟩ : ∃ W, W = (w.alloc (Obj.cells #[.int .i64 0, .int .i64 0, .int .i64 0, .int .i64 0, .int .i64 0, .int .i64 0, .int .i64 0, .int .i64 0, .slice none 0 0] 57)).alloc (Obj.cells #[.int .i64 0, .int .i64 0, .int .i64 0, .int .i64 0, .int .i64 0, .int .i64 0, .int .i64 0, .int .i64 0, .slice none 0 0] 57) := ⟨_, rfl⟩
    obtain ⟨hb0, hb1, hg0⟩ := two_blocks hw0
    have hs0 : w0.heap.size = w.heap.size + 2 := by rw [hw0]; simp
    have HZ := Lib.hid hb1
    have HX := Lib.hid hb0
    have HG0 := Lib.hid hg0
    have HS0 := Lib.hid hs0
    rw [← hw0]
    clear hw0 hb0 hb1 hg0 hs0 c1 c2
    cases r with
    | none =>
      refine (HQ.out w0 HG0.out).mono ?_
      rintro e w1 ⟨v, q, rfl, hgd, hR1, hg1⟩
      obtain ⟨cs, rfl, hsz, hone⟩ := HGD.out _ hgd
      have HSZ := Lib.hid hsz
      have HONE := Lib.hid hone
      have HR1 := Lib.hid hR1
      have HG1 := Lib.hid hg1
      have hn1 : w.heap.size + 2 ≤ w1.heap.size := by rw [← HS0.out]; exact hg1.size
      have HZ1 := Lib.hid (box_kept HZ.out hg1 (show w.heap.size + 1 ≠ b by omega))
      have HX1 := Lib.hid (box_kept HX.out hg1 (show w.heap.size ≠ b by omega))
      clear hgd hsz hone hR1 hg1
      go_wp2_with (first | ((with_reducible refine is_store 57 7 22 ?_); refine st_row 57 7 22 w1.heap.size _ _ _ rfl rfl (heap_at_alloc _ _) (by rw [HSZ.out]; exact sz_msg) (by rw [HSZ.out]; rfl) HONE.out ?_; go_must (intro w3 hb3 hg3; have g13 : w1.grownBy w3 none := gb_new (gb_alloc _ _ _) hg3 (Nat.le_refl _); have HR3 := Lib.hid (HR1.out.grown g13); have d1 := HR3.out.c1; have d2 := HR3.out.c2; have f1 := HR3.out.fr 1; have HZ4 := Lib.hid (box_kept (blk_kept HZ1.out g13) (gb_setCell w3 ⟨b, 1, none⟩ (.int .i64 (p : Int))) (show w.heap.size + 1 ≠ b by omega)); have HX4 := Lib.hid (box_kept (blk_kept HX1.out g13) (gb_setCell w3 ⟨b, 1, none⟩ (.int .i64 (p : Int))) (show w.heap.size ≠ b by omega)); have HG3 := Lib.hid (gb_same (gb_none (some b) HG0.out) (gb_same HG1.out (gb_none _ g13))); clear hg3 hb3 g13)) | ((with_reducible refine is_load 57 31 5 ?_); refine ld_row 57 31 5 (w.heap.size + 1) _ _ rfl HZ4.out Try.underlying57 sz_msg ?_) | ((with_reducible refine is_store 57 4 31 ?_); refine st_row 57 4 31 w.heap.size _ _ _ rfl rfl HX4.out sz_msg rfl rfl ?_; go_must (intro w5 hb5 hg5)))
      refine ret_row rfl w.heap.size _ _ rfl hb5 Try.underlying57 sz_msg ?_
      have hR4 := HR3.out.back p H.out.le
      exact ⟨rfl, hR4.far hbl HSL.out hg5 (fun k hk => by have e := Option.some.inj hk; omega), gb_trans (gb_same HG3.out (gb_setCell _ _ _)) hg5 (fun k hk => .inr (by have e := Option.some.inj hk; omega))⟩
    | some r =>
      obtain ⟨x0, q⟩ := r
      refine (HQ.out w0 HG0.out).mono ?_
      rintro e w1 ⟨v, rfl, hgd, hG, hR1, hg1⟩
      obtain ⟨cs, rfl, hsz, hone⟩ := HGD.out _ hgd
      have HSZ := Lib.hid hsz
      have HONE := Lib.hid hone
      have HR1 := Lib.hid hR1
      have HG1 := Lib.hid hg1
      have HGG := Lib.hid hG
      have hn1 : w.heap.size + 2 ≤ w1.heap.size := by rw [← HS0.out]; exact hg1.size
      have HX1 := Lib.hid (box_kept HX.out hg1 (show w.heap.size ≠ b by omega))
      clear hgd hsz hone hR1 hg1 hG
      go_wp2_with (first | ((with_reducible refine is_store 57 7 22 ?_); refine st_row 57 7 22 w1.heap.size _ _ _ rfl rfl (heap_at_alloc _ _) (by rw [HSZ.out]; exact sz_msg) (by rw [HSZ.out]; rfl) HONE.out ?_; go_must (intro w3 hb3 hg3; have g13 : w1.grownBy w3 none := gb_new (gb_alloc _ _ _) hg3 (Nat.le_refl _); have HR3 := Lib.hid (HR1.out.grown g13); have d1 := HR3.out.c1; have d2 := HR3.out.c2; have f1 := HR3.out.fr 1; have HB3 := Lib.hid hb3; have HX3 := Lib.hid (blk_kept HX1.out g13); have HG3 := Lib.hid (gb_same (gb_none (some b) HG0.out) (gb_same HG1.out (gb_none _ g13))); have HGG3 := Lib.hid (HGK.out _ _ _ _ _ none HGG.out g13 (by simp)); clear hg3 hb3 g13)) | ((with_reducible refine is_load 57 32 7 ?_); refine ld_row 57 32 7 w1.heap.size _ _ rfl HB3.out Try.underlying57 (by rw [HSZ.out]; exact sz_msg) ?_) | ((with_reducible refine is_store 57 4 32 ?_); refine st_row 57 4 32 w.heap.size _ _ _ rfl rfl HX3.out (by rw [HSZ.out]; exact sz_msg) (by rw [HSZ.out]; rfl) HONE.out ?_; go_must (intro w5 hb5 hg5)))
      refine ret_row rfl w.heap.size _ _ rfl hb5 Try.underlying57 (by rw [HSZ.out]; exact sz_msg) ?_
      exact ⟨_, rfl, HGM.out _ _ _ _ _ (show w.heap.size ≤ w0.heap.size by rw [HS0.out]; omega) (HGK.out _ _ _ _ _ _ HGG3.out hg5 (fun k hk => .inl (by have e := Option.some.inj hk; rw [HS0.out]; omega))), HR3.out.far hbl HSL.out hg5 (fun k hk => by have e := Option.some.inj hk; omega), gb_trans HG3.out hg5 (fun k hk => .inr (by have e := Option.some.inj hk; omega))⟩

set_option maxRecDepth 100000 in
set_option maxHeartbeats 2000000 in
theorem valueS_Entry {α : Type} (b : Nat) (sl : Value) (bs : List UInt8) (p : Nat) (f : Bool) (w : World) (K : FuncId) (caps : Array Value) (good : Value → Prop) (G : Nat → α → Value → World → Prop) (r : Option (α × Nat)) (h : IsR w b sl bs p f)
    (hK : ∀ (args : Array Value) (w : World), (callFunc K args).run Try.prog w = .ok (.enter K args) w)
    (hgood : ∀ v, good v → ∃ cs : Array Value, v = .agg cs ∧ cs.size = 8 ∧ cs.toList.all (·.oneCell') = true) (hGk : KeepsG G) (hGm : MonoG G)
    (HP : f = false → ∀ W, w.grownBy W none → Calls Try.prog K caps W (PartsE W b sl bs good (G W.heap.size) r)) :
    Calls Try.prog 89 #[.pointer (some ⟨b, 0, none⟩), .func (.func K) #[] caps] w (ROutE w b sl bs p (.agg #[.int .i64 0, .int .i64 0, .int .i64 0, .int .i64 0, .int .i64 0, .int .i64 0, .int .i64 0, .slice none 0 0]) (G w.heap.size) (unl f r)) := by
  have c1 := h.c1
  have c2 := h.c2
  have hbl := h.lt
  have H := Lib.hid h
  cases f with
  | true =>
    clear h c1 HP hK
    go_enter Try.func89, Try.ntmps89
    go_wp2
    go_returns
    refine ⟨rfl, H.out.grown ?_, gb_none _ ?_⟩ <;> exact gb_of_below (by go_grown)
  | false =>
    have HQ := Lib.hid (HP rfl)
    have HGD := Lib.hid hgood
    have HGK := Lib.hid hGk
    have HGM := Lib.hid hGm
    have HSL := Lib.hid (fun hne => Rd.blk h.rd hne)
    rw [unl_f]
    clear h HP hgood hGk hGm
    go_enter Try.func89, Try.ntmps89
    go_wp2_with fail
    obtain ⟨w0, hw0⟩ : ∃ W, W = (w.alloc (Obj.cells #[.int .i64 0, .int .i64 0, .int .i64 0, .int .i64 0, .int .i64 0, .int .i64 0, .int .i64 0, .slice none 0 0] 65)).alloc (Obj.cells #[.int .i64 0, .int .i64 0, .int .i64 0, .int .i64 0, .int .i64 0, .int .i64 0, .int .i64 0, .slice none 0 0] 65) := ⟨_, rfl⟩
    obtain ⟨hb0, hb1, hg0⟩ := two_blocks hw0
    have hs0 : w0.heap.size = w.heap.size + 2 := by rw [hw0]; simp
    have HZ := Lib.hid hb1
    have HX := Lib.hid hb0
    have HG0 := Lib.hid hg0
    have HS0 := Lib.hid hs0
    rw [← hw0]
    clear hw0 hb0 hb1 hg0 hs0 c1 c2
    cases r with
    | none =>
      refine (HQ.out w0 HG0.out).mono ?_
      rintro e w1 ⟨v, q, rfl, hgd, hR1, hg1⟩
      obtain ⟨cs, rfl, hsz, hone⟩ := HGD.out _ hgd
      have HSZ := Lib.hid hsz
      have HONE := Lib.hid hone
      have HR1 := Lib.hid hR1
      have HG1 := Lib.hid hg1
      have hn1 : w.heap.size + 2 ≤ w1.heap.size := by rw [← HS0.out]; exact hg1.size
      have HZ1 := Lib.hid (box_kept HZ.out hg1 (show w.heap.size + 1 ≠ b by omega))
      have HX1 := Lib.hid (box_kept HX.out hg1 (show w.heap.size ≠ b by omega))
      clear hgd hsz hone hR1 hg1
      go_wp2_with (first | ((with_reducible refine is_store 65 7 22 ?_); refine st_row 65 7 22 w1.heap.size _ _ _ rfl rfl (heap_at_alloc _ _) (by rw [HSZ.out]; exact sz_ent) (by rw [HSZ.out]; rfl) HONE.out ?_; go_must (intro w3 hb3 hg3; have g13 : w1.grownBy w3 none := gb_new (gb_alloc _ _ _) hg3 (Nat.le_refl _); have HR3 := Lib.hid (HR1.out.grown g13); have d1 := HR3.out.c1; have d2 := HR3.out.c2; have f1 := HR3.out.fr 1; have HZ4 := Lib.hid (box_kept (blk_kept HZ1.out g13) (gb_setCell w3 ⟨b, 1, none⟩ (.int .i64 (p : Int))) (show w.heap.size + 1 ≠ b by omega)); have HX4 := Lib.hid (box_kept (blk_kept HX1.out g13) (gb_setCell w3 ⟨b, 1, none⟩ (.int .i64 (p : Int))) (show w.heap.size ≠ b by omega)); have HG3 := Lib.hid (gb_same (gb_none (some b) HG0.out) (gb_same HG1.out (gb_none _ g13))); clear hg3 hb3 g13)) | ((with_reducible refine is_load 65 31 5 ?_); refine ld_row 65 31 5 (w.heap.size + 1) _ _ rfl HZ4.out Try.underlying65 sz_ent ?_) | ((with_reducible refine is_store 65 4 31 ?_); refine st_row 65 4 31 w.heap.size _ _ _ rfl rfl HX4.out sz_ent rfl rfl ?_; go_must (intro w5 hb5 hg5)))
      refine ret_row rfl w.heap.size _ _ rfl hb5 Try.underlying65 sz_ent ?_
      have hR4 := HR3.out.back p H.out.le
      exact ⟨rfl, hR4.far hbl HSL.out hg5 (fun k hk => by have e := Option.some.inj hk; omega), gb_trans (gb_same HG3.out (gb_setCell _ _ _)) hg5 (fun k hk => .inr (by have e := Option.some.inj hk; omega))⟩
    | some r =>
      obtain ⟨x0, q⟩ := r
      refine (HQ.out w0 HG0.out).mono ?_
      rintro e w1 ⟨v, rfl, hgd, hG, hR1, hg1⟩
      obtain ⟨cs, rfl, hsz, hone⟩ := HGD.out _ hgd
      have HSZ := Lib.hid hsz
      have HONE := Lib.hid hone
      have HR1 := Lib.hid hR1
      have HG1 := Lib.hid hg1
      have HGG := Lib.hid hG
      have hn1 : w.heap.size + 2 ≤ w1.heap.size := by rw [← HS0.out]; exact hg1.size
      have HX1 := Lib.hid (box_kept HX.out hg1 (show w.heap.size ≠ b by omega))
      clear hgd hsz hone hR1 hg1 hG
      go_wp2_with (first | ((with_reducible refine is_store 65 7 22 ?_); refine st_row 65 7 22 w1.heap.size _ _ _ rfl rfl (heap_at_alloc _ _) (by rw [HSZ.out]; exact sz_ent) (by rw [HSZ.out]; rfl) HONE.out ?_; go_must (intro w3 hb3 hg3; have g13 : w1.grownBy w3 none := gb_new (gb_alloc _ _ _) hg3 (Nat.le_refl _); have HR3 := Lib.hid (HR1.out.grown g13); have d1 := HR3.out.c1; have d2 := HR3.out.c2; have f1 := HR3.out.fr 1; have HB3 := Lib.hid hb3; have HX3 := Lib.hid (blk_kept HX1.out g13); have HG3 := Lib.hid (gb_same (gb_none (some b) HG0.out) (gb_same HG1.out (gb_none _ g13))); have HGG3 := Lib.hid (HGK.out _ _ _ _ _ none HGG.out g13 (by simp)); clear hg3 hb3 g13)) | ((with_reducible refine is_load 65 32 7 ?_); refine ld_row 65 32 7 w1.heap.size _ _ rfl HB3.out Try.underlying65 (by rw [HSZ.out]; exact sz_ent) ?_) | ((with_reducible refine is_store 65 4 32 ?_); refine st_row 65 4 32 w.heap.size _ _ _ rfl rfl HX3.out (by rw [HSZ.out]; exact sz_ent) (by rw [HSZ.out]; rfl) HONE.out ?_; go_must (intro w5 hb5 hg5)))
      refine ret_row rfl w.heap.size _ _ rfl hb5 Try.underlying65 (by rw [HSZ.out]; exact sz_ent) ?_
      exact ⟨_, rfl, HGM.out _ _ _ _ _ (show w.heap.size ≤ w0.heap.size by rw [HS0.out]; omega) (HGK.out _ _ _ _ _ _ HGG3.out hg5 (fun k hk => .inl (by have e := Option.some.inj hk; rw [HS0.out]; omega))), HR3.out.far hbl HSL.out hg5 (fun k hk => by have e := Option.some.inj hk; omega), gb_trans HG3.out hg5 (fun k hk => .inr (by have e := Option.some.inj hk; omega))⟩
theorem sz_eff : (Try.prog.info? 75).map (·.size) = some 15 := by kernel_rfl

set_option maxRecDepth 100000 in
set_option maxHeartbeats 2000000 in
theorem valueS_Effect {α : Type} (b : Nat) (sl : Value) (bs : List UInt8) (p : Nat) (f : Bool) (w : World) (K : FuncId) (caps : Array Value) (good : Value → Prop) (G : Nat → α → Value → World → Prop) (r : Option (α × Nat)) (h : IsR w b sl bs p f)
    (hK : ∀ (args : Array Value) (w : World), (callFunc K args).run Try.prog w = .ok (.enter K args) w)
    (hgood : ∀ v, good v → ∃ cs : Array Value, v = .agg cs ∧ cs.size = 15 ∧ cs.toList.all (·.oneCell') = true) (hGk : KeepsG G) (hGm : MonoG G)
    (HP : f = false → ∀ W, w.grownBy W none → Calls Try.prog K caps W (PartsE W b sl bs good (G W.heap.size) r)) :
    Calls Try.prog 100 #[.pointer (some ⟨b, 0, none⟩), .func (.func K) #[] caps] w (ROutE w b sl bs p (.agg #[.int .i64 0, .int .i64 0, .int .i64 0, .int .i64 0, .int .i64 0, .int .i64 0, .int .i64 0, .int .i64 0, .int .i64 0, .int .i64 0, .int .i64 0, .int .i64 0, .int .i64 0, .slice none 0 0, .slice none 0 0]) (G w.heap.size) (unl f r)) := by
  have c1 := h.c1
  have c2 := h.c2
  have hbl := h.lt
  have H := Lib.hid h
  cases f with
  | true =>
    clear h c1 HP hK
    go_enter Try.func100, Try.ntmps100
    go_wp2
    go_returns
    refine ⟨rfl, H.out.grown ?_, gb_none _ ?_⟩ <;> exact gb_of_below (by go_grown)
  | false =>
    have HQ := Lib.hid (HP rfl)
    have HGD := Lib.hid hgood
    have HGK := Lib.hid hGk
    have HGM := Lib.hid hGm
    have HSL := Lib.hid (fun hne => Rd.blk h.rd hne)
    rw [unl_f]
    clear h HP hgood hGk hGm
    go_enter Try.func100, Try.ntmps100
    go_wp2_with fail
    obtain ⟨w0, hw0⟩ : ∃ W, W = (w.alloc (Obj.cells #[.int .i64 0, .int .i64 0, .int .i64 0, .int .i64 0, .int .i64 0, .int .i64 0, .int .i64 0, .int .i64 0, .int .i64 0, .int .i64 0, .int .i64 0, .int .i64 0, .int .i64 0, .slice none 0 0, .slice none 0 0] 75)).alloc (Obj.cells #[.int .i64 0, .int .i64 0, .int .i64 0, .int .i64 0, .int .i64 0, .int .i64 0, .int .i64 0, .int .i64 0, .int .i64 0, .int .i64 0, .int .i64 0, .int .i64 0, .int .i64 0, .slice none 0 0, .slice none 0 0] 75) := ⟨_, rfl⟩
    obtain ⟨hb0, hb1, hg0⟩ := two_blocks hw0
    have hs0 : w0.heap.size = w.heap.size + 2 := by rw [hw0]; simp
    have HZ := Lib.hid hb1
    have HX := Lib.hid hb0
    have HG0 := Lib.hid hg0
    have HS0 := Lib.hid hs0
    rw [← hw0]
    clear hw0 hb0 hb1 hg0 hs0 c1 c2
    cases r with
    | none =>
      refine (HQ.out w0 HG0.out).mono ?_
      rintro e w1 ⟨v, q, rfl, hgd, hR1, hg1⟩
      obtain ⟨cs, rfl, hsz, hone⟩ := HGD.out _ hgd
      have HSZ := Lib.hid hsz
      have HONE := Lib.hid hone
      have HR1 := Lib.hid hR1
      have HG1 := Lib.hid hg1
      have hn1 : w.heap.size + 2 ≤ w1.heap.size := by rw [← HS0.out]; exact hg1.size
      have HZ1 := Lib.hid (box_kept HZ.out hg1 (show w.heap.size + 1 ≠ b by omega))
      have HX1 := Lib.hid (box_kept HX.out hg1 (show w.heap.size ≠ b by omega))
      clear hgd hsz hone hR1 hg1
      go_wp2_with (first | ((with_reducible refine is_store 75 7 22 ?_); refine st_row 75 7 22 w1.heap.size _ _ _ rfl rfl (heap_at_alloc _ _) (by rw [HSZ.out]; exact sz_eff) (by rw [HSZ.out]; rfl) HONE.out ?_; go_must (intro w3 hb3 hg3; have g13 : w1.grownBy w3 none := gb_new (gb_alloc _ _ _) hg3 (Nat.le_refl _); have HR3 := Lib.hid (HR1.out.grown g13); have d1 := HR3.out.c1; have d2 := HR3.out.c2; have f1 := HR3.out.fr 1; have HZ4 := Lib.hid (box_kept (blk_kept HZ1.out g13) (gb_setCell w3 ⟨b, 1, none⟩ (.int .i64 (p : Int))) (show w.heap.size + 1 ≠ b by omega)); have HX4 := Lib.hid (box_kept (blk_kept HX1.out g13) (gb_setCell w3 ⟨b, 1, none⟩ (.int .i64 (p : Int))) (show w.heap.size ≠ b by omega)); have HG3 := Lib.hid (gb_same (gb_none (some b) HG0.out) (gb_same HG1.out (gb_none _ g13))); clear hg3 hb3 g13)) | ((with_reducible refine is_load 75 31 5 ?_); refine ld_row 75 31 5 (w.heap.size + 1) _ _ rfl HZ4.out Try.underlying75 sz_eff ?_) | ((with_reducible refine is_store 75 4 31 ?_); refine st_row 75 4 31 w.heap.size _ _ _ rfl rfl HX4.out sz_eff rfl rfl ?_; go_must (intro w5 hb5 hg5)))
      refine ret_row rfl w.heap.size _ _ rfl hb5 Try.underlying75 sz_eff ?_
      have hR4 := HR3.out.back p H.out.le
      exact ⟨rfl, hR4.far hbl HSL.out hg5 (fun k hk => by have e := Option.some.inj hk; omega), gb_trans (gb_same HG3.out (gb_setCell _ _ _)) hg5 (fun k hk => .inr (by have e := Option.some.inj hk; omega))⟩
    | some r =>
      obtain ⟨x0, q⟩ := r
      refine (HQ.out w0 HG0.out).mono ?_
      rintro e w1 ⟨v, rfl, hgd, hG, hR1, hg1⟩
      obtain ⟨cs, rfl, hsz, hone⟩ := HGD.out _ hgd
      have HSZ := Lib.hid hsz
      have HONE := Lib.hid hone
      have HR1 := Lib.hid hR1
      have HG1 := Lib.hid hg1
      have HGG := Lib.hid hG
      have hn1 : w.heap.size + 2 ≤ w1.heap.size := by rw [← HS0.out]; exact hg1.size
      have HX1 := Lib.hid (box_kept HX.out hg1 (show w.heap.size ≠ b by omega))
      clear hgd hsz hone hR1 hg1 hG
      go_wp2_with (first | ((with_reducible refine is_store 75 7 22 ?_); refine st_row 75 7 22 w1.heap.size _ _ _ rfl rfl (heap_at_alloc _ _) (by rw [HSZ.out]; exact sz_eff) (by rw [HSZ.out]; rfl) HONE.out ?_; go_must (intro w3 hb3 hg3; have g13 : w1.grownBy w3 none := gb_new (gb_alloc _ _ _) hg3 (Nat.le_refl _); have HR3 := Lib.hid (HR1.out.grown g13); have d1 := HR3.out.c1; have d2 := HR3.out.c2; have f1 := HR3.out.fr 1; have HB3 := Lib.hid hb3; have HX3 := Lib.hid (blk_kept HX1.out g13); have HG3 := Lib.hid (gb_same (gb_none (some b) HG0.out) (gb_same HG1.out (gb_none _ g13))); have HGG3 := Lib.hid (HGK.out _ _ _ _ _ none HGG.out g13 (by simp)); clear hg3 hb3 g13)) | ((with_reducible refine is_load 75 32 7 ?_); refine ld_row 75 32 7 w1.heap.size _ _ rfl HB3.out Try.underlying75 (by rw [HSZ.out]; exact sz_eff) ?_) | ((with_reducible refine is_store 75 4 32 ?_); refine st_row 75 4 32 w.heap.size _ _ _ rfl rfl HX3.out (by rw [HSZ.out]; exact sz_eff) (by rw [HSZ.out]; rfl) HONE.out ?_; go_must (intro w5 hb5 hg5)))
      refine ret_row rfl w.heap.size _ _ rfl hb5 Try.underlying75 (by rw [HSZ.out]; exact sz_eff) ?_
      exact ⟨_, rfl, HGM.out _ _ _ _ _ (show w.heap.size ≤ w0.heap.size by rw [HS0.out]; omega) (HGK.out _ _ _ _ _ _ HGG3.out hg5 (fun k hk => .inl (by have e := Option.some.inj hk; rw [HS0.out]; omega))), HR3.out.far hbl HSL.out hg5 (fun k hk => by have e := Option.some.inj hk; omega), gb_trans HG3.out hg5 (fun k hk => .inr (by have e := Option.some.inj hk; omega))⟩
end Go.Proofs.Ytgfopepopcacmaa
