/-
  The reference's reader: Bytes: the walk.
-/
import Derived.Test.YtfldooljmjeaoaaVTq
namespace Go.Proofs.Ytfldooljmjeaoaa
open Go.RowKit Go.Shelf

theorem app_bytesW_op {o : Oper} {a : Act} {w : World} {K : Act → World → Prop} {Q : Exit → Act → World → Prop} (s x : Operand)
    (ho : o.op = .call { callee := .builtin .append, args := #[s, x], argTypes := #[22, 22] })
    (B : Nat) (v src : Value) (l m : List UInt8) (hs : a.eval s = v) (hx : a.eval x = src) (hown : Own w B v l) (hsrc : RdW w src m) (hB : B ≤ w.heap.size) (hb : l.length + m.length ≤ 140737488355328)
    (hK : ∀ v' w', Own w' B v' (l ++ m) → w.grownBy w' v.ownBlock → Fr w v v' → K (a.put o.dst v') w') : Oper.wp Try.prog o a w K Q := by
  obtain ⟨v', w', hr, h2, h3, h4⟩ := run_appW w B v src l m o.type hown hsrc hB hb
  unfold Oper.wp execOp
  simp only [ho, resolve, invoke, builtin, Sem.run_bind, Sem.run_pure, Result.andThen_ok, List.map_toArray, List.map_cons, List.map_nil, hs, hx, hr]
  exact hK v' w' h2 h3 h4
def byL : Option (List UInt8 × Nat) → List UInt8 | some r => r.1 | none => []
def byQ (p : Nat) : Option (List UInt8 × Nat) → Nat | some r => r.2 | none => p
def GotB (o : Option (List UInt8 × Nat)) (b : Nat) (sl : Value) (bs : List UInt8) (p : Nat) (w : World) (e : Ending) (w' : World) : Prop :=
  ∃ v, e = .returned v ∧ Own w' w.heap.size v (byL o) ∧ IsQ w' b sl bs (byQ p o) o.isNone ∧ w.grownBy w' (some b)
theorem rdBounded_zero {most : Int} {bs : List UInt8} {p : Nat} {n : Int} {q : Nat} (h : rdBounded 0 most bs p = some (n, q)) : 0 ≤ n := by
  unfold rdBounded at h
  split at h
  · cases h
  · split at h
    · cases h
    · rename_i hx
      cases h
      omega
theorem rdBytes_none {most : Int} {bs : List UInt8} {p : Nat} (h : rdBounded 0 most bs p = none) : rdBytes most bs p = none := by unfold rdBytes; rw [h]
theorem rdBytes_short {most : Int} {bs : List UInt8} {p q m : Nat} (h : rdBounded 0 most bs p = some ((m : Int), q)) (hs : bs.length - q < m) : rdBytes most bs p = none := by unfold rdBytes; rw [h]; simp [hs]
theorem rdBytes_good {most : Int} {bs : List UInt8} {p q m : Nat} (h : rdBounded 0 most bs p = some ((m : Int), q)) (hs : ¬ bs.length - q < m) : rdBytes most bs p = some ((bs.drop q).take m, q + m) := by unfold rdBytes; rw [h]; simp [hs]
theorem Rd.part {w : World} {a : Option Addr} {c : Nat} {bs : List UInt8} (h : Rd w (.slice a bs.length c) bs) {q m : Nat} (hqm : q + m ≤ bs.length) :
    (a = none ∧ m = 0 ∧ q = 0 ∧ c = 0) ∨ ∃ g off, a = some ⟨g, off, none⟩ ∧ bs.length ≤ c ∧ c ≤ maxLen ∧ (c ≠ q → RdW w (.slice (some ⟨g, off + q, none⟩) m (c - q)) ((bs.drop q).take m)) ∧ (c = q → RdW w (.slice (some ⟨g, off, none⟩) m (c - q)) ((bs.drop q).take m)) := by
  have hl : ((bs.drop q).take m).length = m := by rw [List.length_take, List.length_drop]; omega
  rcases h with ⟨h0, rfl⟩ | ⟨g, off, cap, h0, h1, h2, h3⟩
  · simp only [List.length_nil] at hqm
    simp only [Value.slice.injEq] at h0
    exact .inl ⟨h0.1, by omega, by omega, h0.2.2⟩
  · cases h0
    refine .inr ⟨g, off, rfl, h1, h2, fun _ => .inl (.inr ⟨g, off + q, c - q, by rw [hl], by rw [hl]; omega, by omega, fun j x hj => ?_⟩), fun e => ?_⟩
    · rw [List.getElem?_take] at hj
      split at hj
      · rw [List.getElem?_drop] at hj
        rw [Nat.add_assoc]
        exact h3 _ _ hj
      · cases hj
    · have hm0 : m = 0 := by omega
      subst hm0
      rw [List.take_zero]
      exact .inl (.inr ⟨g, off, c - q, rfl, Nat.zero_le _, by omega, fun j x hj => by simp at hj⟩)
set_option maxRecDepth 100000 in
set_option maxHeartbeats 4000000 in
theorem qBytes_any (b : Nat) (sl : Value) (bs : List UInt8) (p : Nat) (f : Bool) (most : Int) (w : World) (h : IsQ w b sl bs p f) :
    Calls Try.prog 57 #[.pointer (some ⟨b, 0, none⟩), .int .i64 most] w (GotB (unl f (rdBytes most bs p)) b sl bs p w) := by
  have HB := Lib.hid (qBounded_any b sl bs p f 0 most w h)
  have H := Lib.hid h
  have c1 := h.c1
  have hle := h.le
  have hsm := h.sm
  have HLT := Lib.hid h.lt
  obtain ⟨a, c, rfl⟩ := h.rd.len
  clear h
  go_enter Try.func57, Try.ntmps57
  go_wp2_with fail
  refine HB.out.mono ?_
  rintro e w1 ⟨rfl, hq1, hg1⟩
  have HG1 := Lib.hid hg1
  clear hg1 c1 HB
  cases hr : unl f (rdBounded 0 most bs p) with
  | none =>
    rw [hr] at hq1
    have hn : unl f (rdBytes most bs p) = none := by
      cases f with
      | true => rfl
      | false => exact rdBytes_none hr
    have HN := Lib.hid hn
    simp only [iQ, Option.isNone_none] at hq1
    simp only [iV]
    have HQ1 := Lib.hid hq1
    have c2 := hq1.c2
    have c1 := hq1.c1
    have c0 := hq1.c0
    clear hq1 hn hr
    go_wp2
    go_quiet (fail)
    have hq2 := HQ1.out.grown (gb_drewN w1 nq none)
    have hg2 := gb_trans0 HG1.out (gb_drewN w1 nq none)
    generalize w1.drewN nq = w2 at *
    clear c0 c1 c2
    have HGA := Lib.hid hg2
    have c2 := hq2.c2
    have f2 := hq2.fr 2
    have hf := hq2.setF true
    have hge := hq2.le
    have HST := Lib.hid (hf.setP p hle)
    have c1 := hf.c1
    have f1 := hf.fr 1
    have HGG : Hid (w.grownBy ((w2.setCell ⟨b, 2, none⟩ (.bool true)).setCell ⟨b, 1, none⟩ (.int .i64 (p : Int))) (some b)) := Lib.hid (gb_same (gb_same HGA.out (gb_setCell w2 ⟨b, 2, none⟩ (.bool true))) (gb_setCell _ ⟨b, 1, none⟩ (.int .i64 (p : Int))))
    clear hq2 hf hg2
    go_wp2
    go_ret
    exact ⟨.slice none 0 0, rfl, by rw [HN.out]; exact Own.nil _ _, by rw [HN.out]; exact HST.out, HGG.out⟩
  | some r =>
    obtain ⟨n, q⟩ := r
    have hr0 : f = false ∧ rdBounded 0 most bs p = some (n, q) := by
      cases f with
      | true => cases hr
      | false => exact ⟨rfl, hr⟩
    obtain ⟨rfl, hr1⟩ := hr0
    obtain ⟨m, hm⟩ : ∃ m : Nat, n = (m : Int) := ⟨n.toNat, by have := rdBounded_zero hr1; omega⟩
    subst hm
    rw [hr] at hq1
    simp only [iQ, Option.isNone_some] at hq1
    simp only [iV]
    have hqle := hq1.le
    by_cases hs : bs.length - q < m
    · have hn : unl false (rdBytes most bs p) = none := rdBytes_short hr1 hs
      have HN := Lib.hid hn
      have hlt : (bs.length : Int) - (q : Int) < (m : Int) := by omega
      have HQ1 := Lib.hid hq1
      have c2 := hq1.c2
      have c1 := hq1.c1
      have c0 := hq1.c0
      clear hq1 hn hr hs hr1
      go_wp2
      go_quiet (fail)
      have hq2 := HQ1.out.grown (gb_drewN w1 nq none)
      have hg2 := gb_trans0 HG1.out (gb_drewN w1 nq none)
      generalize w1.drewN nq = w2 at *
      clear c0 c1 c2
      have HGA := Lib.hid hg2
      have c2 := hq2.c2
      have f2 := hq2.fr 2
      have hf := hq2.setF true
      have hge := hq2.le
      have HST := Lib.hid (hf.setP p hle)
      have c1 := hf.c1
      have f1 := hf.fr 1
      have HGG : Hid (w.grownBy ((w2.setCell ⟨b, 2, none⟩ (.bool true)).setCell ⟨b, 1, none⟩ (.int .i64 (p : Int))) (some b)) := Lib.hid (gb_same (gb_same HGA.out (gb_setCell w2 ⟨b, 2, none⟩ (.bool true))) (gb_setCell _ ⟨b, 1, none⟩ (.int .i64 (p : Int))))
      clear hq2 hf hg2
      go_wp2
      go_ret
      exact ⟨.slice none 0 0, rfl, by rw [HN.out]; exact Own.nil _ _, by rw [HN.out]; exact HST.out, HGG.out⟩
    · have hn : unl false (rdBytes most bs p) = some ((bs.drop q).take m, q + m) := rdBytes_good hr1 hs
      have HN := Lib.hid hn
      have hge : ¬ (bs.length : Int) - (q : Int) < (m : Int) := by omega
      have hqm : q + m ≤ bs.length := by omega
      have HQ1 := Lib.hid hq1
      have c2 := hq1.c2
      have c1 := hq1.c1
      have c0 := hq1.c0
      clear hq1 hn hr hs hr1
      go_wp2
      go_quiet (fail)
      have hq2 := HQ1.out.grown (gb_drewN w1 nq none)
      have hg2 := gb_trans0 HG1.out (gb_drewN w1 nq none)
      generalize w1.drewN nq = w2 at *
      clear c0 c1 c2
      have HGA := Lib.hid hg2
      have c1 := hq2.c1
      have f1 := hq2.fr 1
      have hst := hq2.setP (q + m) hqm
      have e1 : (((q + m : Nat)) : Int) = (q : Int) + (m : Int) := by omega
      rw [e1] at hst
      have HST := Lib.hid hst
      have HGG : Hid (w.grownBy (w2.setCell ⟨b, 1, none⟩ (.int .i64 ((q : Int) + (m : Int)))) (some b)) := Lib.hid (gb_same HGA.out (gb_setCell w2 ⟨b, 1, none⟩ (.int .i64 ((q : Int) + (m : Int)))))
      clear hq2 hg2 hst e1
      go_wp2
      clear hge c1 f1
      have hqi : (q : Int) + (m : Int) ≤ (bs.length : Int) := by omega
      have HBD : Hid (m ≤ 1099511627776) := Lib.hid (by omega)
      have hw1 : IntKind.i64.wrap ((q : Int) + (m : Int) - (m : Int)) = (q : Int) := by rw [IntKind.wrap_i64] <;> omega
      have hw2 : IntKind.i64.wrap (q : Int) = (q : Int) := by rw [IntKind.wrap_i64] <;> omega
      have hp0 : (0 : Int) ≤ (q : Int) + (m : Int) := by omega
      have hp1 : max ((q : Int) + (m : Int)) 0 = (q : Int) + (m : Int) := by omega
      have hp2 : ((q : Int) + (m : Int)).toNat = q + m := by omega
      have hp3 : (q : Int) ≤ (q : Int) + (m : Int) := by omega
      have HTL : Hid (((bs.drop q).take m).length = m) := Lib.hid (by rw [List.length_take, List.length_drop]; omega)
      have HTB : Hid (([] : List UInt8).length + ((bs.drop q).take m).length ≤ 140737488355328) := Lib.hid (by rw [HTL.out]; simp; omega)
      rcases HST.out.rd.part (q := q) (m := m) hqm with ⟨rfl, hm0, hq0, hc0⟩ | ⟨g, off, rfl, hbc, hcm, hs1, hs2⟩
      · subst hm0 hq0 hc0
        have HSRC : Hid (∀ X : World, RdW X (.slice none 0 0) ((bs.drop 0).take 0)) := Lib.hid (fun X => .inl (.inl ⟨rfl, rfl⟩))
        clear hw1 hqi hw2 hp0 hp1 hp2 hp3
        have c0 := HST.out.c0
        have c1 := HST.out.c1
        have HS0 : Hid ((w2.setCell ⟨b, 1, none⟩ (.int .i64 (((0 : Nat) : Int) + ((0 : Nat) : Int)))).drew.cell? ⟨b, 0, none⟩ = some (.slice none bs.length 0) ∧ (w2.setCell ⟨b, 1, none⟩ (.int .i64 (((0 : Nat) : Int) + ((0 : Nat) : Int)))).drew.cell? ⟨b, 1, none⟩ = some (.int .i64 (((0 : Nat) : Int) + ((0 : Nat) : Int)))) := Lib.hid ⟨c0, c1⟩
        clear c0 c1
        refine region_KL (fuel := 17) (listed := #[false, false, false, false, false, false, false, false, false, false, false, false, false, false, false, false, false]) (fun X => X.cell? ⟨b, 0, none⟩ = some (.slice none bs.length 0) ∧ X.cell? ⟨b, 1, none⟩ = some (.int .i64 (((0 : Nat) : Int) + ((0 : Nat) : Int)))) 16 (by kernel_rfl) rfl (by kernel_rfl) ?_
        refine wpAnyK_takeL (i := 0) (d := 47) (v := ?_) (T' := ?_) (listed' := #[true, false, false, false, false, false, false, false, false, false, false, false, false, false, false, false, false]) rfl rfl (by kernel_rfl) (fun _ _ _ h => h) rfl (Or.inl ⟨by rfl, ?_⟩) ?_ HS0.out ?_
        rotate_left 2
        · intro w hS; clear hS; go_simp; rfl
        · simp only [List.setIfInBounds_toArray, List.set_cons_succ, List.set_cons_zero]; rfl
        refine wpAnyK_takeL (i := 1) (d := 48) (v := ?_) (T' := ?_) (listed' := #[true, true, false, false, false, false, false, false, false, false, false, false, false, false, false, false, false]) rfl rfl (by kernel_rfl) (fun _ _ _ h => h) rfl (Or.inl ⟨by rfl, ?_⟩) ?_ HS0.out ?_
        rotate_left 2
        · intro w hS; clear hS; go_simp; rfl
        · simp only [List.setIfInBounds_toArray, List.set_cons_succ, List.set_cons_zero]; rfl
        refine wpAnyK_takeL (i := 2) (d := 49) (v := ?_) (T' := ?_) (listed' := #[true, true, true, false, false, false, false, false, false, false, false, false, false, false, false, false, false]) rfl rfl (by kernel_rfl) (fun _ _ _ h => h) rfl (Or.inl ⟨by rfl, ?_⟩) ?_ HS0.out ?_
        rotate_left 2
        · intro w hS; clear hS; go_simp; rfl
        · simp only [List.setIfInBounds_toArray, List.set_cons_succ, List.set_cons_zero]; rfl
        refine wpAnyK_takeL (i := 3) (d := 50) (v := ?_) (T' := ?_) (listed' := #[true, true, true, true, false, false, false, false, false, false, false, false, false, false, false, false, false]) rfl rfl (by kernel_rfl) (fun _ _ _ h => h) rfl (Or.inl ⟨by rfl, ?_⟩) ?_ HS0.out ?_
        rotate_left 2
        · intro w hS; have t0 := hS.1; clear hS; go_simp; rfl
        · simp only [List.setIfInBounds_toArray, List.set_cons_succ, List.set_cons_zero]; rfl
        refine wpAnyK_takeL (i := 4) (d := 51) (v := ?_) (T' := ?_) (listed' := #[true, true, true, true, true, false, false, false, false, false, false, false, false, false, false, false, false]) rfl rfl (by kernel_rfl) (fun _ _ _ h => h) rfl (Or.inl ⟨by rfl, ?_⟩) ?_ HS0.out ?_
        rotate_left 2
        · intro w hS; clear hS; go_simp; rfl
        · simp only [List.setIfInBounds_toArray, List.set_cons_succ, List.set_cons_zero]; rfl
        refine wpAnyK_takeL (i := 5) (d := 52) (v := ?_) (T' := ?_) (listed' := #[true, true, true, true, true, true, false, false, false, false, false, false, false, false, false, false, false]) rfl rfl (by kernel_rfl) (fun _ _ _ h => h) rfl (Or.inl ⟨by rfl, ?_⟩) ?_ HS0.out ?_
        rotate_left 2
        · intro w hS; clear hS; go_simp; rfl
        · simp only [List.setIfInBounds_toArray, List.set_cons_succ, List.set_cons_zero]; rfl
        refine wpAnyK_takeL (i := 6) (d := 53) (v := ?_) (T' := ?_) (listed' := #[true, true, true, true, true, true, true, false, false, false, false, false, false, false, false, false, false]) rfl rfl (by kernel_rfl) (fun _ _ _ h => h) rfl (Or.inl ⟨by rfl, ?_⟩) ?_ HS0.out ?_
        rotate_left 2
        · intro w hS; clear hS; go_simp; rfl
        · simp only [List.setIfInBounds_toArray, List.set_cons_succ, List.set_cons_zero]; rfl
        refine wpAnyK_takeL (i := 7) (d := 54) (v := ?_) (T' := ?_) (listed' := #[true, true, true, true, true, true, true, true, false, false, false, false, false, false, false, false, false]) rfl rfl (by kernel_rfl) (fun _ _ _ h => h) rfl (Or.inl ⟨by rfl, ?_⟩) ?_ HS0.out ?_
        rotate_left 2
        · intro w hS; have t0 := hS.2; clear hS; go_simp; rfl
        · simp only [List.setIfInBounds_toArray, List.set_cons_succ, List.set_cons_zero]; rfl
        refine wpAnyK_takeL (i := 8) (d := 55) (v := ?_) (T' := ?_) (listed' := #[true, true, true, true, true, true, true, true, true, false, false, false, false, false, false, false, false]) rfl rfl (by kernel_rfl) (fun _ _ _ h => h) rfl (Or.inl ⟨by rfl, ?_⟩) ?_ HS0.out ?_
        rotate_left 2
        · intro w hS; clear hS; go_simp; rfl
        · simp only [List.setIfInBounds_toArray, List.set_cons_succ, List.set_cons_zero]; rfl
        refine wpAnyK_takeL (i := 9) (d := 56) (v := ?_) (T' := ?_) (listed' := #[true, true, true, true, true, true, true, true, true, true, false, false, false, false, false, false, false]) rfl rfl (by kernel_rfl) (fun _ _ _ h => h) rfl (Or.inl ⟨by rfl, ?_⟩) ?_ HS0.out ?_
        rotate_left 2
        · intro w hS; clear hS; go_simp; rfl
        · simp only [List.setIfInBounds_toArray, List.set_cons_succ, List.set_cons_zero]; rfl
        refine wpAnyK_takeL (i := 10) (d := 57) (v := ?_) (T' := ?_) (listed' := #[true, true, true, true, true, true, true, true, true, true, true, false, false, false, false, false, false]) rfl rfl (by kernel_rfl) (fun _ _ _ h => h) rfl (Or.inl ⟨by rfl, ?_⟩) ?_ HS0.out ?_
        rotate_left 2
        · intro w hS; clear hS; go_simp; rfl
        · simp only [List.setIfInBounds_toArray, List.set_cons_succ, List.set_cons_zero]; rfl
        refine wpAnyK_takeL (i := 11) (d := 58) (v := ?_) (T' := ?_) (listed' := #[true, true, true, true, true, true, true, true, true, true, true, true, false, false, false, false, false]) rfl rfl (by kernel_rfl) (fun _ _ _ h => h) rfl (Or.inl ⟨by rfl, ?_⟩) ?_ HS0.out ?_
        rotate_left 2
        · intro w hS; clear hS; go_simp; rfl
        · simp only [List.setIfInBounds_toArray, List.set_cons_succ, List.set_cons_zero]; rfl
        refine wpAnyK_takeL (i := 12) (d := 59) (v := ?_) (T' := ?_) (listed' := #[true, true, true, true, true, true, true, true, true, true, true, true, true, false, false, false, false]) rfl rfl (by kernel_rfl) (fun _ _ _ h => h) rfl (Or.inl ⟨by rfl, ?_⟩) ?_ HS0.out ?_
        rotate_left 2
        · intro w hS; clear hS; go_simp; rfl
        · simp only [List.setIfInBounds_toArray, List.set_cons_succ, List.set_cons_zero]; rfl
        refine wpAnyK_takeL (i := 13) (d := 60) (v := ?_) (T' := ?_) (listed' := #[true, true, true, true, true, true, true, true, true, true, true, true, true, true, false, false, false]) rfl rfl (by kernel_rfl) (fun _ _ _ h => h) rfl (Or.inl ⟨by rfl, ?_⟩) ?_ HS0.out ?_
        rotate_left 2
        · intro w hS; have t0 := hS.2; clear hS; go_simp; rfl
        · simp only [List.setIfInBounds_toArray, List.set_cons_succ, List.set_cons_zero]; rfl
        refine wpAnyK_takeL (i := 14) (d := 61) (v := ?_) (T' := ?_) (listed' := #[true, true, true, true, true, true, true, true, true, true, true, true, true, true, true, false, false]) rfl rfl (by kernel_rfl) (fun _ _ _ h => h) rfl (Or.inl ⟨by rfl, ?_⟩) ?_ HS0.out ?_
        rotate_left 2
        · intro w hS; clear hS; go_simp; rfl
        · simp only [List.setIfInBounds_toArray, List.set_cons_succ, List.set_cons_zero]; rfl
        refine wpAnyK_oneL (i := 15) (listed' := #[true, true, true, true, true, true, true, true, true, true, true, true, true, true, true, true, false]) (by kernel_rfl) rfl (by rfl) rfl ?_
        intro K hK
        refine app_bytesW_op _ _ rfl w.heap.size (.slice none 0 0) (.slice none 0 0) [] ((bs.drop 0).take 0) rfl rfl (Own.nil _ _) (HSRC.out _) (by have e1 := HGG.out.size; exact e1) HTB.out ?_
        intro v3 w3 ho3 hg3 hf3
        rw [List.nil_append] at ho3
        have HO3 := Lib.hid ho3
        have HG3 := Lib.hid (gb_same (gb_same HGG.out (gb_drew _ _)) (gb_none (some b) hg3))
        have HQ3 := Lib.hid ((HST.out.grown (gb_drew _ none)).grown hg3)
        have HS3 : Hid (w3.cell? ⟨b, 0, none⟩ = some (.slice none bs.length 0) ∧ w3.cell? ⟨b, 1, none⟩ = some (.int .i64 (((0 : Nat) : Int) + ((0 : Nat) : Int)))) := Lib.hid ⟨HQ3.out.c0, HQ3.out.c1⟩
        clear ho3 hg3 hf3
        refine hK _ _ (fun _ => HS3.out) ?_
        clear hK K
        refine wpAnyK_oneL (i := 16) (listed' := #[true, true, true, true, true, true, true, true, true, true, true, true, true, true, true, true, true]) (by kernel_rfl) rfl (by rfl) rfl ?_
        intro K hK
        go_simp
        refine hK _ _ (fun h => Bool.noConfusion (show true = false from h)) ?_
        clear hK K
        refine wpAnyK_done (by kernel_rfl) ?_ _
        go_wp2
        go_ret
        exact ⟨v3, rfl, by rw [HN.out]; exact HO3.out, by rw [HN.out]; exact HQ3.out, HG3.out⟩
      · by_cases hcq : c = q
        · have hsrc := hs2 hcq
          subst hcq
          rw [Nat.sub_self] at hsrc
          have HSR := Lib.hid hsrc
          have hic : (c : Int) + (m : Int) ≤ (c : Int) := by omega
          have hbc' : (bs.length : Int) ≤ (c : Int) := by omega
          have HSE := Lib.hid (And.intro hs1 hs2)
          clear hs1 hs2 hsrc
          have c0 := HST.out.c0
          have c1 := HST.out.c1
          have HS0 : Hid ((w2.setCell ⟨b, 1, none⟩ (.int .i64 ((c : Int) + (m : Int)))).drew.cell? ⟨b, 0, none⟩ = some (.slice (some ⟨g, off, none⟩) bs.length c) ∧ (w2.setCell ⟨b, 1, none⟩ (.int .i64 ((c : Int) + (m : Int)))).drew.cell? ⟨b, 1, none⟩ = some (.int .i64 ((c : Int) + (m : Int)))) := Lib.hid ⟨c0, c1⟩
          clear c0 c1
          refine region_KL (fuel := 17) (listed := #[false, false, false, false, false, false, false, false, false, false, false, false, false, false, false, false, false]) (fun X => X.cell? ⟨b, 0, none⟩ = some (.slice (some ⟨g, off, none⟩) bs.length c) ∧ X.cell? ⟨b, 1, none⟩ = some (.int .i64 ((c : Int) + (m : Int)))) 16 (by kernel_rfl) rfl (by kernel_rfl) ?_
          refine wpAnyK_takeL (i := 0) (d := 47) (v := ?_) (T' := ?_) (listed' := #[true, false, false, false, false, false, false, false, false, false, false, false, false, false, false, false, false]) rfl rfl (by kernel_rfl) (fun _ _ _ h => h) rfl (Or.inl ⟨by rfl, ?_⟩) ?_ HS0.out ?_
          rotate_left 2
          · intro w hS; clear hS; go_simp; rfl
          · simp only [List.setIfInBounds_toArray, List.set_cons_succ, List.set_cons_zero]; rfl
          refine wpAnyK_takeL (i := 1) (d := 48) (v := ?_) (T' := ?_) (listed' := #[true, true, false, false, false, false, false, false, false, false, false, false, false, false, false, false, false]) rfl rfl (by kernel_rfl) (fun _ _ _ h => h) rfl (Or.inl ⟨by rfl, ?_⟩) ?_ HS0.out ?_
          rotate_left 2
          · intro w hS; clear hS; go_simp; rfl
          · simp only [List.setIfInBounds_toArray, List.set_cons_succ, List.set_cons_zero]; rfl
          refine wpAnyK_takeL (i := 2) (d := 49) (v := ?_) (T' := ?_) (listed' := #[true, true, true, false, false, false, false, false, false, false, false, false, false, false, false, false, false]) rfl rfl (by kernel_rfl) (fun _ _ _ h => h) rfl (Or.inl ⟨by rfl, ?_⟩) ?_ HS0.out ?_
          rotate_left 2
          · intro w hS; clear hS; go_simp; rfl
          · simp only [List.setIfInBounds_toArray, List.set_cons_succ, List.set_cons_zero]; rfl
          refine wpAnyK_takeL (i := 3) (d := 50) (v := ?_) (T' := ?_) (listed' := #[true, true, true, true, false, false, false, false, false, false, false, false, false, false, false, false, false]) rfl rfl (by kernel_rfl) (fun _ _ _ h => h) rfl (Or.inl ⟨by rfl, ?_⟩) ?_ HS0.out ?_
          rotate_left 2
          · intro w hS; have t0 := hS.1; clear hS; go_simp; rfl
          · simp only [List.setIfInBounds_toArray, List.set_cons_succ, List.set_cons_zero]; rfl
          refine wpAnyK_takeL (i := 4) (d := 51) (v := ?_) (T' := ?_) (listed' := #[true, true, true, true, true, false, false, false, false, false, false, false, false, false, false, false, false]) rfl rfl (by kernel_rfl) (fun _ _ _ h => h) rfl (Or.inl ⟨by rfl, ?_⟩) ?_ HS0.out ?_
          rotate_left 2
          · intro w hS; clear hS; go_simp; rfl
          · simp only [List.setIfInBounds_toArray, List.set_cons_succ, List.set_cons_zero]; rfl
          refine wpAnyK_takeL (i := 5) (d := 52) (v := ?_) (T' := ?_) (listed' := #[true, true, true, true, true, true, false, false, false, false, false, false, false, false, false, false, false]) rfl rfl (by kernel_rfl) (fun _ _ _ h => h) rfl (Or.inl ⟨by rfl, ?_⟩) ?_ HS0.out ?_
          rotate_left 2
          · intro w hS; clear hS; go_simp; rfl
          · simp only [List.setIfInBounds_toArray, List.set_cons_succ, List.set_cons_zero]; rfl
          refine wpAnyK_takeL (i := 6) (d := 53) (v := ?_) (T' := ?_) (listed' := #[true, true, true, true, true, true, true, false, false, false, false, false, false, false, false, false, false]) rfl rfl (by kernel_rfl) (fun _ _ _ h => h) rfl (Or.inl ⟨by rfl, ?_⟩) ?_ HS0.out ?_
          rotate_left 2
          · intro w hS; clear hS; go_simp; rfl
          · simp only [List.setIfInBounds_toArray, List.set_cons_succ, List.set_cons_zero]; rfl
          refine wpAnyK_takeL (i := 7) (d := 54) (v := ?_) (T' := ?_) (listed' := #[true, true, true, true, true, true, true, true, false, false, false, false, false, false, false, false, false]) rfl rfl (by kernel_rfl) (fun _ _ _ h => h) rfl (Or.inl ⟨by rfl, ?_⟩) ?_ HS0.out ?_
          rotate_left 2
          · intro w hS; have t0 := hS.2; clear hS; go_simp; rfl
          · simp only [List.setIfInBounds_toArray, List.set_cons_succ, List.set_cons_zero]; rfl
          refine wpAnyK_takeL (i := 8) (d := 55) (v := ?_) (T' := ?_) (listed' := #[true, true, true, true, true, true, true, true, true, false, false, false, false, false, false, false, false]) rfl rfl (by kernel_rfl) (fun _ _ _ h => h) rfl (Or.inl ⟨by rfl, ?_⟩) ?_ HS0.out ?_
          rotate_left 2
          · intro w hS; clear hS; go_simp; rfl
          · simp only [List.setIfInBounds_toArray, List.set_cons_succ, List.set_cons_zero]; rfl
          refine wpAnyK_takeL (i := 9) (d := 56) (v := ?_) (T' := ?_) (listed' := #[true, true, true, true, true, true, true, true, true, true, false, false, false, false, false, false, false]) rfl rfl (by kernel_rfl) (fun _ _ _ h => h) rfl (Or.inl ⟨by rfl, ?_⟩) ?_ HS0.out ?_
          rotate_left 2
          · intro w hS; clear hS; go_simp; rfl
          · simp only [List.setIfInBounds_toArray, List.set_cons_succ, List.set_cons_zero]; rfl
          refine wpAnyK_takeL (i := 10) (d := 57) (v := ?_) (T' := ?_) (listed' := #[true, true, true, true, true, true, true, true, true, true, true, false, false, false, false, false, false]) rfl rfl (by kernel_rfl) (fun _ _ _ h => h) rfl (Or.inl ⟨by rfl, ?_⟩) ?_ HS0.out ?_
          rotate_left 2
          · intro w hS; clear hS; go_simp; rfl
          · simp only [List.setIfInBounds_toArray, List.set_cons_succ, List.set_cons_zero]; rfl
          refine wpAnyK_takeL (i := 11) (d := 58) (v := ?_) (T' := ?_) (listed' := #[true, true, true, true, true, true, true, true, true, true, true, true, false, false, false, false, false]) rfl rfl (by kernel_rfl) (fun _ _ _ h => h) rfl (Or.inl ⟨by rfl, ?_⟩) ?_ HS0.out ?_
          rotate_left 2
          · intro w hS; clear hS; go_simp; rfl
          · simp only [List.setIfInBounds_toArray, List.set_cons_succ, List.set_cons_zero]; rfl
          refine wpAnyK_takeL (i := 12) (d := 59) (v := ?_) (T' := ?_) (listed' := #[true, true, true, true, true, true, true, true, true, true, true, true, true, false, false, false, false]) rfl rfl (by kernel_rfl) (fun _ _ _ h => h) rfl (Or.inl ⟨by rfl, ?_⟩) ?_ HS0.out ?_
          rotate_left 2
          · intro w hS; clear hS; go_simp; rfl
          · simp only [List.setIfInBounds_toArray, List.set_cons_succ, List.set_cons_zero]; rfl
          refine wpAnyK_takeL (i := 13) (d := 60) (v := ?_) (T' := ?_) (listed' := #[true, true, true, true, true, true, true, true, true, true, true, true, true, true, false, false, false]) rfl rfl (by kernel_rfl) (fun _ _ _ h => h) rfl (Or.inl ⟨by rfl, ?_⟩) ?_ HS0.out ?_
          rotate_left 2
          · intro w hS; have t0 := hS.2; clear hS; go_simp; rfl
          · simp only [List.setIfInBounds_toArray, List.set_cons_succ, List.set_cons_zero]; rfl
          refine wpAnyK_takeL (i := 14) (d := 61) (v := ?_) (T' := ?_) (listed' := #[true, true, true, true, true, true, true, true, true, true, true, true, true, true, true, false, false]) rfl rfl (by kernel_rfl) (fun _ _ _ h => h) rfl (Or.inl ⟨by rfl, ?_⟩) ?_ HS0.out ?_
          rotate_left 2
          · intro w hS; clear hS; go_simp; rfl
          · simp only [List.setIfInBounds_toArray, List.set_cons_succ, List.set_cons_zero]; rfl
          refine wpAnyK_oneL (i := 15) (listed' := #[true, true, true, true, true, true, true, true, true, true, true, true, true, true, true, true, false]) (by kernel_rfl) rfl (by rfl) rfl ?_
          intro K hK
          refine app_bytesW_op _ _ rfl w.heap.size (.slice none 0 0) (.slice (some ⟨g, off, none⟩) m 0) [] ((bs.drop c).take m) rfl rfl (Own.nil _ _) (HSR.out.grown (gb_drew _ _)) (by have e1 := HGG.out.size; exact e1) HTB.out ?_
          intro v3 w3 ho3 hg3 hf3
          rw [List.nil_append] at ho3
          have HO3 := Lib.hid ho3
          have HG3 := Lib.hid (gb_same (gb_same HGG.out (gb_drew _ _)) (gb_none (some b) hg3))
          have HQ3 := Lib.hid ((HST.out.grown (gb_drew _ none)).grown hg3)
          have HS3 : Hid (w3.cell? ⟨b, 0, none⟩ = some (.slice (some ⟨g, off, none⟩) bs.length c) ∧ w3.cell? ⟨b, 1, none⟩ = some (.int .i64 ((c : Int) + (m : Int)))) := Lib.hid ⟨HQ3.out.c0, HQ3.out.c1⟩
          clear ho3 hg3 hf3
          refine hK _ _ (fun _ => HS3.out) ?_
          clear hK K
          refine wpAnyK_oneL (i := 16) (listed' := #[true, true, true, true, true, true, true, true, true, true, true, true, true, true, true, true, true]) (by kernel_rfl) rfl (by rfl) rfl ?_
          intro K hK
          go_simp
          refine hK _ _ (fun h => Bool.noConfusion (show true = false from h)) ?_
          clear hK K
          refine wpAnyK_done (by kernel_rfl) ?_ _
          go_wp2
          go_ret
          exact ⟨v3, rfl, by rw [HN.out]; exact HO3.out, by rw [HN.out]; exact HQ3.out, HG3.out⟩
        · have hsrc := hs1 hcq
          have hcq2 : (c = q) = False := by simpa using hcq
          have HSR := Lib.hid hsrc
          have hbc' : (q : Int) + (m : Int) ≤ (c : Int) := by omega
          have hcm' : (c : Int) ≤ 9223372036854775807 := by simp only [maxLen] at hcm; omega
          clear hs1 hs2 hsrc hcq
          have c0 := HST.out.c0
          have c1 := HST.out.c1
          have HS0 : Hid ((w2.setCell ⟨b, 1, none⟩ (.int .i64 ((q : Int) + (m : Int)))).drew.cell? ⟨b, 0, none⟩ = some (.slice (some ⟨g, off, none⟩) bs.length c) ∧ (w2.setCell ⟨b, 1, none⟩ (.int .i64 ((q : Int) + (m : Int)))).drew.cell? ⟨b, 1, none⟩ = some (.int .i64 ((q : Int) + (m : Int)))) := Lib.hid ⟨c0, c1⟩
          clear c0 c1
          refine region_KL (fuel := 17) (listed := #[false, false, false, false, false, false, false, false, false, false, false, false, false, false, false, false, false]) (fun X => X.cell? ⟨b, 0, none⟩ = some (.slice (some ⟨g, off, none⟩) bs.length c) ∧ X.cell? ⟨b, 1, none⟩ = some (.int .i64 ((q : Int) + (m : Int)))) 16 (by kernel_rfl) rfl (by kernel_rfl) ?_
          refine wpAnyK_takeL (i := 0) (d := 47) (v := ?_) (T' := ?_) (listed' := #[true, false, false, false, false, false, false, false, false, false, false, false, false, false, false, false, false]) rfl rfl (by kernel_rfl) (fun _ _ _ h => h) rfl (Or.inl ⟨by rfl, ?_⟩) ?_ HS0.out ?_
          rotate_left 2
          · intro w hS; clear hS; go_simp; rfl
          · simp only [List.setIfInBounds_toArray, List.set_cons_succ, List.set_cons_zero]; rfl
          refine wpAnyK_takeL (i := 1) (d := 48) (v := ?_) (T' := ?_) (listed' := #[true, true, false, false, false, false, false, false, false, false, false, false, false, false, false, false, false]) rfl rfl (by kernel_rfl) (fun _ _ _ h => h) rfl (Or.inl ⟨by rfl, ?_⟩) ?_ HS0.out ?_
          rotate_left 2
          · intro w hS; clear hS; go_simp; rfl
          · simp only [List.setIfInBounds_toArray, List.set_cons_succ, List.set_cons_zero]; rfl
          refine wpAnyK_takeL (i := 2) (d := 49) (v := ?_) (T' := ?_) (listed' := #[true, true, true, false, false, false, false, false, false, false, false, false, false, false, false, false, false]) rfl rfl (by kernel_rfl) (fun _ _ _ h => h) rfl (Or.inl ⟨by rfl, ?_⟩) ?_ HS0.out ?_
          rotate_left 2
          · intro w hS; clear hS; go_simp; rfl
          · simp only [List.setIfInBounds_toArray, List.set_cons_succ, List.set_cons_zero]; rfl
          refine wpAnyK_takeL (i := 3) (d := 50) (v := ?_) (T' := ?_) (listed' := #[true, true, true, true, false, false, false, false, false, false, false, false, false, false, false, false, false]) rfl rfl (by kernel_rfl) (fun _ _ _ h => h) rfl (Or.inl ⟨by rfl, ?_⟩) ?_ HS0.out ?_
          rotate_left 2
          · intro w hS; have t0 := hS.1; clear hS; go_simp; rfl
          · simp only [List.setIfInBounds_toArray, List.set_cons_succ, List.set_cons_zero]; rfl
          refine wpAnyK_takeL (i := 4) (d := 51) (v := ?_) (T' := ?_) (listed' := #[true, true, true, true, true, false, false, false, false, false, false, false, false, false, false, false, false]) rfl rfl (by kernel_rfl) (fun _ _ _ h => h) rfl (Or.inl ⟨by rfl, ?_⟩) ?_ HS0.out ?_
          rotate_left 2
          · intro w hS; clear hS; go_simp; rfl
          · simp only [List.setIfInBounds_toArray, List.set_cons_succ, List.set_cons_zero]; rfl
          refine wpAnyK_takeL (i := 5) (d := 52) (v := ?_) (T' := ?_) (listed' := #[true, true, true, true, true, true, false, false, false, false, false, false, false, false, false, false, false]) rfl rfl (by kernel_rfl) (fun _ _ _ h => h) rfl (Or.inl ⟨by rfl, ?_⟩) ?_ HS0.out ?_
          rotate_left 2
          · intro w hS; clear hS; go_simp; rfl
          · simp only [List.setIfInBounds_toArray, List.set_cons_succ, List.set_cons_zero]; rfl
          refine wpAnyK_takeL (i := 6) (d := 53) (v := ?_) (T' := ?_) (listed' := #[true, true, true, true, true, true, true, false, false, false, false, false, false, false, false, false, false]) rfl rfl (by kernel_rfl) (fun _ _ _ h => h) rfl (Or.inl ⟨by rfl, ?_⟩) ?_ HS0.out ?_
          rotate_left 2
          · intro w hS; clear hS; go_simp; rfl
          · simp only [List.setIfInBounds_toArray, List.set_cons_succ, List.set_cons_zero]; rfl
          refine wpAnyK_takeL (i := 7) (d := 54) (v := ?_) (T' := ?_) (listed' := #[true, true, true, true, true, true, true, true, false, false, false, false, false, false, false, false, false]) rfl rfl (by kernel_rfl) (fun _ _ _ h => h) rfl (Or.inl ⟨by rfl, ?_⟩) ?_ HS0.out ?_
          rotate_left 2
          · intro w hS; have t0 := hS.2; clear hS; go_simp; rfl
          · simp only [List.setIfInBounds_toArray, List.set_cons_succ, List.set_cons_zero]; rfl
          refine wpAnyK_takeL (i := 8) (d := 55) (v := ?_) (T' := ?_) (listed' := #[true, true, true, true, true, true, true, true, true, false, false, false, false, false, false, false, false]) rfl rfl (by kernel_rfl) (fun _ _ _ h => h) rfl (Or.inl ⟨by rfl, ?_⟩) ?_ HS0.out ?_
          rotate_left 2
          · intro w hS; clear hS; go_simp; rfl
          · simp only [List.setIfInBounds_toArray, List.set_cons_succ, List.set_cons_zero]; rfl
          refine wpAnyK_takeL (i := 9) (d := 56) (v := ?_) (T' := ?_) (listed' := #[true, true, true, true, true, true, true, true, true, true, false, false, false, false, false, false, false]) rfl rfl (by kernel_rfl) (fun _ _ _ h => h) rfl (Or.inl ⟨by rfl, ?_⟩) ?_ HS0.out ?_
          rotate_left 2
          · intro w hS; clear hS; go_simp; rfl
          · simp only [List.setIfInBounds_toArray, List.set_cons_succ, List.set_cons_zero]; rfl
          refine wpAnyK_takeL (i := 10) (d := 57) (v := ?_) (T' := ?_) (listed' := #[true, true, true, true, true, true, true, true, true, true, true, false, false, false, false, false, false]) rfl rfl (by kernel_rfl) (fun _ _ _ h => h) rfl (Or.inl ⟨by rfl, ?_⟩) ?_ HS0.out ?_
          rotate_left 2
          · intro w hS; clear hS; go_simp; rfl
          · simp only [List.setIfInBounds_toArray, List.set_cons_succ, List.set_cons_zero]; rfl
          refine wpAnyK_takeL (i := 11) (d := 58) (v := ?_) (T' := ?_) (listed' := #[true, true, true, true, true, true, true, true, true, true, true, true, false, false, false, false, false]) rfl rfl (by kernel_rfl) (fun _ _ _ h => h) rfl (Or.inl ⟨by rfl, ?_⟩) ?_ HS0.out ?_
          rotate_left 2
          · intro w hS; clear hS; go_simp; rfl
          · simp only [List.setIfInBounds_toArray, List.set_cons_succ, List.set_cons_zero]; rfl
          refine wpAnyK_takeL (i := 12) (d := 59) (v := ?_) (T' := ?_) (listed' := #[true, true, true, true, true, true, true, true, true, true, true, true, true, false, false, false, false]) rfl rfl (by kernel_rfl) (fun _ _ _ h => h) rfl (Or.inl ⟨by rfl, ?_⟩) ?_ HS0.out ?_
          rotate_left 2
          · intro w hS; clear hS; go_simp; rfl
          · simp only [List.setIfInBounds_toArray, List.set_cons_succ, List.set_cons_zero]; rfl
          refine wpAnyK_takeL (i := 13) (d := 60) (v := ?_) (T' := ?_) (listed' := #[true, true, true, true, true, true, true, true, true, true, true, true, true, true, false, false, false]) rfl rfl (by kernel_rfl) (fun _ _ _ h => h) rfl (Or.inl ⟨by rfl, ?_⟩) ?_ HS0.out ?_
          rotate_left 2
          · intro w hS; have t0 := hS.2; clear hS; go_simp; rfl
          · simp only [List.setIfInBounds_toArray, List.set_cons_succ, List.set_cons_zero]; rfl
          refine wpAnyK_takeL (i := 14) (d := 61) (v := ?_) (T' := ?_) (listed' := #[true, true, true, true, true, true, true, true, true, true, true, true, true, true, true, false, false]) rfl rfl (by kernel_rfl) (fun _ _ _ h => h) rfl (Or.inl ⟨by rfl, ?_⟩) ?_ HS0.out ?_
          rotate_left 2
          · intro w hS; clear hS; go_simp; rfl
          · simp only [List.setIfInBounds_toArray, List.set_cons_succ, List.set_cons_zero]; rfl
          refine wpAnyK_oneL (i := 15) (listed' := #[true, true, true, true, true, true, true, true, true, true, true, true, true, true, true, true, false]) (by kernel_rfl) rfl (by rfl) rfl ?_
          intro K hK
          refine app_bytesW_op _ _ rfl w.heap.size (.slice none 0 0) (.slice (some ⟨g, off + q, none⟩) m (c - q)) [] ((bs.drop q).take m) rfl rfl (Own.nil _ _) (HSR.out.grown (gb_drew _ _)) (by have e1 := HGG.out.size; exact e1) HTB.out ?_
          intro v3 w3 ho3 hg3 hf3
          rw [List.nil_append] at ho3
          have HO3 := Lib.hid ho3
          have HG3 := Lib.hid (gb_same (gb_same HGG.out (gb_drew _ _)) (gb_none (some b) hg3))
          have HQ3 := Lib.hid ((HST.out.grown (gb_drew _ none)).grown hg3)
          have HS3 : Hid (w3.cell? ⟨b, 0, none⟩ = some (.slice (some ⟨g, off, none⟩) bs.length c) ∧ w3.cell? ⟨b, 1, none⟩ = some (.int .i64 ((q : Int) + (m : Int)))) := Lib.hid ⟨HQ3.out.c0, HQ3.out.c1⟩
          clear ho3 hg3 hf3
          refine hK _ _ (fun _ => HS3.out) ?_
          clear hK K
          refine wpAnyK_oneL (i := 16) (listed' := #[true, true, true, true, true, true, true, true, true, true, true, true, true, true, true, true, true]) (by kernel_rfl) rfl (by rfl) rfl ?_
          intro K hK
          go_simp
          refine hK _ _ (fun h => Bool.noConfusion (show true = false from h)) ?_
          clear hK K
          refine wpAnyK_done (by kernel_rfl) ?_ _
          go_wp2
          go_ret
          exact ⟨v3, rfl, by rw [HN.out]; exact HO3.out, by rw [HN.out]; exact HQ3.out, HG3.out⟩
end Go.Proofs.Ytfldooljmjeaoaa
