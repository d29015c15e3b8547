/-
  The reference's Encode: the walk.
-/
import Derived.Test.YtjijiondinbmnaaTW3
namespace Go.Proofs.Ytjijiondinbmnaa
open Go.RowKit

set_option maxRecDepth 100000 in
theorem rBool_any (t : Bool) (w : World) : Calls Try.prog 44 #[.bool t] w (EncPost w (encB t)) := by
  cases t with
  | true =>
    go_enter Try.func44, Try.ntmps44
    go_wp2
    go_ret
    exact ⟨_, rfl, own_byte w _ 1 rfl, gb_alloc _ _ _⟩
  | false =>
    go_enter Try.func44, Try.ntmps44
    go_wp2
    go_ret
    exact ⟨_, rfl, own_byte w _ 0 rfl, gb_alloc _ _ _⟩
theorem app_bytesR_op {o : Oper} {a : Act} {w : World} {K : Act → World → Prop} {Q : Exit → Act → World → Prop} (s x : Operand)
    (ho : o.op = .call { callee := .builtin .append, args := #[s, x], argTypes := #[22, 22] })
    (B : Nat) (v src : Value) (l m : List UInt8) (hs : a.eval s = v) (hx : a.eval x = src) (hown : Own w B v l) (hsrc : Rd w src m) (hB : B ≤ w.heap.size) (hb : l.length + m.length ≤ 140737488355328)
    (hK : ∀ v' w', Own w' B v' (l ++ m) → w.grownBy w' v.ownBlock → Fr w v v' → K (a.put o.dst v') w') : Oper.wp Try.prog o a w K Q := by
  obtain ⟨v', w', hr, h2, h3, h4⟩ := run_app w B v src l m o.type hown hsrc hB hb
  unfold Oper.wp execOp
  simp only [ho, resolve, invoke, builtin, Sem.run_bind, Sem.run_pure, Result.andThen_ok, List.map_toArray, List.map_cons, List.map_nil, hs, hx, hr]
  exact hK v' w' h2 h3 h4
set_option maxRecDepth 100000 in
set_option maxHeartbeats 4000000 in
theorem rencode_any {w : World} {s c : Nat} {l : List SS} (h : IsW w s c l) : Calls Try.prog 21 #[.slice (some ⟨s, 0, none⟩) l.length c] w (EncP (encN l l.length) w) := by
  have hlen := h.len
  have H := Lib.hid h
  have HIA := Lib.hid (rInt_any (l.length : Int) w ⟨by omega, by omega⟩)
  clear h
  go_enter Try.func21, Try.ntmps21
  go_wp2_with fail
  refine HIA.out.mono ?_
  rintro e w1 ⟨v1, rfl, ho1, hg1⟩
  have HO1 := Lib.hid ho1
  have HG1 : Hid (w.grownBy w1 none) := Lib.hid hg1
  clear ho1 hg1
  go_wp2
  go_loopw [3, 4] (fun v i wr => ∃ k : Nat, k ≤ l.length ∧ i = .int .i64 k ∧ Hid (Own wr w.heap.size v (encN l k)) ∧ Hid (w.grownBy wr none)) (fun _ i _ => l.length - (intOf i).toNat)
  case atStart => exact ⟨0, Nat.zero_le _, rfl, Lib.hid (by simpa [encN] using HO1.out), HG1⟩
  case round =>
    obtain ⟨k, hk, rfl, HO, HG⟩ := hrel
    have HT := Lib.hid (H.out.grown HG.out)
    by_cases hlt : k < l.length
    · obtain ⟨p, hp⟩ : ∃ p, l[k]? = some p := ⟨l[k], by simp [hlt]⟩
      obtain ⟨q0, q1, q2⟩ := HT.out.at hp
      have HP := Lib.hid hp
      have HE := Lib.hid (encN_snoc hp)
      have hok := HT.out.ok p (List.mem_of_getElem? hp)
      have HIG : Hid (OkI (p.1 : Int)) := Lib.hid ⟨by omega, by have := hok.1; omega⟩
      have HIV : Hid (OkI p.2.2) := Lib.hid hok.2.2.2
      have HLN : Hid ((encN l k).length ≤ 100000) := Lib.hid (by have := encN_len l k; omega)
      have HOL : Hid (∀ j, u3.ownBlock = some j → w.heap.size ≤ j) := Lib.hid (fun j hj => (HO.out.lt j hj).1)
      have hslt := H.out.lt
      obtain ⟨gen, full, val⟩ := p
      simp only at q0 q1 q2 HIG HIV HP
      have HSK : Hid (∀ X row, wr.grownBy X row → (∀ r, row = some r → w.heap.size ≤ r) → X.cell? ⟨s, k * 3, none⟩ = some (.int .i64 (gen : Int)) ∧ X.cell? ⟨s, k * 3 + 1, none⟩ = some (.bool full)) := Lib.hid (fun X row hX hr => by
        have hne : some s ≠ row := fun e => by have := hr s e.symm; omega
        exact ⟨hX.cell q0 hne, hX.cell q1 hne⟩)
      have HS0 := HSK.out wr.drew none (gb_drew _ _) (by simp)
      clear hp hok q0 q1 q2
      cases full with
      | false =>
      go_wp2_with fail
      refine region_KL (fuel := 16) (listed := #[false, false, false, false, false, false, false, false, false, false, false, false, false, false, false, false]) (fun X => X.cell? ⟨s, k * 3, none⟩ = some (.int .i64 (gen : Int)) ∧ X.cell? ⟨s, k * 3 + 1, none⟩ = some (.bool false)) 14 (by kernel_rfl) rfl (by kernel_rfl) ?_
      refine wpAnyK_takeL (i := 0) (d := 14) (v := ?_) (T' := ?_) (listed' := #[true, false, false, false, false, false, false, false, false, false, false, false, false, false, false, false]) rfl rfl (by kernel_rfl) (fun _ _ _ h => h) rfl (Or.inl ⟨by rfl, ?_⟩) ?_ HS0 ?_
      rotate_left 2
      · intro w hS; clear hS; go_simp; rfl
      · simp only [List.setIfInBounds_toArray, List.set_cons_succ, List.set_cons_zero]; rfl
      refine wpAnyK_takeL (i := 1) (d := 15) (v := ?_) (T' := ?_) (listed' := #[true, true, false, false, false, false, false, false, false, false, false, false, false, false, false, false]) rfl rfl (by kernel_rfl) (fun _ _ _ h => h) rfl (Or.inl ⟨by rfl, ?_⟩) ?_ HS0 ?_
      rotate_left 2
      · intro w hS; clear hS; go_simp; rfl
      · simp only [List.setIfInBounds_toArray, List.set_cons_succ, List.set_cons_zero]; rfl
      refine wpAnyK_takeL (i := 2) (d := 16) (v := ?_) (T' := ?_) (listed' := #[true, true, true, false, false, false, false, false, false, false, false, false, false, false, false, false]) rfl rfl (by kernel_rfl) (fun _ _ _ h => h) rfl (Or.inl ⟨by rfl, ?_⟩) ?_ HS0 ?_
      rotate_left 2
      · intro w hS; clear hS; go_simp; rfl
      · simp only [List.setIfInBounds_toArray, List.set_cons_succ, List.set_cons_zero]; rfl
      refine wpAnyK_takeL (i := 3) (d := 17) (v := ?_) (T' := ?_) (listed' := #[true, true, true, true, false, false, false, false, false, false, false, false, false, false, false, false]) rfl rfl (by kernel_rfl) (fun _ _ _ h => h) rfl (Or.inl ⟨by rfl, ?_⟩) ?_ HS0 ?_
      rotate_left 2
      · intro w hS; clear hS; go_simp; rfl
      · simp only [List.setIfInBounds_toArray, List.set_cons_succ, List.set_cons_zero]; rfl
      refine wpAnyK_takeL (i := 4) (d := 18) (v := ?_) (T' := ?_) (listed' := #[true, true, true, true, true, false, false, false, false, false, false, false, false, false, false, false]) rfl rfl (by kernel_rfl) (fun _ _ _ h => h) rfl (Or.inl ⟨by rfl, ?_⟩) ?_ HS0 ?_
      rotate_left 2
      · intro w hS; clear hS; go_simp; rfl
      · simp only [List.setIfInBounds_toArray, List.set_cons_succ, List.set_cons_zero]; rfl
      refine wpAnyK_takeL (i := 5) (d := 19) (v := ?_) (T' := ?_) (listed' := #[true, true, true, true, true, true, false, false, false, false, false, false, false, false, false, false]) rfl rfl (by kernel_rfl) (fun _ _ _ h => h) rfl (Or.inl ⟨by rfl, ?_⟩) ?_ HS0 ?_
      rotate_left 2
      · intro w hS; have t0 := hS.1; clear hS; go_simp; rfl
      · simp only [List.setIfInBounds_toArray, List.set_cons_succ, List.set_cons_zero]; rfl
      refine wpAnyK_takeL (i := 8) (d := 22) (v := ?_) (T' := ?_) (listed' := #[true, true, true, true, true, true, false, false, true, false, false, false, false, false, false, false]) rfl rfl (by kernel_rfl) (fun _ _ _ h => h) rfl (Or.inl ⟨by rfl, ?_⟩) ?_ HS0 ?_
      rotate_left 2
      · intro w hS; clear hS; go_simp; rfl
      · simp only [List.setIfInBounds_toArray, List.set_cons_succ, List.set_cons_zero]; rfl
      refine wpAnyK_takeL (i := 9) (d := 23) (v := ?_) (T' := ?_) (listed' := #[true, true, true, true, true, true, false, false, true, true, false, false, false, false, false, false]) rfl rfl (by kernel_rfl) (fun _ _ _ h => h) rfl (Or.inl ⟨by rfl, ?_⟩) ?_ HS0 ?_
      rotate_left 2
      · intro w hS; clear hS; go_simp; rfl
      · simp only [List.setIfInBounds_toArray, List.set_cons_succ, List.set_cons_zero]; rfl
      refine wpAnyK_takeL (i := 10) (d := 24) (v := ?_) (T' := ?_) (listed' := #[true, true, true, true, true, true, false, false, true, true, true, false, false, false, false, false]) rfl rfl (by kernel_rfl) (fun _ _ _ h => h) rfl (Or.inl ⟨by rfl, ?_⟩) ?_ HS0 ?_
      rotate_left 2
      · intro w hS; clear hS; go_simp; rfl
      · simp only [List.setIfInBounds_toArray, List.set_cons_succ, List.set_cons_zero]; rfl
      refine wpAnyK_takeL (i := 11) (d := 25) (v := ?_) (T' := ?_) (listed' := #[true, true, true, true, true, true, false, false, true, true, true, true, false, false, false, false]) rfl rfl (by kernel_rfl) (fun _ _ _ h => h) rfl (Or.inl ⟨by rfl, ?_⟩) ?_ HS0 ?_
      rotate_left 2
      · intro w hS; clear hS; go_simp; rfl
      · simp only [List.setIfInBounds_toArray, List.set_cons_succ, List.set_cons_zero]; rfl
      refine wpAnyK_takeL (i := 12) (d := 26) (v := ?_) (T' := ?_) (listed' := #[true, true, true, true, true, true, false, false, true, true, true, true, true, false, false, false]) rfl rfl (by kernel_rfl) (fun _ _ _ h => h) rfl (Or.inl ⟨by rfl, ?_⟩) ?_ HS0 ?_
      rotate_left 2
      · intro w hS; have t1 := hS.2; clear hS; go_simp; rfl
      · simp only [List.setIfInBounds_toArray, List.set_cons_succ, List.set_cons_zero]; rfl
      refine wpAnyK_oneL (i := 6) (listed' := #[true, true, true, true, true, true, true, false, true, true, true, true, true, false, false, false]) (by kernel_rfl) rfl (by rfl) rfl ?_
      intro K hK
      go_simp
      refine (rInt_any (gen : Int) _ HIG.out).mono ?_
      rintro e w3 ⟨v3, rfl, ho3, hg3⟩
      have HO3 := Lib.hid ho3
      have HG3 : Hid (wr.grownBy w3 none) := Lib.hid (gb_same (gb_drew _ _) hg3)
      have hx3 := HSK.out _ none HG3.out (by simp)
      clear ho3 hg3
      refine hK _ _ (fun _ => hx3) ?_
      clear hK K hx3
      refine wpAnyK_oneL (i := 7) (listed' := #[true, true, true, true, true, true, true, true, true, true, true, true, true, false, false, false]) (by kernel_rfl) rfl (by rfl) rfl ?_
      intro K hK
      refine app_bytesR_op _ _ rfl w.heap.size u3 v3 (encN l k) (enc (gen : Int)) rfl rfl (HO.out.grown HG3.out) HO3.out.rd (Nat.le_trans HG.out.size HG3.out.size) (by have := HLN.out; have := (enc_len (gen : Int)).2; omega) ?_
      intro v4 w4 ho4 hg4 hf4
      have HO4 := Lib.hid ho4
      have HG4 : Hid (wr.grownBy w4 u3.ownBlock) := Lib.hid (gb_trans (gb_none _ HG3.out) hg4 (fun _ e => .inl e))
      have hx4 := HSK.out _ _ HG4.out (fun r e => HOL.out r e)
      have HF4 := Lib.hid hf4
      clear ho4 hg4 hf4
      refine hK _ _ (fun _ => hx4) ?_
      clear hK K
      refine wpAnyK_oneL (i := 13) (listed' := #[true, true, true, true, true, true, true, true, true, true, true, true, true, true, false, false]) (by kernel_rfl) rfl (by rfl) rfl ?_
      intro K hK
      go_simp
      refine (rBool_any false w4).mono ?_
      rintro e w5 ⟨v5, rfl, ho5, hg5⟩
      have HO5 := Lib.hid ho5
      have HG5 : Hid (wr.grownBy w5 u3.ownBlock) := Lib.hid (gb_trans0 HG4.out hg5)
      have HO45 := Lib.hid (HO4.out.grown hg5)
      have hx5 := HSK.out _ _ HG5.out (fun r e => HOL.out r e)
      clear ho5 hg5 hx4
      refine hK _ _ (fun _ => hx5) ?_
      clear hK K hx5
      refine wpAnyK_oneL (i := 14) (listed' := #[true, true, true, true, true, true, true, true, true, true, true, true, true, true, true, false]) (by kernel_rfl) rfl (by rfl) rfl ?_
      intro K hK
      refine app_bytesR_op _ _ rfl w.heap.size v4 v5 _ (encB false) rfl rfl HO45.out HO5.out.rd (Nat.le_trans HG.out.size HG5.out.size) (by have := HLN.out; have := (enc_len (gen : Int)).2; rw [List.length_append]; simp [encB]; omega) ?_
      intro v6 w6 ho6 hg6 hf6
      have HO6 := Lib.hid ho6
      have HG6 : Hid (w.grownBy w6 none) := Lib.hid (gb_trans (gb_trans HG.out HG5.out (fun j e => .inr (HO.out.lt j e).1)) hg6 (fun j e => .inr (HO4.out.lt j e).1))
      have HT6 := Lib.hid (H.out.grown HG6.out)
      clear ho6 hg6 hf6
      refine hK _ _ (fun h => Bool.noConfusion (show true = false from h)) ?_
      clear hK K
      refine wpAnyK_oneL (i := 15) (listed' := #[true, true, true, true, true, true, true, true, true, true, true, true, true, true, true, true]) (by kernel_rfl) rfl (by rfl) rfl ?_
      intro K hK
      go_simp
      refine hK _ _ (fun h => Bool.noConfusion (show true = false from h)) ?_
      clear hK K
      refine wpAnyK_done (by kernel_rfl) ?_ _
      obtain ⟨_, z1, z2⟩ := HT6.out.at HP.out
      simp only at z1 z2
      go_wp2
      go_roundw
      case rel => exact ⟨k + 1, by omega, by go_num, Lib.hid (by rw [HE.out]; simpa [encSl] using HO6.out), HG6⟩
      case measure => simp [intOf]; omega

      | true =>
      go_wp2_with fail
      refine region_KL (fuel := 16) (listed := #[false, false, false, false, false, false, false, false, false, false, false, false, false, false, false, false]) (fun X => X.cell? ⟨s, k * 3, none⟩ = some (.int .i64 (gen : Int)) ∧ X.cell? ⟨s, k * 3 + 1, none⟩ = some (.bool true)) 14 (by kernel_rfl) rfl (by kernel_rfl) ?_
      refine wpAnyK_takeL (i := 0) (d := 14) (v := ?_) (T' := ?_) (listed' := #[true, false, false, false, false, false, false, false, false, false, false, false, false, false, false, false]) rfl rfl (by kernel_rfl) (fun _ _ _ h => h) rfl (Or.inl ⟨by rfl, ?_⟩) ?_ HS0 ?_
      rotate_left 2
      · intro w hS; clear hS; go_simp; rfl
      · simp only [List.setIfInBounds_toArray, List.set_cons_succ, List.set_cons_zero]; rfl
      refine wpAnyK_takeL (i := 1) (d := 15) (v := ?_) (T' := ?_) (listed' := #[true, true, false, false, false, false, false, false, false, false, false, false, false, false, false, false]) rfl rfl (by kernel_rfl) (fun _ _ _ h => h) rfl (Or.inl ⟨by rfl, ?_⟩) ?_ HS0 ?_
      rotate_left 2
      · intro w hS; clear hS; go_simp; rfl
      · simp only [List.setIfInBounds_toArray, List.set_cons_succ, List.set_cons_zero]; rfl
      refine wpAnyK_takeL (i := 2) (d := 16) (v := ?_) (T' := ?_) (listed' := #[true, true, true, false, false, false, false, false, false, false, false, false, false, false, false, false]) rfl rfl (by kernel_rfl) (fun _ _ _ h => h) rfl (Or.inl ⟨by rfl, ?_⟩) ?_ HS0 ?_
      rotate_left 2
      · intro w hS; clear hS; go_simp; rfl
      · simp only [List.setIfInBounds_toArray, List.set_cons_succ, List.set_cons_zero]; rfl
      refine wpAnyK_takeL (i := 3) (d := 17) (v := ?_) (T' := ?_) (listed' := #[true, true, true, true, false, false, false, false, false, false, false, false, false, false, false, false]) rfl rfl (by kernel_rfl) (fun _ _ _ h => h) rfl (Or.inl ⟨by rfl, ?_⟩) ?_ HS0 ?_
      rotate_left 2
      · intro w hS; clear hS; go_simp; rfl
      · simp only [List.setIfInBounds_toArray, List.set_cons_succ, List.set_cons_zero]; rfl
      refine wpAnyK_takeL (i := 4) (d := 18) (v := ?_) (T' := ?_) (listed' := #[true, true, true, true, true, false, false, false, false, false, false, false, false, false, false, false]) rfl rfl (by kernel_rfl) (fun _ _ _ h => h) rfl (Or.inl ⟨by rfl, ?_⟩) ?_ HS0 ?_
      rotate_left 2
      · intro w hS; clear hS; go_simp; rfl
      · simp only [List.setIfInBounds_toArray, List.set_cons_succ, List.set_cons_zero]; rfl
      refine wpAnyK_takeL (i := 5) (d := 19) (v := ?_) (T' := ?_) (listed' := #[true, true, true, true, true, true, false, false, false, false, false, false, false, false, false, false]) rfl rfl (by kernel_rfl) (fun _ _ _ h => h) rfl (Or.inl ⟨by rfl, ?_⟩) ?_ HS0 ?_
      rotate_left 2
      · intro w hS; have t0 := hS.1; clear hS; go_simp; rfl
      · simp only [List.setIfInBounds_toArray, List.set_cons_succ, List.set_cons_zero]; rfl
      refine wpAnyK_takeL (i := 8) (d := 22) (v := ?_) (T' := ?_) (listed' := #[true, true, true, true, true, true, false, false, true, false, false, false, false, false, false, false]) rfl rfl (by kernel_rfl) (fun _ _ _ h => h) rfl (Or.inl ⟨by rfl, ?_⟩) ?_ HS0 ?_
      rotate_left 2
      · intro w hS; clear hS; go_simp; rfl
      · simp only [List.setIfInBounds_toArray, List.set_cons_succ, List.set_cons_zero]; rfl
      refine wpAnyK_takeL (i := 9) (d := 23) (v := ?_) (T' := ?_) (listed' := #[true, true, true, true, true, true, false, false, true, true, false, false, false, false, false, false]) rfl rfl (by kernel_rfl) (fun _ _ _ h => h) rfl (Or.inl ⟨by rfl, ?_⟩) ?_ HS0 ?_
      rotate_left 2
      · intro w hS; clear hS; go_simp; rfl
      · simp only [List.setIfInBounds_toArray, List.set_cons_succ, List.set_cons_zero]; rfl
      refine wpAnyK_takeL (i := 10) (d := 24) (v := ?_) (T' := ?_) (listed' := #[true, true, true, true, true, true, false, false, true, true, true, false, false, false, false, false]) rfl rfl (by kernel_rfl) (fun _ _ _ h => h) rfl (Or.inl ⟨by rfl, ?_⟩) ?_ HS0 ?_
      rotate_left 2
      · intro w hS; clear hS; go_simp; rfl
      · simp only [List.setIfInBounds_toArray, List.set_cons_succ, List.set_cons_zero]; rfl
      refine wpAnyK_takeL (i := 11) (d := 25) (v := ?_) (T' := ?_) (listed' := #[true, true, true, true, true, true, false, false, true, true, true, true, false, false, false, false]) rfl rfl (by kernel_rfl) (fun _ _ _ h => h) rfl (Or.inl ⟨by rfl, ?_⟩) ?_ HS0 ?_
      rotate_left 2
      · intro w hS; clear hS; go_simp; rfl
      · simp only [List.setIfInBounds_toArray, List.set_cons_succ, List.set_cons_zero]; rfl
      refine wpAnyK_takeL (i := 12) (d := 26) (v := ?_) (T' := ?_) (listed' := #[true, true, true, true, true, true, false, false, true, true, true, true, true, false, false, false]) rfl rfl (by kernel_rfl) (fun _ _ _ h => h) rfl (Or.inl ⟨by rfl, ?_⟩) ?_ HS0 ?_
      rotate_left 2
      · intro w hS; have t1 := hS.2; clear hS; go_simp; rfl
      · simp only [List.setIfInBounds_toArray, List.set_cons_succ, List.set_cons_zero]; rfl
      refine wpAnyK_oneL (i := 6) (listed' := #[true, true, true, true, true, true, true, false, true, true, true, true, true, false, false, false]) (by kernel_rfl) rfl (by rfl) rfl ?_
      intro K hK
      go_simp
      refine (rInt_any (gen : Int) _ HIG.out).mono ?_
      rintro e w3 ⟨v3, rfl, ho3, hg3⟩
      have HO3 := Lib.hid ho3
      have HG3 : Hid (wr.grownBy w3 none) := Lib.hid (gb_same (gb_drew _ _) hg3)
      have hx3 := HSK.out _ none HG3.out (by simp)
      clear ho3 hg3
      refine hK _ _ (fun _ => hx3) ?_
      clear hK K hx3
      refine wpAnyK_oneL (i := 7) (listed' := #[true, true, true, true, true, true, true, true, true, true, true, true, true, false, false, false]) (by kernel_rfl) rfl (by rfl) rfl ?_
      intro K hK
      refine app_bytesR_op _ _ rfl w.heap.size u3 v3 (encN l k) (enc (gen : Int)) rfl rfl (HO.out.grown HG3.out) HO3.out.rd (Nat.le_trans HG.out.size HG3.out.size) (by have := HLN.out; have := (enc_len (gen : Int)).2; omega) ?_
      intro v4 w4 ho4 hg4 hf4
      have HO4 := Lib.hid ho4
      have HG4 : Hid (wr.grownBy w4 u3.ownBlock) := Lib.hid (gb_trans (gb_none _ HG3.out) hg4 (fun _ e => .inl e))
      have hx4 := HSK.out _ _ HG4.out (fun r e => HOL.out r e)
      have HF4 := Lib.hid hf4
      clear ho4 hg4 hf4
      refine hK _ _ (fun _ => hx4) ?_
      clear hK K
      refine wpAnyK_oneL (i := 13) (listed' := #[true, true, true, true, true, true, true, true, true, true, true, true, true, true, false, false]) (by kernel_rfl) rfl (by rfl) rfl ?_
      intro K hK
      go_simp
      refine (rBool_any true w4).mono ?_
      rintro e w5 ⟨v5, rfl, ho5, hg5⟩
      have HO5 := Lib.hid ho5
      have HG5 : Hid (wr.grownBy w5 u3.ownBlock) := Lib.hid (gb_trans0 HG4.out hg5)
      have HO45 := Lib.hid (HO4.out.grown hg5)
      have hx5 := HSK.out _ _ HG5.out (fun r e => HOL.out r e)
      clear ho5 hg5 hx4
      refine hK _ _ (fun _ => hx5) ?_
      clear hK K hx5
      refine wpAnyK_oneL (i := 14) (listed' := #[true, true, true, true, true, true, true, true, true, true, true, true, true, true, true, false]) (by kernel_rfl) rfl (by rfl) rfl ?_
      intro K hK
      refine app_bytesR_op _ _ rfl w.heap.size v4 v5 _ (encB true) rfl rfl HO45.out HO5.out.rd (Nat.le_trans HG.out.size HG5.out.size) (by have := HLN.out; have := (enc_len (gen : Int)).2; rw [List.length_append]; simp [encB]; omega) ?_
      intro v6 w6 ho6 hg6 hf6
      have HO6 := Lib.hid ho6
      have HG6 : Hid (w.grownBy w6 none) := Lib.hid (gb_trans (gb_trans HG.out HG5.out (fun j e => .inr (HO.out.lt j e).1)) hg6 (fun j e => .inr (HO4.out.lt j e).1))
      have HT6 := Lib.hid (H.out.grown HG6.out)
      clear ho6 hg6 hf6
      refine hK _ _ (fun h => Bool.noConfusion (show true = false from h)) ?_
      clear hK K
      refine wpAnyK_oneL (i := 15) (listed' := #[true, true, true, true, true, true, true, true, true, true, true, true, true, true, true, true]) (by kernel_rfl) rfl (by rfl) rfl ?_
      intro K hK
      go_simp
      refine hK _ _ (fun h => Bool.noConfusion (show true = false from h)) ?_
      clear hK K
      refine wpAnyK_done (by kernel_rfl) ?_ _
      obtain ⟨_, z1, z2⟩ := HT6.out.at HP.out
      simp only at z1 z2
      go_wp2_with fail
      refine (rInt_any val w6 HIV.out).mono ?_
      rintro e w7 ⟨v7, rfl, ho7, hg7⟩
      have HO7 := Lib.hid ho7
      have HG7 := Lib.hid (gb_same HG6.out hg7)
      have HO67 := Lib.hid (HO6.out.grown hg7)
      clear ho7 hg7 z1 z2
      go_wp2_with (at_builtin; refine app_bytes rfl _ _ rfl w.heap.size v6 v7 _ (enc val) rfl rfl HO67.out HO7.out.rd HG7.out.size (by have := HLN.out; have := (enc_len (gen : Int)).2; have := (enc_len val).2; rw [List.length_append, List.length_append]; simp [encB]; omega) ?_)
      intro v8 w8 ho8 hg8 hf8
      have HO8 := Lib.hid ho8
      have HG8 : Hid (w.grownBy w8 none) := Lib.hid (gb_trans HG7.out hg8 (fun j e => .inr (HO6.out.lt j e).1))
      clear ho8 hg8 hf8
      go_wp2
      go_roundw
      case rel => exact ⟨k + 1, by omega, by go_num, Lib.hid (by rw [HE.out]; simpa [encSl] using HO8.out), HG8⟩
      case measure => simp [intOf]; omega

    · obtain rfl : k = l.length := by omega
      clear hlt
      go_wp2
      go_ret
      exact ⟨_, rfl, HO.out, HG.out⟩
end Go.Proofs.Ytjijiondinbmnaa
