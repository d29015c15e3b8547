/-
  Several texts in one: RRX, RRY, RRZ, RRU.
-/
import Derived.Test.YtfldooljmjeaoaaRRV
import Derived.Test.YtfldooljmjeaoaaRGm
import Derived.Test.YtfldooljmjeaoaaRMEnc
import Derived.Test.YtfldooljmjeaoaaMGb
import Derived.Test.YtfldooljmjeaoaaMGa
namespace Go.Proofs.Ytfldooljmjeaoaa
open Go.RowKit

def encMM (m : List Int × List UInt8) : List UInt8 := encL m.1 ++ encS m.2
theorem rdl_lit (w : World) (zs : List Int) (n : Nat) (t : TypeId) (hn : zs.length = n) (hm : n ≤ 1000) : RdL (w.alloc (.cells (ivs zs).toArray t)) (.slice (some ⟨w.heap.size, 0, none⟩) n n) (ivs zs) := by
  subst hn
  refine .inr ⟨w.heap.size, 0, zs.length, by simp [ivs], by simp [ivs], by unfold maxLen; omega, fun j x hj => ?_⟩
  rw [cell_row (heap_at_alloc _ _)]
  simpa using hj
/-- an append in a region that draws its order -/
theorem step_appW {ops : Array Oper} {o : Oper} {a : Act} {w : World} {K : Act → World → Prop} {Q : Exit → Act → World → Prop} {E : Prop} (hg : o.guard = none) (s x : Operand)
    (ho : o.op = .call { callee := .builtin .append, args := #[s, x], argTypes := #[22, 22] })
    (B : Nat) (v src : Value) (l m : List UInt8) (hs : a.eval s = v) (hx : a.eval x = src) (hown : Own w B v l) (hsrc : RdW w src m) (hB : B ≤ w.heap.size) (hb : l.length + m.length ≤ 140737488355328)
    (hK : ∀ v' w', Own w' B v' (l ++ m) → w.grownBy w' v.ownBlock → Fr w v v' → K (a.put o.dst v') w') :
    if Region.wanted o (yielded ops a.tmps) = true then Oper.wp Try.prog o a w K Q else E := by
  have hw : Region.wanted o (yielded ops a.tmps) = true := by simp [Region.wanted, hg]
  rw [if_pos hw]
  obtain ⟨v', w', hr, h2, h3, h4⟩ := run_appW w B v src l m o.type hown hsrc hB hb
  unfold Oper.wp execOp
  simp only [ho, resolve, invoke, builtin, Sem.run_bind, Sem.run_pure, Result.andThen_ok, List.map_toArray, List.map_cons, List.map_nil, hs, hx, hr]
  exact hK v' w' h2 h3 h4

set_option maxRecDepth 100000 in
set_option maxHeartbeats 8000000 in
theorem rMsg_any (z0 z1 z2 z3 z4 z5 z6 z7 : Int) (mv : Value) (l : List UInt8) (w : World) (hz : ∀ z ∈ [z0, z1, z2, z3, z4, z5, z6, z7], OkI z) (hd : RdW w mv l) (hl : l.length ≤ 1000000) :
    Calls Try.prog 41 #[.agg #[.int .i64 z0, .int .i64 z1, .int .i64 z2, .int .i64 z3, .int .i64 z4, .int .i64 z5, .int .i64 z6, .int .i64 z7, mv]] w (EncPost w (encMM ([z0, z1, z2, z3, z4, z5, z6, z7], l))) := by
  obtain ⟨am, cm, rfl⟩ := hd.len
  obtain ⟨wB, hwB⟩ : ∃ W, W = w.alloc (Obj.cells #[.int .i64 z0, .int .i64 z1, .int .i64 z2, .int .i64 z3, .int .i64 z4, .int .i64 z5, .int .i64 z6, .int .i64 z7, .slice am l.length cm] 39) := ⟨_, rfl⟩
  have HWB := Lib.hid hwB
  have HBK : Hid (wB.heap[w.heap.size]? = some (Obj.cells #[.int .i64 z0, .int .i64 z1, .int .i64 z2, .int .i64 z3, .int .i64 z4, .int .i64 z5, .int .i64 z6, .int .i64 z7, .slice am l.length cm] 39 (0, 0))) := Lib.hid (by rw [hwB]; exact heap_at_alloc _ _)
  have GB : Hid (w.grownBy wB none) := Lib.hid (by rw [hwB]; exact gb_alloc _ _ _)
  have c0 : wB.cell? ⟨w.heap.size, 0, none⟩ = some (.int .i64 z0) := cell_row HBK.out; have c1 : wB.cell? ⟨w.heap.size, 1, none⟩ = some (.int .i64 z1) := cell_row HBK.out; have c2 : wB.cell? ⟨w.heap.size, 2, none⟩ = some (.int .i64 z2) := cell_row HBK.out; have c3 : wB.cell? ⟨w.heap.size, 3, none⟩ = some (.int .i64 z3) := cell_row HBK.out; have c4 : wB.cell? ⟨w.heap.size, 4, none⟩ = some (.int .i64 z4) := cell_row HBK.out; have c5 : wB.cell? ⟨w.heap.size, 5, none⟩ = some (.int .i64 z5) := cell_row HBK.out; have c6 : wB.cell? ⟨w.heap.size, 6, none⟩ = some (.int .i64 z6) := cell_row HBK.out; have c7 : wB.cell? ⟨w.heap.size, 7, none⟩ = some (.int .i64 z7) := cell_row HBK.out; have c8 : wB.cell? ⟨w.heap.size, 8, none⟩ = some (.slice am l.length cm) := cell_row HBK.out
  have HP : Hid (∀ W W' : World, (W.alloc (Obj.cells #[.int .i64 z0, .int .i64 z1, .int .i64 z2, .int .i64 z3, .int .i64 z4, .int .i64 z5, .int .i64 z6, .int .i64 z7] 3)).grownBy W' none → Calls Try.prog 63 #[.slice (some ⟨W.heap.size, 0, none⟩) 8 8] W' (EncPost W' (encL [z0, z1, z2, z3, z4, z5, z6, z7]))) := Lib.hid (fun W W' hW => rplain_any _ _ _ ((rdl_lit W [z0, z1, z2, z3, z4, z5, z6, z7] 8 3 rfl (by omega)).grown hW) hz (by simp))
  have HY : Hid (∀ W, w.grownBy W none → Calls Try.prog 64 #[.slice am l.length cm] W (EncPost W (encS l))) := Lib.hid (fun W hW => rBytes_any _ l W (hd.grown hW) (by omega))
  have hel := encL_len [z0, z1, z2, z3, z4, z5, z6, z7]
  have hsl := encS_len l
  simp only [List.length_cons, List.length_nil] at hel
  clear hd hz hwB
  go_enter Try.func41, Try.ntmps41
  go_wp2_with fail
  rw [← HWB.out]
  go_region_held3 (fun w' => w'.cell? ⟨w.heap.size, 0, none⟩ = some (.int .i64 z0) ∧ w'.cell? ⟨w.heap.size, 1, none⟩ = some (.int .i64 z1) ∧ w'.cell? ⟨w.heap.size, 2, none⟩ = some (.int .i64 z2) ∧ w'.cell? ⟨w.heap.size, 3, none⟩ = some (.int .i64 z3) ∧ w'.cell? ⟨w.heap.size, 4, none⟩ = some (.int .i64 z4) ∧ w'.cell? ⟨w.heap.size, 5, none⟩ = some (.int .i64 z5) ∧ w'.cell? ⟨w.heap.size, 6, none⟩ = some (.int .i64 z6) ∧ w'.cell? ⟨w.heap.size, 7, none⟩ = some (.int .i64 z7) ∧ w'.cell? ⟨w.heap.size, 8, none⟩ = some (.slice am l.length cm)) (go_keep) (first | (go_at_call 63; go_must (refine (HP.out _ _ (gb_drew _ _)).mono ?_; rintro e w5 ⟨v5, rfl, ho5, hg5⟩; have g5 : wB.grownBy w5 none := gb_same (gb_same (gb_alloc _ _ _) (gb_drew _ _)) hg5; have HBK5 := Lib.hid (blk_kept HBK.out g5); have HO5 : Hid (Own w5 wB.heap.size v5 (encL [z0, z1, z2, z3, z4, z5, z6, z7])) := Lib.hid (ho5.mono (gb_same (gb_alloc _ _ none) (gb_drew _ _)).size); have HS5 := Lib.hid g5.size; have HG5 := Lib.hid (gb_same GB.out g5); have d0 : w5.cell? ⟨w.heap.size, 0, none⟩ = some (.int .i64 z0) := cell_row HBK5.out; have d1 : w5.cell? ⟨w.heap.size, 1, none⟩ = some (.int .i64 z1) := cell_row HBK5.out; have d2 : w5.cell? ⟨w.heap.size, 2, none⟩ = some (.int .i64 z2) := cell_row HBK5.out; have d3 : w5.cell? ⟨w.heap.size, 3, none⟩ = some (.int .i64 z3) := cell_row HBK5.out; have d4 : w5.cell? ⟨w.heap.size, 4, none⟩ = some (.int .i64 z4) := cell_row HBK5.out; have d5 : w5.cell? ⟨w.heap.size, 5, none⟩ = some (.int .i64 z5) := cell_row HBK5.out; have d6 : w5.cell? ⟨w.heap.size, 6, none⟩ = some (.int .i64 z6) := cell_row HBK5.out; have d7 : w5.cell? ⟨w.heap.size, 7, none⟩ = some (.int .i64 z7) := cell_row HBK5.out; have d8 : w5.cell? ⟨w.heap.size, 8, none⟩ = some (.slice am l.length cm) := cell_row HBK5.out; clear ho5 hg5 g5)) | (go_at_call 64; go_must (refine (HY.out _ HG5.out).mono ?_; rintro e w6 ⟨v6, rfl, ho6, hg6⟩; have HBK6 := Lib.hid (blk_kept HBK5.out hg6); have HO6 := Lib.hid (HO5.out.grown hg6); have HS6 := Lib.hid (Nat.le_trans HS5.out hg6.size); have HR6 := Lib.hid ho6.rd.w; have HG6 := Lib.hid (gb_same HG5.out hg6); have e0 : w6.cell? ⟨w.heap.size, 0, none⟩ = some (.int .i64 z0) := cell_row HBK6.out; have e1 : w6.cell? ⟨w.heap.size, 1, none⟩ = some (.int .i64 z1) := cell_row HBK6.out; have e2 : w6.cell? ⟨w.heap.size, 2, none⟩ = some (.int .i64 z2) := cell_row HBK6.out; have e3 : w6.cell? ⟨w.heap.size, 3, none⟩ = some (.int .i64 z3) := cell_row HBK6.out; have e4 : w6.cell? ⟨w.heap.size, 4, none⟩ = some (.int .i64 z4) := cell_row HBK6.out; have e5 : w6.cell? ⟨w.heap.size, 5, none⟩ = some (.int .i64 z5) := cell_row HBK6.out; have e6 : w6.cell? ⟨w.heap.size, 6, none⟩ = some (.int .i64 z6) := cell_row HBK6.out; have e7 : w6.cell? ⟨w.heap.size, 7, none⟩ = some (.int .i64 z7) := cell_row HBK6.out; have e8 : w6.cell? ⟨w.heap.size, 8, none⟩ = some (.slice am l.length cm) := cell_row HBK6.out; clear ho6 hg6)) | (refine step_appW rfl (.tmp 24) (.tmp 27) rfl wB.heap.size v5 v6 (encL [z0, z1, z2, z3, z4, z5, z6, z7]) (encS l) rfl rfl HO6.out HR6.out HS6.out (by omega) ?_; intro v8 w8 ho8 hg8 hf8; have HO8 := Lib.hid ho8; have HG8 : Hid (w.grownBy w8 none) := Lib.hid (gb_trans HG6.out hg8 (fun j hj => .inr (Nat.le_trans GB.out.size (HO6.out.lt j hj).1))); have HBK8 := Lib.hid (blk_kept' HBK6.out hg8 (fun e => by have h1 := (HO6.out.lt _ e).1; have h2 := lt_of_block HBK.out; omega)); have f0 : w8.cell? ⟨w.heap.size, 0, none⟩ = some (.int .i64 z0) := cell_row HBK8.out; have f1 : w8.cell? ⟨w.heap.size, 1, none⟩ = some (.int .i64 z1) := cell_row HBK8.out; have f2 : w8.cell? ⟨w.heap.size, 2, none⟩ = some (.int .i64 z2) := cell_row HBK8.out; have f3 : w8.cell? ⟨w.heap.size, 3, none⟩ = some (.int .i64 z3) := cell_row HBK8.out; have f4 : w8.cell? ⟨w.heap.size, 4, none⟩ = some (.int .i64 z4) := cell_row HBK8.out; have f5 : w8.cell? ⟨w.heap.size, 5, none⟩ = some (.int .i64 z5) := cell_row HBK8.out; have f6 : w8.cell? ⟨w.heap.size, 6, none⟩ = some (.int .i64 z6) := cell_row HBK8.out; have f7 : w8.cell? ⟨w.heap.size, 7, none⟩ = some (.int .i64 z7) := cell_row HBK8.out; have f8 : w8.cell? ⟨w.heap.size, 8, none⟩ = some (.slice am l.length cm) := cell_row HBK8.out; clear ho8 hg8 hf8))
  go_wp2
  go_ret
  exact ⟨_, rfl, HO8.out.mono GB.out.size, HG8.out⟩



theorem encMM_g (m : Mg) : encMM ([m.s, m.d, m.k, m.q, m.a, m.b, m.c, m.e], m.z) = encG m := by
  simp [encMM, encG, encM, encL]
theorem rmsgG_any (m : Mg) (dv : Value) (w : World) (hok : OkMg m) (hd : RdW w dv m.z) : Calls Try.prog 41 #[.agg (m.row dv)] w (EncPost w (encG m)) := by
  rw [← encMM_g]
  exact rMsg_any m.s m.d m.k m.q m.a m.b m.c m.e dv m.z w (fun z hz => hok.1 z hz) hd (by have := hok.2; omega)
end Go.Proofs.Ytfldooljmjeaoaa
namespace Go.Proofs.Ytfldooljmjeaoaa
open Go.RowKit Go.Shelf

theorem flat_snoc (ps : List GP) (k : Nat) (p : GP) (h : ps[k]? = some p) : (ps.take (k + 1)).flatMap (fun q => encG q.1) = (ps.take k).flatMap (fun q => encG q.1) ++ encG p.1 := by
  rw [List.take_add_one, h, Option.toList_some, List.flatMap_append]
  simp
theorem flat_len2 : ∀ (ps : List GP), (∀ p ∈ ps, OkMg p.1) → (ps.flatMap (fun q => encG q.1)).length ≤ 1626 * ps.length
  | [], _ => by simp
  | p :: ps, h => by
    have h1 := encG_len p.1 (h p (by simp)).2
    have h2 := flat_len2 ps (fun x hx => h x (by simp [hx]))
    rw [List.flatMap_cons, List.length_append, List.length_cons]
    omega
set_option maxRecDepth 100000 in
set_option maxHeartbeats 4000000 in
theorem rencM_any (n : Nat) (u : Value) (ps : List GP) (w : World) (hu : RdG w u ps) (hok : ∀ p ∈ ps, OkMg p.1) (hd : ∀ p ∈ ps, RdW w p.2 p.1.z) (hn : n ≤ 200) (hps : ps.length ≤ 200) :
    Calls Try.prog 22 #[rM n u] w (EncP (encMs n (ps.map (·.1))) w) := by
  obtain ⟨a, c, rfl, _, _⟩ := hu.len
  have hsm : (ps.length : Int) ≤ 200 := by omega
  have HU := Lib.hid hu
  have HOK := Lib.hid hok
  have HDD := Lib.hid hd
  have HLN : Hid (ps.length ≤ 200 ∧ n ≤ 200) := Lib.hid ⟨hps, hn⟩
  have HBA := Lib.hid (heap_at_alloc w (.cells #[.int .i64 (n : Int), .slice a ps.length c] 32))
  have HGA := Lib.hid (gb_alloc w (.cells #[.int .i64 (n : Int), .slice a ps.length c] 32) none)
  unfold rM
  clear hu hok hd hn hps
  go_enter Try.func22, Try.ntmps22
  go_wp2
  refine region_KL (fuel := 9) (listed := #[false, false, false, false, false, false, false, false, false]) (fun X => X.cell? ⟨w.heap.size, 0, none⟩ = some (.int .i64 (n : Int)) ∧ X.cell? ⟨w.heap.size, 1, none⟩ = some (.slice a ps.length c)) 8 (by kernel_rfl) rfl (by kernel_rfl) ?_
  have HA1 := Lib.hid (blk_kept HBA.out (gb_drew _ none))
  have HG1 := Lib.hid (gb_same HGA.out (gb_drew _ none))
  generalize (World.drew _) = w1 at *
  have HS1 := Lib.hid (row2 HA1.out)
  refine wpAnyK_takeL (i := 0) (d := 5) (v := ?_) (T' := ?_) (listed' := #[true, false, false, false, false, false, false, false, false]) rfl rfl (by kernel_rfl) (fun _ _ _ h => h) rfl (Or.inl ⟨by rfl, ?_⟩) ?_ HS1.out ?_
  rotate_left 2
  · intro w hS; clear hS; go_simp; rfl
  · simp only [List.setIfInBounds_toArray, List.set_cons_succ, List.set_cons_zero]; rfl
  refine wpAnyK_takeL (i := 1) (d := 6) (v := ?_) (T' := ?_) (listed' := #[true, true, false, false, false, false, false, false, false]) rfl rfl (by kernel_rfl) (fun _ _ _ h => h) rfl (Or.inl ⟨by rfl, ?_⟩) ?_ HS1.out ?_
  rotate_left 2
  · intro w hS; have t0 := hS.1; clear hS; go_simp; rfl
  · simp only [List.setIfInBounds_toArray, List.set_cons_succ, List.set_cons_zero]; rfl
  refine wpAnyK_takeL (i := 3) (d := 8) (v := ?_) (T' := ?_) (listed' := #[true, true, false, true, false, false, false, false, false]) rfl rfl (by kernel_rfl) (fun _ _ _ h => h) rfl (Or.inl ⟨by rfl, ?_⟩) ?_ HS1.out ?_
  rotate_left 2
  · intro w hS; clear hS; go_simp; rfl
  · simp only [List.setIfInBounds_toArray, List.set_cons_succ, List.set_cons_zero]; rfl
  refine wpAnyK_takeL (i := 4) (d := 9) (v := ?_) (T' := ?_) (listed' := #[true, true, false, true, true, false, false, false, false]) rfl rfl (by kernel_rfl) (fun _ _ _ h => h) rfl (Or.inl ⟨by rfl, ?_⟩) ?_ HS1.out ?_
  rotate_left 2
  · intro w hS; have t0 := hS.2; clear hS; go_simp; rfl
  · simp only [List.setIfInBounds_toArray, List.set_cons_succ, List.set_cons_zero]; rfl
  refine wpAnyK_takeL (i := 5) (d := 10) (v := ?_) (T' := ?_) (listed' := #[true, true, false, true, true, true, false, false, false]) rfl rfl (by kernel_rfl) (fun _ _ _ h => h) rfl (Or.inl ⟨by rfl, ?_⟩) ?_ HS1.out ?_
  rotate_left 2
  · intro w hS; clear hS; go_simp; rfl
  · simp only [List.setIfInBounds_toArray, List.set_cons_succ, List.set_cons_zero]; rfl
  refine wpAnyK_oneL (i := 2) (listed' := #[true, true, true, true, true, true, false, false, false]) (by kernel_rfl) rfl (by rfl) rfl ?_
  intro K hK
  go_simp
  refine (rInt_any (n : Int) w1 ⟨by omega, by have := HLN.out; omega⟩).mono ?_
  rintro e w2 ⟨v2, rfl, ho2, hg2⟩
  have HNE2 : Hid (v2.ownBlock ≠ some w.heap.size) := Lib.hid (fun e => by have := (ho2.lt _ e).1; have := lt_of_blk HA1.out; omega)
  have HO2 := Lib.hid (ho2.mono HG1.out.size)
  have HG2 := Lib.hid (gb_same HG1.out hg2)
  have HA2 := Lib.hid (blk_kept HA1.out hg2)
  have HS2 := Lib.hid (row2 HA2.out)
  clear ho2 hg2
  refine hK _ _ (fun _ => HS2.out) ?_
  clear hK K
  refine wpAnyK_oneL (i := 6) (listed' := #[true, true, true, true, true, true, true, false, false]) (by kernel_rfl) rfl (by rfl) rfl ?_
  intro K hK
  go_simp
  refine (rInt_any (ps.length : Int) w2 ⟨by omega, by omega⟩).mono ?_
  rintro e w3 ⟨v3, rfl, ho3, hg3⟩
  have HV3 := Lib.hid ho3.rd
  have HO3 := Lib.hid (HO2.out.grown hg3)
  have HG3 := Lib.hid (gb_same HG2.out hg3)
  have HA3 := Lib.hid (blk_kept HA2.out hg3)
  have HS3 := Lib.hid (row2 HA3.out)
  clear ho3 hg3
  refine hK _ _ (fun _ => HS3.out) ?_
  clear hK K
  refine wpAnyK_oneL (i := 7) (listed' := #[true, true, true, true, true, true, true, true, false]) (by kernel_rfl) rfl (by rfl) rfl ?_
  intro K hK
  refine app_bytesW_op _ _ rfl w.heap.size v2 v3 (enc (n : Int)) (enc (ps.length : Int)) rfl rfl HO3.out HV3.out.w HG3.out.size (by have h1 := (enc_len (n : Int)).2; have h2 := (enc_len (ps.length : Int)).2; omega) ?_
  intro v4 w4 ho4 hg4 hf4
  have HO4 := Lib.hid ho4
  have HG4 := Lib.hid (gb_trans HG3.out hg4 (fun j hj => .inr (HO3.out.lt j hj).1))
  have HA4 := Lib.hid (blk_kept' HA3.out hg4 HNE2.out)
  have HNE4 : Hid (v4.ownBlock ≠ some w.heap.size) := Lib.hid (fun e => by
    rcases hf4 _ e with h1 | h1
    · exact HNE2.out h1
    · have := lt_of_blk HA3.out; omega)
  have HS4 := Lib.hid (row2 HA4.out)
  clear ho4 hg4 hf4
  refine hK _ _ (fun _ => HS4.out) ?_
  clear hK K
  refine wpAnyK_oneL (i := 8) (listed' := #[true, true, true, true, true, true, true, true, true]) (by kernel_rfl) rfl (by rfl) rfl ?_
  intro K hK
  go_simp
  refine hK _ _ (fun h => Bool.noConfusion (show true = false from h)) ?_
  clear hK K
  refine wpAnyK_done (by kernel_rfl) ?_ _
  go_wp2_with fail
  go_loopw [3, 4] (fun l i wr => ∃ k : Nat, k ≤ ps.length ∧ i = .int .i64 k ∧ Hid (Own wr w.heap.size l (enc (n : Int) ++ enc (ps.length : Int) ++ (ps.take k).flatMap (fun q => encG q.1))) ∧ Hid (l.ownBlock ≠ some w.heap.size) ∧ Hid (wr.heap[w.heap.size]? = some (.cells #[.int .i64 (n : Int), .slice a ps.length c] 32 (0, 0))) ∧ Hid (w.grownBy wr none)) (fun _ i _ => ps.length - (intOf i).toNat)
  case atStart => exact ⟨0, Nat.zero_le _, rfl, Lib.hid (by simpa using HO4.out), HNE4, HA4, HG4⟩
  case round =>
    obtain ⟨k, hk, rfl, HO, HNE, HA, HG⟩ := hrel
    have t1 := (row2 HA.out).2
    by_cases hlt : k < ps.length
    · obtain ⟨p, hp⟩ : ∃ p, ps[k]? = some p := ⟨ps[k], by simp [hlt]⟩
      have hpm := List.mem_of_getElem? hp
      obtain ⟨b, off, rfl, n0, n1, n2, n3, n4, n5, n6, n7, n8⟩ := (HU.out.grown HG.out).at9 hp
      have HM := Lib.hid (rmsgG_any p.1 p.2 wr (HOK.out p hpm) ((HDD.out p hpm).grown HG.out))
      unfold Mg.row at HM
      have HSN := Lib.hid (flat_snoc ps k p hp)
      have hl1 := encG_len p.1 (HOK.out p hpm).2
      have hl2 := flat_len2 (ps.take k) (fun q hq => HOK.out q (List.mem_of_mem_take hq))
      have hl3 : (ps.take k).length ≤ 200 := by rw [List.length_take]; omega
      have hl4 := (enc_len (n : Int)).2
      have hl5 := (enc_len (ps.length : Int)).2
      have HLL : Hid ((enc (n : Int) ++ enc (ps.length : Int) ++ (ps.take k).flatMap (fun q => encG q.1)).length + (encG p.1).length ≤ 140737488355328) := Lib.hid (by rw [List.length_append, List.length_append]; omega)
      clear hp hpm hl1 hl2 hl3 hl4 hl5
      go_wp2_with fail
      refine HM.out.mono ?_
      rintro e w5 ⟨v5, rfl, ho5, hg5⟩
      have HR5 := Lib.hid ho5.rd
      have HO5 := Lib.hid (HO.out.grown hg5)
      have HG5 := Lib.hid (gb_same HG.out hg5)
      have HA5 := Lib.hid (blk_kept HA.out hg5)
      clear ho5 hg5 n0 n1 n2 n3 n4 n5 n6 n7 n8 t1
      go_wp2_with (at_builtin; refine app_bytesW rfl _ _ rfl w.heap.size _ _ _ _ rfl rfl HO5.out HR5.out.w HG5.out.size HLL.out ?_; go_must (intro v8 w8 ho8 hg8 hf8))
      have HO8 : Hid (Own w8 w.heap.size v8 (enc (n : Int) ++ enc (ps.length : Int) ++ (ps.take (k + 1)).flatMap (fun q => encG q.1))) := Lib.hid (by rw [HSN.out, ← List.append_assoc]; exact ho8)
      have HA8 := Lib.hid (blk_kept' HA5.out hg8 HNE.out)
      have HG8 := Lib.hid (gb_trans HG5.out hg8 (fun j hj => .inr (HO5.out.lt j hj).1))
      have HNE8 : Hid (v8.ownBlock ≠ some w.heap.size) := Lib.hid (fun e => by
        rcases hf8 _ e with h1 | h1
        · exact HNE.out h1
        · have := lt_of_blk HA5.out; omega)
      refine ⟨⟨k + 1, by omega, by go_num, HO8, HNE8, HA8, HG8⟩, by simp [intOf]; omega⟩
    · obtain rfl : k = ps.length := by omega
      go_wp2
      go_ret
      refine ⟨_, rfl, ?_, HG.out⟩
      have h := HO.out
      rw [List.take_of_length_le (Nat.le_refl _)] at h
      unfold encMs
      rw [List.length_map, List.flatMap_map]
      exact h
end Go.Proofs.Ytfldooljmjeaoaa
namespace Go.Proofs.Ytfldooljmjeaoaa
open Go.RowKit Go.Shelf

set_option maxRecDepth 100000 in
set_option maxHeartbeats 4000000 in
theorem rputM_no (n : Nat) (u : Value) (ps : List GP) (m : Mg) (dv : Value) (w : World) (hu : RdG w u ps) (hv : RdW w dv m.z) (h : n ≤ ps.length ∨ 1536 < m.z.length) : Calls Try.prog 11 #[rM n u, .agg (m.row dv)] w (ValG (.tuple #[rM n u, .int .i64 6]) w) := by
  have hzs := hv.small
  obtain ⟨a, c, rfl, hpc, hcm⟩ := hu.len
  obtain ⟨ad, cd, rfl⟩ := hv.len
  have hps := PS.start w n (.slice a ps.length c) (m.row (.slice ad m.z.length cd))
  have hsm : (ps.length : Int) ≤ 9223372036854775807 := by simp only [maxLen] at hcm; omega
  unfold Mg.row at hps ⊢
  have t0 := hps.s.1
  have t1 := hps.s.2.1
  have t8 := cell_row (j := 8) hps.b
  unfold rM
  have P0 := Lib.hid hps
  clear hu hv hps hpc hcm
  by_cases hf : n ≤ ps.length
  · have hf' : (n : Int) ≤ (ps.length : Int) := by omega
    clear h hf
    go_enter Try.func11, Try.ntmps11
    go_wp2_with (first | ((with_reducible refine is_load 32 18 2 ?_); go_must (refine ld_row 32 18 2 w.heap.size _ _ rfl P0.out.a Try.underlying32 refqsize ?_)) | ((with_reducible refine is_store 32 4 18 ?_); go_must (refine st_row 32 4 18 (w.heap.size + 2) _ #[.int .i64 (n : Int), .slice a ps.length c] _ rfl rfl P0.out.r refqsize rfl rfl ?_; intro w4 hb4 hg4)))
    refine ret_cb rfl (w.heap.size + 2) 32 #[.int .i64 (n : Int), .slice a ps.length c] (.int .i64 6) rfl rfl hb4 Try.underlying32 refqsize ?_
    exact ⟨rfl, gb_new P0.out.g hg4 (by omega)⟩
  · have hf' : ¬ (n : Int) ≤ (ps.length : Int) := by omega
    have hl : (1536 : Int) < (m.z.length : Int) := by omega
    clear h hf
    go_enter Try.func11, Try.ntmps11
    go_wp2_with (first | ((with_reducible refine is_load 32 18 2 ?_); go_must (refine ld_row 32 18 2 w.heap.size _ _ rfl P0.out.a Try.underlying32 refqsize ?_)) | ((with_reducible refine is_store 32 4 18 ?_); go_must (refine st_row 32 4 18 (w.heap.size + 2) _ #[.int .i64 (n : Int), .slice a ps.length c] _ rfl rfl P0.out.r refqsize rfl rfl ?_; intro w4 hb4 hg4)))
    refine ret_cb rfl (w.heap.size + 2) 32 #[.int .i64 (n : Int), .slice a ps.length c] (.int .i64 6) rfl rfl hb4 Try.underlying32 refqsize ?_
    exact ⟨rfl, gb_new P0.out.g hg4 (by omega)⟩
end Go.Proofs.Ytfldooljmjeaoaa
namespace Go.Proofs.Ytfldooljmjeaoaa
open Go.RowKit Go.Shelf

/-- data of messages that lie in blocks of their own -/
def DD (X : World) (S : Nat) (sl : Value) (ps : List GP) : Prop := ∀ p ∈ ps, Rd X p.2 p.1.z ∧ ∀ k, p.2.ownBlock = some k → S ≤ k ∧ sl.ownBlock ≠ some k ∧ k < X.heap.size
theorem DD.kept {X Y : World} {S : Nat} {sl : Value} {ps : List GP} {row : Option Nat} (h : DD X S sl ps) (hg : X.grownBy Y row) (hr : ∀ k, row = some k → k < S ∨ sl.ownBlock = some k) : DD Y S sl ps := fun p hp => by
  obtain ⟨h1, h2⟩ := h p hp
  refine ⟨h1.kept hg (fun k hk e => ?_), fun k hk => ⟨(h2 k hk).1, (h2 k hk).2.1, Nat.lt_of_lt_of_le (h2 k hk).2.2 hg.size⟩⟩
  rcases hr k e with e1 | e1
  · have := (h2 k hk).1; omega
  · exact (h2 k hk).2.1 e1
theorem DD.push {X Y : World} {S : Nat} {sl sl' dv : Value} {ps : List GP} {m : Mg} (h : DD X S sl ps) (hg : X.grownBy Y sl.ownBlock) (hf : Fr X sl sl') (hd : Rd X dv m.z) (hk : ∀ k, dv.ownBlock = some k → S ≤ k ∧ sl.ownBlock ≠ some k ∧ k < X.heap.size) : DD Y S sl' (ps ++ [(m, dv)]) := by
  have h' : DD X S sl (ps ++ [(m, dv)]) := fun p hp => by
    rcases List.mem_append.1 hp with hp | hp
    · exact h p hp
    · simp at hp; subst hp; exact ⟨hd, hk⟩
  intro p hp
  obtain ⟨h1, h2⟩ := h'.kept hg (fun k e => .inr e) p hp
  refine ⟨h1, fun k hk => ⟨(h2 k hk).1, fun e => ?_, (h2 k hk).2.2⟩⟩
  rcases hf k e with e1 | e1
  · exact (h2 k hk).2.1 e1
  · have := ((h' p hp).2 k hk).2.2; omega
def RefQ (bs : List UInt8) (w : World) (e : Ending) (w' : World) : Prop :=
  match decM bs with
  | none => e = .returned (.tuple #[rM 0 (.slice none 0 0), .int .i64 4]) ∧ w.grownBy w' none
  | some r => ∃ a c ps, e = .returned (.tuple #[rM r.1 (.slice a ps.length c), .int .i64 0]) ∧ GRow w' w.heap.size (.slice a ps.length c) ps ∧ ps.map (·.1) = r.2 ∧ (∀ p ∈ ps, Rd w' p.2 p.1.z ∧ ∀ k, p.2.ownBlock = some k → w.heap.size ≤ k) ∧ w.grownBy w' none
set_option maxRecDepth 100000 in
set_option maxHeartbeats 4000000 in
theorem rdecodeQ_any (v : Value) (bs : List UInt8) (w : World) (h : Rd w v bs) (hb : bs.length ≤ 100000) (hlt : ∀ k, v.ownBlock = some k → k < w.heap.size) : Calls Try.prog 9 #[v] w (RefQ bs w) := by
  obtain ⟨a, c, rfl⟩ := h.len
  obtain ⟨n, K, q0, f0, hn, hn2, hKn, hK, hq0, hf0, hX, hY⟩ := decM_two bs
  rw [oV_iV] at hn hK
  rw [oQ_iQ] at hK hq0 hf0
  have HXY := Lib.hid (And.intro hX hY)
  have HKN : Hid (K ≤ n ∧ n ≤ 200) := Lib.hid ⟨hKn, hn2⟩
  clear hX hY
  have hb0 := heap_alloc2_0 w (.cells #[.int .i64 0, .slice none 0 0] 32) (.cells #[.slice a bs.length c, .int .i64 0, .bool false] 69)
  have hb1 := heap_alloc2_1 w (.cells #[.int .i64 0, .slice none 0 0] 32) (.cells #[.slice a bs.length c, .int .i64 0, .bool false] 69)
  have hga : w.grownBy ((w.alloc (.cells #[.int .i64 0, .slice none 0 0] 32)).alloc (.cells #[.slice a bs.length c, .int .i64 0, .bool false] 69)) none := gb_same (gb_alloc _ _ _) (gb_alloc _ _ _)
  have hq : IsQ ((w.alloc (.cells #[.int .i64 0, .slice none 0 0] 32)).alloc (.cells #[.slice a bs.length c, .int .i64 0, .bool false] 69)) (w.heap.size + 1) (.slice a bs.length c) bs 0 false :=
    ⟨hb1, h.grown hga, fun e => by have := hlt _ e; omega, Nat.zero_le _, by omega⟩
  have HQB := Lib.hid (qBounded_any (w.heap.size + 1) (.slice a bs.length c) bs 0 false 1 200 _ hq)
  rw [hn] at HQB
  have HBB := Lib.hid hb0
  have HGA := Lib.hid hga
  have HVL := Lib.hid hlt
  clear h hb hb0 hb1 hga hq hlt
  go_enter Try.func9, Try.ntmps9
  go_wp2_with fail
  refine HQB.out.mono ?_
  rintro e w1 ⟨rfl, hq1, hg1⟩
  have HG1 := Lib.hid (gb_new HGA.out hg1 (by omega))
  have HB1 := Lib.hid (blk_kept' HBB.out hg1 (by simp))
  have HQ1 := Lib.hid hq1
  clear hg1 hq1 HQB
  have HZB := Lib.hid (heap_at_alloc w1 (.cells #[.int .i64 0, .slice none 0 0] 32))
  have HGZ := Lib.hid (gb_alloc w1 (.cells #[.int .i64 0, .slice none 0 0] 32) none)
  have HX0 : Hid (w.heap.size + 1 < w1.heap.size) := Lib.hid (lt_of_blk HQ1.out.blk)
  go_wp2_with ((with_reducible refine is_store 32 5 13 ?_); go_must (refine st_row 32 5 13 w1.heap.size _ #[.int .i64 (n : Int), .slice none 0 0] _ rfl rfl HZB.out refqsize rfl rfl ?_; intro w2 hb2 hg2; have HB2 := Lib.hid hb2; have HG2 := Lib.hid hg2; have t0 := (row2 hb2).1; clear hb2 hg2))
  have HQ2 := Lib.hid ((HQ1.out.grown HGZ.out).kept HG2.out (by have := HX0.out; simp; omega) (fun k hk e => by have h1 := HVL.out k hk; have h2 := HG1.out.size; simp at e; omega))
  have HGW2 := Lib.hid (gb_new (gb_same HG1.out HGZ.out) HG2.out HG1.out.size)
  have HBR2 := Lib.hid (blk_kept' (blk_kept HB1.out HGZ.out) HG2.out (by have := HX0.out; simp; omega))
  have HQB2 := Lib.hid (qBounded_any (w.heap.size + 1) (.slice a bs.length c) bs _ _ 0 (n : Int) w2 HQ2.out)
  rw [hK, hq0, hf0] at HQB2
  clear hK hq0 hf0 hn
  refine HQB2.out.mono ?_
  rintro e w3 ⟨rfl, hq3, hg3⟩
  have HQ3 := Lib.hid hq3
  have HB3 := Lib.hid (blk_kept' HB2.out hg3 (by have := HX0.out; simp; omega))
  have HBR3 := Lib.hid (blk_kept' HBR2.out hg3 (by simp))
  have HG3 := Lib.hid (gb_new HGW2.out hg3 (by omega))
  clear hq3 hg3 t0 HQB2
  generalize w1.heap.size = qb at *
  have HZ3 : Hid (qb + 1 ≤ w3.heap.size) := Lib.hid (lt_of_blk HB3.out)
  go_wp2_with fail
  go_loopw [7] (fun i wr => ∃ (k q : Nat) (f : Bool) (av : Option Addr) (cv : Nat) (ps : List GP), k ≤ K ∧ i = .int .i64 k ∧ ps.length = k ∧ Hid (IsQ wr (w.heap.size + 1) (.slice a bs.length c) bs q f) ∧ Hid (wr.heap[qb]? = some (.cells #[.int .i64 (n : Int), .slice av k cv] 32 (0, 0))) ∧ Hid (GRow wr (qb + 1) (.slice av k cv) ps) ∧ Hid (wr.heap[w.heap.size]? = some (.cells #[.int .i64 0, .slice none 0 0] 32 (0, 0))) ∧ Hid (w.grownBy wr none) ∧ Hid (qb + 1 ≤ wr.heap.size) ∧ Hid (DD wr (qb + 1) (.slice av k cv) ps) ∧ Hid ((f = false ∧ f0 = false ∧ rdGs bs q0 k = some (ps.map (·.1), q)) ∨ (f = true ∧ (f0 = true ∨ rdGs bs q0 k = none)))) (fun i _ => K - (intOf i).toNat)
  case atStart => exact ⟨0, q0, f0, none, 0, [], Nat.zero_le _, rfl, rfl, HQ3, HB3, Lib.hid (GRow.nil _ _), HBR3, HG3, HZ3, Lib.hid (by simp [DD]), Lib.hid (by
    cases f0 with
    | false => exact .inl ⟨rfl, rfl, rfl⟩
    | true => exact .inr ⟨rfl, .inl rfl⟩)⟩
  case round =>
    obtain ⟨k, q, f, av, cv, ps, hk, rfl, hps, HQ, HB, HR, HBR, HG, HZ, HDD, HST⟩ := hrel
    have c2 := HQ.out.c2
    have hf2 := HQ.out.fr 2
    have HEN := Lib.hid (qEnd_any _ _ _ _ _ wr HQ.out)
    cases f with
    | true =>
      have HD : Hid (decM bs = none) := Lib.hid (by
        rcases HST.out with ⟨h1, _⟩ | ⟨_, h2⟩
        · cases h1
        · cases f0 with
          | true => exact (HXY.out.2 rfl).2
          | false =>
            rw [HXY.out.1 rfl, rdGs_none (h2.resolve_left (by simp)) K hk]
            rfl)
      rw [end_no (.inl rfl)] at HEN
      by_cases hlt : k < K
      · go_wp2_with fail
        refine HEN.out.mono ?_
        rintro e w5 ⟨rfl, m5, hw5⟩
        have hg5 : wr.grownBy w5 none := by rw [hw5]; exact gb_drewN _ _ _
        have HBR5 := Lib.hid (blk_kept HBR.out hg5)
        have HG5 := Lib.hid (gb_same HG.out hg5)
        clear hw5 hg5 c2 hf2
        go_wp2_with ((with_reducible refine is_store 32 2 40 ?_); go_must (refine st_row 32 2 40 w.heap.size _ #[.int .i64 0, .slice none 0 0] _ rfl rfl HBR5.out refqsize rfl rfl ?_; intro w6 hb6 hg6))
        refine ret_cb rfl w.heap.size 32 #[.int .i64 0, .slice none 0 0] (.int .i64 4) rfl rfl hb6 Try.underlying32 refqsize ?_
        unfold RefQ
        rw [HD.out]
        exact ⟨rfl, gb_new HG5.out hg6 (Nat.le_refl _)⟩
      · go_wp2_with fail
        refine HEN.out.mono ?_
        rintro e w5 ⟨rfl, m5, hw5⟩
        have hg5 : wr.grownBy w5 none := by rw [hw5]; exact gb_drewN _ _ _
        have HBR5 := Lib.hid (blk_kept HBR.out hg5)
        have HG5 := Lib.hid (gb_same HG.out hg5)
        clear hw5 hg5 c2 hf2
        go_wp2_with ((with_reducible refine is_store 32 2 40 ?_); go_must (refine st_row 32 2 40 w.heap.size _ #[.int .i64 0, .slice none 0 0] _ rfl rfl HBR5.out refqsize rfl rfl ?_; intro w6 hb6 hg6))
        refine ret_cb rfl w.heap.size 32 #[.int .i64 0, .slice none 0 0] (.int .i64 4) rfl rfl hb6 Try.underlying32 refqsize ?_
        unfold RefQ
        rw [HD.out]
        exact ⟨rfl, gb_new HG5.out hg6 (Nat.le_refl _)⟩
    | false =>
      by_cases hlt : k < K
      · have HPS := Lib.hid hps
        have HKL : Hid (k < K) := Lib.hid hlt
        have HSTT : Hid ((unl false (rdG bs q)).isNone = false ∧ f0 = false ∧ rdGs bs q0 (k + 1) = some (ps.map (·.1) ++ [gMg (unl false (rdG bs q))], gPos q (unl false (rdG bs q))) ∨ (unl false (rdG bs q)).isNone = true ∧ (f0 = true ∨ rdGs bs q0 (k + 1) = none)) := Lib.hid (by
          rcases HST.out with ⟨_, h2, h3⟩ | ⟨h1, _⟩
          · rw [unl_f]
            cases hx : rdG bs q with
            | none => exact .inr ⟨rfl, .inr (by rw [rdGs, h3]; simp only; rw [hx])⟩
            | some r =>
              obtain ⟨m, q2⟩ := r
              exact .inl ⟨rfl, h2, by rw [rdGs, h3]; simp only; rw [hx]; rfl⟩
          · cases h1)
        clear hps HEN
        go_wp2_with fail
        have HQ0 := Lib.hid (HQ.out.grown (gb_drew wr none))
        have HB0 := Lib.hid (blk_kept HB.out (gb_drew wr none))
        have HBR0 := Lib.hid (blk_kept HBR.out (gb_drew wr none))
        have HR0 := Lib.hid (HR.out.grown (gb_drew wr none))
        have HG0 := Lib.hid (gb_same HG.out (gb_drew wr none))
        have HDD0 := Lib.hid (HDD.out.kept (gb_drew wr none) (fun k e => by cases e))
        have HZ0 : Hid (qb + 1 ≤ wr.drew.heap.size) := Lib.hid HZ.out
        have HS0 := Lib.hid (row2 HB0.out).2
        have HMG := Lib.hid (qMsg_any (w.heap.size + 1) (.slice a bs.length c) bs q false wr.drew HQ0.out (fun j hj => by have := HVL.out j hj; have := HX0.out; have := HZ0.out; omega))
        unfold GotMQ at HMG
        generalize gMg (unl false (rdG bs q)) = m at HMG HSTT
        generalize gPos q (unl false (rdG bs q)) = q2 at HMG HSTT
        generalize (unl false (rdG bs q)).isNone = f2 at HMG HSTT
        unfold Mg.row at HMG
        clear c2 hf2
        refine region_KL (fuel := 8) (listed := #[false, false, false, false, false, false, false, false]) (fun X => X.cell? ⟨qb, 1, none⟩ = some (.slice av k cv)) 7 (by kernel_rfl) rfl (by kernel_rfl) ?_
        generalize wr.drew = v0 at *
        refine wpAnyK_takeL (i := 0) (d := 30) (v := ?_) (T' := ?_) (listed' := #[true, false, false, false, false, false, false, false]) rfl rfl (by kernel_rfl) (fun _ _ _ h => h) rfl (Or.inl ⟨by rfl, ?_⟩) ?_ HS0.out ?_
        rotate_left 2
        · intro w hS; clear hS; go_simp; rfl
        · simp only [List.setIfInBounds_toArray, List.set_cons_succ, List.set_cons_zero]; rfl
        refine wpAnyK_takeL (i := 1) (d := 31) (v := ?_) (T' := ?_) (listed' := #[true, true, false, false, false, false, false, false]) rfl rfl (by kernel_rfl) (fun _ _ _ h => h) rfl (Or.inl ⟨by rfl, ?_⟩) ?_ HS0.out ?_
        rotate_left 2
        · intro w hS; have t0 := hS; clear hS; go_simp; rfl
        · simp only [List.setIfInBounds_toArray, List.set_cons_succ, List.set_cons_zero]; rfl
        refine wpAnyK_takeL (i := 2) (d := 32) (v := ?_) (T' := ?_) (listed' := #[true, true, true, false, false, false, false, false]) rfl rfl (by kernel_rfl) (fun _ _ _ h => h) rfl (Or.inl ⟨by rfl, ?_⟩) ?_ HS0.out ?_
        rotate_left 2
        · intro w hS; clear hS; go_simp; rfl
        · simp only [List.setIfInBounds_toArray, List.set_cons_succ, List.set_cons_zero]; rfl
        refine wpAnyK_oneL (i := 3) (listed' := #[true, true, true, true, false, false, false, false]) (by kernel_rfl) rfl (by rfl) rfl ?_
        intro K' hK
        go_simp
        refine HMG.out.mono ?_
        rintro e v3 ⟨dv3, rfl, ho3, hq3, hg3⟩
        have HQ3' := Lib.hid hq3
        have HB3' := Lib.hid (blk_kept' HB0.out hg3 (by have := HX0.out; simp; omega))
        have HBR3' := Lib.hid (blk_kept' HBR0.out hg3 (by simp))
        have HR3' := Lib.hid (HR0.out.kept hg3 (fun j hj e => by have := (HR0.out.lt j hj).1; have := HX0.out; simp at e; omega))
        have HG3' := Lib.hid (gb_new HG0.out hg3 (by omega))
        have HZ3' := Lib.hid (Nat.le_trans HZ0.out hg3.size)
        have HD1 := Lib.hid ho3.one
        have HDD3 := Lib.hid (HDD0.out.kept hg3 (fun k e => .inl (by simp at e; have := HX0.out; omega)))
        have HDR3 := Lib.hid ho3.rd
        have HDL3 : Hid (∀ j, dv3.ownBlock = some j → qb + 1 ≤ j ∧ (Value.slice av k cv).ownBlock ≠ some j ∧ j < v3.heap.size) := Lib.hid (fun j hj => by
          have h1 := ho3.lt j hj
          have h2 := HZ0.out
          exact ⟨by omega, fun e => by have := (HR0.out.lt j e).2; omega, h1.2⟩)
        have HS3 := Lib.hid (row2 HB3'.out).2
        clear ho3 hq3 hg3
        refine hK _ _ (fun _ => HS3.out) ?_
        clear hK K'
        refine wpAnyK_oneL (i := 4) (listed' := #[true, true, true, true, true, false, false, false]) (by kernel_rfl) rfl (by rfl) rfl ?_
        intro K' hK
        go_simp
        have hg5 : v3.grownBy (v3.alloc (.cells #[.int .i64 m.s, .int .i64 m.d, .int .i64 m.k, .int .i64 m.q, .int .i64 m.a, .int .i64 m.b, .int .i64 m.c, .int .i64 m.e, dv3] 39)) none := gb_alloc _ _ _
        have hlit : RdG (v3.alloc (.cells #[.int .i64 m.s, .int .i64 m.d, .int .i64 m.k, .int .i64 m.q, .int .i64 m.a, .int .i64 m.b, .int .i64 m.c, .int .i64 m.e, dv3] 39)) (.slice (some ⟨v3.heap.size, 0, none⟩) 1 1) [(m, dv3)] := RdG.one (heap_at_alloc _ _)
        generalize v3.alloc (.cells #[.int .i64 m.s, .int .i64 m.d, .int .i64 m.k, .int .i64 m.q, .int .i64 m.a, .int .i64 m.b, .int .i64 m.c, .int .i64 m.e, dv3] 39) = v5 at *
        have HL5 := Lib.hid hlit
        have HDD5 := Lib.hid (HDD3.out.kept hg5 (fun k e => by cases e))
        have HDR5 := Lib.hid (HDR3.out.grown hg5)
        have HDL5 : Hid (∀ j, dv3.ownBlock = some j → qb + 1 ≤ j ∧ (Value.slice av k cv).ownBlock ≠ some j ∧ j < v5.heap.size) := Lib.hid (fun j hj => by have h := HDL3.out j hj; have := hg5.size; exact ⟨h.1, h.2.1, by omega⟩)
        have HQ5 := Lib.hid (HQ3'.out.grown hg5)
        have HB5 := Lib.hid (blk_kept HB3'.out hg5)
        have HBR5 := Lib.hid (blk_kept HBR3'.out hg5)
        have HR5 := Lib.hid (HR3'.out.grown hg5)
        have HG5 := Lib.hid (gb_same HG3'.out hg5)
        have HZ5 := Lib.hid (Nat.le_trans HZ3'.out hg5.size)
        have HS5 := Lib.hid (row2 HB5.out).2
        clear hg5 hlit
        refine hK _ _ (fun _ => HS5.out) ?_
        clear hK K'
        refine wpAnyK_oneL (i := 5) (listed' := #[true, true, true, true, true, true, false, false]) (by kernel_rfl) rfl (by rfl) rfl ?_
        intro K' hK
        refine msg_app_op _ _ rfl (qb + 1) (.slice av k cv) (.slice (some ⟨v3.heap.size, 0, none⟩) 1 1) ps [(m, dv3)] rfl rfl HR5.out HL5.out (by simp; exact HD1.out) (by have := HPS.out; have := HKL.out; have := HKN.out; simp; omega) HZ5.out ?_
        intro u6 v6 h6 hg6 hf6
        have hvl := fun j hj => HR5.out.lt j hj
        have hvn : (Value.slice av k cv).ownBlock ≠ some qb := fun e => by have := (hvl _ e).1; omega
        have HB6 := Lib.hid (blk_kept' HB5.out hg6 hvn)
        have HBR6 := Lib.hid (blk_kept' HBR5.out hg6 (fun e => by have := (hvl _ e).1; have := HX0.out; omega))
        have HQ6 := Lib.hid (HQ5.out.kept hg6 (fun e => by have := (hvl _ e).1; have := HX0.out; omega) (fun j hj e => by have := (hvl j e).1; have := HVL.out j hj; have := HX0.out; omega))
        have HG6 := Lib.hid (gb_trans HG5.out hg6 (fun j hj => .inr (by have := (hvl j hj).1; have := HX0.out; omega)))
        have HZ6 := Lib.hid (Nat.le_trans HZ5.out hg6.size)
        obtain ⟨a6, c6, e6, _, _⟩ := h6.slice
        rw [show (ps ++ [(m, dv3)]).length = k + 1 by have := HPS.out; simp; omega] at e6
        subst e6
        have HR6 := Lib.hid h6
        have HDD6 := Lib.hid (HDD5.out.push hg6 hf6 HDR5.out HDL5.out)
        have HS6 := Lib.hid (row2 HB6.out).2
        clear h6 hg6 hf6 hvl hvn
        refine hK _ _ (fun _ => HS6.out) ?_
        clear hK K'
        refine wpAnyK_takeL (i := 6) (d := 36) (v := ?_) (T' := ?_) (listed' := #[true, true, true, true, true, true, true, false]) rfl rfl (by kernel_rfl) (fun _ _ _ h => h) rfl (Or.inl ⟨by rfl, ?_⟩) ?_ HS6.out ?_
        rotate_left 2
        · intro w hS; clear hS; go_simp; rfl
        · simp only [List.setIfInBounds_toArray, List.set_cons_succ, List.set_cons_zero]; rfl
        have hfz : v6.frozen? ⟨qb, 1, none⟩ = false := blk_frozen (j := 1) HB6.out
        have hb7 := blk_set HB6.out 1 (.slice a6 (k + 1) c6)
        simp only [List.setIfInBounds_toArray, List.set_cons_succ, List.set_cons_zero] at hb7
        have hg7 := gb_setCell v6 ⟨qb, 1, none⟩ (.slice a6 (k + 1) c6)
        have HB7 := Lib.hid hb7
        have HBR7 := Lib.hid (blk_kept' HBR6.out hg7 (by have := HX0.out; simp; omega))
        have HQ7 := Lib.hid (HQ6.out.kept hg7 (by have := HX0.out; simp; omega) (fun j hj e => by have := HVL.out j hj; have := HX0.out; simp at e; omega))
        have HR7 := Lib.hid (HR6.out.kept hg7 (fun j hj e => by have := (HR6.out.lt j hj).1; simp at e; omega))
        have HG7 := Lib.hid (gb_new HG6.out hg7 (by have := HX0.out; show w.heap.size ≤ qb; omega))
        have HZ7 : Hid (qb + 1 ≤ (v6.setCell ⟨qb, 1, none⟩ (.slice a6 (k + 1) c6)).heap.size) := Lib.hid (Nat.le_trans HZ6.out hg7.size)
        have HDD7 := Lib.hid (HDD6.out.kept hg7 (fun j e => .inl (by simp at e; omega)))
        clear hb7 hg7
        refine wpAnyK_oneL (i := 7) (listed' := #[true, true, true, true, true, true, true, true]) (by kernel_rfl) rfl (by rfl) rfl ?_
        intro K' hK
        have hcs := HS6.out
        go_simp
        refine hK _ _ (fun h => Bool.noConfusion (show true = false from h)) ?_
        clear hK K'
        refine wpAnyK_done (by kernel_rfl) ?_ _
        go_wp2
        go_roundw
        case rel => exact ⟨k + 1, q2, f2, _, _, ps ++ [(m, dv3)], by have := HKL.out; omega, by go_num, by have := HPS.out; simp; omega, HQ7, HB7, HR7, HBR7, HG7, HZ7, HDD7, Lib.hid (by rw [List.map_append]; exact HSTT.out)⟩
        case measure => have := HKL.out; simp [intOf]; omega
      · obtain rfl : k = K := by omega
        have HX := Lib.hid (show f0 = false ∧ rdGs bs q0 k = some (ps.map (·.1), q) from by
          rcases HST.out with ⟨_, h2, h3⟩ | ⟨h1, _⟩
          · exact ⟨h2, h3⟩
          · cases h1)
        clear hlt
        by_cases hq : q < bs.length
        · have HD : Hid (decM bs = none) := Lib.hid (by rw [HXY.out.1 HX.out.1, HX.out.2]; exact if_pos hq)
          rw [end_no (.inr hq)] at HEN
          clear hq
          go_wp2_with fail
          refine HEN.out.mono ?_
          rintro e w5 ⟨rfl, m5, hw5⟩
          have hg5 : wr.grownBy w5 none := by rw [hw5]; exact gb_drewN _ _ _
          have HBR5 := Lib.hid (blk_kept HBR.out hg5)
          have HG5 := Lib.hid (gb_same HG.out hg5)
          clear hw5 hg5 c2 hf2
          go_wp2_with ((with_reducible refine is_store 32 2 40 ?_); go_must (refine st_row 32 2 40 w.heap.size _ #[.int .i64 0, .slice none 0 0] _ rfl rfl HBR5.out refqsize rfl rfl ?_; intro w6 hb6 hg6))
          refine ret_cb rfl w.heap.size 32 #[.int .i64 0, .slice none 0 0] (.int .i64 4) rfl rfl hb6 Try.underlying32 refqsize ?_
          unfold RefQ
          rw [HD.out]
          exact ⟨rfl, gb_new HG5.out hg6 (Nat.le_refl _)⟩
        · have HD : Hid (decM bs = some (n, ps.map (·.1))) := Lib.hid (by rw [HXY.out.1 HX.out.1, HX.out.2]; exact if_neg hq)
          rw [end_yes (by simp; omega)] at HEN
          clear hq
          go_wp2_with fail
          refine HEN.out.mono ?_
          rintro e w5 ⟨rfl, m5, hw5⟩
          have hg5 : wr.grownBy w5 none := by rw [hw5]; exact gb_drewN _ _ _
          have HBR5 := Lib.hid (blk_kept HBR.out hg5)
          have HB5 := Lib.hid (blk_kept HB.out hg5)
          have HG5 := Lib.hid (gb_same HG.out hg5)
          have HGR5 := Lib.hid hg5
          have HPL := Lib.hid hps
          clear hw5 hg5 c2 hf2
          go_wp2_with (first | ((with_reducible refine is_load 32 41 5 ?_); go_must (refine ld_row 32 41 5 qb _ _ rfl HB5.out Try.underlying32 refqsize ?_)) | ((with_reducible refine is_store 32 2 41 ?_); go_must (refine st_row 32 2 41 w.heap.size _ #[.int .i64 (n : Int), .slice av k cv] _ rfl rfl HBR5.out refqsize rfl rfl ?_; intro w6 hb6 hg6)))
          refine ret_cb rfl w.heap.size 32 #[.int .i64 (n : Int), .slice av k cv] (.int .i64 0) rfl rfl hb6 Try.underlying32 refqsize ?_
          unfold RefQ
          rw [HD.out]
          have hd6 := (HDD.out.kept HGR5.out (fun k e => by cases e)).kept hg6 (fun j e => .inl (by simp at e; have := HX0.out; omega))
          have hr6 := (HR.out.grown HGR5.out).kept hg6 (fun j hj e => by have := (HR.out.lt j hj).1; have := HX0.out; simp at e; omega)
          have hpl := HPL.out
          subst hpl
          obtain ⟨q1, q2⟩ := hr6
          refine ⟨_, _, ps, rfl, ⟨q1, ?_⟩, rfl, fun p hp => ⟨(hd6 p hp).1, fun j hj => by have := ((hd6 p hp).2 j hj).1; have := HX0.out; omega⟩, gb_new HG5.out hg6 (Nat.le_refl _)⟩
          rcases q2 with q3 | ⟨b', cap, cu, e1, hB, rest⟩
          · exact .inl q3
          · exact .inr ⟨b', cap, cu, e1, by have := HX0.out; omega, rest⟩
end Go.Proofs.Ytfldooljmjeaoaa
