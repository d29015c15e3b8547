/-
  law.From: a patch of one package as one of the other: the walk.
-/
import Derived.Test.YtnkgoaloigmmfaaIHeld
import Derived.Test.YtnkgoaloigmmfaaIAwake
namespace Go.Proofs.Ytnkgoaloigmmfaa
open Go.RowKit

theorem app_bytes_op {o : Oper} {a : Act} {w : World} {K : Act → World → Prop} {Q : Exit → Act → World → Prop} (s x : Operand)
    (ho : o.op = .call { callee := .builtin .append, args := #[s, x], argTypes := #[22, 22] })
    (B : Nat) (v src : Value) (l m : List UInt8) (hs : a.eval s = v) (hx : a.eval x = src) (hown : Own w B v l) (hsrc : RdW w src m) (hB : B ≤ w.heap.size) (hb : l.length + m.length ≤ 140737488355328)
    (h : ∀ v' w', Own w' B v' (l ++ m) → w.grownBy w' v.ownBlock → Fr w v v' → K (a.put o.dst v') w') : Oper.wp Try.prog o a w K Q := by
  obtain ⟨v', w', hr, h2, h3, h4⟩ := run_appW w B v src l m o.type hown hsrc hB hb
  unfold Oper.wp execOp
  simp only [ho, resolve, invoke, builtin, Sem.run_bind, Sem.run_pure, Result.andThen_ok, List.map_toArray, List.map_cons, List.map_nil, hs, hx, hr]
  exact h v' w' h2 h3 h4
theorem app_ch_op (ts te : TypeId) (hu : Try.prog.underlying ts = some (.slice te)) (hin : (Try.prog.info? te).map (fun i => (i.zero, i.size, i.bytes)) = some (some (.agg #[.int .i64 0, .slice none 0 0]), 2, 32))
    {o : Oper} {a : Act} {w : World} {K : Act → World → Prop} {Q : Exit → Act → World → Prop} (s y : Operand)
    (ho : o.op = .call { callee := .builtin .append, args := #[s, y], argTypes := #[ts, ts] })
    (B : Nat) (v : Value) (ps : List ChP) (x : CT) (dv : Value) (g : Nat) (T : TypeId) (hs : a.eval s = v) (hy : a.eval y = .slice (some ⟨g, 0, none⟩) 1 1) (h : CLp te w B v ps) (hd : Own w B dv x.2)
    (hne : ∀ k, v.ownBlock = some k → dv.ownBlock ≠ some k) (hg : w.heap[g]? = some (.cells #[.int .i64 x.1, dv] T (0, 0))) (hn : ps.length ≤ 1000000) (hB : B ≤ w.heap.size)
    (hK : ∀ v' w', CLp te w' B v' (ps ++ [(x, dv)]) → w.grownBy w' v.ownBlock → Fr w v v' → K (a.put o.dst v') w') : Oper.wp Try.prog o a w K Q := by
  obtain ⟨v', w', hr, h2, h3, h4⟩ := h.app hu hin x dv hd hne g hg hn hB o.type
  unfold Oper.wp execOp
  simp only [ho, resolve, invoke, builtin, Sem.run_bind, Sem.run_pure, Result.andThen_ok, List.map_toArray, List.map_cons, List.map_nil, hs, hy, hr]
  exact hK _ _ h2 h3 h4
theorem info_rch : (Try.prog.info? 65).map (fun i => (i.zero, i.size, i.bytes)) = some (some (.agg #[.int .i64 0, .slice none 0 0]), 2, 32) := by kernel_rfl
def fromInv (w : World) (L : Int) (sv : Value) (ps : List ChP) (k : Nat) (W : World) : Prop :=
  ∃ cv qs, W.heap[w.heap.size]? = some (.cells #[.int .i64 L, sv] 29 (0, 0)) ∧ W.heap[w.heap.size + 1]? = some (.cells #[.int .i64 0, .slice none 0 0] 35 (0, 0)) ∧
    W.heap[w.heap.size + 1 + 1]? = some (.cells #[.int .i64 L, cv] 35 (0, 0)) ∧ CLp 65 W (w.heap.size + 3) cv qs ∧ qs.map (·.1) = (ps.map (·.1)).take k ∧ w.grownBy W none ∧ w.heap.size + 3 ≤ W.heap.size

theorem from_fin {w W w7 : World} {L : Int} {sv cv v7 dv : Value} {ps qs : List ChP} {p : ChP} {k : Nat} 
    (h1 : W.heap[w.heap.size]? = some (.cells #[.int .i64 L, sv] 29 (0, 0))) (h2 : W.heap[w.heap.size + 1]? = some (.cells #[.int .i64 0, .slice none 0 0] 35 (0, 0)))
    (h3 : W.heap[w.heap.size + 1 + 1]? = some (.cells #[.int .i64 L, cv] 35 (0, 0))) (h4 : CLp 65 W (w.heap.size + 3) cv qs) (h5 : qs.map (·.1) = (ps.map (·.1)).take k) (h6 : w.grownBy W none) (hz : w.heap.size + 3 ≤ W.heap.size)
    (hp : ps[k]? = some p) {w6 : World} (g6 : W.grownBy w6 none) (h7 : CLp 65 w7 (w.heap.size + 3) v7 (qs ++ [(p.1, dv)])) (hg7 : w6.grownBy w7 cv.ownBlock) :
    fromInv w L sv ps (k + 1) (w7.setCell ⟨w.heap.size + 1 + 1, 1, none⟩ v7) := by
  have hsz : W.heap.size ≤ w7.heap.size := Nat.le_trans g6.size hg7.size
  have hlo : ∀ k, cv.ownBlock = some k → w.heap.size + 3 ≤ k := fun k hk => (h4.1.lt k hk).1
  have keep : ∀ k, k < w.heap.size + 3 → k ≠ w.heap.size + 1 + 1 → (w7.setCell ⟨w.heap.size + 1 + 1, 1, none⟩ v7).heap[k]? = W.heap[k]? := fun k hk hne2 => by
    rw [heap_setCell_other _ _ _ _ (by simpa using hne2), hg7.block k (by have := g6.size; omega) (fun e => by have := hlo k e.symm; omega), g6.block k (by omega) (by simp)]
  refine ⟨v7, qs ++ [(p.1, dv)], ?_, ?_, ?_, ?_, ?_, ?_, by simp; omega⟩
  · rw [keep _ (by omega) (by omega)]; exact h1
  · rw [keep _ (by omega) (by omega)]; exact h2
  · have h8 : w7.heap[w.heap.size + 1 + 1]? = some (.cells #[.int .i64 L, cv] 35 (0, 0)) := by
      rw [hg7.block _ (by have := g6.size; omega) (fun e => by have := hlo _ e.symm; omega), g6.block _ (by omega) (by simp)]; exact h3
    exact heap_setCell_same _ _ 1 _ _ v7 h8
  · exact h7.kept (gb_setCell _ _ _) (fun k hk => .inl (by cases hk; simp))
  · have e : (ps.map (·.1))[k]? = some p.1 := by rw [List.getElem?_map, hp]; rfl
    rw [List.map_append, h5, List.take_add_one, e]; rfl
  · exact gb_trans (gb_trans (gb_same h6 g6) hg7 (fun k hk => .inr (by have := hlo k hk; omega))) (gb_setCell _ _ _) (fun k hk => .inr (by cases hk; simp; omega))

def fromP (w : World) (n : Int) (cs : List CT) (e : Ending) (w' : World) : Prop :=
  ∃ cv ps, e = .returned (.agg #[.int .i64 n, cv]) ∧ ps.map (·.1) = cs ∧ CLp 65 w' w.heap.size cv ps ∧ w.grownBy w' none

set_option maxRecDepth 100000 in
set_option maxHeartbeats 4000000 in
theorem from_any (L : Int) (sv : Value) (ps : List ChP) (w : World) (hs : RdCs w sv ps) (hn : ps.length ≤ 100000) (hd : ∀ p ∈ ps, p.1.2.length ≤ 100000) :
    Calls Try.prog 19 #[.agg #[.int .i64 L, sv]] w (fromP w L (ps.map (·.1))) := by
  obtain ⟨asv, csv, rfl⟩ := hs.len
  have HSV := Lib.hid hs
  have HD := Lib.hid hd
  obtain ⟨W3, hW3⟩ : ∃ W3, ((w.alloc (Obj.cells #[.int .i64 L, .slice asv ps.length csv] 29)).alloc (Obj.cells #[.int .i64 0, .slice none 0 0] 35)).alloc (Obj.cells #[.int .i64 L, .slice none 0 0] 35) = W3 := ⟨_, rfl⟩
  have hg3 : w.grownBy W3 none := by rw [← hW3]; exact gb_same (gb_same (gb_alloc _ _ _) (gb_alloc _ _ _)) (gb_alloc _ _ _)
  have hz3 : W3.heap.size = w.heap.size + 3 := by rw [← hW3]; simp
  have k0 : W3.heap[w.heap.size]? = some (.cells #[.int .i64 L, .slice asv ps.length csv] 29 (0, 0)) := by rw [← hW3]; exact blk_kept (blk_kept (heap_at_alloc _ _) (gb_alloc _ _ _)) (gb_alloc _ _ _)
  have k1 : W3.heap[w.heap.size + 1]? = some (.cells #[.int .i64 0, .slice none 0 0] 35 (0, 0)) := by rw [← hW3]; have := heap_at_alloc (w.alloc (Obj.cells #[.int .i64 L, .slice asv ps.length csv] 29)) (Obj.cells #[.int .i64 0, .slice none 0 0] 35); rw [World.size_alloc] at this; exact blk_kept this (gb_alloc _ _ _)
  have k2 : W3.heap[w.heap.size + 1 + 1]? = some (.cells #[.int .i64 L, .slice none 0 0] 35 (0, 0)) := by rw [← hW3]; have := heap_at_alloc ((w.alloc (Obj.cells #[.int .i64 L, .slice asv ps.length csv] 29)).alloc (Obj.cells #[.int .i64 0, .slice none 0 0] 35)) (Obj.cells #[.int .i64 L, .slice none 0 0] 35); rw [World.size_alloc, World.size_alloc] at this; exact this
  have H0 : Hid (fromInv w L (.slice asv ps.length csv) ps 0 W3) := Lib.hid ⟨_, [], k0, k1, k2, CLp.nil _ _ _, rfl, hg3, by omega⟩
  have HW3 := Lib.hid hW3
  clear hW3 hg3 hz3 k0 k1 k2 hs hd
  go_enter Try.func19, Try.ntmps19
  go_wp2
  rw [HW3.out]
  go_loopw [4] (fun i wr => ∃ k : Nat, k ≤ ps.length ∧ i = .int .i64 k ∧ Hid (fromInv w L (.slice asv ps.length csv) ps k wr)) (fun i _ => ps.length - (intOf i).toNat)
  case atStart => exact ⟨0, Nat.zero_le _, rfl, H0⟩
  case round =>
    obtain ⟨k, hk, rfl, HI⟩ := hrel
    obtain ⟨cv, qs, h1, h2, h3, h4, h5, h6, h7⟩ := HI.out
    have c1 : wr.cell? ⟨w.heap.size, 1, none⟩ = some (.slice asv ps.length csv) := cell_row h1
    have c3 : wr.cell? ⟨w.heap.size + 1 + 1, 1, none⟩ = some cv := cell_row h3
    obtain ⟨acv, ccv, rfl⟩ := h4.slice
    have H1 := Lib.hid h1
    have H2 := Lib.hid h2
    have H3 := Lib.hid h3
    have H4 := Lib.hid h4
    have H5 := Lib.hid h5
    have H6 := Lib.hid h6
    have H7 := Lib.hid h7
    by_cases hlt : k < ps.length
    · obtain ⟨p, hp⟩ : ∃ p, ps[k]? = some p := ⟨ps[k], by simp [hlt]⟩
      obtain ⟨gb, off, rfl, q0, q1⟩ := HSV.out.at hp
      have hpm := List.mem_of_getElem? hp
      have hrd := (HSV.out.2 p hpm).grown h6
      have hdl := HD.out p hpm
      obtain ⟨ad, cd, hp2⟩ := hrd.len
      rw [hp2] at q1 hrd
      have r0 := h6.cell q0 (by simp)
      have r1 := h6.cell q1 (by simp)
      have hql : qs.length ≤ 1000000 := by have e := congrArg List.length h5; rw [List.length_map, List.length_take, List.length_map] at e; omega
      have HQL := Lib.hid hql
      have HGB : Hid (gb < w.heap.size) := Lib.hid (World.block_lt_of_cell? _ _ q0)
      have HP := Lib.hid hp
      have HRD := Lib.hid hrd
      have HDL := Lib.hid hdl
      clear h1 h2 h3 h4 h5 h6 h7 q0 q1 hpm hrd hdl hp2 hql hp HI
      go_wp2
      refine region_K (fun w' => w'.cell? ⟨w.heap.size + 1 + 1, 1, none⟩ = some (.slice acv qs.length ccv) ∧ w'.cell? ⟨w.heap.size, 1, none⟩ = some (.slice (some ⟨gb, off, none⟩) ps.length csv) ∧ w'.cell? ⟨gb, off + k * 2, none⟩ = some (.int .i64 p.1.1) ∧ w'.cell? ⟨gb, off + k * 2 + 1, none⟩ = some (.slice ad p.1.2.length cd)) 20 (by kernel_rfl) ?_
      have HS : ∀ X row, wr.grownBy X row → (∀ r, row = some r → w.heap.size + 3 ≤ r) → X.cell? ⟨w.heap.size + 1 + 1, 1, none⟩ = some (.slice acv qs.length ccv) ∧ X.cell? ⟨w.heap.size, 1, none⟩ = some (.slice (some ⟨gb, off, none⟩) ps.length csv) ∧ X.cell? ⟨gb, off + k * 2, none⟩ = some (.int .i64 p.1.1) ∧ X.cell? ⟨gb, off + k * 2 + 1, none⟩ = some (.slice ad p.1.2.length cd) := fun X row hX hr => ⟨hX.cell c3 (fun e => by have := hr _ e.symm; simp at this; omega), hX.cell c1 (fun e => by have := hr _ e.symm; simp at this; omega), hX.cell r0 (fun e => by have := hr _ e.symm; have := HGB.out; simp at *; omega), hX.cell r1 (fun e => by have := hr _ e.symm; have := HGB.out; simp at *; omega)⟩
      have HSH := Lib.hid HS
      have HS0 := HS wr.drew none (gb_drew _ _) (by simp)
      clear HS c1 c3 r0 r1
      refine wpAnyK_take (i := 0) (v := ?_) rfl (by kernel_rfl) (by kernel_rfl) (by kernel_rfl) (fun _ _ _ h => h) (by kernel_rfl) (by kernel_rfl) (by kernel_rfl) (Or.inl ⟨by rfl, ?_⟩) HS0 ?_
      rotate_left
      · intro w hS; clear hS; go_simp; rfl
      refine wpAnyK_take (i := 1) (v := ?_) rfl (by kernel_rfl) (by kernel_rfl) (by kernel_rfl) (fun _ _ _ h => h) (by kernel_rfl) (by kernel_rfl) (by kernel_rfl) (Or.inl ⟨by rfl, ?_⟩) HS0 ?_
      rotate_left
      · intro w hS; obtain ⟨s0, s1, s2, s3⟩ := hS; go_simp; rfl
      refine wpAnyK_take (i := 2) (v := ?_) rfl (by kernel_rfl) (by kernel_rfl) (by kernel_rfl) (fun _ _ _ h => h) (by kernel_rfl) (by kernel_rfl) (by kernel_rfl) (Or.inl ⟨by rfl, ?_⟩) HS0 ?_
      rotate_left
      · intro w hS; clear hS; go_simp; rfl
      refine wpAnyK_take (i := 3) (v := ?_) rfl (by kernel_rfl) (by kernel_rfl) (by kernel_rfl) (fun _ _ _ h => h) (by kernel_rfl) (by kernel_rfl) (by kernel_rfl) (Or.inl ⟨by rfl, ?_⟩) HS0 ?_
      rotate_left
      · intro w hS; obtain ⟨s0, s1, s2, s3⟩ := hS; go_simp; rfl
      refine wpAnyK_take (i := 4) (v := ?_) rfl (by kernel_rfl) (by kernel_rfl) (by kernel_rfl) (fun _ _ _ h => h) (by kernel_rfl) (by kernel_rfl) (by kernel_rfl) (Or.inl ⟨by rfl, ?_⟩) HS0 ?_
      rotate_left
      · intro w hS; clear hS; go_simp; rfl
      refine wpAnyK_take (i := 5) (v := ?_) rfl (by kernel_rfl) (by kernel_rfl) (by kernel_rfl) (fun _ _ _ h => h) (by kernel_rfl) (by kernel_rfl) (by kernel_rfl) (Or.inl ⟨by rfl, ?_⟩) HS0 ?_
      rotate_left
      · intro w hS; obtain ⟨s0, s1, s2, s3⟩ := hS; go_simp; rfl
      refine wpAnyK_take (i := 6) (v := ?_) rfl (by kernel_rfl) (by kernel_rfl) (by kernel_rfl) (fun _ _ _ h => h) (by kernel_rfl) (by kernel_rfl) (by kernel_rfl) (Or.inl ⟨by rfl, ?_⟩) HS0 ?_
      rotate_left
      · intro w hS; clear hS; go_simp; rfl
      refine wpAnyK_take (i := 7) (v := ?_) rfl (by kernel_rfl) (by kernel_rfl) (by kernel_rfl) (fun _ _ _ h => h) (by kernel_rfl) (by kernel_rfl) (by kernel_rfl) (Or.inl ⟨by rfl, ?_⟩) HS0 ?_
      rotate_left
      · intro w hS; obtain ⟨s0, s1, s2, s3⟩ := hS; go_simp; rfl
      refine wpAnyK_take (i := 9) (v := ?_) rfl (by kernel_rfl) (by kernel_rfl) (by kernel_rfl) (fun _ _ _ h => h) (by kernel_rfl) (by kernel_rfl) (by kernel_rfl) (Or.inl ⟨by rfl, ?_⟩) HS0 ?_
      rotate_left
      · intro w hS; clear hS; go_simp; rfl
      refine wpAnyK_take (i := 10) (v := ?_) rfl (by kernel_rfl) (by kernel_rfl) (by kernel_rfl) (fun _ _ _ h => h) (by kernel_rfl) (by kernel_rfl) (by kernel_rfl) (Or.inl ⟨by rfl, ?_⟩) HS0 ?_
      rotate_left
      · intro w hS; obtain ⟨s0, s1, s2, s3⟩ := hS; go_simp; rfl
      refine wpAnyK_take (i := 11) (v := ?_) rfl (by kernel_rfl) (by kernel_rfl) (by kernel_rfl) (fun _ _ _ h => h) (by kernel_rfl) (by kernel_rfl) (by kernel_rfl) (Or.inl ⟨by rfl, ?_⟩) HS0 ?_
      rotate_left
      · intro w hS; clear hS; go_simp; rfl
      refine wpAnyK_take (i := 12) (v := ?_) rfl (by kernel_rfl) (by kernel_rfl) (by kernel_rfl) (fun _ _ _ h => h) (by kernel_rfl) (by kernel_rfl) (by kernel_rfl) (Or.inl ⟨by rfl, ?_⟩) HS0 ?_
      rotate_left
      · intro w hS; obtain ⟨s0, s1, s2, s3⟩ := hS; go_simp; rfl
      refine wpAnyK_take (i := 13) (v := ?_) rfl (by kernel_rfl) (by kernel_rfl) (by kernel_rfl) (fun _ _ _ h => h) (by kernel_rfl) (by kernel_rfl) (by kernel_rfl) (Or.inl ⟨by rfl, ?_⟩) HS0 ?_
      rotate_left
      · intro w hS; clear hS; go_simp; rfl
      refine wpAnyK_take (i := 14) (v := ?_) rfl (by kernel_rfl) (by kernel_rfl) (by kernel_rfl) (fun _ _ _ h => h) (by kernel_rfl) (by kernel_rfl) (by kernel_rfl) (Or.inl ⟨by rfl, ?_⟩) HS0 ?_
      rotate_left
      · intro w hS; obtain ⟨s0, s1, s2, s3⟩ := hS; go_simp; rfl
      have HLIT := Lib.hid ((Own.lit wr #[] [] 0 (w.heap.size + 3) rfl rfl H7.out (Nat.zero_le _)).grown (gb_drew _ _))
      refine wpAnyK_one (i := 8) (by kernel_rfl) rfl (by rfl) ?_
      intro K hK
      go_simp
      refine hK _ _ (fun _ => HSH.out _ none (gb_same (gb_alloc _ _ _) (gb_drew _ _)) (by simp)) ?_
      clear hK K
      refine wpAnyK_one (i := 15) (by kernel_rfl) rfl (by rfl) ?_
      intro K hK
      refine app_bytes_op _ _ rfl (w.heap.size + 3) _ _ [] p.1.2 rfl rfl HLIT.out (HRD.out.grown (gb_same (gb_alloc _ _ _) (gb_drew _ _))) (by have := H7.out; simp; omega) (by have := HDL.out; simp; omega) ?_
      intro v5 w5 ho5 hg5 hf5
      rw [List.nil_append] at ho5
      obtain ⟨a5, c5, rfl⟩ := ho5.rd.len
      have HG5 : Hid (wr.grownBy w5 none) := Lib.hid (gb_trans (gb_same (gb_alloc wr _ none) (gb_drew _ none)) hg5 (fun k hk => .inr (by cases hk; exact Nat.le_refl _)))
      have HNE5 : Hid (∀ j, (Value.slice acv qs.length ccv).ownBlock = some j → (Value.slice a5 p.1.2.length c5).ownBlock ≠ some j) := Lib.hid (fun j hj e => by
        have h1 := (H4.out.1.lt j hj).2
        rcases hf5 j e with h2 | h2
        · have h4 : wr.heap.size = j := Option.some.inj h2
          omega
        · have h3 : wr.heap.size ≤ ((wr.alloc (Obj.cells #[] 5)).drew).heap.size := (gb_same (gb_alloc wr (Obj.cells #[] 5) none) (gb_drew _ none)).size
          have h4 := Nat.le_trans h3 h2
          omega)
      have HO5 := Lib.hid ho5
      clear ho5 hg5 hf5
      refine hK _ _ (fun _ => HSH.out _ none HG5.out (by simp)) ?_
      clear hK K
      refine wpAnyK_one (i := 16) (by kernel_rfl) rfl (by rfl) ?_
      intro K hK
      go_simp
      refine hK _ _ (fun _ => HSH.out _ none HG5.out (by simp)) ?_
      clear hK K
      refine wpAnyK_one (i := 17) (by kernel_rfl) rfl (by rfl) ?_
      intro K hK
      go_simp
      refine hK _ _ (fun _ => HSH.out _ none (gb_same HG5.out (gb_alloc _ _ _)) (by simp)) ?_
      clear hK K
      refine wpAnyK_one (i := 18) (by kernel_rfl) rfl (by rfl) ?_
      intro K hK
      refine app_ch_op (33) (65) Try.underlying33 info_rch _ _ rfl (w.heap.size + 3) (.slice acv qs.length ccv) qs p.1 _ w5.heap.size _ rfl rfl ((H4.out.grown HG5.out).grown (gb_alloc _ _ _)) (HO5.out.grown (gb_alloc _ _ none)) HNE5.out (heap_at_alloc _ _) HQL.out (by have := H7.out; have := HG5.out.size; simp; omega) ?_
      intro v7 w7 h7 hg7 hf7
      obtain ⟨a7, c7, rfl⟩ := h7.slice
      rw [List.length_append, List.length_singleton] at h7
      have hlo : ∀ r, (Value.slice acv qs.length ccv).ownBlock = some r → w.heap.size + 3 ≤ r := fun r hr => (H4.out.1.lt r hr).1
      have HLO := Lib.hid hlo
      have HH7 := Lib.hid h7
      have HG7 := Lib.hid hg7
      have HP7 := Lib.hid (blk_kept' (blk_kept (blk_kept H3.out HG5.out) (gb_alloc _ _ none)) hg7 (fun e => by have := hlo _ e; omega))
      have f3 : w7.cell? ⟨w.heap.size + 1 + 1, 1, none⟩ = some (.slice acv qs.length ccv) := cell_row HP7.out
      have f4 : w7.frozen? ⟨w.heap.size + 1 + 1, 1, none⟩ = false := frozen_row HP7.out
      clear h7 hg7 hf7 hlo
      refine hK _ _ (fun _ => HSH.out _ _ (gb_trans (gb_none _ (gb_same HG5.out (gb_alloc _ _ none))) HG7.out (fun k hk => .inl hk)) HLO.out) ?_
      clear hK K
      refine wpAnyK_one (i := 19) (by kernel_rfl) rfl (by rfl) ?_
      intro K hK
      go_simp
      refine hK _ _ (fun _ => HSH.out _ _ (gb_trans (gb_none _ (gb_same HG5.out (gb_alloc _ _ none))) HG7.out (fun k hk => .inl hk)) HLO.out) ?_
      clear hK K
      refine wpAnyK_one (i := 20) (by kernel_rfl) rfl (by rfl) ?_
      intro K hK
      go_simp
      refine hK _ _ (fun h => Bool.noConfusion (show true = false from h)) ?_
      clear hK K
      refine wpAnyK_done (by kernel_rfl) ?_ _
      go_wp2
      exact ⟨⟨k + 1, by omega, by go_num, Lib.hid (from_fin H1.out H2.out H3.out H4.out H5.out H6.out H7.out HP.out (gb_same HG5.out (gb_alloc _ _ none)) HH7.out HG7.out)⟩, by simp [intOf]; omega⟩
    · obtain rfl : k = ps.length := by omega
      have c2 : wr.cell? ⟨w.heap.size + 1 + 1, 0, none⟩ = some (.int .i64 L) := cell_row h3
      have d0 : wr.cell? ⟨w.heap.size + 1, 0, none⟩ = some (.int .i64 0) := cell_row h2
      have d1 : wr.cell? ⟨w.heap.size + 1, 1, none⟩ = some (.slice none 0 0) := cell_row h2
      have d2 : wr.frozen? ⟨w.heap.size + 1, 0, none⟩ = false := frozen_row h2
      have d3 : wr.frozen? ⟨w.heap.size + 1, 1, none⟩ = false := frozen_row h2
      clear h1 h2 h3 h4 h5 h6 h7 HI
      go_wp2
      have q1 := heap_setCell_same _ _ 0 _ _ (.int .i64 L) H2.out
      have q2 := heap_setCell_same _ _ 1 _ _ (.slice acv qs.length ccv) q1
      have gAB := gb_same (gb_setCell wr ⟨w.heap.size + 1, 0, none⟩ (.int .i64 L)) (gb_setCell (wr.setCell ⟨w.heap.size + 1, 0, none⟩ (.int .i64 L)) ⟨w.heap.size + 1, 1, none⟩ (.slice acv qs.length ccv))
      have hc2 := H4.out.kept gAB (fun k hk => .inl (by cases hk; simp))
      obtain ⟨Y, hY⟩ : ∃ Y, (wr.setCell ⟨w.heap.size + 1, 0, none⟩ (.int .i64 L)).setCell ⟨w.heap.size + 1, 1, none⟩ (.slice acv qs.length ccv) = Y := ⟨_, rfl⟩
      rw [hY] at q2 gAB hc2 ⊢
      have y0 : Y.cell? ⟨w.heap.size + 1, 0, none⟩ = some (.int .i64 L) := cell_row q2
      have y1 : Y.cell? ⟨w.heap.size + 1, 1, none⟩ = some (.slice acv qs.length ccv) := cell_row q2
      refine bodyPost_ret (v := .agg #[.int .i64 L, .slice acv qs.length ccv]) (by simp [results, Try.results19, go_sem, y0, y1]) rfl ?_
      refine ⟨_, qs, rfl, ?_, hc2.mono (by omega), gb_trans H6.out gAB (fun k hk => .inr (by cases hk; simp))⟩
      rw [H5.out, List.take_of_length_le (by simp)]
end Go.Proofs.Ytnkgoaloigmmfaa
