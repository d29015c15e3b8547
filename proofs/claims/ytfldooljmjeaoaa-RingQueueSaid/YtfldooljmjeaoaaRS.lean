/-
  Whole structs: stores, and returns out of a block; ring.clone.
-/
import Derived.Test.YtfldooljmjeaoaaRG
namespace Go.Proofs.Ytfldooljmjeaoaa
open Go.RowKit

theorem is_store {ops : Array Oper} {rest : List Oper} {a : Act} {w : World} {Q : Exit → Act → World → Prop} (t : TypeId) (x v : Tmp) {ty : TypeId} {ps : String} {af : Array Edge}
    (h : wpList Try.prog ops Q ({ dst := none, op := .store t (.tmp x) (.tmp v), type := ty, pos := ps, after := af, guard := none } :: rest) a w) :
    wpList Try.prog ops Q ({ dst := none, op := .store t (.tmp x) (.tmp v), type := ty, pos := ps, after := af, guard := none } :: rest) a w := h
theorem is_load {ops : Array Oper} {rest : List Oper} {a : Act} {w : World} {Q : Exit → Act → World → Prop} (t : TypeId) (d x : Tmp) {ty : TypeId} {ps : String} {af : Array Edge}
    (h : wpList Try.prog ops Q ({ dst := some d, op := .load t (.tmp x), type := ty, pos := ps, after := af, guard := none } :: rest) a w) :
    wpList Try.prog ops Q ({ dst := some d, op := .load t (.tmp x), type := ty, pos := ps, after := af, guard := none } :: rest) a w := h
theorem st_row {ops : Array Oper} {rest : List Oper} {a : Act} {w : World} {Q : Exit → Act → World → Prop} (t : TypeId) (x v : Tmp) {ty : TypeId} {ps : String} {af : Array Edge}
    (g : Nat) (old cs : Array Value) (e : TypeId) (hx : a.eval (.tmp x) = .pointer (some ⟨g, 0, none⟩)) (hv : a.eval (.tmp v) = .agg cs) (hg : w.heap[g]? = some (.cells old e (0, 0)))
    (hi : (Try.prog.info? t).map (·.size) = some cs.size) (ho : old.size = cs.size) (h1 : cs.toList.all (·.oneCell') = true)
    (h : ∀ w', w'.heap[g]? = some (.cells cs e (0, 0)) → w.grownBy w' (some g) → wpList Try.prog ops Q rest a w') :
    wpList Try.prog ops Q ({ dst := none, op := .store t (.tmp x) (.tmp v), type := ty, pos := ps, after := af, guard := none } :: rest) a w := by
  refine wpList_plain rfl fun _ hK => ?_
  unfold Oper.wp execOp
  simp only [hx, hv, Instr.storeAt, Instr.sureAddr, Sem.run_bind, Sem.run_pure, Result.andThen_ok, run_storeVar_row w g e t old cs hg hi ho (by rw [← Array.all_toList]; exact h1)]
  exact hK _ _ (h _ (setRow_heap w g old cs e _ hg) (gb_setRow w g cs))
theorem ret_row {fn : Func} {R : Ending → World → Prop} {p : Tmp} {ty : TypeId} {tmps : Array Value} {w : World} {fs : Array Field} (hr : fn.results = #[.cell p ty]) (g : Nat) (t : TypeId) (cs : Array Value)
    (hp : tmps.getD p undef = .pointer (some ⟨g, 0, none⟩)) (hg : w.heap[g]? = some (.cells cs t (0, 0))) (hu : Try.prog.underlying ty = some (.struct fs)) (hi : (Try.prog.info? ty).map (·.size) = some cs.size)
    (h : R (.returned (.agg cs)) w) : bodyPost Try.prog fn R .ret { tmps := tmps, defers := [] } w :=
  bodyPost_ret (results_cell_row hr tmps w g t cs (0, 0) _ hp hg hu rfl hi) rfl h

set_option maxRecDepth 100000 in
theorem clone_anyW (v : Value) (l : List UInt8) (w : World) (hv : RdW w v l) (hl : l.length ≤ 140737488355328) :
    Calls Try.prog 58 #[v] w (OwnP w l) := by
  rcases hv with h | ⟨ad, rfl, rfl⟩
  · exact clone_any v l w h hl
  · have q22 : ∀ (w : World) (a : Option Addr) (n c n' c' : Nat), (binOp .eql 22 (.slice a n c) (.slice none n' c')).run Try.prog w = .ok (.bool a.isNone) w := fun w a n c n' c' => Lib.run_eql_slice_nil w _ _ a n c n' c' Try.underlying22
    have HO := Lib.hid (Own.lit w #[] [] 0 w.heap.size rfl rfl (Nat.le_refl _) (Nat.zero_le _))
    go_enter Try.func58, Try.ntmps58
    go_wp2_with (at_builtin; refine app_bytesW rfl _ _ rfl w.heap.size _ _ [] [] rfl rfl HO.out (.inr ⟨_, rfl, rfl⟩) (by simp) (by simp) ?_; go_must (intro v2 w2 ho2 hg2 hf2; rw [List.nil_append] at ho2))
    go_ret
    exact ⟨_, rfl, ho2, gb_trans (gb_alloc _ _ none) hg2 (fun k hk => .inr (HO.out.lt k hk).1)⟩

theorem blk_frozen {w : World} {g j : Nat} {cs : Array Value} {t : TypeId} (h : w.heap[g]? = some (.cells cs t (0, 0))) : w.frozen? ⟨g, j, none⟩ = false := by simp [World.frozen?, h]
theorem lt_of_blk {w : World} {k : Nat} {o : Obj} (h : w.heap[k]? = some o) : k < w.heap.size := (Array.getElem?_eq_some_iff.1 h).1
theorem heap_alloc2_0 (w : World) (o o' : Obj) : ((w.alloc o).alloc o').heap[w.heap.size]? = some o := by
  rw [(gb_alloc (w.alloc o) o' none).block _ (by simp) (by simp)]; exact heap_at_alloc w o
theorem heap_alloc2_1 (w : World) (o o' : Obj) : ((w.alloc o).alloc o').heap[w.heap.size + 1]? = some o' := by
  have := heap_at_alloc (w.alloc o) o'
  simpa using this
def zrowM : Array Value := #[.int .i64 0, .int .i64 0, .int .i64 0, .int .i64 0, .int .i64 0, .int .i64 0, .int .i64 0, .int .i64 0, .slice none 0 0]
def CloneM (w : World) (m : Mg) (e : Ending) (w' : World) : Prop := ∃ v', e = .returned (.agg (m.row v')) ∧ Own w' w.heap.size v' m.z ∧ w.grownBy w' none
set_option maxRecDepth 100000 in
set_option maxHeartbeats 4000000 in
theorem cloneM_any (m : Mg) (v : Value) (w : World) (hv : RdW w v m.z) (hl : m.z.length ≤ 140737488355328) : Calls Try.prog 34 #[.agg (m.row v)] w (CloneM w m) := by
  have HV := Lib.hid hv
  obtain ⟨a, c, rfl⟩ := hv.len
  obtain ⟨s, d, k, q, m1, m2, m3, m4, z⟩ := m
  simp only [Mg.row] at *
  unfold CloneM
  simp only [Mg.row]
  clear hv
  go_enter Try.func34, Try.ntmps34
  go_wp2_with fail
  have hb0 := heap_alloc2_0 w (.cells #[.int .i64 s, .int .i64 d, .int .i64 k, .int .i64 q, .int .i64 m1, .int .i64 m2, .int .i64 m3, .int .i64 m4, .slice a z.length c] 39) (.cells zrowM 39)
  have hb1 := heap_alloc2_1 w (.cells #[.int .i64 s, .int .i64 d, .int .i64 k, .int .i64 q, .int .i64 m1, .int .i64 m2, .int .i64 m3, .int .i64 m4, .slice a z.length c] 39) (.cells zrowM 39)
  have hga : w.grownBy ((w.alloc (.cells #[.int .i64 s, .int .i64 d, .int .i64 k, .int .i64 q, .int .i64 m1, .int .i64 m2, .int .i64 m3, .int .i64 m4, .slice a z.length c] 39)).alloc (.cells zrowM 39)) none := gb_same (gb_alloc _ _ _) (gb_alloc _ _ _)
  unfold zrowM at hb0 hb1 hga
  generalize (w.alloc (.cells #[.int .i64 s, .int .i64 d, .int .i64 k, .int .i64 q, .int .i64 m1, .int .i64 m2, .int .i64 m3, .int .i64 m4, .slice a z.length c] 39)).alloc (.cells #[.int .i64 0, .int .i64 0, .int .i64 0, .int .i64 0, .int .i64 0, .int .i64 0, .int .i64 0, .int .i64 0, .slice none 0 0] 39) = w2 at *
  refine (clone_anyW _ z w2 (HV.out.grown hga) hl).mono ?_
  rintro e w3 ⟨v3, rfl, ho3, hg3⟩
  obtain ⟨a3, c3, rfl⟩ := ho3.rd.len
  have hx0 := blk_kept hb0 hg3
  have hx1 := blk_kept hb1 hg3
  have hcl := cell_row (j := 8) hx0
  have hfz := blk_frozen (j := 8) hx0
  have hsz := hga.size
  have HB0 := Lib.hid (blk_set hx0 8 (.slice a3 z.length c3))
  have HB1 := Lib.hid (blk_kept' hx1 (gb_setCell w3 ⟨w.heap.size, 8, none⟩ (.slice a3 z.length c3)) (by simp))
  have HG := Lib.hid (gb_new (gb_same hga hg3) (gb_setCell w3 ⟨w.heap.size, 8, none⟩ (.slice a3 z.length c3)) (Nat.le_refl _))
  have HO := Lib.hid ((ho3.mono hsz).kept (gb_setCell w3 ⟨w.heap.size, 8, none⟩ (.slice a3 z.length c3)) (fun j hj e => by
    have h1 := (ho3.lt j hj).1
    have h2 := lt_of_blk hb0
    simp at e
    omega))
  have HNE : Hid ((Value.slice a3 z.length c3).ownBlock ≠ some (w.heap.size + 1)) := Lib.hid (fun e => by
    have h1 := (ho3.lt _ e).1
    have h2 := lt_of_blk hb1
    omega)
  have HG2 : Hid (w.grownBy w3 none) := Lib.hid (gb_same hga hg3)
  clear hb0 hb1 hga hg3 ho3 hx0 hx1 hsz
  simp only [List.setIfInBounds_toArray, List.set_cons_succ, List.set_cons_zero] at HB0
  go_wp2_with (first | ((with_reducible refine is_load 39 7 1 ?_); go_must (refine ld_row 39 7 1 w.heap.size _ _ rfl HB0.out Try.underlying39 msize ?_)) | ((with_reducible refine is_store 39 2 7 ?_); go_must (refine st_row 39 2 7 (w.heap.size + 1) _ _ _ rfl rfl HB1.out msize rfl rfl ?_; intro w4 hb4 hg4)))
  refine ret_row rfl (w.heap.size + 1) _ _ rfl hb4 Try.underlying39 msize ?_
  exact ⟨.slice a3 z.length c3, rfl, HO.out.kept hg4 (fun j hj e => HNE.out (by simp at e; rw [hj, e])), gb_new HG.out hg4 (by omega)⟩
end Go.Proofs.Ytfldooljmjeaoaa
