/-
  slices.IndexFunc and slices.DeleteFunc of messages by their sender, Drop: the walks.
-/
import Derived.Test.YtfldooljmjeaoaaRTk
namespace Go.Proofs.Ytfldooljmjeaoaa
open Go.RowKit Go.Shelf

abbrev delV (s : Nat) : Value := .func (.func 37) #[] #[.pointer (some ⟨s, 0, none⟩)]
set_option maxRecDepth 100000 in
theorem isrc_any (m : Mg) (dv : Value) (s : Nat) (x : Int) (w : World) (hs : w.cell? ⟨s, 0, none⟩ = some (.int .i64 x)) : Calls Try.prog 37 #[.agg (m.row dv), .pointer (some ⟨s, 0, none⟩)] w fun e w' => e = .returned (.bool (m.s == x)) ∧ w.grownBy w' none := by
  have hs' := (gb_alloc w (.cells (m.row dv) 39) none).cell hs (by simp)
  have hb := heap_at_alloc w (.cells (m.row dv) 39)
  unfold Mg.row at hb hs' ⊢
  have h0 := cell_row (j := 0) hb
  clear hs hb
  go_enter Try.func37, Try.ntmps37
  go_wp2
  go_ret
  exact ⟨rfl, gb_alloc _ _ _⟩
def IdxM (ps : List GP) (x : Int) (w : World) (e : Ending) (w' : World) : Prop :=
  w.grownBy w' none ∧ ((e = .returned (.int .i64 (-1)) ∧ ∀ p ∈ ps, p.1.s ≠ x) ∨ ∃ (i : Nat) (p : GP), e = .returned (.int .i64 (i : Int)) ∧ ps[i]? = some p ∧ p.1.s = x ∧ ∀ q ∈ ps.take i, q.1.s ≠ x)
set_option maxRecDepth 100000 in
set_option maxHeartbeats 4000000 in
theorem idxM_any (v : Value) (B : Nat) (ps : List GP) (s : Nat) (x : Int) (w : World) (h : GRow w B v ps) (hs : w.cell? ⟨s, 0, none⟩ = some (.int .i64 x)) :
    Calls Try.prog 59 #[v, delV s] w (IdxM ps x w) := by
  obtain ⟨a, c, rfl, hpc, hcm⟩ := h.slice
  have H := Lib.hid h
  have HIS := Lib.hid (fun (W : World) (hg : w.grownBy W none) (p : GP) => isrc_any p.1 p.2 s x W (hg.cell hs (by simp)))
  unfold Mg.row at HIS
  have hsm : (ps.length : Int) ≤ 9223372036854775807 := by simp only [maxLen] at hcm; omega
  clear h hs hpc hcm
  go_enter Try.func59, Try.ntmps59
  go_wp2_with fail
  go_loopw [8] (fun i wr => ∃ k : Nat, k ≤ ps.length ∧ i = .int .i64 k ∧ Hid (w.grownBy wr none) ∧ Hid (∀ q ∈ ps.take k, q.1.s ≠ x)) (fun i _ => ps.length - (intOf i).toNat)
  case atStart => exact ⟨0, Nat.zero_le _, rfl, Lib.hid (gb_refl _ _), Lib.hid (by simp)⟩
  case round =>
    obtain ⟨k, hk, rfl, HG, HN⟩ := hrel
    by_cases hlt : k < ps.length
    · obtain ⟨p, hp⟩ : ∃ p, ps[k]? = some p := ⟨ps[k], by simp [hlt]⟩
      obtain ⟨b, rfl, _, n0, n1, n2, n3, n4, n5, n6, n7, n8⟩ := (H.out.grown HG.out).at9 hp
      have HP := Lib.hid hp
      have HC := Lib.hid (HIS.out wr HG.out p)
      have HTK : Hid (ps.take (k + 1) = ps.take k ++ [p]) := Lib.hid (by rw [List.take_add_one, hp]; rfl)
      clear hp
      go_wp2_with fail
      refine HC.out.mono ?_
      rintro e w1 ⟨rfl, hg1⟩
      have HG1 := Lib.hid (gb_same HG.out hg1)
      clear n0 n1 n2 n3 n4 n5 n6 n7 n8 hg1
      by_cases hx : p.1.s = x
      · have hb : (p.1.s == x) = true := by rw [beq_iff_eq]; exact hx
        rw [hb]
        have HX := Lib.hid hx
        clear hx hb HC
        go_wp2
        go_ret
        exact ⟨HG1.out, .inr ⟨k, p, rfl, HP.out, HX.out, HN.out⟩⟩
      · have hb : (p.1.s == x) = false := by rw [beq_eq_false_iff_ne]; exact hx
        rw [hb]
        have HX : Hid (p.1.s ≠ x) := Lib.hid hx
        clear hx hb HC
        go_wp2
        go_roundw
        case rel => exact ⟨k + 1, by omega, by go_num, HG1, Lib.hid (by
          rw [HTK.out]
          intro q hq
          rcases List.mem_append.1 hq with h | h
          · exact HN.out q h
          · simp at h; subst h; exact HX.out)⟩
        case measure => simp [intOf]; omega
    · obtain rfl : k = ps.length := by omega
      go_wp2
      go_ret
      exact ⟨HG.out, .inl ⟨rfl, fun p hp => HN.out p (by rw [List.take_of_length_le (Nat.le_refl _)]; exact hp)⟩⟩

theorem st_at {ops : Array Oper} {rest : List Oper} {a : Act} {w : World} {Q : Exit → Act → World → Prop} (t : TypeId) (x v : Tmp) {ty : TypeId} {ps : String} {af : Array Edge}
    (g off : Nat) (cur cs : Array Value) (e : TypeId) (hx : a.eval (.tmp x) = .pointer (some ⟨g, off, none⟩)) (hv : a.eval (.tmp v) = .agg cs) (hg : w.heap[g]? = some (.cells cur e (0, 0)))
    (hi : (Try.prog.info? t).map (·.size) = some cs.size) (ho : off + cs.size ≤ cur.size) (h1 : cs.toList.all (·.oneCell') = true)
    (h : ∀ w', w' = w.setRow g (cur.toList.take off ++ cs.toList ++ cur.toList.drop (off + cs.toList.length)).toArray → wpList Try.prog ops Q rest a w') :
    wpList Try.prog ops Q ({ dst := none, op := .store t (.tmp x) (.tmp v), type := ty, pos := ps, after := af, guard := none } :: rest) a w := by
  have hst := run_storeCells_at Try.prog g off e cs.toList 0 cur w hg (by simp; omega) (fun u hu => List.all_eq_true.1 h1 u hu)
  simp only [Nat.add_zero] at hst
  have hr : (storeVar t ⟨g, off, none⟩ (.agg cs)).run Try.prog w = .ok () (w.setRow g (cur.toList.take off ++ cs.toList ++ cur.toList.drop (off + cs.toList.length)).toArray) := by
    cases hq : Try.prog.info? t with
    | none => simp [hq] at hi
    | some i =>
      have hs : cs.size = i.size := by simp [hq] at hi; omega
      simp [storeVar, sizeOf, typeInfo, hq, Value.cells, hs, hst]
  refine wpList_plain rfl fun _ hK => ?_
  unfold Oper.wp execOp
  simp only [hx, hv, Instr.storeAt, Instr.sureAddr, Sem.run_bind, Sem.run_pure, Result.andThen_ok, hr]
  exact hK _ _ (h _ rfl)
def keepM (ps : List GP) (x : Int) : List GP := ps.filter (fun q => !(q.1.s == x))
theorem keepM_all {ps : List GP} {x : Int} (h : ∀ p ∈ ps, p.1.s ≠ x) : keepM ps x = ps := List.filter_eq_self.2 (fun p hp => by simpa using h p hp)
theorem keepM_take {ps : List GP} {k : Nat} {p : GP} (x : Int) (hp : ps[k]? = some p) : keepM (ps.take (k + 1)) x = keepM (ps.take k) x ++ (if p.1.s = x then [] else [p]) := by
  rw [show ps.take (k + 1) = ps.take k ++ [p] by rw [List.take_add_one, hp]; rfl]
  unfold keepM
  rw [List.filter_append]
  congr 1
  by_cases hx : p.1.s = x
  · rw [if_pos hx]; simp [hx]
  · rw [if_neg hx]; simp [hx]
/-- where the filter stands: so many kept, so many seen -/
structure AtF (w : World) (g n c : Nat) (ps : List GP) (x : Int) (kk j : Nat) (cur : Array Value) : Prop where
  blk : w.heap[g]? = some (.cells cur 39 (0, 0))
  sz : cur.size = c * 9
  kept : cur.toList.take (kk * 9) = cellsG (keepM (ps.take j) x)
  left : (cur.toList.take (n * 9)).drop (j * 9) = cellsG (ps.drop j)
  len : (keepM (ps.take j) x).length = kk
theorem AtF.cells {w : World} {g n c : Nat} {ps : List GP} {x : Int} {kk j : Nat} {cur : Array Value} (h : AtF w g n c ps x kk j cur) {p : GP} (hp : ps[j]? = some p) (hn : ps.length = n) (d : Nat) (u : Value) (hd : (rowG p)[d]? = some u) : w.cell? ⟨g, j * 9 + d, none⟩ = some u := by
  have h9 : d < 9 := by have := (List.getElem?_eq_some_iff.1 hd).1; simpa [rowG] using this
  have hj : j < n := by rw [← hn]; exact (List.getElem?_eq_some_iff.1 hp).1
  have e1 : (cellsG (ps.drop j))[d]? = some u := by
    have := cellsG_get d h9 (ps.drop j) (i := 0) (p := p) (by rw [List.getElem?_drop, Nat.add_zero]; exact hp)
    rw [Nat.zero_mul, Nat.zero_add] at this
    rw [this, hd]
  rw [← h.left, List.getElem?_drop, List.getElem?_take, if_pos (by omega)] at e1
  simp only [World.cell?, h.blk]
  simpa using e1
theorem AtF.grown {w w' : World} {g n c : Nat} {ps : List GP} {x : Int} {kk j : Nat} {cur : Array Value} (h : AtF w g n c ps x kk j cur) {row : Option Nat} (hg : w.grownBy w' row) (hr : row ≠ some g) : AtF w' g n c ps x kk j cur := ⟨blk_kept' h.blk hg hr, h.sz, h.kept, h.left, h.len⟩
theorem AtF.skip {w : World} {g n c : Nat} {ps : List GP} {x : Int} {kk j : Nat} {cur : Array Value} (h : AtF w g n c ps x kk j cur) {p : GP} (hp : ps[j]? = some p) (hx : p.1.s = x) : AtF w g n c ps x kk (j + 1) cur := by
  have e := keepM_take x hp
  rw [if_pos hx, List.append_nil] at e
  refine ⟨h.blk, h.sz, by rw [e]; exact h.kept, ?_, by rw [e]; exact h.len⟩
  have h1 := congrArg (List.drop 9) h.left
  rw [List.drop_drop] at h1
  rw [show (j + 1) * 9 = j * 9 + 9 by omega, h1]
  rw [show ps.drop (j + 1) = (ps.drop j).drop 1 by rw [List.drop_drop], cellsG_drop (ps.drop j) 1]
theorem AtF.keep {w : World} {g n c : Nat} {ps : List GP} {x : Int} {kk j : Nat} {cur : Array Value} (h : AtF w g n c ps x kk j cur) {p : GP} (hp : ps[j]? = some p) (hx : p.1.s ≠ x) (hkj : kk < j) (hn : ps.length = n) (hc : n ≤ c) :
    AtF (w.setRow g (cur.toList.take (kk * 9) ++ rowG p ++ cur.toList.drop (kk * 9 + (rowG p).length)).toArray) g n c ps x (kk + 1) (j + 1) (cur.toList.take (kk * 9) ++ rowG p ++ cur.toList.drop (kk * 9 + (rowG p).length)).toArray := by
  have hj : j < n := by rw [← hn]; exact (List.getElem?_eq_some_iff.1 hp).1
  have e := keepM_take x hp
  rw [if_neg hx] at e
  have h9 : (rowG p).length = 9 := rfl
  have hsz := h.sz
  have hl : cur.toList.length = c * 9 := by rw [Array.length_toList]; exact hsz
  have ht : (cur.toList.take (kk * 9)).length = kk * 9 := by rw [List.length_take, hl]; omega
  refine ⟨setRow_heap w g cur _ _ _ h.blk, ?_, ?_, ?_, by rw [e, List.length_append, h.len]; rfl⟩
  · simp only [List.size_toArray, List.length_append, ht, h9, List.length_drop, hl]; omega
  · rw [e, cellsG_append, ← h.kept, show cellsG [p] = rowG p by simp [cellsG]]
    dsimp only
    rw [List.take_append_of_le_length (by rw [List.length_append, ht, h9]; omega), List.take_of_length_le (by rw [List.length_append, ht, h9]; omega)]
  · have h1 := congrArg (List.drop 9) h.left
    rw [List.drop_drop] at h1
    rw [show ps.drop (j + 1) = (ps.drop j).drop 1 by rw [List.drop_drop], cellsG_drop (ps.drop j) 1, ← h1, show (j + 1) * 9 = j * 9 + 9 by omega]
    apply List.ext_getElem?
    intro i
    simp only [List.getElem?_drop, List.getElem?_take]
    by_cases hi : j * 9 + 9 + i < n * 9
    · rw [if_pos hi, if_pos hi, List.getElem?_append_right (by rw [List.length_append, ht, h9]; omega), List.length_append, ht, h9, List.getElem?_drop]
      congr 1
      omega
    · rw [if_neg hi, if_neg hi]
end Go.Proofs.Ytfldooljmjeaoaa
