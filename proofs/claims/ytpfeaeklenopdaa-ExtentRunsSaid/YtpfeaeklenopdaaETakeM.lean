/-
  extent.Take: what its loop keeps.
-/
import Derived.Test.YtpfeaeklenopdaaEAlloc
import Derived.OwnWalkIn
namespace Go.Proofs.Ytpfeaeklenopdaa
open Go.RowKit Go.Shelf

attribute [local go_sem] Oper.semAt_some

def ns (ls : List Nat) : List Int := ls.map (fun k : Nat => (k : Int))
theorem ns_len (ls : List Nat) : (ns ls).length = ls.length := by simp [ns]
theorem ns_snoc (ls : List Nat) (k : Nat) : ns (ls ++ [k]) = ns ls ++ [(k : Int)] := by simp [ns]
/-- the bits of a list are set -/
def setAll (l : List UInt8) (ls : List Nat) : List UInt8 := ls.foldl (fun l k => setB l k true) l
theorem setAll_snoc (l : List UInt8) (ls : List Nat) (k : Nat) : setAll l (ls ++ [k]) = setB (setAll l ls) k true := by simp [setAll]
theorem setAll_len (l : List UInt8) (ls : List Nat) : (setAll l ls).length = l.length := by
  unfold setAll
  induction ls generalizing l with
  | nil => rfl
  | cons k ks ih => rw [List.foldl_cons, ih, setB_len]
def takeO (l : List UInt8) (x y n : Int) : Except Int (List Nat × List UInt8) :=
  if validB l x y && decide (1 ≤ n) then
    if ((findL l x.toNat y.toNat false).length : Int) < n then .error 13 else .ok ((findL l x.toNat y.toNat false).take n.toNat, setAll l ((findL l x.toNat y.toNat false).take n.toNat))
  else .error 1
def TakeP (w : World) (o : Except Int (List Nat × List UInt8)) (e : Ending) (w' : World) : Prop :=
  match o with
  | .error c => e = .returned (.tuple #[.slice none 0 0, .slice none 0 0, .int .i64 c]) ∧ w.grownBy w' none
  | .ok p => ∃ lv nv, e = .returned (.tuple #[lv, nv, .int .i64 0]) ∧ OwnI w' w.heap.size lv (ns p.1) ∧ Own w' w.heap.size nv p.2 ∧ w.grownBy w' none ∧ ∀ k, lv.ownBlock = some k → nv.ownBlock ≠ some k
theorem noncell_ne {w : World} {base size n : Nat} {e : TypeId} {v : Value} {xs : List Value} (h : w.ownsRow base e size v n xs) {row : Option Nat} (hr : ∀ r, row = some r → ∃ o : Obj, w.heap[r]? = some o ∧ o.isCells = false) :
    ∀ k, v.ownBlock = some k → row ≠ some k := by
  intro k hk e
  obtain ⟨o, ho, hc⟩ := hr k e
  obtain ⟨_, h2⟩ := h
  rcases h2 with ⟨rfl, _⟩ | ⟨g, cap, cur, rfl, _, hg, _⟩
  · simp [Value.ownBlock] at hk
  · simp only [Value.ownBlock, Option.some.injEq] at hk
    subst hk
    rw [hg] at ho
    cases ho
    cases hc
theorem OwnI.lt {w : World} {B : Nat} {v : Value} {zs : List Int} (h : OwnI w B v zs) : ∀ k, v.ownBlock = some k → B ≤ k ∧ k < w.heap.size := World.ownsRow.lt h
theorem OwnI.mono {w : World} {B B' : Nat} {v : Value} {zs : List Int} (h : OwnI w B v zs) (hb : B' ≤ B) : OwnI w B' v zs := by
  obtain ⟨h1, h2⟩ := h
  refine ⟨h1, ?_⟩
  rcases h2 with h2 | ⟨g, cap, cur, e, h3, h4⟩
  · exact .inl h2
  · exact .inr ⟨g, cap, cur, e, by omega, h4⟩
/-- the four boxes of Take, its list and its bitmap -/
structure TV (w : World) (p m : Nat) (ls : List Nat) (nx : List UInt8) (lv nv : Value) (W : World) : Prop where
  b7 : W.heap[w.heap.size]? = some (.cells #[.int .i64 (m : Int)] 3 (0, 0))
  b8 : W.heap[w.heap.size + 1]? = some (.cells #[lv] 40 (0, 0))
  b9 : W.heap[w.heap.size + 1 + 1]? = some (.cells #[nv] 22 (0, 0))
  b10 : W.heap[w.heap.size + 1 + 1 + 1]? = some (.cells #[.int .i64 0] 27 (0, 0))
  li : OwnI W (p + 4) lv (ns ls)
  nx : Own W (w.heap.size + 4) nv nx
  nlt : ∀ k, nv.ownBlock = some k → k < p
  gb : w.grownBy W none
  sz : p + 4 ≤ W.heap.size
  pz : w.heap.size + 4 ≤ p
theorem TV.keep {w W W' : World} {p m : Nat} {ls : List Nat} {nx : List UInt8} {lv nv : Value} {row : Option Nat} (h : TV w p m ls nx lv nv W) (hg : W.grownBy W' row) (hr : ∀ r, row = some r → w.heap.size + 4 ≤ r ∧ lv.ownBlock ≠ some r ∧ nv.ownBlock ≠ some r) : TV w p m ls nx lv nv W' :=
  { b7 := blk_kept' h.b7 hg (fun e => by have := (hr _ e).1; omega)
    b8 := blk_kept' h.b8 hg (fun e => by have := (hr _ e).1; omega)
    b9 := blk_kept' h.b9 hg (fun e => by have := (hr _ e).1; omega)
    b10 := blk_kept' h.b10 hg (fun e => by have := (hr _ e).1; omega)
    li := h.li.kept hg (fun k hk e => (hr k e).2.1 hk)
    nx := h.nx.kept hg (fun k hk e => (hr k e).2.2 hk)
    nlt := h.nlt
    gb := gb_trans h.gb hg (fun r e => .inr (by have := (hr _ e).1; omega))
    sz := Nat.le_trans h.sz hg.size
    pz := h.pz }
theorem TV.grown {w W W' : World} {p m : Nat} {ls : List Nat} {nx : List UInt8} {lv nv : Value} (h : TV w p m ls nx lv nv W) (hg : W.grownBy W' none) : TV w p m ls nx lv nv W' := h.keep hg (fun r e => by cases e)
theorem TV.abide {w W W' : World} {p m : Nat} {ls : List Nat} {nx : List UInt8} {lv nv : Value} {row : Option Nat} (h : TV w p m ls nx lv nv W) (hg : W.grownBy W' row) (hr : ∀ r, row = some r → p + 4 ≤ r ∧ ∃ o : Obj, W.heap[r]? = some o ∧ o.isCells = false) : TV w p m ls nx lv nv W' :=
  h.keep hg (fun r e => ⟨by have := (hr r e).1; have := h.pz; omega, fun e2 => noncell_ne h.li (fun r e => (hr r e).2) r e2 e, fun e2 => noncell_ne h.nx (fun r e => (hr r e).2) r e2 e⟩)
theorem TV.put {w W W' : World} {p m : Nat} {ls : List Nat} {nx nx' : List UInt8} {lv nv : Value} (h : TV w p m ls nx lv nv W) (hg : W.grownBy W' nv.ownBlock) (ho : Own W' (w.heap.size + 4) nv nx') : TV w p m ls nx' lv nv W' := by
  have hlo : ∀ r, nv.ownBlock = some r → w.heap.size + 4 ≤ r := fun r e => (h.nx.lt r e).1
  exact { b7 := blk_kept' h.b7 hg (fun e => by have := hlo _ e; omega)
          b8 := blk_kept' h.b8 hg (fun e => by have := hlo _ e; omega)
          b9 := blk_kept' h.b9 hg (fun e => by have := hlo _ e; omega)
          b10 := blk_kept' h.b10 hg (fun e => by have := hlo _ e; omega)
          li := h.li.kept hg (fun k hk e => by have := (h.li.lt k hk).1; have := h.nlt k e; omega)
          nx := ho
          nlt := h.nlt
          gb := gb_trans h.gb hg (fun r e => .inr (by have := hlo _ e; omega))
          sz := Nat.le_trans h.sz hg.size
          pz := h.pz }
theorem TV.app {w W W' : World} {p m : Nat} {ls ls' : List Nat} {nx : List UInt8} {lv lv' nv : Value} (h : TV w p m ls nx lv nv W) (hg : W.grownBy W' lv.ownBlock) (ho : OwnI W' (p + 4) lv' (ns ls')) : TV w p m ls' nx lv' nv (W'.setCell ⟨w.heap.size + 1, 0, none⟩ lv') := by
  have hlo : ∀ r, lv.ownBlock = some r → p + 4 ≤ r := fun r e => (h.li.lt r e).1
  have hp := h.pz
  have hs : W'.grownBy (W'.setCell ⟨w.heap.size + 1, 0, none⟩ lv') (some (w.heap.size + 1)) := gb_setCell W' ⟨w.heap.size + 1, 0, none⟩ lv'
  have h8 : W'.heap[w.heap.size + 1]? = some (.cells #[lv] 40 (0, 0)) := blk_kept' h.b8 hg (fun e => by have := hlo _ e; omega)
  exact { b7 := blk_kept' (blk_kept' h.b7 hg (fun e => by have := hlo _ e; omega)) hs (fun e => by have := Option.some.inj e; omega)
          b8 := heap_setCell_same W' (w.heap.size + 1) 0 _ _ lv' h8
          b9 := blk_kept' (blk_kept' h.b9 hg (fun e => by have := hlo _ e; omega)) hs (fun e => by have := Option.some.inj e; omega)
          b10 := blk_kept' (blk_kept' h.b10 hg (fun e => by have := hlo _ e; omega)) hs (fun e => by have := Option.some.inj e; omega)
          li := ho.kept hs (fun k hk e => by have := (ho.lt k hk).1; have := Option.some.inj e; omega)
          nx := (h.nx.kept hg (fun k hk e => by have := hlo k e; have := h.nlt k hk; omega)).kept hs (fun k hk e => by have := (h.nx.lt k hk).1; have := Option.some.inj e; omega)
          nlt := h.nlt
          gb := gb_trans (gb_trans h.gb hg (fun r e => .inr (by have := hlo _ e; omega))) hs (fun r e => .inr (by have := Option.some.inj e; omega))
          sz := by have := h.sz; have := hg.size; simp; omega
          pz := h.pz }
/-- the three stores of the return: nothing turns -/
theorem TV.again {w W : World} {p m : Nat} {ls : List Nat} {nx : List UInt8} {lv nv : Value} (h : TV w p m ls nx lv nv W) : TV w p m ls nx lv nv (((W.setCell ⟨w.heap.size + 1, 0, none⟩ lv).setCell ⟨w.heap.size + 1 + 1, 0, none⟩ nv).setCell ⟨w.heap.size + 1 + 1 + 1, 0, none⟩ (.int .i64 0)) := by
  have hp := h.pz
  have s1 : W.grownBy (W.setCell ⟨w.heap.size + 1, 0, none⟩ lv) (some (w.heap.size + 1)) := gb_setCell W ⟨w.heap.size + 1, 0, none⟩ lv
  have s2 : (W.setCell ⟨w.heap.size + 1, 0, none⟩ lv).grownBy ((W.setCell ⟨w.heap.size + 1, 0, none⟩ lv).setCell ⟨w.heap.size + 1 + 1, 0, none⟩ nv) (some (w.heap.size + 1 + 1)) := gb_setCell (W.setCell ⟨w.heap.size + 1, 0, none⟩ lv) ⟨w.heap.size + 1 + 1, 0, none⟩ nv
  have s3 : ((W.setCell ⟨w.heap.size + 1, 0, none⟩ lv).setCell ⟨w.heap.size + 1 + 1, 0, none⟩ nv).grownBy (((W.setCell ⟨w.heap.size + 1, 0, none⟩ lv).setCell ⟨w.heap.size + 1 + 1, 0, none⟩ nv).setCell ⟨w.heap.size + 1 + 1 + 1, 0, none⟩ (.int .i64 0)) (some (w.heap.size + 1 + 1 + 1)) := gb_setCell ((W.setCell ⟨w.heap.size + 1, 0, none⟩ lv).setCell ⟨w.heap.size + 1 + 1, 0, none⟩ nv) ⟨w.heap.size + 1 + 1 + 1, 0, none⟩ (.int .i64 0)
  exact { b7 := blk_kept' (blk_kept' (blk_kept' h.b7 s1 (fun e => by have := Option.some.inj e; omega)) s2 (fun e => by have := Option.some.inj e; omega)) s3 (fun e => by have := Option.some.inj e; omega)
          b8 := blk_kept' (blk_kept' (heap_setCell_same W (w.heap.size + 1) 0 _ _ lv h.b8) s2 (fun e => by have := Option.some.inj e; omega)) s3 (fun e => by have := Option.some.inj e; omega)
          b9 := blk_kept' (heap_setCell_same _ (w.heap.size + 1 + 1) 0 _ _ nv (blk_kept' h.b9 s1 (fun e => by have := Option.some.inj e; omega))) s3 (fun e => by have := Option.some.inj e; omega)
          b10 := heap_setCell_same _ (w.heap.size + 1 + 1 + 1) 0 _ _ (.int .i64 0) (blk_kept' (blk_kept' h.b10 s1 (fun e => by have := Option.some.inj e; omega)) s2 (fun e => by have := Option.some.inj e; omega))
          li := ((h.li.kept s1 (fun k hk e => by have := (h.li.lt k hk).1; have := Option.some.inj e; omega)).kept s2 (fun k hk e => by have := (h.li.lt k hk).1; have := Option.some.inj e; omega)).kept s3 (fun k hk e => by have := (h.li.lt k hk).1; have := Option.some.inj e; omega)
          nx := ((h.nx.kept s1 (fun k hk e => by have := (h.nx.lt k hk).1; have := Option.some.inj e; omega)).kept s2 (fun k hk e => by have := (h.nx.lt k hk).1; have := Option.some.inj e; omega)).kept s3 (fun k hk e => by have := (h.nx.lt k hk).1; have := Option.some.inj e; omega)
          nlt := h.nlt
          gb := gb_trans (gb_trans (gb_trans h.gb s1 (fun r e => .inr (by have := Option.some.inj e; omega))) s2 (fun r e => .inr (by have := Option.some.inj e; omega))) s3 (fun r e => .inr (by have := Option.some.inj e; omega))
          sz := by have := h.sz; simp; omega
          pz := h.pz }
/-- what the iterator needs: the old blocks, and its own boxes, stay -/
def KP (n p : Nat) (W W' : World) : Prop := W.heap.size ≤ W'.heap.size ∧ (∀ k, k < n → W'.heap[k]? = W.heap[k]?) ∧ ∀ k, p ≤ k → k < p + 4 → W'.heap[k]? = W.heap[k]?
theorem KP.refl (n p : Nat) (W : World) : KP n p W W := ⟨Nat.le_refl _, fun _ _ => rfl, fun _ _ _ => rfl⟩
theorem KP.trans {n p : Nat} {A B C : World} (h : KP n p A B) (k : KP n p B C) : KP n p A C := ⟨Nat.le_trans h.1 k.1, fun i hi => (k.2.1 i hi).trans (h.2.1 i hi), fun i h1 h2 => (k.2.2 i h1 h2).trans (h.2.2 i h1 h2)⟩
theorem KP.drew (n p : Nat) (W : World) : KP n p W W.drew := ⟨Nat.le_refl _, fun _ _ => rfl, fun _ _ _ => rfl⟩
theorem KP.put {n p l : Nat} {W : World} {o' : Obj} (h : p + 4 ≤ l) (hn : n ≤ p) : KP n p W (W.putObj l o') := ⟨by simp, fun k h1 => World.putObj_heap_other (by omega), fun k _ h1 => World.putObj_heap_other (by omega)⟩
theorem TV.fin {w W W' : World} {p m : Nat} {ls : List Nat} {nx : List UInt8} {lv nv : Value} (B : Nat) (h : TV w p m ls nx lv nv W) (hsz : W.heap.size ≤ W'.heap.size)
    (hk : ∀ k, k < W.heap.size → (k < w.heap.size + 1 ∨ w.heap.size + 1 + 1 + 1 < k) → nv.ownBlock ≠ some k → lv.ownBlock ≠ some k → W'.heap[k]? = W.heap[k]?) : KeepsFrom B W W' ∧ KP w.heap.size p W W' := by
  have hp := h.pz
  have hs := h.sz
  refine ⟨⟨hsz, fun j o _ hj ho => ?_⟩, hsz, fun k hlt => ?_, fun k h1 h2 => ?_⟩
  · rw [hk j (Array.getElem?_eq_some_iff.1 hj).1 ?_ (fun e => ?_) (fun e => ?_)]
    · exact hj
    · by_cases h8 : j = w.heap.size + 1
      · subst h8; rw [h.b8] at hj; cases hj; cases ho
      · by_cases h9 : j = w.heap.size + 1 + 1
        · subst h9; rw [h.b9] at hj; cases hj; cases ho
        · by_cases h10 : j = w.heap.size + 1 + 1 + 1
          · subst h10; rw [h.b10] at hj; cases hj; cases ho
          · omega
    · exact noncell_ne h.nx (row := some j) (fun r e => by cases e; exact ⟨o, hj, ho⟩) j e rfl
    · exact noncell_ne h.li (row := some j) (fun r e => by cases e; exact ⟨o, hj, ho⟩) j e rfl
  · exact hk k (by omega) (.inl (by omega)) (fun e => by have := (h.nx.lt k e).1; omega) (fun e => by have := (h.li.lt k e).1; omega)
  · exact hk k (by omega) (.inr (by omega)) (fun e => by have := h.nlt k e; omega) (fun e => by have := (h.li.lt k e).1; omega)
theorem TV.three {w W : World} {p m : Nat} {ls : List Nat} {nx : List UInt8} {lv nv : Value} (h : TV w p m ls nx lv nv W) :
    W.cell? ⟨w.heap.size + 1, 0, none⟩ = some lv ∧ W.frozen? ⟨w.heap.size + 1, 0, none⟩ = false ∧ W.cell? ⟨w.heap.size + 1 + 1, 0, none⟩ = some nv ∧ (W.setCell ⟨w.heap.size + 1, 0, none⟩ lv).cell? ⟨w.heap.size + 1 + 1, 0, none⟩ = some nv ∧ (W.setCell ⟨w.heap.size + 1, 0, none⟩ lv).frozen? ⟨w.heap.size + 1 + 1, 0, none⟩ = false ∧
      ((W.setCell ⟨w.heap.size + 1, 0, none⟩ lv).setCell ⟨w.heap.size + 1 + 1, 0, none⟩ nv).frozen? ⟨w.heap.size + 1 + 1 + 1, 0, none⟩ = false ∧ ((W.setCell ⟨w.heap.size + 1, 0, none⟩ lv).setCell ⟨w.heap.size + 1 + 1, 0, none⟩ nv).cell? ⟨w.heap.size + 1 + 1 + 1, 0, none⟩ = some (.int .i64 0) := by
  have s1 : W.grownBy (W.setCell ⟨w.heap.size + 1, 0, none⟩ lv) (some (w.heap.size + 1)) := gb_setCell W ⟨w.heap.size + 1, 0, none⟩ lv
  have s2 : (W.setCell ⟨w.heap.size + 1, 0, none⟩ lv).grownBy ((W.setCell ⟨w.heap.size + 1, 0, none⟩ lv).setCell ⟨w.heap.size + 1 + 1, 0, none⟩ nv) (some (w.heap.size + 1 + 1)) := gb_setCell (W.setCell ⟨w.heap.size + 1, 0, none⟩ lv) ⟨w.heap.size + 1 + 1, 0, none⟩ nv
  have h9 := blk_kept' h.b9 s1 (fun e => by have := Option.some.inj e; omega)
  have h10 := blk_kept' (blk_kept' h.b10 s1 (fun e => by have := Option.some.inj e; omega)) s2 (fun e => by have := Option.some.inj e; omega)
  exact ⟨cell_row h.b8, frozen_row h.b8, cell_row h.b9, cell_row h9, frozen_row h9, frozen_row h10, cell_row h10⟩
theorem body_keep {W w4 w5 W' : World} {n : Nat} {nvb lvb : Option Nat} {o : Obj} (hg4 : W.grownBy w4 nvb) (hg5 : (w4.alloc o).grownBy w5 lvb) (h6 : ∀ k, k < w5.heap.size → (k < n + 1 ∨ n + 1 + 1 + 1 < k) → W'.heap[k]? = w5.heap[k]?) :
    ∀ k, k < W.heap.size → (k < n + 1 ∨ n + 1 + 1 + 1 < k) → nvb ≠ some k → lvb ≠ some k → W'.heap[k]? = W.heap[k]? := by
  intro k h1 h2 h3 h4
  have hz := hg4.size
  have hz5 := hg5.size
  have ga := gb_alloc w4 o none
  have hza := ga.size
  rw [h6 k (by omega) h2, hg5.block k (by omega) (fun e => h4 e.symm), ga.block k (by omega) (by simp), hg4.block k h1 (fun e => h3 e.symm)]
/-- append of one integer, inside a fence -/
theorem app_intIn {F : Fence} {n : Nat} {ops : Array Oper} {rest : List Oper} {o : Oper} {a : Act} {w : World} {Q : Exit → Act → World → Prop} (hgd : o.guard = none) (s x : Operand)
    (ho : o.op = .call { callee := .builtin .append, args := #[s, x], argTypes := #[40, 40] })
    (B : Nat) (v : Value) (zs : List Int) (z : Int) (g : Nat) (hs : a.eval s = v) (hx : a.eval x = .slice (some ⟨g, 0, none⟩) 1 1) (hown : OwnI w B v zs) (hg : w.cell? ⟨g, 0, none⟩ = some (.int .i64 z)) (hB : B ≤ w.heap.size) (hb : zs.length ≤ 10000000)
    (h : ∀ v' w', OwnI w' B v' (zs ++ [z]) → w.grownBy w' v.ownBlock → wpListIn F n Try.prog ops Q rest (a.put o.dst v') w') : wpListIn F n Try.prog ops Q (o :: rest) a w := by
  obtain ⟨i0, hi, hz0, hz1, hz2⟩ := info_parts info_int
  refine wpListIn_append_own w hgd s x 40 ho B _ i0 (.int .i64 0) 1 8 Try.underlying40 hi hz0 hz1 hz2 rfl (by decide) v zs.length (ivs zs) hs hown ⟨g, 0, none⟩ 1 1 [.int .i64 z] hx rfl (fun j u hu => by
    cases j with
    | zero => simp at hu; subst hu; rw [addr_add]; exact hg
    | succ j => simp at hu) (by simp; rfl) (by simp only [maxLen]; omega) (by omega) hB ?_
  intro v' w' h1 h2 _
  refine h v' w' ?_ h2
  unfold OwnI
  simpa [ivs] using h1
end Go.Proofs.Ytpfeaeklenopdaa
