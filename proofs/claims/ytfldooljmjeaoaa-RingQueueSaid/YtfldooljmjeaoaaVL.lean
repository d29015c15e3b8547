/-
  lists of integers; the comparisons.
-/
import Derived.Test.YtfldooljmjeaoaaVTq
import Derived.ChangeKeysEq
namespace Go.Proofs.Ytfldooljmjeaoaa
open Go.RowKit Go.Shelf

abbrev msgV (a1 a2 a3 a4 a5 a6 a7 a8 : Int) (v : Value) : Value := .agg #[.int .i64 a1, .int .i64 a2, .int .i64 a3, .int .i64 a4, .int .i64 a5, .int .i64 a6, .int .i64 a7, .int .i64 a8, v]
abbrev entV (a1 a2 a3 a4 a5 a6 a7 : Int) (v : Value) : Value := .agg #[.int .i64 a1, .int .i64 a2, .int .i64 a3, .int .i64 a4, .int .i64 a5, .int .i64 a6, .int .i64 a7, v]

theorem info3 : (Try.prog.info? 3).map (fun i => (i.zero, i.size, i.bytes)) = some (some (.int .i64 0), 1, 8) := by kernel_rfl
theorem cells3 : Try.prog.cellsOf 3 = 1 := by kernel_rfl
theorem part_int (cs : Array Value) (j : Nat) (a : Int) (w : World) (h : cs[j]? = some (.int .i64 a)) : (part 3 cs j).run Try.prog w = .ok (.int .i64 a) w := by
  simp [part, isAgg, run_underlying Try.underlying3, h]
theorem arr_eq_aux (d : Nat) (cs : Array Value) (w : World) : ∀ (is : List Nat), (∀ i ∈ is, ∃ a, cs[i]? = some (.int .i64 a)) → (Op.eqItems (d + 1) 3 1 cs cs is).run Try.prog w = .ok true w := by
  intro is
  induction is with
  | nil => intro _; simp [Op.eqItems]
  | cons i is ih =>
    intro h
    obtain ⟨a, ha⟩ := h i (by simp)
    have hp := part_int cs i a w ha
    have he := run_equalIn_int (P := Try.prog) w d 3 .i64 .i64 a a Try.underlying3
    simp only [Op.eqItems, Nat.mul_one, Sem.run_bind, hp, he, Result.andThen_ok, beq_self_eq_true, Bool.not_true, Bool.false_eq_true, if_false]
    exact ih (fun j hj => h j (by simp [hj]))
theorem arr4_aux (k : Nat) (a b c d : Int) (w : World) : (Op.equalIn (k + 2) 37 (.agg #[.int .i64 a, .int .i64 b, .int .i64 c, .int .i64 d]) (.agg #[.int .i64 a, .int .i64 b, .int .i64 c, .int .i64 d])).run Try.prog w = .ok true w := by
  obtain ⟨i0, hi, _⟩ := info_parts info3
  rw [run_equalIn_array w (k + 1) _ _ Try.underlying37 hi, cells3]
  exact arr_eq_aux k _ w _ (by intro i hi; simp at hi; rcases (show i = 0 ∨ i = 1 ∨ i = 2 ∨ i = 3 by omega) with rfl | rfl | rfl | rfl <;> exact ⟨_, rfl⟩)
theorem arr4_eq (a b c d : Int) (w : World) : (Op.equalIn 10000 37 (.agg #[.int .i64 a, .int .i64 b, .int .i64 c, .int .i64 d]) (.agg #[.int .i64 a, .int .i64 b, .int .i64 c, .int .i64 d])).run Try.prog w = .ok true w := arr4_aux 9998 a b c d w
set_option maxRecDepth 100000 in
set_option maxHeartbeats 400000 in
theorem sameMsg_true (a1 a2 a3 a4 a5 a6 a7 a8 : Int) (va vb : Value) (l : List UInt8) (w : World) (ha : Rd w va l) (hb : Rd w vb l) :
    Calls Try.prog 14 #[msgV a1 a2 a3 a4 a5 a6 a7 a8 va, msgV a1 a2 a3 a4 a5 a6 a7 a8 vb] w fun e w' => e = .returned (.bool true) ∧ w.grownBy w' none := by
  have HC := Lib.hid (fun W (hg : w.grownBy W none) => same_g va vb W l (ha.grown hg) (hb.grown hg))
  have h4 := arr4_eq a5 a6 a7 a8
  clear ha hb
  go_enter Try.func14, Try.ntmps14
  go_wp2_with (go_at_call 20; refine (HC.out _ (gb_of_below (by go_grown))).mono ?_; rintro e w1 ⟨rfl, hg1⟩)
  go_ret
  exact ⟨rfl, gb_same (gb_of_below (by go_grown)) hg1⟩


def rdN (one : Nat → Option (Value × Nat)) : Nat → Nat → Option (List Value × Nat)
  | 0, q => some ([], q)
  | n + 1, q => match one q with
    | none => none
    | some (x, q') => (rdN one n q').map fun r => (x :: r.1, r.2)
def rdList (one : Nat → Option (Value × Nat)) (most : Int) (bs : List UInt8) (p : Nat) : Option (List Value × Nat) :=
  match rdBounded 0 most bs p with
  | none => none
  | some (n, q) => rdN one n.toNat q

/-- append of one element of one cell to an owned row -/
theorem app_one {ops : Array Oper} {rest : List Oper} {o : Oper} {a : Act} {w : World} {Q : Exit → Act → World → Prop} (hgd : o.guard = none) (s x : Operand) (t e : TypeId)
    (ho : o.op = .call { callee := .builtin .append, args := #[s, x], argTypes := #[t, t] })
    (i : TypeInfo) (z : Value) (bytes : Nat) (ht : Try.prog.underlying t = some (.slice e)) (hi : Try.prog.info? e = some i) (hz : i.zero = some z) (hsize : i.size = 1) (hby : i.bytes = bytes) (hzs : z.cells.size = 1)
    (B : Nat) (v : Value) (xs : List Value) (g : Nat) (u : Value) (hs : a.eval s = v) (hx : a.eval x = .slice (some ⟨g, 0, none⟩) 1 1) (hown : w.ownsRow B e 1 v xs.length xs) (hu : w.cell? ⟨g, 0, none⟩ = some u) (h1 : u.oneCell' = true)
    (hB : B ≤ w.heap.size) (hm : xs.length + 1 ≤ maxLen) (hb : (xs.length + 1) * bytes ≤ 140737488355328)
    (h : ∀ v' w', w'.ownsRow B e 1 v' (xs ++ [u]).length (xs ++ [u]) → w.grownBy w' v.ownBlock → Fr w v v' → wpList Try.prog ops Q rest (a.put o.dst v') w') : wpList Try.prog ops Q (o :: rest) a w := by
  obtain ⟨v', w', hr, h2, h3, h4⟩ := run_append_own2 (P := Try.prog) w B t o.type e i z 1 bytes ht hi hz hsize hby hzs (by decide) v xs.length xs hown ⟨g, 0, none⟩ 1 1 [u] rfl (fun j y hj => by
    cases j with
    | zero => simp at hj; subst hj; rw [addr_add]; exact hu
    | succ j => simp at hj) (fun y hy => by simp at hy; subst hy; exact h1) hm hb hB
  refine wpList_plain hgd fun _ hK => ?_
  unfold Oper.wp execOp
  simp only [ho, resolve, invoke, builtin, Sem.run_bind, Sem.run_pure, Result.andThen_ok, List.map_toArray, List.map_cons, List.map_nil, hs, hx, hr]
  exact hK _ _ (h v' w' (by simpa using h2) h3 h4)

theorem info9 : (Try.prog.info? 9).map (fun i => (i.zero, i.size, i.bytes)) = some (some (.string ⟨#[]⟩), 1, 16) := by kernel_rfl

def LInv (w : World) (b : Nat) (sl : Value) (bs : List UInt8) (e : TypeId) (one : Nat → Option (Value × Nat)) (n : Nat) (R : Option (List Value × Nat)) (l k : Value) (wr : World) : Prop :=
  ∃ (i : Nat) (xs : List Value) (q : Nat) (a : Option Addr) (c : Nat), k = .int .i64 (i : Int) ∧ l = .slice a i c ∧ i ≤ n ∧ i ≤ q ∧ xs.length = i ∧ wr.ownsRow w.heap.size e 1 l xs.length xs ∧ IsR wr b sl bs q false ∧ w.grownBy wr (some b) ∧
    R = (rdN one (n - i) q).map fun r => (xs ++ r.1, r.2)

theorem rdN_step {one : Nat → Option (Value × Nat)} {n i q : Nat} (h : i < n) : rdN one (n - i) q = match one q with
    | none => none
    | some (x, q') => (rdN one (n - (i + 1)) q').map fun r => (x :: r.1, r.2) := by
  rw [show n - i = (n - (i + 1)) + 1 by omega]
  rfl

theorem own_kept {w w' : World} {base : Nat} {e : TypeId} {v : Value} {n b : Nat} {xs : List Value} (h : w.ownsRow base e 1 v n xs) (hg : w.grownBy w' (some b)) (hb : b < base) : w'.ownsRow base e 1 v n xs :=
  h.kept hg (by cases hv : v.ownBlock with
    | none => exact .inl rfl
    | some k => exact .inr (fun e => by have := (h.lt k hv).1; simp at e; omega))
theorem own_mono {w : World} {B B' : Nat} {e : TypeId} {v : Value} {n : Nat} {xs : List Value} (h : w.ownsRow B e 1 v n xs) (hb : B' ≤ B) : w.ownsRow B' e 1 v n xs := by
  obtain ⟨h1, h2⟩ := h
  refine ⟨h1, ?_⟩
  rcases h2 with h2 | ⟨g, cap, cur, e, h3, h4⟩
  · exact .inl h2
  · exact .inr ⟨g, cap, cur, e, by omega, h4⟩
theorem gb_row {w w1 w2 : World} {b base : Nat} {e : TypeId} {v : Value} {n : Nat} {xs : List Value} (h : w.grownBy w1 (some b)) (ho : w1.ownsRow base e 1 v n xs) (k : w1.grownBy w2 v.ownBlock) (hb : w.heap.size ≤ base) : w.grownBy w2 (some b) :=
  gb_trans h k (fun j hj => .inr (by have := (ho.lt j hj).1; omega))

theorem IsR.far {w w' : World} {b : Nat} {sl : Value} {bs : List UInt8} {p : Nat} {f : Bool} {row : Option Nat} {N : Nat} (h : IsR w b sl bs p f) (h0 : b < N) (hs : bs ≠ [] → ∀ k, sl.ownBlock = some k → k < N)
    (hg : w.grownBy w' row) (hr : ∀ k, row = some k → N ≤ k) : IsR w' b sl bs p f := by
  refine ⟨?_, ?_, h.ne, h.le, h.sm⟩
  · rw [hg.block b h.lt (fun e => by have := hr b e.symm; omega)]; exact h.blk
  · rcases h.rd with h1 | ⟨g, off, cap, rfl, h1, h2, h3⟩
    · exact .inl h1
    · refine .inr ⟨g, off, cap, rfl, h1, h2, fun j x hj => ?_⟩
      refine hg.cell (h3 j x hj) (fun e => ?_)
      have h5 := hs (by rintro rfl; simp at hj) g rfl
      have h6 := hr g e.symm
      omega

theorem own_slice {w : World} {B : Nat} {e : TypeId} {v : Value} {n : Nat} {xs : List Value} (h : w.ownsRow B e 1 v n xs) : ∃ a c, v = .slice a n c := by
  rcases h.2 with ⟨rfl, rfl⟩ | ⟨g, cap, cur, rfl, _⟩
  · exact ⟨none, 0, rfl⟩
  · exact ⟨_, _, rfl⟩

theorem rdBounded_le {least most : Int} {bs : List UInt8} {p : Nat} {n : Int} {q : Nat} (hp : p ≤ bs.length) (h : rdBounded least most bs p = some (n, q)) : p < q ∧ q ≤ bs.length := by
  unfold rdBounded at h
  split at h
  · cases h
  · rename_i n' q' hr
    split at h
    · cases h
    · simp only [Option.some.injEq, Prod.mk.injEq] at h
      have := rdInt_le hp hr
      omega
theorem rdBytes_le {most : Int} {bs : List UInt8} {p : Nat} {l : List UInt8} {q : Nat} (hp : p ≤ bs.length) (h : rdBytes most bs p = some (l, q)) : p < q ∧ q ≤ bs.length := by
  unfold rdBytes at h
  split at h
  · cases h
  · rename_i n' q' hr
    have := rdBounded_le hp hr
    split at h
    · cases h
    · simp only [Option.some.injEq, Prod.mk.injEq] at h
      omega

def oneInt (bs : List UInt8) (q : Nat) : Option (Value × Nat) := intO (rdInt bs q)
def oneStr (bs : List UInt8) (q : Nat) : Option (Value × Nat) := strO (rdBytes 9223372036854775807 bs q)
theorem oneInt_q (bs : List UInt8) : ∀ q x q', q ≤ bs.length → oneInt bs q = some (x, q') → q < q' ∧ ∃ y, x = .int .i64 y := by
  intro q x q' hq h
  unfold oneInt intO at h
  cases hr : rdInt bs q with
  | none => simp [hr] at h
  | some r =>
    simp only [hr, Option.map_some, Option.some.injEq, Prod.mk.injEq] at h
    obtain ⟨rfl, rfl⟩ := h
    exact ⟨(rdInt_le (v := r.1) (q := r.2) hq hr).1, _, rfl⟩
theorem oneStr_q (bs : List UInt8) : ∀ q x q', q ≤ bs.length → oneStr bs q = some (x, q') → q < q' ∧ ∃ y, x = .string y := by
  intro q x q' hq h
  unfold oneStr strO at h
  cases hr : rdBytes 9223372036854775807 bs q with
  | none => simp [hr] at h
  | some r =>
    simp only [hr, Option.map_some, Option.some.injEq, Prod.mk.injEq] at h
    obtain ⟨rfl, rfl⟩ := h
    exact ⟨(rdBytes_le (l := r.1) (q := r.2) hq hr).1, _, rfl⟩
end Go.Proofs.Ytfldooljmjeaoaa
