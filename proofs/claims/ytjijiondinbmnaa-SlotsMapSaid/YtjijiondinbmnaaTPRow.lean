/-
  Rows of pairs in memory: of the call's own, and readable ones.
-/
import Derived.Test.YtjijiondinbmnaaTPair
import Derived.Test.YtjijiondinbmnaaHeld
namespace Go.Proofs.Ytjijiondinbmnaa
open Go.RowKit

def rowP (p : PT) : List Value := [.int .i64 p.1, .int .i64 p.2]
def cellsP (l : List PT) : List Value := l.flatMap rowP
theorem cellsP_len (l : List PT) : (cellsP l).length = l.length * 2 := by
  induction l with
  | nil => rfl
  | cons p ps ih => simp only [cellsP, List.flatMap_cons, List.length_append, List.length_cons] at ih ⊢; rw [ih]; simp [rowP]; omega
theorem cellsP_get (d : Nat) (hd : d < 2) : ∀ (l : List PT) {i : Nat} {p : PT}, l[i]? = some p → (cellsP l)[i * 2 + d]? = (rowP p)[d]?
  | [], i, p, h => by simp at h
  | q :: ps, 0, p, h => by
    simp at h; subst h
    rw [Nat.zero_mul, Nat.zero_add]
    exact List.getElem?_append_left (by simp [rowP]; omega)
  | q :: ps, i + 1, p, h => by
    have := cellsP_get d hd ps (i := i) (p := p) (by simpa using h)
    rw [show (i + 1) * 2 + d = (i * 2 + d) + 2 by omega]
    exact this
theorem cellsP_append (l m : List PT) : cellsP (l ++ m) = cellsP l ++ cellsP m := by simp [cellsP]
theorem cellsP_take : ∀ (l : List PT) (m : Nat), cellsP (l.take m) = (cellsP l).take (m * 2)
  | [], m => by simp [cellsP]
  | p :: ps, 0 => by simp [cellsP]
  | p :: ps, m + 1 => by
    have e : cellsP (p :: ps) = rowP p ++ cellsP ps := by simp [cellsP]
    have e2 : cellsP (p :: ps.take m) = rowP p ++ cellsP (ps.take m) := by simp [cellsP]
    rw [List.take_succ_cons, e, e2, cellsP_take ps m, show (m + 1) * 2 = 2 + m * 2 by omega]
    simp [rowP, List.take_succ_cons, Nat.add_comm 2]
theorem cellsP_drop : ∀ (l : List PT) (m : Nat), cellsP (l.drop m) = (cellsP l).drop (m * 2)
  | [], m => by simp [cellsP]
  | p :: ps, 0 => by simp
  | p :: ps, m + 1 => by
    have e : cellsP (p :: ps) = rowP p ++ cellsP ps := by simp [cellsP]
    rw [List.drop_succ_cons, e, cellsP_drop ps m, show (m + 1) * 2 = 2 + m * 2 by omega]
    rw [List.drop_append]
    simp [rowP]
theorem cellsP_set : ∀ (l : List PT) {i : Nat} {p : PT} (x : Int), l[i]? = some p → (cellsP l).set (i * 2 + 1) (.int .i64 x) = cellsP (l.set i (p.1, x))
  | [], i, p, x, h => by simp at h
  | q :: ps, 0, p, x, h => by
    simp at h; subst h
    simp [cellsP, rowP]
  | q :: ps, i + 1, p, x, h => by
    have := cellsP_set ps (i := i) (p := p) x (by simpa using h)
    rw [show (i + 1) * 2 + 1 = (i * 2 + 1) + 2 by omega]
    have e : cellsP (q :: ps) = rowP q ++ cellsP ps := by simp [cellsP]
    have e2 : cellsP ((q :: ps).set (i + 1) (p.1, x)) = rowP q ++ cellsP (ps.set i (p.1, x)) := by simp [cellsP]
    rw [e, e2, ← this, List.set_append_right _ _ (by simp [rowP])]
    simp [rowP]
theorem cellsP_one (l : List PT) : ∀ u ∈ cellsP l, u.oneCell' = true := by
  intro u hu
  simp only [cellsP, List.mem_flatMap] at hu
  obtain ⟨p, hp, hu⟩ := hu
  simp [rowP] at hu
  rcases hu with rfl | rfl <;> rfl

def MRow (w : World) (B : Nat) (v : Value) (m : List PT) : Prop := w.ownsRow B 58 2 v m.length (cellsP m)
theorem MRow.nil (w : World) (B : Nat) : MRow w B (.slice none 0 0) [] := World.ownsRow_nil w B _ 2
theorem MRow.kept {w w' : World} {B : Nat} {v : Value} {m : List PT} {row : Option Nat} (h : MRow w B v m) (hg : w.grownBy w' row) (hne : ∀ k, v.ownBlock = some k → row ≠ some k) : MRow w' B v m :=
  World.ownsRow.kept h hg (by cases hv : v.ownBlock with
    | none => exact .inl rfl
    | some k => exact .inr (fun e => hne k hv e.symm))
theorem MRow.grown {w w' : World} {B : Nat} {v : Value} {m : List PT} (h : MRow w B v m) (hg : w.grownBy w' none) : MRow w' B v m := h.kept hg (by simp)
theorem MRow.len {w : World} {B : Nat} {v : Value} {m : List PT} (h : MRow w B v m) : ∃ a c, v = .slice a m.length c ∧ m.length ≤ c ∧ c ≤ maxLen := by
  rcases h.2 with ⟨rfl, h2⟩ | ⟨g, cap, cur, rfl, _, _, h1, h2, _⟩
  · exact ⟨none, 0, by rw [h2], by omega, by simp⟩
  · exact ⟨_, _, rfl, h1, h2⟩
theorem MRow.at {w : World} {B : Nat} {a : Option Addr} {n c : Nat} {m : List PT} (h : MRow w B (.slice a n c) m) {i : Nat} {p : PT} (hi : m[i]? = some p) :
    ∃ gb, a = some ⟨gb, 0, none⟩ ∧ w.cell? ⟨gb, i * 2, none⟩ = some (.int .i64 p.1) ∧ w.cell? ⟨gb, i * 2 + 1, none⟩ = some (.int .i64 p.2) ∧ w.frozen? ⟨gb, i * 2 + 1, none⟩ = false ∧ B ≤ gb := by
  have hlt : i < m.length := (List.getElem?_eq_some_iff.1 hi).1
  have h0 := h
  rcases h.2 with ⟨_, h2⟩ | ⟨g, cap, cur, e, hB, _⟩
  · omega
  · cases e
    refine ⟨g, rfl, ?_, ?_, World.ownsRow.frozenAt h0 _, hB⟩
    · rw [World.ownsRow.cellAt h0 _ (by omega)]; exact cellsP_get 0 (by omega) m hi
    · rw [World.ownsRow.cellAt h0 _ (by omega)]; exact cellsP_get 1 (by omega) m hi
theorem MRow.set {w : World} {B gb n c : Nat} {m : List PT} (h : MRow w B (.slice (some ⟨gb, 0, none⟩) n c) m) (hn : n = m.length) {i : Nat} {p : PT} (x : Int) (hi : m[i]? = some p) :
    MRow (w.setCell ⟨gb, i * 2 + 1, none⟩ (.int .i64 x)) B (.slice (some ⟨gb, 0, none⟩) n c) (m.set i (p.1, x)) := by
  subst hn
  have := (World.ownsRow.stored h (i * 2 + 1) (.int .i64 x)).1
  rw [cellsP_set m x hi] at this
  unfold MRow
  rw [List.length_set]
  exact this
/-- pairs that can be read -/
def RdP (w : World) (v : Value) (m : List PT) : Prop :=
  (v = .slice none 0 0 ∧ m = []) ∨ ∃ b off cap, v = .slice (some ⟨b, off, none⟩) m.length cap ∧ ∀ (j : Nat) (c : Value), (cellsP m)[j]? = some c → w.cell? ⟨b, off + j, none⟩ = some c
theorem RdP.kept {w w' : World} {v : Value} {m : List PT} {row : Option Nat} (h : RdP w v m) (hg : w.grownBy w' row) (hne : m ≠ [] → ∀ k, v.ownBlock = some k → row ≠ some k) : RdP w' v m := by
  rcases h with h1 | ⟨b, off, cap, rfl, h3⟩
  · exact .inl h1
  · exact .inr ⟨b, off, cap, rfl, fun j c hj => hg.cell (h3 j c hj) (fun e => hne (by rintro rfl; simp [cellsP] at hj) b rfl e.symm)⟩
theorem MRow.rd {w : World} {B : Nat} {v : Value} {m : List PT} (h : MRow w B v m) : RdP w v m := by
  have h0 := h
  rcases h.2 with ⟨rfl, h2⟩ | ⟨g, cap, cur, rfl, hB, _⟩
  · exact .inl ⟨rfl, List.eq_nil_of_length_eq_zero h2⟩
  · refine .inr ⟨g, 0, cap, rfl, fun j c hj => ?_⟩
    have := World.ownsRow.cells h0 (g := g) rfl j c hj
    rwa [addr_add] at this
theorem RdP.take {w : World} {b off n c : Nat} {m : List PT} (h : RdP w (.slice (some ⟨b, off, none⟩) n c) m) {k : Nat} (hk : k ≤ m.length) : RdP w (.slice (some ⟨b, off, none⟩) k c) (m.take k) := by
  rcases h with ⟨h0, _⟩ | ⟨b', off', cap, h0, h3⟩
  · cases h0
  · cases h0
    refine .inr ⟨b, off, c, by rw [List.length_take, Nat.min_eq_left hk], fun j x hj => h3 j x ?_⟩
    rw [cellsP_take, List.getElem?_take] at hj
    split at hj
    · exact hj
    · cases hj
theorem RdP.drop {w : World} {b off n c : Nat} {m : List PT} (h : RdP w (.slice (some ⟨b, off, none⟩) n c) m) (hn : n = m.length) {k : Nat} :
    RdP w (.slice (some ⟨b, off + k * 2, none⟩) (n - k) (c - k)) (m.drop k) ∧ (m.length ≤ k → RdP w (.slice (some ⟨b, off, none⟩) (n - k) (c - k)) (m.drop k)) := by
  subst hn
  rcases h with ⟨h0, _⟩ | ⟨b', off', cap, h0, h3⟩
  · cases h0
  · cases h0
    refine ⟨.inr ⟨b, off + k * 2, c - k, by rw [List.length_drop], fun j x hj => ?_⟩, fun e => .inr ⟨b, off, c - k, by rw [List.length_drop], fun j x hj => ?_⟩⟩
    · rw [cellsP_drop, List.getElem?_drop] at hj
      rw [Nat.add_assoc]
      exact h3 _ _ hj
    · rw [List.drop_eq_nil_of_le e] at hj
      simp [cellsP] at hj
theorem info_pair : (Try.prog.info? 58).map (fun i => (i.zero, i.size, i.bytes)) = some (some (.agg #[.int .i64 0, .int .i64 0]), 2, 16) := by kernel_rfl
theorem MRow.app {w : World} {B : Nat} {v sv : Value} {m q : List PT} (h : MRow w B v m) (hs : RdP w sv q) (hn : m.length + q.length ≤ 1000000) (hB : B ≤ w.heap.size) (ty : TypeId) :
    ∃ v' w', (Builtin.append_ #[56, 56] ty #[v, sv]).run Try.prog w = .ok v' w' ∧ MRow w' B v' (m ++ q) ∧ w.grownBy w' v.ownBlock ∧ Fr w v v' := by
  obtain ⟨i0, hi, hz0, hz1, hz2⟩ := info_parts info_pair
  rcases hs with ⟨rfl, rfl⟩ | ⟨b, off, cap, rfl, h3⟩
  · exact ⟨v, w, run_append_owned_none (P := Try.prog) w B _ ty _ i0 2 Try.underlying56 hi v _ _ h, by simpa using h, gb_refl _ _, Fr.refl _ _⟩
  · obtain ⟨v', w', hr, ho, hgr, hf⟩ := run_append_own2 (P := Try.prog) w B 56 ty _ i0 _ 2 16 Try.underlying56 hi hz0 hz1 hz2 rfl (by decide) v m.length (cellsP m) h
      ⟨b, off, none⟩ q.length cap (cellsP q) (cellsP_len q) (fun j u hu => by rw [addr_add]; exact h3 j u hu) (cellsP_one q) (by simp only [maxLen]; omega) (by omega) hB
    refine ⟨v', w', hr, ?_, hgr, hf⟩
    unfold MRow
    rw [List.length_append, cellsP_append]
    exact ho
theorem RdP.one {w : World} {g : Nat} {p : PT} {T : TypeId} (hg : w.heap[g]? = some (.cells #[.int .i64 p.1, .int .i64 p.2] T (0, 0))) : RdP w (.slice (some ⟨g, 0, none⟩) 1 1) [p] :=
  .inr ⟨g, 0, 1, rfl, fun j c hj => by
    rw [Nat.zero_add, cell_row hg]
    simpa [cellsP, rowP] using hj⟩
theorem app_pairs_op {o : Oper} {a : Act} {w : World} {K : Act → World → Prop} {Q : Exit → Act → World → Prop} (s y : Operand)
    (ho : o.op = .call { callee := .builtin .append, args := #[s, y], argTypes := #[56, 56] }) (B : Nat) (v sv : Value) (m q : List PT) (hs : a.eval s = v) (hy : a.eval y = sv) (h : MRow w B v m) (hr : RdP w sv q)
    (hn : m.length + q.length ≤ 1000000) (hB : B ≤ w.heap.size)
    (hK : ∀ v' w', MRow w' B v' (m ++ q) → w.grownBy w' v.ownBlock → Fr w v v' → K (a.put o.dst v') w') : Oper.wp Try.prog o a w K Q := by
  obtain ⟨v', w', hr', h2, h3, h4⟩ := h.app hr hn hB o.type
  unfold Oper.wp execOp
  simp only [ho, resolve, invoke, builtin, Sem.run_bind, Sem.run_pure, Result.andThen_ok, List.map_toArray, List.map_cons, List.map_nil, hs, hy, hr']
  exact hK v' w' h2 h3 h4
theorem app_pair {ops : Array Oper} {rest : List Oper} {o : Oper} {a : Act} {w : World} {Q : Exit → Act → World → Prop} (hgd : o.guard = none) (s y : Operand)
    (ho : o.op = .call { callee := .builtin .append, args := #[s, y], argTypes := #[56, 56] }) (B : Nat) (v sv : Value) (m q : List PT) (hs : a.eval s = v) (hy : a.eval y = sv) (h : MRow w B v m) (hr : RdP w sv q)
    (hn : m.length + q.length ≤ 1000000) (hB : B ≤ w.heap.size)
    (hK : ∀ v' w', MRow w' B v' (m ++ q) → w.grownBy w' v.ownBlock → Fr w v v' → wpList Try.prog ops Q rest (a.put o.dst v') w') : wpList Try.prog ops Q (o :: rest) a w := by
  refine wpList_plain hgd fun _ hK2 => ?_
  exact app_pairs_op s y ho B v sv m q hs hy h hr hn hB (fun v' w' h1 h2 h3 => hK2 _ _ (hK v' w' h1 h2 h3))
theorem MRow.lit0 (w : World) (B : Nat) (hB : B ≤ w.heap.size) : MRow (w.alloc (.cells #[] 58)) B (.slice (some ⟨w.heap.size, 0, none⟩) 0 0) [] := by
  have := World.ownsRow_lit (e := 58) (size := 2) w #[] 0 hB (by simp) rfl
  exact this
end Go.Proofs.Ytjijiondinbmnaa
