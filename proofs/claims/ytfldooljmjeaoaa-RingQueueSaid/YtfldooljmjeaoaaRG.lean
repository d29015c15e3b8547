/-
  Messages in memory: rows of the call's own, readable ones, and queues of messages.
-/
import Derived.Test.YtfldooljmjeaoaaRdW
import Derived.Test.YtfldooljmjeaoaaHeld
import Derived.Deep.RegionHeld
namespace Go.Proofs.Ytfldooljmjeaoaa
open Go.RowKit Go.Shelf

/-- a message: its numbers and its data -/
structure Mg where
  s : Int
  d : Int
  k : Int
  q : Int
  a : Int
  b : Int
  c : Int
  e : Int
  z : List UInt8
abbrev GP := Mg × Value
def Mg.row (m : Mg) (v : Value) : Array Value := #[.int .i64 m.s, .int .i64 m.d, .int .i64 m.k, .int .i64 m.q, .int .i64 m.a, .int .i64 m.b, .int .i64 m.c, .int .i64 m.e, v]
def rowG (p : GP) : List Value := [.int .i64 p.1.s, .int .i64 p.1.d, .int .i64 p.1.k, .int .i64 p.1.q, .int .i64 p.1.a, .int .i64 p.1.b, .int .i64 p.1.c, .int .i64 p.1.e, p.2]
def zMg : Mg := ⟨0, 0, 0, 0, 0, 0, 0, 0, []⟩
def cellsG (ps : List GP) : List Value := ps.flatMap rowG
theorem cellsG_len (ps : List GP) : (cellsG ps).length = ps.length * 9 := by
  induction ps with
  | nil => rfl
  | cons p ps ih => simp only [cellsG, List.flatMap_cons, List.length_append, List.length_cons] at ih ⊢; rw [ih]; simp [rowG]; omega
theorem cellsG_get (d : Nat) (hd : d < 9) : ∀ (ps : List GP) {i : Nat} {p : GP}, ps[i]? = some p → (cellsG ps)[i * 9 + d]? = (rowG p)[d]?
  | [], i, p, h => by simp at h
  | q :: ps, 0, p, h => by
    simp at h; subst h
    rw [Nat.zero_mul, Nat.zero_add]
    exact List.getElem?_append_left (by simp [rowG]; omega)
  | q :: ps, i + 1, p, h => by
    have := cellsG_get d hd ps (i := i) (p := p) (by simpa using h)
    rw [show (i + 1) * 9 + d = (i * 9 + d) + 9 by omega]
    exact this
theorem cellsG_append (ps qs : List GP) : cellsG (ps ++ qs) = cellsG ps ++ cellsG qs := by simp [cellsG]
theorem cellsG_take (ps : List GP) (m : Nat) : cellsG (ps.take m) = (cellsG ps).take (m * 9) := by
  induction ps generalizing m with
  | nil => simp [cellsG]
  | cons p ps ih =>
    cases m with
    | zero => simp [cellsG]
    | succ m =>
      have e : cellsG (p :: ps) = rowG p ++ cellsG ps := by simp [cellsG]
      have e2 : cellsG (p :: ps.take m) = rowG p ++ cellsG (ps.take m) := by simp [cellsG]
      rw [List.take_succ_cons, e, e2, ih, show (m + 1) * 9 = 9 + m * 9 by omega, List.take_append, List.take_of_length_le (show (rowG p).length ≤ 9 + m * 9 by simp [rowG]), show (rowG p).length = 9 from rfl, Nat.add_sub_cancel_left]
theorem cellsG_drop : ∀ (ps : List GP) (m : Nat), cellsG (ps.drop m) = (cellsG ps).drop (m * 9)
  | [], m => by simp [cellsG]
  | p :: ps, 0 => by simp
  | p :: ps, m + 1 => by
    have e : cellsG (p :: ps) = rowG p ++ cellsG ps := by simp [cellsG]
    rw [List.drop_succ_cons, e, cellsG_drop ps m, show (m + 1) * 9 = 9 + m * 9 by omega]
    rw [List.drop_append]
    simp [rowG]
theorem cellsG_one (ps : List GP) (h : ∀ p ∈ ps, p.2.oneCell' = true) : ∀ u ∈ cellsG ps, u.oneCell' = true := by
  intro u hu
  simp only [cellsG, List.mem_flatMap] at hu
  obtain ⟨p, hp, hu⟩ := hu
  simp [rowG] at hu
  rcases hu with rfl | rfl | rfl | rfl | rfl | rfl | rfl | rfl | rfl <;> first | rfl | exact h p hp
theorem info_msg : (Try.prog.info? 39).map (fun i => (i.zero, i.size, i.bytes)) = some (some (.agg #[.int .i64 0, .int .i64 0, .int .i64 0, .int .i64 0, .int .i64 0, .int .i64 0, .int .i64 0, .int .i64 0, .slice none 0 0]), 9, 88) := by kernel_rfl
theorem msize : (Try.prog.info? 39).map (·.size) = some 9 := by kernel_rfl

/-- a row of messages of the call's own, in a block from B on -/
def GRow (w : World) (B : Nat) (v : Value) (ps : List GP) : Prop := w.ownsRow B 39 9 v ps.length (cellsG ps)
theorem GRow.slice {w : World} {B : Nat} {v : Value} {ps : List GP} (h : GRow w B v ps) : ∃ a c, v = .slice a ps.length c ∧ ps.length ≤ c ∧ c ≤ maxLen := by
  rcases h.2 with ⟨rfl, h2⟩ | ⟨g, cap, cur, rfl, _, _, h1, h2, _⟩
  · exact ⟨none, 0, by rw [h2], by omega, Nat.zero_le _⟩
  · exact ⟨_, _, rfl, h1, h2⟩
theorem GRow.nil (w : World) (B : Nat) : GRow w B (.slice none 0 0) [] := World.ownsRow_nil w B _ 9
theorem GRow.kept {w w' : World} {B : Nat} {v : Value} {ps : List GP} {row : Option Nat} (h : GRow w B v ps) (hg : w.grownBy w' row) (hr : ∀ k, v.ownBlock = some k → row ≠ some k) : GRow w' B v ps :=
  World.ownsRow.kept h hg (by cases hv : v.ownBlock with
    | none => exact .inl rfl
    | some k => exact .inr (fun e => hr k hv e.symm))
theorem GRow.grown {w w' : World} {B : Nat} {v : Value} {ps : List GP} (h : GRow w B v ps) (hg : w.grownBy w' none) : GRow w' B v ps := h.kept hg (by simp)
theorem GRow.lt {w : World} {B : Nat} {v : Value} {ps : List GP} (h : GRow w B v ps) : ∀ k, v.ownBlock = some k → B ≤ k ∧ k < w.heap.size := World.ownsRow.lt h
theorem GRow.at {w : World} {B : Nat} {a : Option Addr} {n c : Nat} {ps : List GP} (h : GRow w B (.slice a n c) ps) {i : Nat} {p : GP} (hi : ps[i]? = some p) :
    ∃ b, a = some ⟨b, 0, none⟩ ∧ B ≤ b ∧ ∀ (d : Nat) (u : Value), (rowG p)[d]? = some u → w.cell? ⟨b, i * 9 + d, none⟩ = some u := by
  have hlt : i < ps.length := (List.getElem?_eq_some_iff.1 hi).1
  have h0 := h
  rcases h.2 with ⟨_, h2⟩ | ⟨g, cap, cur, e, hB, _⟩
  · omega
  · cases e
    refine ⟨g, rfl, hB, fun d u hd => ?_⟩
    have h9 : d < 9 := by have := (List.getElem?_eq_some_iff.1 hd).1; simpa [rowG] using this
    rw [World.ownsRow.cellAt h0 _ (by omega), cellsG_get d h9 ps hi]
    exact hd

/-- a list of messages that can be read -/
def RdG (w : World) (v : Value) (ps : List GP) : Prop :=
  (v = .slice none 0 0 ∧ ps = []) ∨ ∃ b off cap, v = .slice (some ⟨b, off, none⟩) ps.length cap ∧ ps.length ≤ cap ∧ cap ≤ maxLen ∧ ∀ (j : Nat) (c : Value), (cellsG ps)[j]? = some c → w.cell? ⟨b, off + j, none⟩ = some c
theorem RdG.kept {w w' : World} {v : Value} {ps : List GP} {row : Option Nat} (h : RdG w v ps) (hg : w.grownBy w' row) (hv : ps ≠ [] → ∀ k, v.ownBlock = some k → row ≠ some k) : RdG w' v ps := by
  rcases h with h1 | ⟨b, off, cap, rfl, h1, h2, h3⟩
  · exact .inl h1
  · exact .inr ⟨b, off, cap, rfl, h1, h2, fun j c hj => hg.cell (h3 j c hj) (fun e => hv (by rintro rfl; simp [cellsG] at hj) b rfl e.symm)⟩
theorem RdG.grown {w w' : World} {v : Value} {ps : List GP} (h : RdG w v ps) (hg : w.grownBy w' none) : RdG w' v ps := h.kept hg (by simp)
theorem RdG.len {w : World} {v : Value} {ps : List GP} (h : RdG w v ps) : ∃ a c, v = .slice a ps.length c ∧ ps.length ≤ c ∧ c ≤ maxLen := by
  rcases h with ⟨rfl, rfl⟩ | ⟨b, off, cap, rfl, h1, h2, _⟩
  · exact ⟨none, 0, rfl, Nat.le_refl _, Nat.zero_le _⟩
  · exact ⟨_, _, rfl, h1, h2⟩
theorem RdG.at {w : World} {a : Option Addr} {n c : Nat} {ps : List GP} (h : RdG w (.slice a n c) ps) {i : Nat} {p : GP} (hi : ps[i]? = some p) :
    ∃ b off, a = some ⟨b, off, none⟩ ∧ ∀ (d : Nat) (u : Value), (rowG p)[d]? = some u → w.cell? ⟨b, off + i * 9 + d, none⟩ = some u := by
  rcases h with ⟨_, rfl⟩ | ⟨b, off, cap, h0, h1, h2, h3⟩
  · simp at hi
  · simp only [Value.slice.injEq] at h0
    refine ⟨b, off, h0.1, fun d u hd => ?_⟩
    have h9 : d < 9 := by have := (List.getElem?_eq_some_iff.1 hd).1; simpa [rowG] using this
    rw [Nat.add_assoc]
    exact h3 _ _ (by rw [cellsG_get d h9 ps hi]; exact hd)
theorem GRow.rd {w : World} {B : Nat} {v : Value} {ps : List GP} (h : GRow w B v ps) : RdG w v ps := by
  have h0 := h
  obtain ⟨h1, h2⟩ := h
  rcases h2 with ⟨rfl, hn⟩ | ⟨g, cap, cur, rfl, hb, hg, hnc, hcm, hcs, htake⟩
  · exact .inl ⟨rfl, List.eq_nil_of_length_eq_zero hn⟩
  · refine .inr ⟨g, 0, cap, rfl, hnc, hcm, fun j c hj => ?_⟩
    have := World.ownsRow.cells h0 (g := g) rfl j c hj
    rwa [addr_add] at this
theorem GRow.app {w : World} {B : Nat} {v sv : Value} {ps qs : List GP} (h : GRow w B v ps) (hs : RdG w sv qs) (hq : ∀ p ∈ qs, p.2.oneCell' = true) (hn : ps.length + qs.length ≤ 1000000) (hB : B ≤ w.heap.size) (ty : TypeId) :
    ∃ v' w', (Builtin.append_ #[30, 30] ty #[v, sv]).run Try.prog w = .ok v' w' ∧ GRow w' B v' (ps ++ qs) ∧ w.grownBy w' v.ownBlock ∧ Fr w v v' := by
  obtain ⟨i0, hi, hz0, hz1, hz2⟩ := info_parts info_msg
  rcases hs with ⟨rfl, rfl⟩ | ⟨b, off, cap, rfl, h1, h2, h3⟩
  · exact ⟨v, w, run_append_owned_none (P := Try.prog) w B _ ty _ i0 9 Try.underlying30 hi v _ _ h, by simpa using h, gb_refl _ _, Fr.refl _ _⟩
  · obtain ⟨v', w', hr, ho, hgr, hf⟩ := run_append_own2 (P := Try.prog) w B 30 ty 39 i0 _ 9 88 Try.underlying30 hi hz0 hz1 hz2 rfl (by decide) v ps.length (cellsG ps) h
      ⟨b, off, none⟩ qs.length cap (cellsG qs) (cellsG_len qs) (fun j u hu => by rw [addr_add]; exact h3 j u hu) (cellsG_one qs hq) (by simp only [maxLen]; omega) (by omega) hB
    refine ⟨v', w', hr, ?_, hgr, hf⟩
    unfold GRow
    rw [List.length_append, cellsG_append]
    exact ho
theorem RdG.one {w : World} {g : Nat} {m : Mg} {v : Value} {T : TypeId} (hg : w.heap[g]? = some (.cells (m.row v) T (0, 0))) : RdG w (.slice (some ⟨g, 0, none⟩) 1 1) [(m, v)] :=
  .inr ⟨g, 0, 1, rfl, Nat.le_refl _, by simp [maxLen], fun j c hj => by
    rw [Nat.zero_add, cell_row hg]
    simpa [cellsG, rowG, Mg.row] using hj⟩
theorem msg_app_op {o : Oper} {a : Act} {w : World} {K : Act → World → Prop} {Q : Exit → Act → World → Prop} (s y : Operand)
    (ho : o.op = .call { callee := .builtin .append, args := #[s, y], argTypes := #[30, 30] }) (B : Nat) (v sv : Value) (ps qs : List GP) (hs : a.eval s = v) (hy : a.eval y = sv) (h : GRow w B v ps) (hr : RdG w sv qs) (hq : ∀ p ∈ qs, p.2.oneCell' = true)
    (hn : ps.length + qs.length ≤ 1000000) (hB : B ≤ w.heap.size)
    (hK : ∀ v' w', GRow w' B v' (ps ++ qs) → w.grownBy w' v.ownBlock → Fr w v v' → K (a.put o.dst v') w') : Oper.wp Try.prog o a w K Q := by
  obtain ⟨v', w', hr', h2, h3, h4⟩ := h.app hr hq hn hB o.type
  unfold Oper.wp execOp
  simp only [ho, resolve, invoke, builtin, Sem.run_bind, Sem.run_pure, Result.andThen_ok, List.map_toArray, List.map_cons, List.map_nil, hs, hy, hr']
  exact hK v' w' h2 h3 h4
theorem Own.one {w : World} {B : Nat} {v : Value} {l : List UInt8} (h : Own w B v l) : v.oneCell' = true := by
  obtain ⟨a, c, rfl⟩ := h.rd.len
  rfl
theorem Rd.one {w : World} {v : Value} {l : List UInt8} (h : Rd w v l) : v.oneCell' = true := by
  obtain ⟨a, c, rfl⟩ := h.len
  rfl

/-- a queue of messages of the program; its row lies in a block from B on -/
structure IsM (w : World) (B g n : Nat) (v : Value) (ps : List GP) : Prop where
  blk : w.heap[g]? = some (.cells #[.int .i64 (n : Int), v] 61 (0, 0))
  row : GRow w B v ps
  data : ∀ p ∈ ps, Rd w p.2 p.1.z
  ne : v.ownBlock ≠ some g
  dne : ∀ p ∈ ps, p.1.z ≠ [] → ∀ k, p.2.ownBlock = some k → k ≠ g ∧ v.ownBlock ≠ some k
  cnt : ps.length ≤ n
  le : n ≤ 200
/-- all old blocks but the queue's and its row's are as they were -/
def KM (w w' : World) (g : Nat) (v : Value) : Prop :=
  w'.os = w.os ∧ w'.tape = w.tape ∧ w'.output = w.output ∧ w.heap.size ≤ w'.heap.size ∧ ∀ k, k < w.heap.size → k ≠ g → v.ownBlock ≠ some k → w'.heap[k]? = w.heap[k]?
theorem KM.of {w w' : World} {row : Option Nat} {g : Nat} {v : Value} (h : w.grownBy w' row) (hr : row = none ∨ row = some g ∨ row = v.ownBlock) : KM w w' g v :=
  ⟨h.os, h.tape, h.output, h.size, fun k hk h1 h2 => h.block k hk (fun e => by
    rcases hr with hr | hr | hr
    · rw [hr] at e; cases e
    · rw [hr] at e; cases e; exact h1 rfl
    · rw [hr] at e; exact h2 e.symm)⟩
theorem KM.trans {w w1 w2 : World} {g : Nat} {v v' : Value} (h : KM w w1 g v) (k : KM w1 w2 g v') (hf : Fr w v v') : KM w w2 g v := by
  obtain ⟨a1, a2, a3, a4, a5⟩ := h
  obtain ⟨b1, b2, b3, b4, b5⟩ := k
  exact ⟨b1.trans a1, b2.trans a2, b3.trans a3, Nat.le_trans a4 b4, fun i hi h1 h2 => (b5 i (Nat.lt_of_lt_of_le hi a4) h1 (fun e => by
    rcases hf i e with h3 | h3
    · exact h2 h3
    · omega)).trans (a5 i hi h1 h2)⟩
theorem KM.new {w0 w w' : World} {g B : Nat} {v : Value} {row : Option Nat} (h : w0.grownBy w row) (hg : w0.heap.size ≤ g) (hv : ∀ k, v.ownBlock = some k → B ≤ k) (hB : w0.heap.size ≤ B) (k : KM w w' g v) : w0.grownBy w' row := by
  obtain ⟨b1, b2, b3, b4, b5⟩ := k
  exact ⟨b1.trans h.os, b2.trans h.tape, b3.trans h.output, Nat.le_trans h.size b4, fun i hi hne => (b5 i (Nat.lt_of_lt_of_le hi h.size) (by omega) (fun e => by have := hv i e; omega)).trans (h.block i hi hne)⟩
theorem IsM.kept {w w' : World} {B g n : Nat} {v : Value} {ps : List GP} {row : Option Nat} (h : IsM w B g n v ps) (hg : w.grownBy w' row) (h1 : row ≠ some g) (h2 : ∀ k, v.ownBlock = some k → row ≠ some k) (h3 : ∀ p ∈ ps, p.1.z ≠ [] → ∀ k, p.2.ownBlock = some k → row ≠ some k) : IsM w' B g n v ps :=
  ⟨blk_kept' h.blk hg h1, h.row.kept hg h2, fun p hp => by
    by_cases hz : p.1.z = []
    · have := h.data p hp
      rw [hz] at this ⊢
      rcases this with h4 | ⟨b, off, cap, h4, h5, h6, h7⟩
      · exact .inl h4
      · exact .inr ⟨b, off, cap, h4, h5, h6, fun j x hj => by simp at hj⟩
    · exact (h.data p hp).kept hg (h3 p hp hz), h.ne, h.dne, h.cnt, h.le⟩
theorem IsM.grown {w w' : World} {B g n : Nat} {v : Value} {ps : List GP} (h : IsM w B g n v ps) (hg : w.grownBy w' none) : IsM w' B g n v ps := h.kept hg (by simp) (by simp) (by simp)
theorem IsM.c0 {w : World} {B g n : Nat} {v : Value} {ps : List GP} (h : IsM w B g n v ps) : w.cell? ⟨g, 0, none⟩ = some (.int .i64 (n : Int)) := cell_row h.blk
theorem IsM.c1 {w : World} {B g n : Nat} {v : Value} {ps : List GP} (h : IsM w B g n v ps) : w.cell? ⟨g, 1, none⟩ = some v := cell_row h.blk
theorem IsM.lt {w : World} {B g n : Nat} {v : Value} {ps : List GP} (h : IsM w B g n v ps) : g < w.heap.size := (Array.getElem?_eq_some_iff.1 h.blk).1
end Go.Proofs.Ytfldooljmjeaoaa
