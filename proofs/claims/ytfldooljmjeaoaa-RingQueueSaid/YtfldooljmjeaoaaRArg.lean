/-
  What the arguments of the laws come as: bytes, integers, lists of steps, messages.
-/
import Derived.Test.YtfldooljmjeaoaaArgB
import Derived.Test.YtfldooljmjeaoaaRNil
import Derived.Deep.Slices
namespace Go.Proofs.Ytfldooljmjeaoaa
open Go.ChangeShapes Go.WideShapes Go.ChangeAt Go.RowKit

abbrev RT := Int × Int × List UInt8
abbrev RP := RT × Value
def rowR (p : RP) : List Value := [.int .i64 p.1.1, .int .i64 p.1.2.1, p.2]
def cellsR (ps : List RP) : List Value := ps.flatMap rowR
theorem cellsR_len (ps : List RP) : (cellsR ps).length = ps.length * 3 := by
  induction ps with
  | nil => rfl
  | cons p ps ih => simp only [cellsR, List.flatMap_cons, List.length_append, List.length_cons] at ih ⊢; rw [ih]; simp [rowR]; omega
theorem cellsR_get (d : Nat) (hd : d < 3) : ∀ (ps : List RP) {i : Nat} {p : RP}, ps[i]? = some p → (cellsR ps)[i * 3 + d]? = (rowR p)[d]?
  | [], i, p, h => by simp at h
  | q :: ps, 0, p, h => by
    simp at h; subst h
    rw [Nat.zero_mul, Nat.zero_add]
    exact List.getElem?_append_left (by simp [rowR]; omega)
  | q :: ps, i + 1, p, h => by
    have := cellsR_get d hd ps (i := i) (p := p) (by simpa using h)
    rw [show (i + 1) * 3 + d = (i * 3 + d) + 3 by omega]
    exact this
/-- a list of records that can be read -/
def RdRow (w : World) (v : Value) (ps : List RP) : Prop :=
  (v = .slice none 0 0 ∧ ps = []) ∨ ∃ b off cap, v = .slice (some ⟨b, off, none⟩) ps.length cap ∧ ps.length ≤ cap ∧ cap ≤ maxLen ∧ ∀ (j : Nat) (c : Value), (cellsR ps)[j]? = some c → w.cell? ⟨b, off + j, none⟩ = some c
def RdRs (w : World) (v : Value) (ps : List RP) : Prop := RdRow w v ps ∧ ∀ p ∈ ps, RdW w p.2 p.1.2.2
theorem RdRow.kept {w w' : World} {v : Value} {ps : List RP} {row : Option Nat} (h : RdRow w v ps) (hg : w.grownBy w' row) (hv : ps ≠ [] → ∀ k, v.ownBlock = some k → row ≠ some k) : RdRow w' v ps := by
  rcases h with h1 | ⟨b, off, cap, rfl, h1, h2, h3⟩
  · exact .inl h1
  · exact .inr ⟨b, off, cap, rfl, h1, h2, fun j c hj => hg.cell (h3 j c hj) (fun e => hv (by rintro rfl; simp [cellsR] at hj) b rfl e.symm)⟩
theorem RdRs.kept {w w' : World} {v : Value} {ps : List RP} {row : Option Nat} (h : RdRs w v ps) (hg : w.grownBy w' row) (hv : ps ≠ [] → ∀ k, v.ownBlock = some k → row ≠ some k) (hd : ∀ p ∈ ps, p.1.2.2 ≠ [] → ∀ k, p.2.ownBlock = some k → row ≠ some k) : RdRs w' v ps :=
  ⟨h.1.kept hg hv, fun p hp => (h.2 p hp).kept hg (hd p hp)⟩
theorem RdRs.grown {w w' : World} {v : Value} {ps : List RP} (h : RdRs w v ps) (hg : w.grownBy w' none) : RdRs w' v ps := h.kept hg (by simp) (by simp)
theorem RdRow.len {w : World} {v : Value} {ps : List RP} (h : RdRow w v ps) : ∃ a c, v = .slice a ps.length c := by
  rcases h with ⟨rfl, rfl⟩ | ⟨b, off, cap, rfl, _⟩
  · exact ⟨none, 0, rfl⟩
  · exact ⟨_, _, rfl⟩
theorem RdRow.small {w : World} {v : Value} {ps : List RP} (h : RdRow w v ps) : (ps.length : Int) ≤ 9223372036854775807 := by
  rcases h with ⟨rfl, rfl⟩ | ⟨b, off, cap, rfl, h1, h2, _⟩
  · simp
  · simp only [maxLen] at h2; omega
theorem RdRow.at {w : World} {a : Option Addr} {n c : Nat} {ps : List RP} (h : RdRow w (.slice a n c) ps) {i : Nat} {p : RP} (hi : ps[i]? = some p) :
    ∃ b off, a = some ⟨b, off, none⟩ ∧ w.cell? ⟨b, off + i * 3, none⟩ = some (.int .i64 p.1.1) ∧ w.cell? ⟨b, off + i * 3 + 1, none⟩ = some (.int .i64 p.1.2.1) ∧ w.cell? ⟨b, off + i * 3 + 2, none⟩ = some p.2 := by
  rcases h with ⟨_, rfl⟩ | ⟨b, off, cap, h0, h1, h2, h3⟩
  · simp at hi
  · simp only [Value.slice.injEq] at h0
    exact ⟨b, off, h0.1, h3 _ _ (cellsR_get 0 (by omega) ps hi), by rw [Nat.add_assoc]; exact h3 _ _ (cellsR_get 1 (by omega) ps hi), by rw [Nat.add_assoc]; exact h3 _ _ (cellsR_get 2 (by omega) ps hi)⟩
theorem spot_none {w : World} {a : Addr} {v : Value} (h : w.cell? a = some v) : a = ⟨a.block, a.off, none⟩ := by
  obtain ⟨b, o, s⟩ := a
  cases s with
  | none => rfl
  | some s =>
    unfold World.cell? at h
    simp only [Option.isSome_some, if_true] at h
    split at h <;> cases h

section
variable {H : Type} {enc : TypeId × Value → H} {P : Program} {W : World} {base : Nat}

theorem cell_int {u : TypeId} {k : IntKind} {x : Value} (hu : P.underlying u = some (.int k)) (h : Cell.okWide P W .any base u x) : ∃ n, x = .int k n ∧ k.min ≤ n ∧ n ≤ k.max := by
  cases x <;> simp [Cell.okWide, Cell.ok, hu] at h
  obtain ⟨rfl, h1, h2⟩ := h
  exact ⟨_, rfl, h1, h2⟩
theorem cell_slice {u e : TypeId} {x : Value} (hu : P.underlying u = some (.slice e)) (h : Cell.okWide P W .any base u x) :
    x = .slice none 0 0 ∨ ∃ b off n c, x = .slice (some ⟨b, off, none⟩) n c ∧ n ≤ c ∧ c ≤ maxLen := by
  refine slice_arg (P := P) (W := W) (base := base) (t := u) (e := e) hu ?_
  simp only [Value.okWide, hu]
  exact h
theorem agg_cells {t : TypeId} {v : Value} (ts : List TypeId) (hu : (P.underlying t).any (fun d => match d with | .struct _ | .array _ _ => true | _ => false) = true) (hC : P.cellsOf t = ts.length) (hts : P.cellTypes P.depth t = some ts)
    (h : Value.okWide P W .any base t v) : ∃ cs : List Value, v = .agg cs.toArray ∧ cs.length = ts.length ∧ ∀ (i : Nat) u x, ts[i]? = some u → cs[i]? = some x → Cell.okWide P W .any base u x := by
  have h1 : ∃ cs, v = .agg cs ∧ cs.size = P.cellsOf t ∧ Row.okWide P W .any base t cs := by
    simp only [Value.okWide] at h
    cases hd : P.underlying t with
    | none => simp [hd] at hu
    | some d => cases d <;> simp [hd] at hu <;> simpa [hd] using h
  obtain ⟨cs, rfl, hs, ts', h2, _, h3⟩ := h1
  rw [hts] at h2
  cases h2
  refine ⟨cs.toList, by simp, by simp [hs, hC], fun i u x hi hx => ?_⟩
  have hlt : i < ts.length := (List.getElem?_eq_some_iff.1 hi).1
  obtain ⟨u', hu', hok⟩ := h3 i x (by simpa using hx)
  rw [Nat.mod_eq_of_lt hlt, hi] at hu'
  cases hu'
  exact hok

theorem mapM_at {α β : Type} {f : α → Option β} : ∀ {l : List α} {r : List β}, l.mapM f = some r → ∀ {i : Nat} {x : α}, l[i]? = some x → ∃ y, f x = some y := by
  intro l
  induction l with
  | nil => intro r _ i x hi; simp at hi
  | cons a l ih =>
    intro r h i x hi
    rw [List.mapM_cons] at h
    simp only [bind, Option.bind_eq_some_iff] at h
    obtain ⟨y, hy, ys, hys, _⟩ := h
    cases i with
    | zero => simp at hi; subst hi; exact ⟨y, hy⟩
    | succ i => exact ih hys (by simpa using hi)
theorem trod_field {w : World} {b0 : Nat} {sp : Nat → Bool} {held : Bool} {t : TypeId} {cs : List Value} {x : DataW H × List MemPlace} {fuel : Nat} {fs : Array Field} (ht : P.underlying t = some (.struct fs)) (h : DataW.trod enc P w b0 sp held fuel t cs = some x)
    (i : Nat) (f : Field) (hf : fs[i]? = some f) (n : Nat) (hn : P.cellsOf f.type = n) : ∃ m y, DataW.trod enc P w b0 sp held m f.type ((cs.drop f.offset).take n) = some y := by
  cases fuel with
  | zero => simp [DataW.trod] at h
  | succ m =>
    rw [DataW.trod_step] at h
    unfold DataW.trodStep at h
    simp only [ht] at h
    split at h
    · simp only [Option.map_eq_some_iff] at h
      obtain ⟨xs, hxs, _⟩ := h
      obtain ⟨y, hy⟩ := mapM_at hxs (i := i) (x := f) (by simpa using hf)
      rw [hn] at hy
      exact ⟨m, y, hy⟩
    · simp at h
end

theorem list_of {α : Type} {Q : Nat → α → Prop} : ∀ (n : Nat), (∀ i, i < n → ∃ p, Q i p) → ∃ ps : List α, ps.length = n ∧ ∀ i p, ps[i]? = some p → Q i p := by
  intro n
  induction n with
  | zero => intro _; exact ⟨[], rfl, by simp⟩
  | succ n ih =>
    intro h
    obtain ⟨ps, h1, h2⟩ := ih (fun i hi => h i (by omega))
    obtain ⟨p, hp⟩ := h n (by omega)
    refine ⟨ps ++ [p], by simp [h1], fun i q hq => ?_⟩
    rcases Nat.lt_or_ge i n with hi | hi
    · rw [List.getElem?_append_left (by omega)] at hq
      exact h2 i q hq
    · have hlt := (List.getElem?_eq_some_iff.1 hq).1
      simp at hlt
      have : i = n := by omega
      subst this
      rw [List.getElem?_append_right (by omega), h1, Nat.sub_self] at hq
      simp at hq
      subst hq
      exact hp
theorem cellsR_inv : ∀ (ps : List RP) {j : Nat} {c : Value}, (cellsR ps)[j]? = some c → ∃ i r p, ps[i]? = some p ∧ r < 3 ∧ j = i * 3 + r ∧ (rowR p)[r]? = some c := by
  intro ps
  induction ps with
  | nil => intro j c h; simp [cellsR] at h
  | cons q ps ih =>
    intro j c h
    have hq : (rowR q).length = 3 := rfl
    have hcp : cellsR (q :: ps) = rowR q ++ cellsR ps := by simp [cellsR]
    rw [hcp] at h
    rcases Nat.lt_or_ge j 3 with hj | hj
    · rw [List.getElem?_append_left (by omega)] at h
      exact ⟨0, j, q, rfl, hj, by omega, h⟩
    · rw [List.getElem?_append_right (by omega), hq] at h
      obtain ⟨i, r, p, h1, h2, h3, h4⟩ := ih h
      exact ⟨i + 1, r, p, by simpa using h1, h2, by omega, h4⟩
section
variable {H : Type} {enc : TypeId × Value → H} {W : World} {base : Nat}
theorem c_int : Try.prog.cellsOf 3 = 1 := by kernel_rfl
theorem c_bytes : Try.prog.cellsOf 22 = 1 := by kernel_rfl
theorem leaf_int {fuel : Nat} {v : Value} {y : DataW H × List MemPlace} (h : DataW.trod enc Try.prog W 0 (fun _ => true) true fuel 3 [v] = some y) : ∃ n, v = .int .i64 n ∧ OkI n := by
  obtain ⟨n, hc, _, hw⟩ := DataW.trod_int Try.underlying3 h
  simp only [List.cons.injEq, and_true] at hc
  simp only [Lit.wf, Bool.and_eq_true, decide_eq_true_eq] at hw
  have e1 : IntKind.i64.min = -9223372036854775808 := by kernel_rfl
  have e2 : IntKind.i64.max = 9223372036854775807 := by kernel_rfl
  rw [e1, e2] at hw
  exact ⟨n, hc, hw⟩
theorem leaf_bytes {fuel : Nat} {v : Value} {y : DataW H × List MemPlace} (h : DataW.trod enc Try.prog W 0 (fun _ => true) true fuel 22 [v] = some y) : IsSl v ∧ ∃ l : List UInt8, RdW W v l := by
  rcases open_ints Try.underlying22 Try.underlying5 (by kernel_rfl) h with ⟨hcs, hx⟩ | ⟨a, len, cap, zs, hcs, _, hl, hm, hz, hx, hcell, hwz⟩
  · simp only [List.cons.injEq, and_true] at hcs
    subst hcs
    exact ⟨⟨_, _, _, rfl⟩, [], .inl (.inl ⟨rfl, rfl⟩)⟩
  · simp only [List.cons.injEq, and_true] at hcs
    subst hcs
    refine ⟨⟨_, _, _, rfl⟩, ?_⟩
    simp only [if_true] at hz
    by_cases h0 : cap = 0
    · subst h0
      have : len = 0 := by omega
      subst this
      exact ⟨[], .inr ⟨a, rfl, rfl⟩⟩
    · have h1 := hcell 0 (by omega)
      rw [show a.add 0 = a by unfold Addr.add; rfl] at h1
      have ha := spot_none h1
      have hlen : ((zs.take len).map fun m => UInt8.ofNat m.toNat).length = len := by simp; omega
      refine ⟨(zs.take len).map fun m => UInt8.ofNat m.toNat, .inl (.inr ⟨a.block, a.off, cap, by rw [hlen, ← ha], by rw [hlen]; exact hl, hm, fun j x hj => ?_⟩)⟩
      simp only [List.getElem?_map, Option.map_eq_some_iff] at hj
      obtain ⟨y, hy, rfl⟩ := hj
      obtain ⟨h1, h2⟩ := List.getElem?_eq_some_iff.1 hy
      have hjn : j < zs.length := by simp at h1; omega
      have hcj := hcell j hjn
      rw [ha, addr_add] at hcj
      rw [hcj]
      rw [List.getElem_take] at h2
      have hb := range_u8 hwz j
      have e : zs[j]? = some y := by rw [List.getElem?_eq_getElem hjn, h2]
      simp only [e, Option.getD_some] at hb
      simp only [List.getD, e, Option.getD_some, bv]
      congr 2
      simp only [UInt8.toNat_ofNat']
      omega

theorem three {α : Type} {cs : List α} (h : cs.length = 3) : ∃ a b c, cs = [a, b, c] := match cs, h with | [a, b, c], _ => ⟨a, b, c, rfl⟩
theorem struct_arg {P : Program} {t : TypeId} {fs : Array Field} {v : Value} (ht : P.underlying t = some (.struct fs)) (hval : Value.okWide P W .any base t v) : ∃ cs : Array Value, v = .agg cs ∧ cs.toList.length = P.cellsOf t := by
  unfold Value.okWide at hval
  rw [ht] at hval
  obtain ⟨cs, h1, h2, _⟩ := hval
  exact ⟨cs, h1, by simpa using h2⟩
def OkP (W : World) (p : RP) : Prop := RdW W p.2 p.1.2.2 ∧ OkI p.1.1 ∧ OkI p.1.2.1
section
variable {ts te : TypeId}
theorem leaf_list (hu : Try.prog.underlying ts = some (.slice te)) (hc3 : Try.prog.cellsOf te = 3) (hleaf : ∀ {fuel : Nat} {cs : List Value} {y : DataW H × List MemPlace}, cs.length = 3 → DataW.trod enc Try.prog W 0 (fun _ => true) true fuel te cs = some y → ∃ p : RP, cs = rowR p ∧ OkP W p)
    {fuel : Nat} {v : Value} {y : DataW H × List MemPlace} (hs : v = .slice none 0 0 ∨ ∃ b off n c, v = .slice (some ⟨b, off, none⟩) n c ∧ n ≤ c ∧ c ≤ maxLen) (hf : DataW.trod enc Try.prog W 0 (fun _ => true) true fuel ts v.cells.toList = some y) :
    ∃ ps : List RP, RdRs W v ps ∧ ∀ p ∈ ps, OkP W p := by
  rcases hs with rfl | ⟨b, off, n, c, rfl, hn, hc⟩
  · exact ⟨[], ⟨.inl ⟨rfl, rfl⟩, by simp⟩, by simp⟩
  · rcases Deep.open_slice hu hf with ⟨hcs, hx⟩ | ⟨a, len, cap, m, fl, D, Pl, hcs, _, hl, hm, hmm, hx, hi⟩
    · simp [Value.cells] at hcs
    · simp only [Value.cells, List.cons.injEq, Value.slice.injEq, Option.some.injEq, and_true] at hcs
      obtain ⟨rfl, rfl, rfl⟩ := hcs
      simp only [if_true] at hmm
      subst hmm
      have each : ∀ i, i < n → ∃ p : RP, (∀ r x, (rowR p)[r]? = some x → W.cell? ⟨b, off + (i * 3 + r), none⟩ = some x) ∧ OkP W p := fun i hin => by
        obtain ⟨cs', h1, h2⟩ := hi i (by omega)
        rw [hc3] at h1
        obtain ⟨_, h3, h4⟩ := World.cells?_some h1
        obtain ⟨q, rfl, k1⟩ := hleaf h3 h2
        refine ⟨q, fun r x hr => ?_, k1⟩
        have hlt := (List.getElem?_eq_some_iff.1 hr).1
        have h5 := h4 r (by simp [rowR] at hlt; omega)
        rw [addr_add, addr_add, Nat.add_assoc] at h5
        rw [h5, hr]
      obtain ⟨ps, h1, h2⟩ := list_of n each
      have hok : ∀ p ∈ ps, OkP W p := fun p hp => by obtain ⟨i, hi⟩ := List.getElem?_of_mem hp; exact (h2 i p hi).2
      refine ⟨ps, ⟨.inr ⟨b, off, m, by rw [h1], by omega, hm, fun j x hj => ?_⟩, fun p hp => (hok p hp).1⟩, hok⟩
      obtain ⟨i, r, p, k1, k2, k3, k4⟩ := cellsR_inv ps hj
      rw [k3]
      exact (h2 i p k1).1 r x k4
end
end
section
variable {H : Type} {enc : TypeId × Value → H} {W : World} {base : Nat}
set_option maxRecDepth 100000 in
theorem arg_int {sp : Nat → Bool} {held : Bool} {b0 : Nat} {v : Value} {d : DataW H} {p : List MemPlace} (hval : Value.okWide Try.prog W .any base 3 v) (h : DataW.Trod enc Try.prog W b0 sp held 3 v d p) : ∃ n, v = .int .i64 n ∧ OkI n := by
  obtain ⟨n, rfl, _, _, hw⟩ := open_int Try.underlying3 hval h
  simp only [Lit.wf, Bool.and_eq_true, decide_eq_true_eq] at hw
  have e1 : IntKind.i64.min = -9223372036854775808 := by kernel_rfl
  have e2 : IntKind.i64.max = 9223372036854775807 := by kernel_rfl
  rw [e1, e2] at hw
  exact ⟨n, rfl, hw⟩
def OkM (m : Mg) : Prop := OkI m.s ∧ OkI m.d ∧ OkI m.k ∧ OkI m.q ∧ OkI m.a ∧ OkI m.b ∧ OkI m.c ∧ OkI m.e
theorem nine {cs : List Value} (h : cs.length = 9) : ∃ c0 c1 c2 c3 c4 c5 c6 c7 c8, cs = [c0, c1, c2, c3, c4, c5, c6, c7, c8] :=
  match cs, h with | [a, b, c, d, e, f, g, i, j], _ => ⟨a, b, c, d, e, f, g, i, j, rfl⟩
theorem i64 {x : Int} (h1 : IntKind.i64.min ≤ x) (h2 : x ≤ IntKind.i64.max) : OkI x := by
  have e1 : IntKind.i64.min = -9223372036854775808 := by kernel_rfl
  have e2 : IntKind.i64.max = 9223372036854775807 := by kernel_rfl
  rw [e1] at h1; rw [e2] at h2
  exact ⟨h1, h2⟩
set_option maxRecDepth 100000 in
theorem arg_msg {v : Value} {d : DataW H} {p : List MemPlace} (hval : Value.okWide Try.prog W .any base 39 v) (h0 : DataW.Trod enc Try.prog W 0 (fun _ => true) true 39 v d p) : ∃ (m : Mg) (dv : Value), v = .agg (m.row dv) ∧ OkM m ∧ RdW W dv m.z := by
  obtain ⟨fuel, h⟩ := h0
  obtain ⟨cs, rfl, hcs, hok⟩ := agg_cells [3, 3, 3, 3, 3, 3, 3, 3, 22] (by kernel_rfl) (by kernel_rfl) (by kernel_rfl) hval
  obtain ⟨c0, c1, c2, c3, c4, c5, c6, c7, c8, rfl⟩ := nine hcs
  have hm := Try.underlying39
  obtain ⟨x0, rfl, a0, b0⟩ := cell_int Try.underlying3 (hok 0 _ _ rfl rfl)
  obtain ⟨x1, rfl, a1, b1⟩ := cell_int Try.underlying3 (hok 1 _ _ rfl rfl)
  obtain ⟨x2, rfl, a2, b2⟩ := cell_int Try.underlying3 (hok 2 _ _ rfl rfl)
  obtain ⟨x3, rfl, a3, b3⟩ := cell_int Try.underlying3 (hok 3 _ _ rfl rfl)
  obtain ⟨x4, rfl, a4, b4⟩ := cell_int Try.underlying3 (hok 4 _ _ rfl rfl)
  obtain ⟨x5, rfl, a5, b5⟩ := cell_int Try.underlying3 (hok 5 _ _ rfl rfl)
  obtain ⟨x6, rfl, a6, b6⟩ := cell_int Try.underlying3 (hok 6 _ _ rfl rfl)
  obtain ⟨x7, rfl, a7, b7⟩ := cell_int Try.underlying3 (hok 7 _ _ rfl rfl)
  obtain ⟨_, _, k2⟩ := trod_field hm h 5 _ rfl 1 c_bytes
  obtain ⟨_, l, hl⟩ := leaf_bytes k2
  exact ⟨⟨x0, x1, x2, x3, x4, x5, x6, x7, l⟩, c8, rfl, ⟨i64 a0 b0, i64 a1 b1, i64 a2 b2, i64 a3 b3, i64 a4 b4, i64 a5 b5, i64 a6 b6, i64 a7 b7⟩, hl⟩
end
end Go.Proofs.Ytfldooljmjeaoaa
