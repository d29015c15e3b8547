/-
  What the arguments of the laws come as: integers, ranges, lists of integers, lists of runs.
-/
import Derived.Test.YtpfeaeklenopdaaArgB
import Derived.Test.YtpfeaeklenopdaaCore
import Derived.Deep.Slices
namespace Go.Proofs.Ytpfeaeklenopdaa
open Go.ChangeShapes Go.WideShapes Go.ChangeAt Go.RowKit

theorem spot_none {w : World} {a : Addr} {v : Value} (h : w.cell? a = some v) : a = ⟨a.block, a.off, none⟩ := by
  obtain ⟨b, o, s⟩ := a
  cases s with
  | none => rfl
  | some s =>
    unfold World.cell? at h
    simp only [Option.isSome_some, if_true] at h
    split at h <;> cases h

section
variable {H : Type} {enc : TypeId × Value → H} {P : Program} {W : World} {base : Nat}

theorem cell_int {u : TypeId} {k : IntKind} {x : Value} (hu : P.underlying u = some (.int k)) (h : Cell.okWide P W .any base u x) : ∃ n, x = .int k n ∧ k.min ≤ n ∧ n ≤ k.max := by
  cases x <;> simp [Cell.okWide, Cell.ok, hu] at h
  obtain ⟨rfl, h1, h2⟩ := h
  exact ⟨_, rfl, h1, h2⟩
theorem cell_slice {u e : TypeId} {x : Value} (hu : P.underlying u = some (.slice e)) (h : Cell.okWide P W .any base u x) :
    x = .slice none 0 0 ∨ ∃ b off n c, x = .slice (some ⟨b, off, none⟩) n c ∧ n ≤ c ∧ c ≤ maxLen := by
  refine slice_arg (P := P) (W := W) (base := base) (t := u) (e := e) hu ?_
  simp only [Value.okWide, hu]
  exact h
theorem agg_cells {t : TypeId} {v : Value} (ts : List TypeId) (hu : (P.underlying t).any (fun d => match d with | .struct _ | .array _ _ => true | _ => false) = true) (hC : P.cellsOf t = ts.length) (hts : P.cellTypes P.depth t = some ts)
    (h : Value.okWide P W .any base t v) : ∃ cs : List Value, v = .agg cs.toArray ∧ cs.length = ts.length ∧ ∀ (i : Nat) u x, ts[i]? = some u → cs[i]? = some x → Cell.okWide P W .any base u x := by
  have h1 : ∃ cs, v = .agg cs ∧ cs.size = P.cellsOf t ∧ Row.okWide P W .any base t cs := by
    simp only [Value.okWide] at h
    cases hd : P.underlying t with
    | none => simp [hd] at hu
    | some d => cases d <;> simp [hd] at hu <;> simpa [hd] using h
  obtain ⟨cs, rfl, hs, ts', h2, _, h3⟩ := h1
  rw [hts] at h2
  cases h2
  refine ⟨cs.toList, by simp, by simp [hs, hC], fun i u x hi hx => ?_⟩
  have hlt : i < ts.length := (List.getElem?_eq_some_iff.1 hi).1
  obtain ⟨u', hu', hok⟩ := h3 i x (by simpa using hx)
  rw [Nat.mod_eq_of_lt hlt, hi] at hu'
  cases hu'
  exact hok

theorem mapM_at {α β : Type} {f : α → Option β} : ∀ {l : List α} {r : List β}, l.mapM f = some r → ∀ {i : Nat} {x : α}, l[i]? = some x → ∃ y, f x = some y := by
  intro l
  induction l with
  | nil => intro r _ i x hi; simp at hi
  | cons a l ih =>
    intro r h i x hi
    rw [List.mapM_cons] at h
    simp only [bind, Option.bind_eq_some_iff] at h
    obtain ⟨y, hy, ys, hys, _⟩ := h
    cases i with
    | zero => simp at hi; subst hi; exact ⟨y, hy⟩
    | succ i => exact ih hys (by simpa using hi)
theorem trod_field {w : World} {b0 : Nat} {sp : Nat → Bool} {held : Bool} {t : TypeId} {cs : List Value} {x : DataW H × List MemPlace} {fuel : Nat} {fs : Array Field} (ht : P.underlying t = some (.struct fs)) (h : DataW.trod enc P w b0 sp held fuel t cs = some x)
    (i : Nat) (f : Field) (hf : fs[i]? = some f) (n : Nat) (hn : P.cellsOf f.type = n) : ∃ m y, DataW.trod enc P w b0 sp held m f.type ((cs.drop f.offset).take n) = some y := by
  cases fuel with
  | zero => simp [DataW.trod] at h
  | succ m =>
    rw [DataW.trod_step] at h
    unfold DataW.trodStep at h
    simp only [ht] at h
    split at h
    · simp only [Option.map_eq_some_iff] at h
      obtain ⟨xs, hxs, _⟩ := h
      obtain ⟨y, hy⟩ := mapM_at hxs (i := i) (x := f) (by simpa using hf)
      rw [hn] at hy
      exact ⟨m, y, hy⟩
    · simp at h
end

theorem list_of {α : Type} {Q : Nat → α → Prop} : ∀ (n : Nat), (∀ i, i < n → ∃ p, Q i p) → ∃ ps : List α, ps.length = n ∧ ∀ i p, ps[i]? = some p → Q i p := by
  intro n
  induction n with
  | zero => intro _; exact ⟨[], rfl, by simp⟩
  | succ n ih =>
    intro h
    obtain ⟨ps, h1, h2⟩ := ih (fun i hi => h i (by omega))
    obtain ⟨p, hp⟩ := h n (by omega)
    refine ⟨ps ++ [p], by simp [h1], fun i q hq => ?_⟩
    rcases Nat.lt_or_ge i n with hi | hi
    · rw [List.getElem?_append_left (by omega)] at hq
      exact h2 i q hq
    · have hlt := (List.getElem?_eq_some_iff.1 hq).1
      simp at hlt
      have : i = n := by omega
      subst this
      rw [List.getElem?_append_right (by omega), h1, Nat.sub_self] at hq
      simp at hq
      subst hq
      exact hp

def OkI (z : Int) : Prop := -9223372036854775808 ≤ z ∧ z ≤ 9223372036854775807
/-- a run -/
abbrev ST := Int × Int
def rowT (p : ST) : List Value := [.int .i64 p.1, .int .i64 p.2]
def cellsT (l : List ST) : List Value := l.flatMap rowT
theorem cellsT_get (d : Nat) (hd : d < 2) : ∀ (l : List ST) {i : Nat} {p : ST}, l[i]? = some p → (cellsT l)[i * 2 + d]? = (rowT p)[d]?
  | [], i, p, h => by simp at h
  | q :: ps, 0, p, h => by
    simp at h; subst h
    rw [Nat.zero_mul, Nat.zero_add]
    exact List.getElem?_append_left (by simp [rowT]; omega)
  | q :: ps, i + 1, p, h => by
    have := cellsT_get d hd ps (i := i) (p := p) (by simpa using h)
    rw [show (i + 1) * 2 + d = (i * 2 + d) + 2 by omega]
    exact this
theorem cellsT_inv : ∀ (ps : List ST) {j : Nat} {c : Value}, (cellsT ps)[j]? = some c → ∃ i r p, ps[i]? = some p ∧ r < 2 ∧ j = i * 2 + r ∧ (rowT p)[r]? = some c := by
  intro ps
  induction ps with
  | nil => intro j c h; simp [cellsT] at h
  | cons q ps ih =>
    intro j c h
    have hq : (rowT q).length = 2 := rfl
    have hcp : cellsT (q :: ps) = rowT q ++ cellsT ps := by simp [cellsT]
    rw [hcp] at h
    rcases Nat.lt_or_ge j 2 with hj | hj
    · rw [List.getElem?_append_left (by omega)] at h
      exact ⟨0, j, q, rfl, hj, by omega, h⟩
    · rw [List.getElem?_append_right (by omega), hq] at h
      obtain ⟨i, r, p, h1, h2, h3, h4⟩ := ih h
      exact ⟨i + 1, r, p, by simpa using h1, h2, by omega, h4⟩
/-- a list of steps that can be read -/
def RdT (w : World) (v : Value) (ps : List ST) : Prop :=
  (v = .slice none 0 0 ∧ ps = []) ∨ ∃ b off cap, v = .slice (some ⟨b, off, none⟩) ps.length cap ∧ ps.length ≤ cap ∧ cap ≤ maxLen ∧ ∀ (j : Nat) (c : Value), (cellsT ps)[j]? = some c → w.cell? ⟨b, off + j, none⟩ = some c
theorem RdT.kept {w w' : World} {v : Value} {ps : List ST} {row : Option Nat} (h : RdT w v ps) (hg : w.grownBy w' row) (hv : ps ≠ [] → ∀ k, v.ownBlock = some k → row ≠ some k) : RdT w' v ps := by
  rcases h with h1 | ⟨b, off, cap, rfl, h1, h2, h3⟩
  · exact .inl h1
  · exact .inr ⟨b, off, cap, rfl, h1, h2, fun j c hj => hg.cell (h3 j c hj) (fun e => hv (by rintro rfl; simp [cellsT] at hj) b rfl e.symm)⟩
theorem RdT.grown {w w' : World} {v : Value} {ps : List ST} (h : RdT w v ps) (hg : w.grownBy w' none) : RdT w' v ps := h.kept hg (by simp)
theorem RdT.len {w : World} {v : Value} {ps : List ST} (h : RdT w v ps) : ∃ a c, v = .slice a ps.length c := by
  rcases h with ⟨rfl, rfl⟩ | ⟨b, off, cap, rfl, _⟩
  · exact ⟨none, 0, rfl⟩
  · exact ⟨_, _, rfl⟩
theorem RdT.small {w : World} {v : Value} {ps : List ST} (h : RdT w v ps) : (ps.length : Int) ≤ 9223372036854775807 := by
  rcases h with ⟨rfl, rfl⟩ | ⟨b, off, cap, rfl, h1, h2, _⟩
  · simp
  · simp only [maxLen] at h2; omega
theorem RdT.blk {w : World} {v : Value} {ps : List ST} (h : RdT w v ps) (hl : ps ≠ []) : ∀ k, v.ownBlock = some k → k < w.heap.size := by
  intro k hk
  rcases h with ⟨rfl, _⟩ | ⟨b, off, cap, rfl, h1, h2, h3⟩
  · simp [Value.ownBlock] at hk
  · simp only [Value.ownBlock, Option.some.injEq] at hk
    subst hk
    cases ps with
    | nil => exact absurd rfl hl
    | cons x xs => exact World.block_lt_of_cell? _ _ (h3 0 (.int .i64 x.1) rfl)
theorem RdT.at {w : World} {a : Option Addr} {n c : Nat} {ps : List ST} (h : RdT w (.slice a n c) ps) {i : Nat} {p : ST} (hi : ps[i]? = some p) :
    ∃ b off, a = some ⟨b, off, none⟩ ∧ w.cell? ⟨b, off + i * 2, none⟩ = some (.int .i64 p.1) ∧ w.cell? ⟨b, off + i * 2 + 1, none⟩ = some (.int .i64 p.2) := by
  rcases h with ⟨_, rfl⟩ | ⟨b, off, cap, h0, h1, h2, h3⟩
  · simp at hi
  · simp only [Value.slice.injEq] at h0
    exact ⟨b, off, h0.1, h3 _ _ (cellsT_get 0 (by omega) ps hi), by rw [Nat.add_assoc]; exact h3 _ _ (cellsT_get 1 (by omega) ps hi)⟩
def OkT (p : ST) : Prop := OkI p.1 ∧ OkI p.2
section
variable {H : Type} {enc : TypeId × Value → H} {W : World} {base : Nat}
theorem c_int : Try.prog.cellsOf 3 = 1 := by kernel_rfl
theorem c_step : Try.prog.cellsOf 50 = 2 := by kernel_rfl
theorem leaf_int {fuel : Nat} {v : Value} {y : DataW H × List MemPlace} (h : DataW.trod enc Try.prog W 0 (fun _ => true) true fuel 3 [v] = some y) : ∃ n, v = .int .i64 n ∧ OkI n := by
  obtain ⟨n, hc, _, hw⟩ := DataW.trod_int Try.underlying3 h
  simp only [List.cons.injEq, and_true] at hc
  simp only [Lit.wf, Bool.and_eq_true, decide_eq_true_eq] at hw
  have e1 : IntKind.i64.min = -9223372036854775808 := by kernel_rfl
  have e2 : IntKind.i64.max = 9223372036854775807 := by kernel_rfl
  rw [e1, e2] at hw
  exact ⟨n, hc, hw⟩

theorem two {α : Type} {cs : List α} (h : cs.length = 2) : ∃ a b, cs = [a, b] := match cs, h with | [a, b], _ => ⟨a, b, rfl⟩
set_option maxRecDepth 100000 in
theorem leaf_run {fuel : Nat} {cs : List Value} {y : DataW H × List MemPlace} (hl : cs.length = 2) (h : DataW.trod enc Try.prog W 0 (fun _ => true) true fuel 50 cs = some y) : ∃ p : ST, cs = rowT p ∧ OkT p := by
  obtain ⟨c0, c1, rfl⟩ := two hl
  have hu := Try.underlying50
  obtain ⟨_, _, k0⟩ := trod_field hu h 0 _ rfl 1 c_int
  obtain ⟨_, _, k1⟩ := trod_field hu h 1 _ rfl 1 c_int
  obtain ⟨n0, rfl, r0⟩ := leaf_int k0
  obtain ⟨n1, rfl, r1⟩ := leaf_int k1
  exact ⟨(n0, n1), rfl, r0, r1⟩
set_option maxRecDepth 100000 in
theorem arg_runs {v : Value} {d : DataW H} {p : List MemPlace} (hval : Value.okWide Try.prog W .any base 46 v) (h0 : DataW.Trod enc Try.prog W 0 (fun _ => true) true 46 v d p) : ∃ ps : List ST, RdT W v ps ∧ ∀ p ∈ ps, OkT p := by
  obtain ⟨fuel, hf⟩ := h0
  rcases slice_arg Try.underlying46 hval with rfl | ⟨b, off, n, c, rfl, hn, hc⟩
  · exact ⟨[], .inl ⟨rfl, rfl⟩, by simp⟩
  · rcases Deep.open_slice Try.underlying46 hf with ⟨hcs, hx⟩ | ⟨a, len, cap, m, fl, D, Pl, hcs, _, hl, hm, hmm, hx, hi⟩
    · simp [Value.cells] at hcs
    · simp only [Value.cells, List.cons.injEq, Value.slice.injEq, Option.some.injEq, and_true] at hcs
      obtain ⟨rfl, rfl, rfl⟩ := hcs
      simp only [if_true] at hmm
      subst hmm
      have each : ∀ i, i < n → ∃ p : ST, (∀ r x, (rowT p)[r]? = some x → W.cell? ⟨b, off + (i * 2 + r), none⟩ = some x) ∧ OkT p := fun i hin => by
        obtain ⟨cs', h1, h2⟩ := hi i (by omega)
        rw [c_step] at h1
        obtain ⟨_, h3, h4⟩ := World.cells?_some h1
        obtain ⟨q, rfl, k1⟩ := leaf_run h3 h2
        refine ⟨q, fun r x hr => ?_, k1⟩
        have hlt := (List.getElem?_eq_some_iff.1 hr).1
        have h5 := h4 r (by simp [rowT] at hlt; omega)
        rw [addr_add, addr_add, Nat.add_assoc] at h5
        rw [h5, hr]
      obtain ⟨ps, h1, h2⟩ := list_of n each
      refine ⟨ps, .inr ⟨b, off, m, by rw [h1], by omega, hm, fun j x hj => ?_⟩, fun p hp => by obtain ⟨i, hi⟩ := List.getElem?_of_mem hp; exact (h2 i p hi).2⟩
      obtain ⟨i, r, p, k1, k2, k3, k4⟩ := cellsT_inv ps hj
      rw [k3]
      exact (h2 i p k1).1 r x k4
set_option maxRecDepth 100000 in
theorem arg_int {sp : Nat → Bool} {held : Bool} {b0 : Nat} {v : Value} {d : DataW H} {p : List MemPlace} (hval : Value.okWide Try.prog W .any base 3 v) (h : DataW.Trod enc Try.prog W b0 sp held 3 v d p) : ∃ n, v = .int .i64 n ∧ OkI n := by
  obtain ⟨n, rfl, _, _, hw⟩ := open_int Try.underlying3 hval h
  simp only [Lit.wf, Bool.and_eq_true, decide_eq_true_eq] at hw
  have e1 : IntKind.i64.min = -9223372036854775808 := by kernel_rfl
  have e2 : IntKind.i64.max = 9223372036854775807 := by kernel_rfl
  rw [e1, e2] at hw
  exact ⟨n, rfl, hw⟩
set_option maxRecDepth 100000 in
theorem arg_pair {v : Value} (hval : Value.okWide Try.prog W .any base 24 v) : ∃ x y, v = .agg #[.int .i64 x, .int .i64 y] ∧ OkI x ∧ OkI y := by
  obtain ⟨cs, rfl, hcs, hok⟩ := agg_cells [3, 3] (by kernel_rfl) (by kernel_rfl) (by kernel_rfl) hval
  obtain ⟨c0, c1, rfl⟩ := two hcs
  obtain ⟨x, rfl, hx1, hx2⟩ := cell_int Try.underlying3 (hok 0 _ _ rfl rfl)
  obtain ⟨y, rfl, hy1, hy2⟩ := cell_int Try.underlying3 (hok 1 _ _ rfl rfl)
  have e1 : IntKind.i64.min = -9223372036854775808 := by kernel_rfl
  have e2 : IntKind.i64.max = 9223372036854775807 := by kernel_rfl
  rw [e1] at hx1 hy1
  rw [e2] at hx2 hy2
  exact ⟨x, y, rfl, ⟨hx1, hx2⟩, ⟨hy1, hy2⟩⟩
set_option maxRecDepth 100000 in
theorem arg_ints {W : World} {base : Nat} {v : Value} {d : DataW H} {p : List MemPlace} (hval : Value.okWide Try.prog W .any base 40 v) (h : DataW.Trod enc Try.prog W 0 (fun _ => true) true 40 v d p) :
    ∃ zs : List Int, RdL W v (ivs zs) ∧ (∀ z ∈ zs, -9223372036854775808 ≤ z ∧ z ≤ 9223372036854775807) ∧ (zs.length : Int) ≤ 9223372036854775807 := by
  obtain ⟨fuel, hf⟩ := h
  rcases slice_arg Try.underlying40 hval with rfl | ⟨b, off, n, c, rfl, hn, hc⟩
  · exact ⟨[], .inl ⟨rfl, rfl⟩, by simp, by simp⟩
  · rcases open_ints Try.underlying40 Try.underlying3 (by kernel_rfl) hf with ⟨hcs, hx⟩ | ⟨a, len, cap, zs, hcs, _, hl, hm, hz, hx, hcell, hwz⟩
    · simp [Value.cells] at hcs
    · simp only [Value.cells, List.cons.injEq, Value.slice.injEq, Option.some.injEq, and_true] at hcs
      obtain ⟨rfl, rfl, rfl⟩ := hcs
      simp only [if_true] at hz
      have hlen : (zs.take n).length = n := by simp; omega
      refine ⟨zs.take n, .inr ⟨b, off, c, by simp [ivs]; omega, by simp [ivs]; omega, hc, fun j x hj => ?_⟩, fun z hz' => ?_, by rw [hlen]; rw [maxLen_eq] at hc; omega⟩
      · simp only [ivs, List.getElem?_map, Option.map_eq_some_iff] at hj
        obtain ⟨y, hy, rfl⟩ := hj
        obtain ⟨h1, h2⟩ := List.getElem?_eq_some_iff.1 hy
        have hcj := hcell j (by rw [hlen] at h1; omega)
        rw [addr_add] at hcj
        rw [hcj]
        rw [List.getElem_take] at h2
        simp [List.getD, List.getElem?_eq_getElem (show j < zs.length by rw [hlen] at h1; omega), h2]
      · obtain ⟨j, hj⟩ := List.getElem?_of_mem (List.mem_of_mem_take hz')
        have := range_i64 hwz j
        rw [hj] at this
        exact this

end
end Go.Proofs.Ytpfeaeklenopdaa
