/-
  What the arguments of a law come as: integers, and structs and arrays cell by cell.
-/
import Derived.Test.YtbibgjkcapjgnaaArgB
namespace Go.Proofs.Ytbibgjkcapjgnaa
open Go.ChangeShapes Go.WideShapes Go.ChangeAt Go.RowKit

section
variable {H : Type} {enc : TypeId × Value → H} {P : Program} {W : World} {base : Nat}

theorem cell_int {u : TypeId} {k : IntKind} {x : Value} (hu : P.underlying u = some (.int k)) (h : Cell.okWide P W .any base u x) : ∃ n, x = .int k n ∧ k.min ≤ n ∧ n ≤ k.max := by
  cases x <;> simp [Cell.okWide, Cell.ok, hu] at h
  obtain ⟨rfl, h1, h2⟩ := h
  exact ⟨_, rfl, h1, h2⟩
theorem cell_slice {u e : TypeId} {x : Value} (hu : P.underlying u = some (.slice e)) (h : Cell.okWide P W .any base u x) :
    x = .slice none 0 0 ∨ ∃ b off n c, x = .slice (some ⟨b, off, none⟩) n c ∧ n ≤ c ∧ c ≤ maxLen := by
  refine slice_arg (P := P) (W := W) (base := base) (t := u) (e := e) hu ?_
  simp only [Value.okWide, hu]
  exact h
theorem agg_cells {t : TypeId} {v : Value} (ts : List TypeId) (hu : (P.underlying t).any (fun d => match d with | .struct _ | .array _ _ => true | _ => false) = true) (hC : P.cellsOf t = ts.length) (hts : P.cellTypes P.depth t = some ts)
    (h : Value.okWide P W .any base t v) : ∃ cs : List Value, v = .agg cs.toArray ∧ cs.length = ts.length ∧ ∀ (i : Nat) u x, ts[i]? = some u → cs[i]? = some x → Cell.okWide P W .any base u x := by
  have h1 : ∃ cs, v = .agg cs ∧ cs.size = P.cellsOf t ∧ Row.okWide P W .any base t cs := by
    simp only [Value.okWide] at h
    cases hd : P.underlying t with
    | none => simp [hd] at hu
    | some d => cases d <;> simp [hd] at hu <;> simpa [hd] using h
  obtain ⟨cs, rfl, hs, ts', h2, _, h3⟩ := h1
  rw [hts] at h2
  cases h2
  refine ⟨cs.toList, by simp, by simp [hs, hC], fun i u x hi hx => ?_⟩
  have hlt : i < ts.length := (List.getElem?_eq_some_iff.1 hi).1
  obtain ⟨u', hu', hok⟩ := h3 i x (by simpa using hx)
  rw [Nat.mod_eq_of_lt hlt, hi] at hu'
  cases hu'
  exact hok

theorem mapM_at {α β : Type} {f : α → Option β} : ∀ {l : List α} {r : List β}, l.mapM f = some r → ∀ {i : Nat} {x : α}, l[i]? = some x → ∃ y, f x = some y := by
  intro l
  induction l with
  | nil => intro r _ i x hi; simp at hi
  | cons a l ih =>
    intro r h i x hi
    rw [List.mapM_cons] at h
    simp only [bind, Option.bind_eq_some_iff] at h
    obtain ⟨y, hy, ys, hys, _⟩ := h
    cases i with
    | zero => simp at hi; subst hi; exact ⟨y, hy⟩
    | succ i => exact ih hys (by simpa using hi)
theorem trod_field {w : World} {b0 : Nat} {sp : Nat → Bool} {held : Bool} {t : TypeId} {cs : List Value} {x : DataW H × List MemPlace} {fuel : Nat} {fs : Array Field} (ht : P.underlying t = some (.struct fs)) (h : DataW.trod enc P w b0 sp held fuel t cs = some x)
    {i : Nat} {f : Field} (hf : fs[i]? = some f) : ∃ m y, DataW.trod enc P w b0 sp held m f.type ((cs.drop f.offset).take (P.cellsOf f.type)) = some y := by
  cases fuel with
  | zero => simp [DataW.trod] at h
  | succ m =>
    rw [DataW.trod_step] at h
    unfold DataW.trodStep at h
    simp only [ht] at h
    split at h
    · simp only [Option.map_eq_some_iff] at h
      obtain ⟨xs, hxs, _⟩ := h
      obtain ⟨y, hy⟩ := mapM_at hxs (i := i) (x := f) (by simpa using hf)
      exact ⟨m, y, hy⟩
    · simp at h
end

theorem len2 {α : Type} {cs : List α} (h : cs.length = 2) : ∃ a b, cs = [a, b] := match cs, h with | [a, b], _ => ⟨a, b, rfl⟩
theorem len3 {α : Type} {cs : List α} (h : cs.length = 3) : ∃ a b c, cs = [a, b, c] := match cs, h with | [a, b, c], _ => ⟨a, b, c, rfl⟩
theorem len9 {α : Type} {cs : List α} (h : cs.length = 9) : ∃ a b c d e f g i j, cs = [a, b, c, d, e, f, g, i, j] := match cs, h with | [a, b, c, d, e, f, g, i, j], _ => ⟨a, b, c, d, e, f, g, i, j, rfl⟩
theorem min_i64 : IntKind.i64.min = -9223372036854775808 := by kernel_rfl
theorem max_i64 : IntKind.i64.max = 9223372036854775807 := by kernel_rfl
section
variable {H : Type} {enc : TypeId × Value → H} {W : World} {base : Nat}
theorem arg_u64 {sp : Nat → Bool} {held : Bool} {b0 : Nat} {v : Value} {d : DataW H} {p : List MemPlace} (hval : Value.okWide Try.prog W .any base 22 v) (h : DataW.Trod enc Try.prog W b0 sp held 22 v d p) : ∃ n : Nat, v = .int .u64 (n : Int) ∧ n < 18446744073709551616 := by
  obtain ⟨n, rfl, _, _, hw⟩ := open_int Try.underlying22 hval h
  simp only [Lit.wf, Bool.and_eq_true, decide_eq_true_eq] at hw
  have e1 : IntKind.u64.min = 0 := by kernel_rfl
  have e2 : IntKind.u64.max = 18446744073709551615 := by kernel_rfl
  rw [e1, e2] at hw
  exact ⟨n.toNat, by congr 1; omega, by omega⟩
end
end Go.Proofs.Ytbibgjkcapjgnaa
