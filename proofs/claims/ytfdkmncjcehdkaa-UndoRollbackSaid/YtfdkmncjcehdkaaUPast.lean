/-
  The images behind the writes, as mathematics and in memory.
-/
import Derived.Test.YtfdkmncjcehdkaaUBk
import Derived.Test.YtfdkmncjcehdkaaUDo
namespace Go.Proofs.Ytfdkmncjcehdkaa
open Go.RowKit

theorem recL_append (a : List UInt8) (x y : List RT) : recL a (x ++ y) = recL (recL a y) x := by
  unfold recL takeAll
  rw [List.reverse_append, List.foldl_append]
/-- the images behind 0, 1, 2, .. records -/
def PInv (b img : List UInt8) (rs : List RT) (is : List (List UInt8)) : Prop := is.length = rs.length + 1 ∧ (∀ j, j ≤ rs.length → is[j]? = some (recL img (rs.drop j))) ∧ okAll rs = true ∧ img.length ≤ 24000 ∧ recL img rs = b
theorem PInv.first {b : List UInt8} (hb : b.length ≤ 24000) : PInv b b [] [b] := ⟨rfl, fun j hj => by
  obtain rfl : j = 0 := by simpa using hj
  rfl, rfl, hb, rfl⟩
theorem PInv.step {b img img' : List UInt8} {rs : List RT} {is : List (List UInt8)} {r s : RT} (h : PInv b img rs is) (hs : wrS img s = some (img', r)) : PInv b img' (rs ++ [r]) (is ++ [img']) := by
  obtain ⟨h1, h2, h3, h4, h5⟩ := h
  have hst := LInv.step (b := recL img rs) (rs := rs) ⟨rfl, h3, h4⟩ hs
  refine ⟨by simp [h1], fun j hj => ?_, hst.1.2.1, hst.1.2.2, by rw [hst.1.1]; exact h5⟩
  rcases Nat.lt_or_ge rs.length j with hj2 | hj2
  · have : j = rs.length + 1 := by simp at hj; omega
    subst this
    rw [List.getElem?_append_right (by omega), h1, Nat.sub_self, List.drop_of_length_le (by simp)]
    rfl
  · rw [List.getElem?_append_left (by omega), h2 j hj2, List.drop_append_of_le_length hj2, recL_snoc, hst.2]
/-- going back leads to the image, and from there back to the first one -/
theorem rec_split (img : List UInt8) (rs : List RT) (k : Nat) : recL (recL img (rs.drop k)) (rs.take k) = recL img rs := by
  rw [← recL_append, List.take_append_drop]

theorem info22 : (Try.prog.info? 22).map (fun i => (i.zero, i.size, i.bytes)) = some (some (.slice none 0 0), 1, 24) := by kernel_rfl
/-- the slices of these images, in memory that the log doesn't own -/
def Past (W : World) (B : Nat) (F : Nat → Prop) (v : Value) (vs : List Value) (is : List (List UInt8)) : Prop :=
  W.ownsRow B 22 1 v vs.length vs ∧ vs.length = is.length ∧ (∀ q, v.ownBlock = some q → ¬ F q) ∧ ∀ (j : Nat) x l, vs[j]? = some x → is[j]? = some l → Own W B x l ∧ ∀ q, x.ownBlock = some q → ¬ F q ∧ v.ownBlock ≠ some q
theorem Past.len {W : World} {B : Nat} {F : Nat → Prop} {v : Value} {vs : List Value} {is : List (List UInt8)} (h : Past W B F v vs is) : ∃ a c, v = .slice a vs.length c := by
  rcases h.1.2 with ⟨h0, hz⟩ | ⟨g, c, cur, h0, _⟩
  · exact ⟨none, 0, by rw [h0, hz]⟩
  · exact ⟨_, _, h0⟩
theorem own1_kept {w w' : World} {base : Nat} {e : TypeId} {v : Value} {n : Nat} {xs : List Value} {row : Option Nat} (h : w.ownsRow base e 1 v n xs) (hg : w.grownBy w' row) (hr : ∀ k, v.ownBlock = some k → row ≠ some k) : w'.ownsRow base e 1 v n xs :=
  h.kept hg (by cases hv : v.ownBlock with
    | none => exact .inl rfl
    | some k => exact .inr (fun e => hr k hv e.symm))
theorem Past.grown {W W' : World} {B : Nat} {F : Nat → Prop} {v : Value} {vs : List Value} {is : List (List UInt8)} (h : Past W B F v vs is) (hg : W.grownBy W' none) : Past W' B F v vs is :=
  ⟨own1_kept h.1 hg (by simp), h.2.1, h.2.2.1, fun j x l hx hl => ⟨(h.2.2.2 j x l hx hl).1.grown hg, (h.2.2.2 j x l hx hl).2⟩⟩
theorem own_foot {w w' : World} {F F' : Nat → Prop} {base sz : Nat} {e : TypeId} {v : Value} {n : Nat} {xs : List Value} (h : w.ownsRow base e sz v n xs) (hf : Foot w w' F F') (hn : ∀ k, v.ownBlock = some k → ¬ F k) : w'.ownsRow base e sz v n xs := by
  obtain ⟨h1, h2⟩ := h
  refine ⟨h1, ?_⟩
  rcases h2 with h2 | ⟨g, cap, cur, rfl, h3, h4, h5⟩
  · exact .inl h2
  · exact .inr ⟨g, cap, cur, rfl, h3, by rw [hf.block g (Array.getElem?_eq_some_iff.1 h4).1 (hn g rfl)]; exact h4, h5⟩
theorem Past.foot {W W' : World} {B : Nat} {F F' : Nat → Prop} {v : Value} {vs : List Value} {is : List (List UInt8)} (h : Past W B F v vs is) (hf : Foot W W' F F') : Past W' B F' v vs is := by
  have hsub : ∀ q, q < W.heap.size → ¬ F q → ¬ F' q := fun q hq hn hF => by
    rcases hf.sub q hF with h1 | h1
    · exact hn h1
    · omega
  refine ⟨own_foot h.1 hf h.2.2.1, h.2.1, fun q hq => hsub q (World.ownsRow.lt h.1 q hq).2 (h.2.2.1 q hq), fun j x l hx hl => ?_⟩
  obtain ⟨h1, h2⟩ := h.2.2.2 j x l hx hl
  exact ⟨own_foot h1 hf (fun q hq => (h2 q hq).1), fun q hq => ⟨hsub q (h1.lt q hq).2 (h2 q hq).1, (h2 q hq).2⟩⟩
theorem Past.first {w : World} {B : Nat} {F : Nat → Prop} {x : Value} {l : List UInt8} (ho : Own w B x l) (hx : ∀ q, x.ownBlock = some q → ¬ F q) (hB : B ≤ w.heap.size) (hF : ¬ F w.heap.size) : Past (w.alloc (.cells #[x] 22)) B F (.slice (some ⟨w.heap.size, 0, none⟩) 1 1) [x] [l] := by
  refine ⟨World.ownsRow_lit (e := 22) (size := 1) w #[x] 1 hB (by simp [maxLen]) rfl, rfl, fun q hq => by simp only [Value.ownBlock, Option.some.injEq] at hq; rw [← hq]; exact hF, fun j y m hy hm => ?_⟩
  cases j with
  | zero =>
    simp at hy hm
    subst hy hm
    exact ⟨ho.grown (gb_alloc _ _ _), fun q hq => ⟨hx q hq, fun e => by have := (ho.lt q hq).2; simp only [Value.ownBlock, Option.some.injEq] at e; omega⟩⟩
  | succ j => simp at hy
/-- append of one more image -/
theorem past_app_step {ops : Array Oper} {rest : List Oper} {o : Oper} {a : Act} {w : World} {Q : Exit → Act → World → Prop} (hgd : o.guard = none) (s y : Operand)
    (ho : o.op = .call { callee := .builtin .append, args := #[s, y], argTypes := #[30, 30] }) (B : Nat) (F : Nat → Prop) (v : Value) (vs : List Value) (is : List (List UInt8)) (g : Nat) (x : Value) (l : List UInt8) (hs : a.eval s = v) (hy : a.eval y = .slice (some ⟨g, 0, none⟩) 1 1)
    (h : Past w B F v vs is) (hx : Own w B x l) (hxF : ∀ q, x.ownBlock = some q → ¬ F q ∧ v.ownBlock ≠ some q) (hg : ∃ T, w.heap[g]? = some (.cells #[x] T (0, 0))) (hFlt : ∀ q, F q → q < w.heap.size) (hn : vs.length ≤ 1000000 ∧ B ≤ w.heap.size)
    (hK : ∀ v' w', Past w' B F v' (vs ++ [x]) (is ++ [l]) → w.grownBy w' v.ownBlock → (∃ c a, v' = .slice a (vs.length + 1) c) → wpList Try.prog ops Q rest (a.put o.dst v') w') : wpList Try.prog ops Q (o :: rest) a w := by
  obtain ⟨T, hg⟩ := hg
  obtain ⟨i0, hi, hz0, hz1, hz2⟩ := info_parts info22
  obtain ⟨v', w', hr, h2, h3, h4⟩ := run_append_own2 (P := Try.prog) w B 30 o.type 22 i0 (.slice none 0 0) 1 24 Try.underlying30 hi hz0 hz1 hz2 rfl (by decide) v vs.length vs h.1 ⟨g, 0, none⟩ 1 1 [x] rfl (fun j u hj => by
    cases j with
    | zero => simp at hj; subst hj; rw [addr_add]; exact cell_row hg
    | succ j => simp at hj) (fun u hu => by simp at hu; subst hu; exact hx.one) (by simp only [maxLen]; omega) (by omega) hn.2
  refine wpList_plain hgd fun _ hK2 => ?_
  unfold Oper.wp execOp
  simp only [ho, resolve, invoke, builtin, Sem.run_bind, Sem.run_pure, Result.andThen_ok, List.map_toArray, List.map_cons, List.map_nil, hs, hy, hr]
  have keep : ∀ z m, Own w B z m → (∀ q, z.ownBlock = some q → ¬ F q ∧ v.ownBlock ≠ some q) → Own w' B z m ∧ ∀ q, z.ownBlock = some q → ¬ F q ∧ v'.ownBlock ≠ some q := fun z m hz hq => ⟨hz.kept h3 (fun q e1 e2 => (hq q e1).2 e2), fun q e1 => ⟨(hq q e1).1, fun e2 => by
    rcases h4 q e2 with h5 | h5
    · exact (hq q e1).2 h5
    · have := (hz.lt q e1).2; omega⟩⟩
  refine hK2 _ _ (hK v' w' ⟨by simpa using h2, by simp [h.2.1], fun q hq hF => ?_, fun j z m hz hm => ?_⟩ h3 ?_)
  · rcases h4 q hq with h5 | h5
    · exact h.2.2.1 q h5 hF
    · have := hFlt q hF; omega
  · rcases Nat.lt_or_ge j vs.length with hj | hj
    · rw [List.getElem?_append_left hj] at hz
      rw [List.getElem?_append_left (by rw [← h.2.1]; exact hj)] at hm
      exact keep z m (h.2.2.2 j z m hz hm).1 (h.2.2.2 j z m hz hm).2
    · rw [List.getElem?_append_right hj] at hz
      rw [List.getElem?_append_right (by rw [← h.2.1]; exact hj), ← h.2.1] at hm
      cases hjj : j - vs.length with
      | zero =>
        rw [hjj] at hz hm
        simp at hz hm
        subst hz hm
        exact keep _ _ hx hxF
      | succ i => rw [hjj] at hz; simp at hz
  · rcases h2.2 with ⟨h0, hz⟩ | ⟨g', c, cur, h0, _⟩
    · omega
    · exact ⟨c, _, h0⟩
theorem Past.at {W : World} {B gp n c : Nat} {F : Nat → Prop} {vs : List Value} {is : List (List UInt8)} (h : Past W B F (.slice (some ⟨gp, 0, none⟩) n c) vs is) (hn : vs.length = n) {j : Nat} {x : Value} {l : List UInt8} (hx : vs[j]? = some x) (hl : is[j]? = some l) :
    W.cell? ⟨gp, j, none⟩ = some x ∧ (convert 22 9 x).run Try.prog W = .ok (.string (str l)) W := by
  refine ⟨?_, run_toString W x l (h.2.2.2 j x l hx hl).1.rd⟩
  have h1 := h.1
  rw [hn] at h1
  have hj := (List.getElem?_eq_some_iff.1 hx).1
  rw [World.ownsRow.cellAt h1 j (by omega), hx]
theorem recs_few {ps : List RP} (hok : okAll (ps.map (·.1)) = true) : ∀ p ∈ ps, p.1.2.2.length ≤ 140737488355328 := fun p hp => by
  unfold okAll at hok
  rw [List.all_eq_true] at hok
  have := okR_spec (hok p.1 (List.mem_map_of_mem hp))
  omega
theorem recL_len {a : List UInt8} {rs : List RT} {B : Nat} (h : okAll rs = true) (ha : a.length ≤ B) (hB : 24000 ≤ B) : (recL a rs).length ≤ B := takeAll_le rs.reverse a B (fun r hr => okAll_spec h r hr) ha hB
theorem okAll_drop {rs : List RT} (h : okAll rs = true) (k : Nat) : okAll (rs.drop k) = true := by
  unfold okAll at *
  rw [List.all_eq_true] at *
  exact fun r hr => h r (List.mem_of_mem_drop hr)
theorem okAll_take {rs : List RT} (h : okAll rs = true) (k : Nat) : okAll (rs.take k) = true := by
  unfold okAll at *
  rw [List.all_eq_true] at *
  exact fun r hr => h r (List.mem_of_mem_take hr)
/-- what the loop of UndoRollback keeps -/
def RbInv (w : World) (b : List UInt8) (g k : Nat) (v : Value) (wr : World) : Prop :=
  ∃ F iv rv img ps vs is, LogF wr F g iv rv img ps true ∧ PInv b img (ps.map (·.1)) is ∧ ps.length ≤ k ∧ (∀ j, F j → w.heap.size ≤ j) ∧ Past wr w.heap.size F v vs is
theorem RbInv.grown {w wr X : World} {b : List UInt8} {g k k' : Nat} {v : Value} (h : RbInv w b g k v wr) (hg : wr.grownBy X none) (hk : k ≤ k') : RbInv w b g k' v X := by
  obtain ⟨F, iv, rv, img, ps, vs, is, h1, h2, h3, h4, h5⟩ := h
  exact ⟨F, iv, rv, img, ps, vs, is, h1.grown hg (by simp), h2, by omega, h4, h5.grown hg⟩
end Go.Proofs.Ytfdkmncjcehdkaa
