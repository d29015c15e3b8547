/-
  Lists of changes whose row is the call's own and whose data lie elsewhere.
-/
import Derived.Test.YtnkgoaloigmmfaaIMath2
namespace Go.Proofs.Ytnkgoaloigmmfaa
open Go.RowKit

def CLr (te : TypeId) (w : World) (B : Nat) (v : Value) (ps : List ChP) : Prop :=
  w.ownsRow B te 2 v ps.length (cellsC ps) ∧ ∀ p ∈ ps, RdW w p.2 p.1.2 ∧ ∀ k, p.2.ownBlock = some k → k < B
theorem CLr.rd {te : TypeId} {w : World} {B : Nat} {v : Value} {ps : List ChP} (h : CLr te w B v ps) : RdCs w v ps := by
  refine ⟨?_, fun p hp => (h.2 p hp).1⟩
  have h0 := h.1
  obtain ⟨h1, h2⟩ := h.1
  rcases h2 with ⟨rfl, hn⟩ | ⟨g, cap, cur, rfl, hb, hg, hnc, hcm, hcs, htake⟩
  · exact .inl ⟨rfl, List.eq_nil_of_length_eq_zero hn⟩
  · refine .inr ⟨g, 0, cap, rfl, hnc, hcm, fun j c hj => ?_⟩
    have := World.ownsRow.cells h0 (g := g) rfl j c hj
    rwa [addr_add] at this
theorem CLr.nil (te : TypeId) (w : World) (B : Nat) : CLr te w B (.slice none 0 0) [] := ⟨World.ownsRow_nil w B _ 2, fun p hp => by simp at hp⟩
theorem CLr.lit0 (te : TypeId) (w : World) (B : Nat) (hB : B ≤ w.heap.size) : CLr te (w.alloc (.cells #[] te)) B (.slice (some ⟨w.heap.size, 0, none⟩) 0 0) [] :=
  ⟨World.ownsRow_lit (e := te) (size := 2) w #[] 0 hB (Nat.zero_le _) rfl, fun p hp => by simp at hp⟩
theorem CLr.kept {te : TypeId} {w w' : World} {B : Nat} {v : Value} {ps : List ChP} {row : Option Nat} (h : CLr te w B v ps) (hg : w.grownBy w' row) (hr : ∀ k, row = some k → w.heap.size ≤ k) : CLr te w' B v ps :=
  ⟨own2_kept h.1 hg (fun k hk e => by have := h.1.lt k hk; have := hr k e; omega), fun p hp => ⟨(h.2 p hp).1.kept hg (fun hne k hk e => by have := (h.2 p hp).1.blk hne k hk; have := hr k e; omega), (h.2 p hp).2⟩⟩
theorem CLr.grown {te : TypeId} {w w' : World} {B : Nat} {v : Value} {ps : List ChP} (h : CLr te w B v ps) (hg : w.grownBy w' none) : CLr te w' B v ps := h.kept hg (by simp)
theorem CLr.slice {te : TypeId} {w : World} {B : Nat} {v : Value} {ps : List ChP} (h : CLr te w B v ps) : ∃ a c, v = .slice a ps.length c := by
  rcases h.1.2 with ⟨rfl, h2⟩ | ⟨g, cap, cur, rfl, _⟩
  · exact ⟨none, 0, by rw [h2]⟩
  · exact ⟨_, _, rfl⟩
theorem cellsC_one {w : World} : ∀ (ps : List ChP), (∀ p ∈ ps, RdW w p.2 p.1.2) → ∀ u ∈ cellsC ps, u.oneCell' = true := by
  intro ps h u hu
  unfold cellsC at hu
  rw [List.mem_flatMap] at hu
  obtain ⟨p, hp, hu⟩ := hu
  obtain ⟨a, c, e⟩ := (h p hp).len
  simp only [rowC, List.mem_cons, List.not_mem_nil, or_false] at hu
  rcases hu with rfl | rfl
  · rfl
  · rw [e]; rfl
/-- append of readable changes -/
theorem CLr.app {ts te : TypeId} (hu : Try.prog.underlying ts = some (.slice te)) (hin : (Try.prog.info? te).map (fun i => (i.zero, i.size, i.bytes)) = some (some (.agg #[.int .i64 0, .slice none 0 0]), 2, 32))
    {w : World} {B : Nat} {v sv : Value} {ps qs : List ChP} (h : CLr te w B v ps) (hs : RdCs w sv qs) (hd : ∀ p ∈ qs, ∀ k, p.2.ownBlock = some k → k < B) (hn : ps.length + qs.length ≤ 1000000) (hB : B ≤ w.heap.size) (ty : TypeId) :
    ∃ v' w', (Builtin.append_ #[ts, ts] ty #[v, sv]).run Try.prog w = .ok v' w' ∧ CLr te w' B v' (ps ++ qs) ∧ w.grownBy w' v.ownBlock ∧ Fr w v v' := by
  obtain ⟨i0, hi, hz0, hz1, hz2⟩ := info_parts hin
  have keep : ∀ w', w.grownBy w' v.ownBlock → ∀ p ∈ ps ++ qs, RdW w' p.2 p.1.2 ∧ ∀ k, p.2.ownBlock = some k → k < B := fun w' hg p hp => by
    have hp2 : RdW w p.2 p.1.2 ∧ ∀ k, p.2.ownBlock = some k → k < B := by
      rcases List.mem_append.1 hp with hp | hp
      · exact h.2 p hp
      · exact ⟨hs.2 p hp, hd p hp⟩
    exact ⟨hp2.1.kept hg (fun _ k hk e => by have := hp2.2 k hk; have := (h.1.lt k e).1; omega), hp2.2⟩
  rcases hs.1 with ⟨rfl, rfl⟩ | ⟨b, off, cap, rfl, h1, h2, h3⟩
  · refine ⟨v, w, run_append_owned_none (P := Try.prog) w B _ ty _ i0 2 hu hi v _ _ h.1, by simpa using h, gb_refl _ _, Fr.refl _ _⟩
  · obtain ⟨v', w', hr, ho, hgr, hf⟩ := run_append_own2 (P := Try.prog) w B ts ty te i0 _ 2 32 hu hi hz0 hz1 hz2 rfl (by decide) v ps.length (cellsC ps) h.1
      ⟨b, off, none⟩ qs.length cap (cellsC qs) (cellsC_len qs) (fun j u hu => by rw [addr_add]; exact h3 j u hu) (cellsC_one qs hs.2) (by simp only [maxLen]; omega) (by omega) hB
    refine ⟨v', w', hr, ⟨?_, keep w' hgr⟩, hgr, hf⟩
    rw [List.length_append]
    have e : cellsC (ps ++ qs) = cellsC ps ++ cellsC qs := by simp [cellsC]
    rw [e]
    exact ho
theorem step_app_chs {ops : Array Oper} {o : Oper} {a : Act} {w : World} {K : Act → World → Prop} {Q : Exit → Act → World → Prop} {E : Prop} (hgd : o.guard = none) (s y : Operand)
    (ho : o.op = .call { callee := .builtin .append, args := #[s, y], argTypes := #[27, 27] })
    (B : Nat) (v sv : Value) (ps qs : List ChP) (hs : a.eval s = v) (hy : a.eval y = sv) (h : CLr 57 w B v ps) (hr : RdCs w sv qs) (hd : ∀ p ∈ qs, ∀ k, p.2.ownBlock = some k → k < B)
    (hn : ps.length + qs.length ≤ 1000000) (hB : B ≤ w.heap.size)
    (hK : ∀ v' w', CLr 57 w' B v' (ps ++ qs) → w.grownBy w' v.ownBlock → Fr w v v' → K (a.put o.dst v') w') : if Region.wanted o (yielded ops a.tmps) = true then Oper.wp Try.prog o a w K Q else E := by
  have hw : Region.wanted o (yielded ops a.tmps) = true := by simp [Region.wanted, hgd]
  rw [if_pos hw]
  obtain ⟨v', w', hr, h2, h3, h4⟩ := h.app Try.underlying27 info_ch hr hd hn hB o.type
  unfold Oper.wp execOp
  simp only [ho, resolve, invoke, builtin, Sem.run_bind, Sem.run_pure, Result.andThen_ok, List.map_toArray, List.map_cons, List.map_nil, hs, hy, hr]
  exact hK v' w' h2 h3 h4
theorem cellsC_take (ps : List ChP) (m : Nat) : cellsC (ps.take m) = (cellsC ps).take (m * 2) := by
  induction ps generalizing m with
  | nil => simp [cellsC]
  | cons p ps ih =>
    cases m with
    | zero => simp [cellsC]
    | succ m =>
      have e : cellsC (p :: ps) = rowC p.1.1 p.2 ++ cellsC ps := by simp [cellsC]
      have e2 : cellsC (p :: ps.take m) = rowC p.1.1 p.2 ++ cellsC (ps.take m) := by simp [cellsC]
      rw [List.take_succ_cons, e, e2, ih, show (m + 1) * 2 = 2 + m * 2 by omega]
      simp [rowC, List.take_succ_cons, Nat.add_comm 2]
theorem cellsC_drop : ∀ (ps : List ChP) (m : Nat), cellsC (ps.drop m) = (cellsC ps).drop (m * 2)
  | [], m => by simp [cellsC]
  | p :: ps, 0 => by simp
  | p :: ps, m + 1 => by
    have e : cellsC (p :: ps) = rowC p.1.1 p.2 ++ cellsC ps := by simp [cellsC]
    rw [List.drop_succ_cons, e, cellsC_drop ps m, show (m + 1) * 2 = 2 + m * 2 by omega]
    rw [List.drop_append]
    simp [rowC]
theorem RdCs.take {w : World} {a : Option Addr} {n c : Nat} {ps : List ChP} (h : RdCs w (.slice a n c) ps) {m : Nat} (hm : m ≤ ps.length) : RdCs w (.slice a m c) (ps.take m) := by
  refine ⟨?_, fun p hp => h.2 p (List.mem_of_mem_take hp)⟩
  rcases h.1 with ⟨h0, rfl⟩ | ⟨b, off, cap, h0, h1, h2, h3⟩
  · cases h0
    simp at hm
    subst hm
    exact .inl ⟨rfl, rfl⟩
  · cases h0
    refine .inr ⟨b, off, c, by rw [List.length_take, Nat.min_eq_left hm], by rw [List.length_take]; omega, h2, fun j x hj => h3 j x ?_⟩
    rw [cellsC_take, List.getElem?_take] at hj
    split at hj
    · exact hj
    · cases hj
theorem RdCs.drop {w : World} {b off n c : Nat} {ps : List ChP} (h : RdCs w (.slice (some ⟨b, off, none⟩) n c) ps) {m : Nat} (hm : m ≤ ps.length) :
    RdCs w (.slice (some ⟨b, off + m * 2, none⟩) (ps.length - m) (c - m)) (ps.drop m) ∧ (c = m → RdCs w (.slice (some ⟨b, off, none⟩) (ps.length - m) (c - m)) (ps.drop m)) := by
  have hd : ∀ p ∈ ps.drop m, RdW w p.2 p.1.2 := fun p hp => h.2 p (List.mem_of_mem_drop hp)
  rcases h.1 with ⟨h0, _⟩ | ⟨b', off', cap, h0, h1, h2, h3⟩
  · cases h0
  · cases h0
    refine ⟨⟨.inr ⟨b, off + m * 2, c - m, by rw [List.length_drop], by rw [List.length_drop]; omega, by omega, fun j x hj => ?_⟩, hd⟩, fun e => ⟨.inr ⟨b, off, c - m, by rw [List.length_drop], by rw [List.length_drop]; omega, by omega, fun j x hj => ?_⟩, hd⟩⟩
    · rw [cellsC_drop, List.getElem?_drop] at hj
      rw [Nat.add_assoc]
      exact h3 _ _ hj
    · exfalso
      have h5 := cellsC_len (ps.drop m)
      rw [List.length_drop] at h5
      rw [List.getElem?_eq_none (by omega)] at hj
      cases hj
end Go.Proofs.Ytnkgoaloigmmfaa
