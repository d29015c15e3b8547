/-
  A region that draws its order, whose loads come ahead of one last operation that writes: the loads are taken first; also in a round of an iterator.
-/
import Derived.Test.YtfldooljmjeaoaaRow
import Derived.OrdersHeld
import Derived.RangeFuncBox
import Derived.RangeFuncNested
import Derived.RangeFuncBound
import Derived.RangeFuncCalls
import Derived.RangeFuncLeaves
import Derived.Shelf.Abstract
import Derived.Shelf.RegionOpen
import Derived.OwnWalkIn
import Derived.TacticsInMore
import Derived.LoopNIn
import Derived.LoopIn
import Derived.Stop.RegionWithIn
namespace Go.Proofs.Ytfldooljmjeaoaa
open Go.RowKit Go.Shelf

section
variable {P : Program} {md : Region.Mode} {ops : Array Oper} {Q : Exit → Act → World → Prop} {S : World → Prop}
/-- whatever order is picked from here on, and S holds as long as operation J has not come up -/
def wpAnyK (P : Program) (md : Region.Mode) (ops : Array Oper) (Q : Exit → Act → World → Prop) (S : World → Prop) (J : Nat) : Nat → Array Bool → Act → World → Prop
  | 0, listed, a, w => Region.ready md ops listed = [] ∧ Q .normal a w
  | fuel + 1, listed, a, w =>
    (Region.ready md ops listed = [] → Q .normal a w) ∧
    ∀ i ∈ Region.ready md ops listed, wpOp P ops Q i (fun a' w' => ((listed.setIfInBounds i true).getD J true = false → S w') ∧ wpAnyK P md ops Q S J fuel (listed.setIfInBounds i true) a' w') a w
theorem wpAny_of_K {J : Nat} : ∀ (fuel : Nat) (listed : Array Bool) (a : Act) (w : World), wpAnyK P md ops Q S J fuel listed a w → wpAny P md ops Q fuel listed a w
  | 0, _, _, _, h => h
  | fuel + 1, _, _, _, h => ⟨h.1, fun i hi => wpOp_mono (fun a' w' h' => wpAny_of_K fuel _ a' w' h'.2) (h.2 i hi)⟩
/-- what is listed has what it waits for listed -/
def ClosedL (md : Region.Mode) (ops : Array Oper) (listed : Array Bool) : Prop := ∀ m o, ops[m]? = some o → listed.getD m true = true → ∀ e ∈ o.after, Region.binds md e = true → listed.getD e.on false = true
def closedB (md : Region.Mode) (ops : Array Oper) (listed : Array Bool) : Bool := (List.range ops.size).all fun m => match ops[m]? with | none => true | some o => !(listed.getD m true) || o.after.toList.all fun e => !(Region.binds md e) || listed.getD e.on false
theorem closedB_spec {listed : Array Bool} (h : closedB md ops listed = true) : ClosedL md ops listed := by
  intro m o hm hl e he hb
  unfold closedB at h
  rw [List.all_eq_true] at h
  have h1 := h m (List.mem_range.2 (Array.getElem?_eq_some_iff.1 hm).1)
  rw [hm] at h1
  simp only [hl, Bool.not_true, Bool.false_or, List.all_eq_true] at h1
  have h2 := h1 e (by simpa using he)
  rw [hb] at h2
  simpa using h2
theorem ClosedL.step {listed : Array Bool} (h : ClosedL md ops listed) {j : Nat} (hj : j ∈ Region.ready md ops listed) : ClosedL md ops (listed.setIfInBounds j true) := by
  intro m o hm hl e he hb
  refine getD_set_true ?_
  by_cases hmj : j = m
  · subst hmj
    obtain ⟨_, oj, hoj, hall⟩ := mem_ready.1 hj
    rw [hm] at hoj
    cases hoj
    exact hall e he hb
  · rw [getD_set_ne true hmj] at hl
    exact h m o hm hl e he hb
def reachN (md : Region.Mode) (ops : Array Oper) (i : Nat) : Nat → Nat → Bool
  | 0, _ => false
  | n + 1, j => match ops[j]? with | none => false | some o => o.after.toList.any fun e => Region.binds md e && (e.on == i || reachN md ops i n e.on)
theorem reachN_listed {listed : Array Bool} {i : Nat} (h : ClosedL md ops listed) : ∀ (n j : Nat), reachN md ops i n j = true → listed.getD j true = true → listed.getD i false = true
  | 0, j, hr, _ => by cases hr
  | n + 1, j, hr, hl => by
    unfold reachN at hr
    cases ho : ops[j]? with
    | none => rw [ho] at hr; cases hr
    | some o =>
      rw [ho] at hr
      simp only [List.any_eq_true, Bool.and_eq_true, Bool.or_eq_true, beq_iff_eq] at hr
      obtain ⟨e, he, hb, hx⟩ := hr
      have h1 := h j o ho hl e (by simpa using he) hb
      rcases hx with hx | hx
      · rw [← hx]; exact h1
      · refine reachN_listed h n e.on hx ?_
        rcases Nat.lt_or_ge e.on listed.size with h' | h'
        · simp [h'] at h1 ⊢; exact h1
        · simp [Array.getElem?_eq_none h'] at h1
theorem reachN_ready {listed : Array Bool} {i : Nat} (h : ClosedL md ops listed) (n j : Nat) (hr : reachN md ops i n j = true) (hj : j ∈ Region.ready md ops listed) : listed.getD i false = true := by
  cases n with
  | zero => cases hr
  | succ n =>
    obtain ⟨_, o, ho, hall⟩ := mem_ready.1 hj
    unfold reachN at hr
    rw [ho] at hr
    simp only [List.any_eq_true, Bool.and_eq_true, Bool.or_eq_true, beq_iff_eq] at hr
    obtain ⟨e, he, hb, hx⟩ := hr
    have h1 := hall e (by simpa using he) hb
    rcases hx with hx | hx
    · rw [← hx]; exact h1
    · refine reachN_listed h n e.on hx ?_
      rcases Nat.lt_or_ge e.on listed.size with h' | h'
      · simp [h'] at h1 ⊢; exact h1
      · simp [Array.getElem?_eq_none h'] at h1
theorem wpAnyK_first {J i : Nat} {oi : Oper} {v : Value} (hi : ops[i]? = some oi) (hsel : ∀ (j : Nat) (o : Oper) cs b, ops[j]? = some o → o.op ≠ .select cs b)
    (hQ : ∀ c a w, Q (.panic c) (a.put oi.dst v) w → Q (.panic c) a w) (hJi : reachN md ops i ops.size J = true) (hne : J ≠ i) :
    ∀ (fuel : Nat) (listed : Array Bool) (a : Act) (w : World), ClosedL md ops listed →
      (∀ j oj, ops[j]? = some oj → j ≠ i → listed.getD j true = false → (∀ e ∈ oj.after, Region.binds md e = true → e.on ≠ i) → oi.apart ops oj = true) →
      i ∈ Region.ready md ops listed → YieldsIf P ops S oi v a → S w → listed.getD J true = false →
      wpAnyK P md ops Q S J fuel (listed.setIfInBounds i true) (a.put oi.dst v) w → wpAnyK P md ops Q S J (fuel + 1) listed a w := by
  intro fuel
  induction fuel with
  | zero =>
    intro listed a w _ _ hr hy hS hL H
    refine ⟨fun h => (by rw [h] at hr; cases hr), fun j hj => ?_⟩
    by_cases hji : j = i
    · subst hji; exact hy.wpOp hi hS ⟨fun _ => hS, H⟩
    · have := ready_mono hj hji
      rw [H.1] at this
      cases this
  | succ fuel ih =>
    intro listed a w hcl hfree hr hy hS hL H
    refine ⟨fun h => (by rw [h] at hr; cases hr), fun j hj => ?_⟩
    by_cases hji : j = i
    · subst hji; exact hy.wpOp hi hS ⟨fun _ => hS, H⟩
    · have h1 := H.2 j (ready_mono hj hji)
      obtain ⟨hjun, oj, hoj, hall⟩ := mem_ready.1 hj
      have hun : ∀ e ∈ oj.after, Region.binds md e = true → e.on = i → False := fun e he hb heq => by
        have h1 := hall e he hb
        have h0 := (mem_ready.1 hr).1
        rw [heq] at h1
        rcases Nat.lt_or_ge i listed.size with h' | h'
        · simp [h'] at h0 h1; rw [h0] at h1; cases h1
        · simp [Array.getElem?_eq_none h'] at h1
      have hnot : ∀ e ∈ oj.after, Region.binds md e = true → e.on ≠ i := fun e he hb heq => hun e he hb heq
      have hjJ : j ≠ J := fun e => by
        subst e
        have h1 := reachN_ready hcl _ _ hJi hj
        have h0 := (mem_ready.1 hr).1
        rcases Nat.lt_or_ge i listed.size with h' | h'
        · simp [h'] at h0 h1; rw [h0] at h1; cases h1
        · simp [Array.getElem?_eq_none h'] at h1
      have hL2 : (listed.setIfInBounds j true).getD J true = false := by rw [getD_set_ne true hjJ]; exact hL
      have hL3 : ((listed.setIfInBounds i true).setIfInBounds j true).getD J true = false := by rw [getD_set_ne true hjJ, getD_set_ne true (Ne.symm hne)]; exact hL
      have h2 := wpOp_putIf hoj (hfree j oj hoj hji hjun hnot) (fun cs b => hsel i oi cs b hi) (fun cs b => hsel j oj cs b hoj) hQ hy h1
      have hfree' : ∀ k ok, ops[k]? = some ok → k ≠ i → (listed.setIfInBounds j true).getD k true = false →
          (∀ e ∈ ok.after, Region.binds md e = true → e.on ≠ i) → oi.apart ops ok = true := fun k ok hk hki hun hno => by
        refine hfree k ok hk hki ?_ hno
        by_cases hjk : j = k
        · subst hjk; exact hjun
        · rw [getD_set_ne true hjk] at hun; exact hun
      refine wpOp_mono (fun a' w' h3 => ⟨fun _ => h3.2.1 hL3, ih (listed.setIfInBounds j true) a' w' (hcl.step hj) hfree' (ready_mono hr (Ne.symm hji)) h3.1 (h3.2.1 hL3) hL2 ?_⟩) h2
      rw [Array.setIfInBounds_comm _ _ hji]
      exact h3.2.2
theorem wpAnyK_take {J i : Nat} {oi : Oper} {v : Value} {fuel : Nat} {listed : Array Bool} {a : Act} {w : World} (hi : ops[i]? = some oi)
    (hs : Region.noSelect ops = true) (hf : Region.free md ops listed i = true) (hr : (Region.ready md ops listed).contains i = true)
    (hQ : ∀ c a w, Q (.panic c) (a.put oi.dst v) w → Q (.panic c) a w) (hw : reachN md ops i ops.size J = true) (hne : (J != i) = true) (hL : listed.getD J true = false) (hcl : closedB md ops listed = true) (hy : YieldsIf P ops S oi v a) (hS : S w)
    (h : wpAnyK P md ops Q S J fuel (listed.setIfInBounds i true) (a.put oi.dst v) w) : wpAnyK P md ops Q S J (fuel + 1) listed a w :=
  wpAnyK_first hi (Region.noSelect_spec hs) hQ hw (by simpa using hne) fuel listed a w (closedB_spec hcl) (Region.free_spec hi hf) (by simpa using hr) hy hS hL h
/-- the one operation that may come up comes up -/
theorem wpAnyK_one {J i : Nat} {oi : Oper} {fuel : Nat} {listed : Array Bool} {a : Act} {w : World} (hr : Region.ready md ops listed = [i]) (hi : ops[i]? = some oi) (hw : Region.wanted oi (yielded ops a.tmps) = true)
    (h : ∀ K : Act → World → Prop, (∀ a' w', ((listed.setIfInBounds i true).getD J true = false → S w') → wpAnyK P md ops Q S J fuel (listed.setIfInBounds i true) a' w' → K a' w') → Oper.wp P oi a w K Q) : wpAnyK P md ops Q S J (fuel + 1) listed a w := by
  refine ⟨fun h0 => (by rw [hr] at h0; cases h0), fun j hj => ?_⟩
  rw [hr, List.mem_singleton] at hj
  subst hj
  unfold wpOp
  simp only [hi, hw, if_true]
  exact .inl (h _ (fun a' w' h1 h2 => ⟨h1, h2⟩))
theorem wpAnyK_done {J : Nat} {listed : Array Bool} {a : Act} {w : World} (hr : Region.ready md ops listed = []) (h : Q .normal a w) : ∀ fuel, wpAnyK P md ops Q S J fuel listed a w
  | 0 => ⟨hr, h⟩
  | _ + 1 => ⟨fun _ => h, by rw [hr]; simp⟩
theorem region_K {id : Nat} {a : Act} {w : World} (S : World → Prop) (J : Nat) (hm : P.follows .mixedOrders = true)
    (h : wpAnyK P .any ops Q S J ops.size (Array.replicate ops.size false) a w.drew) : (Code.region id ops true).wp P Q a w :=
  wp_region_any hm (wpAny_of_K _ _ _ _ h)
end

theorem hd_get {α : Type} {ops : Array α} {i : Nat} {o : α} (h : (ops.toList.drop i).head? = some o) : ops[i]? = some o := by
  rw [List.head?_drop] at h
  simpa using h
section
variable {P : Program} {md : Region.Mode} {ops : Array Oper} {Q : Exit → Act → World → Prop} {S : World → Prop}
/-- the same with all that is large written out -/
theorem wpAnyK_takeL {J i d : Nat} {oi : Oper} {v : Value} {fuel : Nat} {listed listed' : Array Bool} {T T' : Array Value} {D : List Deferred} {w : World} (hi : (ops.toList.drop i).head? = some oi) (hdst : oi.dst = some d)
    (hc : (Region.noSelect ops && Region.free md ops listed i && (Region.ready md ops listed).contains i && reachN md ops i ops.size J && (J != i) && !(listed.getD J true) && closedB md ops listed) = true)
    (hQ : ∀ c a w, Q (.panic c) (a.put oi.dst v) w → Q (.panic c) a w) (hl : listed.setIfInBounds i true = listed') (hy : YieldsIf P ops S oi v { tmps := T, defers := D }) (hT : T.setIfInBounds d v = T') (hS : S w)
    (h : wpAnyK P md ops Q S J fuel listed' { tmps := T', defers := D } w) : wpAnyK P md ops Q S J (fuel + 1) listed { tmps := T, defers := D } w := by
  simp only [Bool.and_eq_true, Bool.not_eq_true'] at hc
  obtain ⟨⟨⟨⟨⟨⟨h1, h2⟩, h3⟩, h4⟩, h5⟩, h6⟩, h7⟩ := hc
  refine wpAnyK_take (hd_get hi) h1 h2 h3 hQ h4 h5 h6 h7 hy hS ?_
  rw [hl, hdst]
  simpa only [Act.put, hT] using h
theorem region_KL {id fuel : Nat} {a : Act} {w : World} {listed : Array Bool} (S : World → Prop) (J : Nat) (hm : P.follows .mixedOrders = true) (hs : ops.size = fuel) (hl : Array.replicate ops.size false = listed)
    (h : wpAnyK P .any ops Q S J fuel listed a w.drew) : (Code.region id ops true).wp P Q a w := by
  subst hs hl
  exact region_K S J hm h
theorem wpAnyK_oneL {J i : Nat} {oi : Oper} {fuel : Nat} {listed listed' : Array Bool} {a : Act} {w : World} (hr : Region.ready md ops listed = [i]) (hi : (ops.toList.drop i).head? = some oi) (hw : Region.wanted oi (yielded ops a.tmps) = true) (hl : listed.setIfInBounds i true = listed')
    (h : ∀ K : Act → World → Prop, (∀ a' w', (listed'.getD J true = false → S w') → wpAnyK P md ops Q S J fuel listed' a' w' → K a' w') → Oper.wp P oi a w K Q) : wpAnyK P md ops Q S J (fuel + 1) listed a w := by
  subst hl
  exact wpAnyK_one hr (hd_get hi) hw h
end
def noDefer (ops : Array Oper) : Bool := ops.all fun o => match o.op with | .defer _ => false | _ => true
theorem noDefer_spec {ops : Array Oper} (h : noDefer ops = true) {i : Nat} {o : Oper} (hi : ops[i]? = some o) : ∀ c, o.op ≠ .defer c := by
  intro c hc
  unfold noDefer at h
  rw [Array.all_eq_true_iff_forall_mem] at h
  have := h o (Array.mem_of_getElem? hi)
  rw [hc] at this
  cases this

section
variable {F : Fence} {n : Nat} {P : Program} {ops : Array Oper} {Q : Exit → Act → World → Prop} {md : Region.Mode}
theorem wpOpIn_inRound (l : Nat) (hnd : noDefer ops = true) {i : Nat} {K K' : Act → World → Prop} {a : Act} {w : World} (hK : ∀ a w, K a w → K' a w) (h : wpOpIn F n P ops Q i K a w) : wpOpIn (F.inRound l) n P ops Q i K' a w := by
  have h := wpOpIn_mono hK h
  unfold wpOpIn at h ⊢
  cases hi : ops[i]? with
  | none => simp only [hi] at h; exact h
  | some o =>
    simp only [hi] at h ⊢
    split
    · rename_i hw
      simp only [hw, if_true] at h
      unfold Oper.wpIn at h ⊢
      refine ⟨h.1, ?_⟩
      rw [Oper.semAt_eq _ _ _ (noDefer_spec hnd hi)] at h ⊢
      exact h.2
    · rename_i hw
      simp only [hw] at h
      exact h
theorem wpAnyIn_inRound (l : Nat) (hnd : noDefer ops = true) : ∀ (fuel : Nat) (listed : Array Bool) (a : Act) (w : World), wpAnyIn F n P md ops Q fuel listed a w → wpAnyIn (F.inRound l) n P md ops Q fuel listed a w
  | 0, _, _, _, h => h
  | fuel + 1, _, _, _, h => ⟨h.1, fun i hi => wpOpIn_inRound l hnd (fun a w => wpAnyIn_inRound l hnd fuel _ a w) (h.2 i hi)⟩
theorem region_inRound (hm : P.follows .mixedOrders = true) (l : Nat) (hnd : noDefer ops = true) {id : Nat} {a : Act} {w : World}
    (h : wpAnyIn F n P .any ops Q ops.size (Array.replicate ops.size false) a w.drew) : (Code.region id ops true).wpIn (F.inRound l) n P Q a w :=
  wpIn_region_any hm (wpAnyIn_inRound l hnd _ _ _ _ h)
end


section
variable {n : Nat} {P : Program} {ops : Array Oper} {Q : Exit → Act → World → Prop} {md : Region.Mode}
theorem oper_wide {o : Oper} {a : Act} {w : World} {K : Act → World → Prop} (hd : ∀ c, o.op ≠ .defer c) (h : o.wp P a w K Q) : o.wpIn Fence.wide n P a w K Q := by
  refine ⟨fun _ _ => trivial, ?_⟩
  rw [Oper.semAt_plain _ _ _ hd]
  unfold Oper.wp at h
  generalize (execOp a.eval o).run P w = r at *
  cases r with
  | ok x w' =>
    cases x <;> simp only [Oper.upon, Oper.uponIn] at h ⊢ <;>
      first
        | exact h
        | exact ⟨(fun h => by cases h), callsIn_wide.2 h⟩
        | exact ⟨(fun h => by cases h), fun c cs _ => let ⟨v, w', r, s⟩ := h c cs; ⟨v, w', r, stepsIn_wide.2 s⟩⟩
  | halt x w' => cases x <;> simp only [Oper.upon, Oper.uponIn] at h ⊢ <;> exact h
theorem wpOp_wide (hnd : noDefer ops = true) (hQ : ¬ LetsOut Q) {i : Nat} {K K' : Act → World → Prop} {a : Act} {w : World} (hK : ∀ a w, K a w → K' a w) (h : wpOp P ops Q i K a w) : wpOpIn Fence.wide n P ops Q i K' a w := by
  have h := wpOp_mono hK h
  unfold wpOp at h
  unfold wpOpIn
  cases hi : ops[i]? with
  | none => simp only [hi] at h; exact h
  | some o =>
    simp only [hi] at h ⊢
    split
    · rename_i hw
      simp only [hw, if_true] at h
      rcases h with h | h
      · exact oper_wide (noDefer_spec hnd hi) h
      · exact absurd h.2 hQ
    · rename_i hw
      simp only [hw] at h
      exact ⟨fun _ _ => trivial, h⟩
theorem wpAny_wide (hnd : noDefer ops = true) (hQ : ¬ LetsOut Q) : ∀ (fuel : Nat) (listed : Array Bool) (a : Act) (w : World), wpAny P md ops Q fuel listed a w → wpAnyIn Fence.wide n P md ops Q fuel listed a w
  | 0, _, _, _, h => h
  | fuel + 1, _, _, _, h => ⟨h.1, fun i hi => wpOp_wide hnd hQ (fun a w => wpAny_wide hnd hQ fuel _ a w) (h.2 i hi)⟩
/-- .. in a round of an iterator -/
theorem region_K_round {id : Nat} {a : Act} {w : World} (S : World → Prop) (J : Nat) (hm : P.follows .mixedOrders = true) (l : Nat) (hnd : noDefer ops = true) (hQ : ¬ LetsOut Q)
    (h : wpAnyK P .any ops Q S J ops.size (Array.replicate ops.size false) a w.drew) : (Code.region id ops true).wpIn (Fence.wide.inRound l) n P Q a w :=
  region_inRound hm l hnd (wpAny_wide hnd hQ _ _ _ _ (wpAny_of_K _ _ _ _ h))
theorem region_KL_round {id fuel : Nat} {a : Act} {w : World} {listed : Array Bool} (S : World → Prop) (J : Nat) (hm : P.follows .mixedOrders = true) (l : Nat) (hnd : noDefer ops = true) (hQ : ¬ LetsOut Q) (hs : ops.size = fuel) (hl : Array.replicate ops.size false = listed)
    (h : wpAnyK P .any ops Q S J fuel listed a w.drew) : (Code.region id ops true).wpIn (Fence.wide.inRound l) n P Q a w := by
  subst hs hl
  exact region_K_round S J hm l hnd hQ h
end
end Go.Proofs.Ytfldooljmjeaoaa
