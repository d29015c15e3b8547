/-
  A region that draws its order, in a round of a loop over an iterator: walked as outside of it.
-/
import Derived.Test.YtnkgoaloigmmfaaIChg
import Derived.RangeFuncBox
import Derived.Stop.RegionWithIn
namespace Go.Proofs.Ytnkgoaloigmmfaa
open Go.RowKit Go.Shelf

def noDefer (ops : Array Oper) : Bool := ops.all fun o => match o.op with | .defer _ => false | _ => true
theorem noDefer_spec {ops : Array Oper} (h : noDefer ops = true) {i : Nat} {o : Oper} (hi : ops[i]? = some o) : ∀ c, o.op ≠ .defer c := by
  intro c hc
  unfold noDefer at h
  rw [Array.all_eq_true_iff_forall_mem] at h
  have := h o (Array.mem_of_getElem? hi)
  rw [hc] at this
  cases this

section
variable {F : Fence} {n : Nat} {P : Program} {ops : Array Oper} {Q : Exit → Act → World → Prop} {md : Region.Mode}
theorem wpOpIn_inRound (l : Nat) (hnd : noDefer ops = true) {i : Nat} {K K' : Act → World → Prop} {a : Act} {w : World} (hK : ∀ a w, K a w → K' a w) (h : wpOpIn F n P ops Q i K a w) : wpOpIn (F.inRound l) n P ops Q i K' a w := by
  have h := wpOpIn_mono hK h
  unfold wpOpIn at h ⊢
  cases hi : ops[i]? with
  | none => simp only [hi] at h; exact h
  | some o =>
    simp only [hi] at h ⊢
    split
    · rename_i hw
      simp only [hw, if_true] at h
      unfold Oper.wpIn at h ⊢
      refine ⟨h.1, ?_⟩
      rw [Oper.semAt_eq _ _ _ (noDefer_spec hnd hi)] at h ⊢
      exact h.2
    · rename_i hw
      simp only [hw] at h
      exact h
theorem wpAnyIn_inRound (l : Nat) (hnd : noDefer ops = true) : ∀ (fuel : Nat) (listed : Array Bool) (a : Act) (w : World), wpAnyIn F n P md ops Q fuel listed a w → wpAnyIn (F.inRound l) n P md ops Q fuel listed a w
  | 0, _, _, _, h => h
  | fuel + 1, _, _, _, h => ⟨h.1, fun i hi => wpOpIn_inRound l hnd (fun a w => wpAnyIn_inRound l hnd fuel _ a w) (h.2 i hi)⟩
theorem region_inRound (hm : P.follows .mixedOrders = true) (l : Nat) (hnd : noDefer ops = true) {id : Nat} {a : Act} {w : World}
    (h : wpAnyIn F n P .any ops Q ops.size (Array.replicate ops.size false) a w.drew) : (Code.region id ops true).wpIn (F.inRound l) n P Q a w :=
  wpIn_region_any hm (wpAnyIn_inRound l hnd _ _ _ _ h)
end

theorem info_ch : (Try.prog.info? 57).map (fun i => (i.zero, i.size, i.bytes)) = some (some (.agg #[.int .i64 0, .slice none 0 0]), 2, 32) := by kernel_rfl
/-- append of one change to a list of the call's own, as an operation of a region -/
theorem app_chg_op {n : Nat} {o : Oper} {a : Act} {w : World} {K : Act → World → Prop} {Q : Exit → Act → World → Prop} (s y : Operand)
    (ho : o.op = .call { callee := .builtin .append, args := #[s, y], argTypes := #[27, 27] })
    (B : Nat) (v : Value) (ps : List ChP) (x : CT) (dv : Value) (g : Nat) (T : TypeId) (hs : a.eval s = v) (hy : a.eval y = .slice (some ⟨g, 0, none⟩) 1 1) (h : CLp 57 w B v ps) (hd : Own w B dv x.2)
    (hne : ∀ k, v.ownBlock = some k → dv.ownBlock ≠ some k) (hg : w.heap[g]? = some (.cells #[.int .i64 x.1, dv] T (0, 0))) (hn : ps.length ≤ 1000000) (hB : B ≤ w.heap.size)
    (hK : ∀ v' w', CLp 57 w' B v' (ps ++ [(x, dv)]) → w.grownBy w' v.ownBlock → Fr w v v' → K (a.put o.dst v') w') : Oper.wpIn Fence.wide n Try.prog o a w K Q := by
  obtain ⟨v', w', hr, h2, h3, h4⟩ := h.app Try.underlying27 info_ch x dv hd hne g hg hn hB o.type
  unfold Oper.wpIn
  refine ⟨fun _ _ => trivial, ?_⟩
  rw [Oper.semAt_plain Fence.wide _ _ (by rw [ho]; intro c hc'; cases hc')]
  simp only [execOp, ho, resolve, invoke, builtin, Sem.run_bind, Sem.run_pure, Result.andThen_ok, List.map_toArray, List.map_cons, List.map_nil, hs, hy, hr]
  exact hK _ _ h2 h3 h4
end Go.Proofs.Ytnkgoaloigmmfaa
