/-
  Two operations of a region that may come up in either order.
-/
import Derived.Test.YtjidkaeglhfajaaHeld
namespace Go.Proofs.Ytjidkaeglhfajaa
open Go.RowKit Go.Shelf

section
variable {P : Program} {md : Region.Mode} {ops : Array Oper} {Q : Exit → Act → World → Prop} {S : World → Prop}
theorem wpAnyK_twoL {J i j : Nat} {oi oj : Oper} {fuel : Nat} {listed Li Lj : Array Bool} {a : Act} {w : World} (hr : Region.ready md ops listed = [i, j]) (hi : (ops.toList.drop i).head? = some oi) (hj : (ops.toList.drop j).head? = some oj)
    (hwi : Region.wanted oi (yielded ops a.tmps) = true) (hwj : Region.wanted oj (yielded ops a.tmps) = true) (hli : listed.setIfInBounds i true = Li) (hlj : listed.setIfInBounds j true = Lj)
    (h1 : ∀ K : Act → World → Prop, (∀ a' w', (Li.getD J true = false → S w') → wpAnyK P md ops Q S J fuel Li a' w' → K a' w') → Oper.wp P oi a w K Q)
    (h2 : ∀ K : Act → World → Prop, (∀ a' w', (Lj.getD J true = false → S w') → wpAnyK P md ops Q S J fuel Lj a' w' → K a' w') → Oper.wp P oj a w K Q) : wpAnyK P md ops Q S J (fuel + 1) listed a w := by
  subst hli hlj
  refine ⟨fun h0 => (by rw [hr] at h0; cases h0), fun k hk => ?_⟩
  rw [hr, List.mem_cons, List.mem_singleton] at hk
  rcases hk with rfl | rfl
  · unfold wpOp
    simp only [hd_get hi, hwi, if_true]
    exact .inl (h1 _ (fun a' w' h1 h2 => ⟨h1, h2⟩))
  · unfold wpOp
    simp only [hd_get hj, hwj, if_true]
    exact .inl (h2 _ (fun a' w' h1 h2 => ⟨h1, h2⟩))
end
end Go.Proofs.Ytjidkaeglhfajaa
