/-
  The first run of clear bits, as a function on lists; leaving a function with several marks of loops over iterators.
-/
import Derived.Test.YtpfeaeklenopdaaEInts
import Derived.Scope
namespace Go.Proofs.Ytpfeaeklenopdaa
open Go.RowKit Go.Shelf

/-- n bits from a on are clear and lie below t -/
def okG (l : List UInt8) (t n a : Nat) : Bool := decide (a + n ≤ t) && (findL l a (a + n) true).isEmpty
def gapS (l : List UInt8) (f t n : Nat) : Option Nat := (List.range' f (t - f)).find? (okG l t n)
theorem find_range' (p : Nat → Bool) (k : Nat) : ∀ (m f : Nat), f ≤ k → k < f + m → p k = true → (∀ a, f ≤ a → a < k → p a = false) → (List.range' f m).find? p = some k := by
  intro m
  induction m with
  | zero => intro f h1 h2; omega
  | succ m ih =>
    intro f h1 h2 h3 h4
    rw [List.range'_succ, List.find?_cons]
    by_cases h : f = k
    · subst h; rw [h3]
    · rw [h4 f (Nat.le_refl _) (by omega)]
      exact ih (f + 1) (by omega) (by omega) h3 (fun a ha hk => h4 a (by omega) hk)
theorem gapS_some {l : List UInt8} {f t n k : Nat} (h1 : f ≤ k) (hn : 1 ≤ n) (h2 : k + n ≤ t) (h3 : findL l k (k + n) true = []) (h4 : ∀ a, f ≤ a → a < k → okG l t n a = false) : gapS l f t n = some k := by
  unfold gapS
  refine find_range' _ k _ f h1 (by omega) ?_ h4
  unfold okG
  rw [h3]
  simp [h2]
theorem gapS_none {l : List UInt8} {f t n : Nat} (h4 : ∀ a, f ≤ a → a < t → okG l t n a = false) : gapS l f t n = none := by
  unfold gapS
  rw [List.find?_eq_none]
  intro a ha
  rw [List.mem_range'_1] at ha
  rw [h4 a ha.1 (by omega)]
  simp
theorem okG_far {l : List UInt8} {t n a : Nat} (h : t < a + n) : okG l t n a = false := by
  unfold okG; simp; intro h'; omega
theorem mem_findL {l : List UInt8} {f t x : Nat} {on : Bool} : x ∈ findL l f t on ↔ f ≤ x ∧ x < t ∧ bitN l x = on := by
  unfold findL
  rw [List.mem_filter, List.mem_range'_1]
  constructor
  · rintro ⟨⟨h1, h2⟩, h3⟩
    exact ⟨h1, by omega, by simpa using h3⟩
  · rintro ⟨h1, h2, h3⟩
    exact ⟨⟨h1, by omega⟩, by simpa using h3⟩
theorem okG_set {l : List UInt8} {t n a x : Nat} (h1 : a ≤ x) (h2 : x < a + n) (hb : bitN l x = true) : okG l t n a = false := by
  unfold okG
  rw [Bool.and_eq_false_iff]
  right
  have hm : x ∈ findL l a (a + n) true := mem_findL.2 ⟨h1, h2, hb⟩
  cases h : findL l a (a + n) true with
  | nil => rw [h] at hm; cases hm
  | cons y ys => rfl

def mark (D : Nat) : Deferred := { target := .collected D, args := #[] }
theorem leaves_marks {F : Fence} {n : Nat} {P : Program} {fn : Func} {tmps : Array Value} {R : Ending → World → Prop} {B : Nat} {J : World → Prop}
    (hJ : ∀ W D, J W → B ≤ D → W.heap[D]? = some (.deferred (some [])) → J (W.putObj D (.deferred none))) (hend : ∀ W, J W → LeavesIn F n P fn tmps R [] .returning W) :
    ∀ (Ds : List Nat) (W : World), Ds.Nodup → (∀ D ∈ Ds, B ≤ D ∧ W.heap[D]? = some (.deferred (some []))) → J W → LeavesInM F n P fn tmps R (Ds.map mark) .returning W := by
  intro Ds
  induction Ds with
  | nil => intro W _ _ h; exact hend W h
  | cons D Ds ih =>
    intro W hnd hd h
    have hD := hd D (List.mem_cons_self ..)
    rw [List.nodup_cons] at hnd
    refine ⟨by simp, .inl ⟨D, _, rfl, run_takeDeferred hD.2, ih _ hnd.2 (fun E hE => ?_) (hJ W D h hD.1 hD.2)⟩⟩
    have h1 := hd E (List.mem_cons_of_mem _ hE)
    exact ⟨h1.1, by rw [World.putObj_heap_other (by rintro rfl; exact hnd.1 hE)]; exact h1.2⟩

section
variable {F : Fence} {n : Nat} {P : Program} {Q : Exit → Act → World → Prop} {a : Act} {w : World}
theorem stepR_scope {b : Frame} {k : List Item} {cs : List Frame} {c : Code} : step P (lone (b.atR a (.code (.scope c) :: k)) cs w) = .next (lone (b.atR a (.code c :: .inScope c :: k)) cs w) :=
  step_lone_go (by simp [stepG, stepG.exec, Frame.atR])
theorem stepR_inScope {b : Frame} {k : List Item} {cs : List Frame} {c : Code} : step P (lone (b.atR a (.inScope c :: k)) cs w) = .next (lone (b.atR a k) cs w) :=
  step_lone_go (by simp [stepG, stepG.exec, Frame.atR])
/-- a scope through which the run goes without a goto, inside a fence -/
theorem wpIn_scope {c : Code} (h : c.wpIn F n P (Exit.noGoto Q) a w) : (Code.scope c).wpIn F n P Q a w := by
  intro b k cs hro hb hr
  have h0 : (lone (b.atR a (.code (.scope c) :: k)) cs w).fenced P F := fenced_calm hb hr rfl
  obtain ⟨e, a₁, w₁, hq, harr⟩ := h b (.inScope c :: k) cs hro hb hr
  cases e with
  | normal => exact ⟨.normal, a₁, w₁, hq, .head h0 stepR_scope (StepsIn.trans harr (.one (fenced_calm hb hr rfl) stepR_inScope))⟩
  | exit id =>
    have hx : exitTo id (.inScope c :: k) = exitTo id k := by simp [exitTo]
    exact ⟨.exit id, a₁, w₁, hq, fun k' hk => .head h0 stepR_scope (harr.1 k' (by rw [hx]; exact hk)),
      fun hr' hk => let ⟨k₁, h1, h2⟩ := harr.2 hr' (by rw [hx]; exact hk); ⟨k₁, h1, .head h0 stepR_scope h2⟩⟩
  | goto l => exact hq.elim
  | ret => exact ⟨_, a₁, w₁, hq, .of_steps (.one h0 stepR_scope) harr⟩
  | panic ch => exact ⟨_, a₁, w₁, hq, .of_steps (.one h0 stepR_scope) harr⟩
  | outgrown => exact ⟨_, a₁, w₁, hq, .of_steps (.one h0 stepR_scope) harr⟩
end
end Go.Proofs.Ytpfeaeklenopdaa
