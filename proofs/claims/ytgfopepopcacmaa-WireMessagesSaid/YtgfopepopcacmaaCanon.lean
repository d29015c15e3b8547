/-
  law.WireCanonical: the walk.
-/
import Derived.Test.YtgfopepopcacmaaCanMath
import Derived.Test.YtgfopepopcacmaaSmall
namespace Go.Proofs.Ytgfopepopcacmaa
open Go.RowKit

def StrsU (w : World) (b : Nat) (sl : Value) (bs : List UInt8) (p : Nat) (f : Bool) (most : Int) (B : Nat) (e : Ending) (w' : World) : Prop :=
  ∃ (a : Option Addr) (n c : Nat) (vs : List Value) (q : Nat) (g : Bool), e = .returned (.slice a n c) ∧ w'.ownsRow B 9 1 (.slice a n c) vs.length vs ∧ IsR w' b sl bs q g ∧ w.grownBy w' (some b) ∧ (g = false → f = false ∧ rdList (oneStr bs) most bs p = some (vs, q)) ∧ (g = true → unl f (rdList (oneStr bs) most bs p) = none)
theorem rstrs_u (b : Nat) (sl : Value) (bs : List UInt8) (p : Nat) (f : Bool) (w : World) (most : Int) (B : Nat) (h : IsR w b sl bs p f) (hB : B ≤ w.heap.size) (hmo : most ≤ 9223372036854775807) :
    Calls Try.prog 27 #[.pointer (some ⟨b, 0, none⟩), .int .i64 most] w (StrsU w b sl bs p f most B) := by
  refine (mStrings_any b sl bs p f w most B h hB hmo).mono fun e w' hr => ?_
  cases f with
  | true =>
    obtain ⟨h1, h2, h3⟩ := hr
    exact ⟨none, 0, 0, [], p, true, h1, World.ownsRow_nil _ _ _ _, h2, h3, (fun e => by cases e), fun _ => rfl⟩
  | false =>
    cases hd : rdList (oneStr bs) most bs p with
    | none =>
      rw [unl_f, hd] at hr
      obtain ⟨h1, h2, h3⟩ := hr
      exact ⟨none, 0, 0, [], p, true, h1, World.ownsRow_nil _ _ _ _, h2, h3, (fun e => by cases e), (fun _ => by rw [unl_f, hd])⟩
    | some r =>
      obtain ⟨vs, q⟩ := r
      rw [unl_f, hd] at hr
      obtain ⟨v, h1, h2, h3, h4⟩ := hr
      obtain ⟨a, c, rfl⟩ := own_slice h2
      exact ⟨a, _, c, vs, q, false, h1, h2, h3, h4, fun _ => ⟨rfl, hd⟩, (fun e => by cases e)⟩
theorem own_rdl {w : World} {B : Nat} {t : TypeId} {v : Value} {n : Nat} {xs : List Value} (h : w.ownsRow B t 1 v n xs) : RdL w v xs := by
  have h0 := h
  obtain ⟨h1, h2⟩ := h
  rcases h2 with ⟨rfl, rfl⟩ | ⟨g, cap, cur, rfl, hb, hg, hnc, hcm, hcs, htake⟩
  · exact .inl ⟨rfl, List.eq_nil_of_length_eq_zero (by omega)⟩
  · have hn : xs.length = n := by omega
    subst hn
    refine .inr ⟨g, 0, cap, rfl, hnc, hcm, fun j x hj => ?_⟩
    have := World.ownsRow.cells h0 (g := g) rfl j x hj
    rwa [addr_add] at this
theorem ELp.rdes {w : World} {B : Nat} {v : Value} {ps : List EffP} (h : ELp w B v ps) (hok : ∀ x ∈ ps.map (·.1), OkE x) : RdEs w v ps := by
  refine ⟨?_, fun p hp => ?_⟩
  · have h0 := h.1
    obtain ⟨h1, h2⟩ := h.1
    rcases h2 with ⟨rfl, hn⟩ | ⟨g, cap, cur, rfl, hb, hg, hnc, hcm, hcs, htake⟩
    · exact .inl ⟨rfl, List.eq_nil_of_length_eq_zero hn⟩
    · refine .inr ⟨g, 0, cap, rfl, hnc, hcm, fun j x hj => ?_⟩
      have := World.ownsRow.cells h0 (g := g) rfl j x hj
      rwa [addr_add] at this
  · obtain ⟨h1, h2, h3, h4⟩ := h.2 p hp
    obtain ⟨a, c, e1⟩ := h2.rd.len
    obtain ⟨a', c', e2⟩ := h3.rd.len
    exact ⟨hok _ (List.mem_map_of_mem hp), ⟨_, _, _, e1⟩, ⟨_, _, _, e2⟩, h2.rd.w, h3.rd.w⟩

theorem wmsg_c (x : List Int × List UInt8) (mv : Value) (w : World) (hx : OkM 8 x) (hd : Rd w mv x.2) : Calls Try.prog 36 #[.slice none 0 0, .agg (rowI x.1 mv).toArray] w (EncPost w (encMM x)) := by
  obtain ⟨zs, l⟩ := x
  obtain ⟨h1, h2, h3⟩ := hx
  simp only at h1 h2 h3 hd
  match zs, h1 with
  | [z0, z1, z2, z3, z4, z5, z6, z7], _ =>
    refine (wmsg_any (.slice none 0 0) mv w w.heap.size [] l z0 z1 z2 z3 z4 z5 z6 z7 (Own.nil _ _) hd (Nat.le_refl _) h2 (by simp [Value.ownBlock]) (by simp) (by omega)).mono ?_
    rintro e w' ⟨v', rfl, ho, hg, _⟩
    have e : encMM ([z0, z1, z2, z3, z4, z5, z6, z7], l) = [] ++ encM [z0, z1, z2, z3] [z4, z5, z6, z7] l := by simp [encMM, encM, encL]
    rw [e]
    exact ⟨v', rfl, ho, hg⟩
theorem went_c (x : List Int × List UInt8) (mv : Value) (w : World) (hx : OkM 7 x) (hd : Rd w mv x.2) : Calls Try.prog 38 #[.slice none 0 0, .agg (rowI x.1 mv).toArray] w (EncPost w (encMM x)) := by
  obtain ⟨zs, l⟩ := x
  obtain ⟨h1, h2, h3⟩ := hx
  simp only at h1 h2 h3 hd
  match zs, h1 with
  | [z0, z1, z2, z3, z4, z5, z6], _ =>
    refine (went_any (.slice none 0 0) mv w w.heap.size [] l z0 z1 z2 z3 z4 z5 z6 (Own.nil _ _) hd (Nat.le_refl _) h2 (by simp [Value.ownBlock]) (by simp) (by omega)).mono ?_
    rintro e w' ⟨v', rfl, ho, hg, _⟩
    have e : encMM ([z0, z1, z2, z3, z4, z5, z6], l) = [] ++ encX [z0, z1, z2] [z3, z4, z5] z6 l := by simp [encMM, encX, encL]
    rw [e]
    exact ⟨v', rfl, ho, hg⟩

/-- what ReadMsg and ReadEntry leave, in one form: a struct in hand, an error, and that it is encoded as the bytes where there is none -/
def ReadU (n : Nat) (bs : List UInt8) (w : World) (e : Ending) (w' : World) : Prop :=
  ∃ (x : List Int × List UInt8) (mv : Value) (r : Bool), e = .returned (.tuple #[.agg (rowI x.1 mv).toArray, .int .i64 (if r then 0 else 4)]) ∧ x.1.length = n ∧ IsSl mv ∧ Own w' w.heap.size mv x.2 ∧ w.grownBy w' none ∧ (r = true → OkM n x ∧ encMM x = bs)
theorem readMsg_u (v : Value) (bs : List UInt8) (w : World) (hv : Rd w v bs) (hb : bs.length ≤ 1099511627776) : Calls Try.prog 33 #[v] w (ReadU 8 bs w) := by
  refine (readMsg_any v bs w hv hb).mono fun e w' hr => ?_
  cases ho : wholeO (rdM bs 0) bs.length with
  | none =>
    rw [ho] at hr
    obtain ⟨rfl, hg⟩ := hr
    exact ⟨([0, 0, 0, 0, 0, 0, 0, 0], []), .slice none 0 0, false, rfl, rfl, ⟨_, _, _, rfl⟩, Own.nil _ _, hg, fun e => by cases e⟩
  | some x =>
    rw [ho] at hr
    obtain ⟨mv, rfl, hms, hl, hom, hg⟩ := hr
    obtain ⟨h1, h2⟩ := rdM_seg (Nat.zero_le _) (whole_seg ho)
    exact ⟨x, mv, true, rfl, hl, hms, hom, hg, fun _ => ⟨h2, (h1.all rfl).symm⟩⟩
theorem readEntry_u (v : Value) (bs : List UInt8) (w : World) (hv : Rd w v bs) (hb : bs.length ≤ 1099511627776) : Calls Try.prog 35 #[v] w (ReadU 7 bs w) := by
  refine (readEntry_any v bs w hv hb).mono fun e w' hr => ?_
  cases ho : wholeO (rdX bs 0) bs.length with
  | none =>
    rw [ho] at hr
    obtain ⟨rfl, hg⟩ := hr
    exact ⟨([0, 0, 0, 0, 0, 0, 0], []), .slice none 0 0, false, rfl, rfl, ⟨_, _, _, rfl⟩, Own.nil _ _, hg, fun e => by cases e⟩
  | some x =>
    rw [ho] at hr
    obtain ⟨mv, rfl, hms, hl, hom, hg⟩ := hr
    obtain ⟨h1, h2⟩ := rdX_seg (Nat.zero_le _) (whole_seg ho)
    exact ⟨x, mv, true, rfl, hl, hms, hom, hg, fun _ => ⟨h2, (h1.all rfl).symm⟩⟩
def ReadEU (bs : List UInt8) (w : World) (e : Ending) (w' : World) : Prop :=
  ∃ (a : Option Addr) (n c : Nat) (ps : List EffP) (r : Bool), e = .returned (.tuple #[.slice a n c, .int .i64 (if r then 0 else 4)]) ∧ ELp w' w.heap.size (.slice a n c) ps ∧ w.grownBy w' none ∧ (r = true → (∀ x ∈ ps.map (·.1), OkE x) ∧ encEs (ps.map (·.1)) = bs ∧ ps.length ≤ 160)
theorem readEffects_u (v : Value) (bs : List UInt8) (w : World) (hv : Rd w v bs) (hb : bs.length ≤ 1099511627776) : Calls Try.prog 34 #[v] w (ReadEU bs w) := by
  refine (readEffects_any v bs w hv hb).mono fun e w' hr => ?_
  cases ho : wholeO (rdLE 160 bs 0) bs.length with
  | none =>
    rw [ho] at hr
    obtain ⟨rfl, hg⟩ := hr
    exact ⟨none, 0, 0, [], false, rfl, ELp.nil _ _, hg, fun e => by cases e⟩
  | some xs =>
    rw [ho] at hr
    obtain ⟨v, rfl, ⟨ps, hps, hel⟩, hg⟩ := hr
    obtain ⟨a, c, rfl⟩ := hel.slice
    obtain ⟨h1, h2, h3⟩ := rdLE_seg (Nat.zero_le _) (whole_seg ho)
    exact ⟨a, _, c, ps, true, rfl, hel, hg, fun _ => ⟨by rw [hps]; exact h2, by rw [hps]; exact (h1.all rfl).symm, by rw [← hps, List.length_map] at h3; omega⟩⟩
end Go.Proofs.Ytgfopepopcacmaa
