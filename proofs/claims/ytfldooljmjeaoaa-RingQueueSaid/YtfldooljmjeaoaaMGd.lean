/-
  Several texts in one: RQs, RQa.
-/
import Derived.Test.YtfldooljmjeaoaaRDs
import Derived.Test.YtfldooljmjeaoaaMGc
namespace Go.Proofs.Ytfldooljmjeaoaa
open Go.RowKit Go.Shelf

theorem cell_km {X Y : World} {g b j : Nat} {v c : Value} (h : X.cell? ⟨b, j, none⟩ = some c) (hk : KM X Y g v) (h1 : b ≠ g) (h2 : v.ownBlock ≠ some b) : Y.cell? ⟨b, j, none⟩ = some c := by
  have hb := lt_of_cell h
  have e := hk.2.2.2.2 b hb h1 h2
  simp only [World.cell?, e] at h ⊢
  exact h
theorem RdG.km {X Y : World} {g : Nat} {v u : Value} {ps : List GP} (h : RdG X u ps) (hk : KM X Y g v) (h1 : ∀ k, u.ownBlock = some k → k ≠ g ∧ v.ownBlock ≠ some k) : RdG Y u ps := by
  rcases h with h2 | ⟨b, off, cap, rfl, h3, h4, h5⟩
  · exact .inl h2
  · exact .inr ⟨b, off, cap, rfl, h3, h4, fun j c hj => cell_km (h5 j c hj) hk (h1 b rfl).1 (h1 b rfl).2⟩
theorem RdW.km {X Y : World} {g : Nat} {v u : Value} {l : List UInt8} (h : RdW X u l) (hk : KM X Y g v) (h1 : l ≠ [] → ∀ k, u.ownBlock = some k → k ≠ g ∧ v.ownBlock ≠ some k) : RdW Y u l := by
  rcases h with h2 | h2
  · rcases h2 with h3 | ⟨b, off, cap, rfl, h3, h4, h5⟩
    · exact .inl (.inl h3)
    · refine .inl (.inr ⟨b, off, cap, rfl, h3, h4, fun j x hj => ?_⟩)
      have hne : l ≠ [] := by rintro rfl; simp at hj
      exact cell_km (h5 j x hj) hk (h1 hne b rfl).1 (h1 hne b rfl).2
  · exact .inr h2
/-- the program's queue and the reference's list side by side -/
structure QL (w0 X : World) (B g n : Nat) (v : Value) (qs : List GP) (u : Value) (ps : List GP) : Prop where
  m : IsM X B g n v qs
  ok : ∀ p ∈ qs, OkMg p.1
  rd : RdG X u ps
  dt : ∀ p ∈ ps, RdW X p.2 p.1.z
  eq : ps.map (·.1) = qs.map (·.1)
  sep : ∀ k, u.ownBlock = some k → k ≠ g ∧ v.ownBlock ≠ some k ∧ k < X.heap.size
  dsep : ∀ p ∈ ps, p.1.z ≠ [] → ∀ k, p.2.ownBlock = some k → k ≠ g ∧ v.ownBlock ≠ some k ∧ k < X.heap.size
  gr : w0.grownBy X none
  b0 : w0.heap.size ≤ B
  b1 : B ≤ X.heap.size
  g0 : w0.heap.size ≤ g
theorem QL.grown {w0 X Y : World} {B g n : Nat} {v u : Value} {qs ps : List GP} (h : QL w0 X B g n v qs u ps) (hg : X.grownBy Y none) : QL w0 Y B g n v qs u ps :=
  ⟨h.m.grown hg, h.ok, h.rd.grown hg, fun p hp => (h.dt p hp).grown hg, h.eq, fun k hk => ⟨(h.sep k hk).1, (h.sep k hk).2.1, Nat.lt_of_lt_of_le (h.sep k hk).2.2 hg.size⟩, fun p hp hz k hk => ⟨(h.dsep p hp hz k hk).1, (h.dsep p hp hz k hk).2.1, Nat.lt_of_lt_of_le (h.dsep p hp hz k hk).2.2 hg.size⟩, gb_same h.gr hg, h.b0, Nat.le_trans h.b1 hg.size, h.g0⟩
/-- the reference's list is replaced by a new one over some of the old data and of the world's -/
theorem QL.newL {w0 X : World} {B g n : Nat} {v u u' : Value} {qs ps ps' : List GP} (h : QL w0 X B g n v qs u ps) (hr : RdG X u' ps') (hu : ∀ k, u'.ownBlock = some k → k ≠ g ∧ v.ownBlock ≠ some k ∧ k < X.heap.size) (hd : ∀ p ∈ ps', RdW X p.2 p.1.z)
    (hs : ∀ p ∈ ps', p.1.z ≠ [] → ∀ k, p.2.ownBlock = some k → k ≠ g ∧ v.ownBlock ≠ some k ∧ k < X.heap.size) {Y : World} {v' : Value} {qs' : List GP} (hm : IsM Y B g n v' qs') (hk : KM X Y g v) (hf : Fr X v v') (hok : ∀ p ∈ qs', OkMg p.1) (he : ps'.map (·.1) = qs'.map (·.1)) : QL w0 Y B g n v' qs' u' ps' := by
  have hsz := hk.2.2.2.1
  have keep : ∀ k, k ≠ g → v.ownBlock ≠ some k → k < X.heap.size → k ≠ g ∧ v'.ownBlock ≠ some k ∧ k < Y.heap.size := fun k h1 h2 h3 => ⟨h1, fun e => by
    rcases hf k e with h4 | h4
    · exact h2 h4
    · omega, by omega⟩
  exact ⟨hm, hok, hr.km hk (fun k e => ⟨(hu k e).1, (hu k e).2.1⟩), fun p hp => (hd p hp).km hk (fun hz k e => ⟨(hs p hp hz k e).1, (hs p hp hz k e).2.1⟩), he, fun k e => keep k (hu k e).1 (hu k e).2.1 (hu k e).2.2, fun p hp hz k e => keep k (hs p hp hz k e).1 (hs p hp hz k e).2.1 (hs p hp hz k e).2.2, KM.new h.gr h.g0 (fun k e => (h.m.row.lt k e).1) h.b0 hk, h.b0, Nat.le_trans h.b1 hsz, h.g0⟩
theorem QL.len {w0 X : World} {B g n : Nat} {v u : Value} {qs ps : List GP} (h : QL w0 X B g n v qs u ps) : ps.length = qs.length := by
  have := congrArg List.length h.eq
  rwa [List.length_map, List.length_map] at this
theorem keepM_map (ps qs : List GP) (x : Int) (h : ps.map (·.1) = qs.map (·.1)) : (keepM ps x).map (·.1) = (keepM qs x).map (·.1) := by
  have e : ∀ l : List GP, (keepM l x).map (·.1) = (l.map (·.1)).filter (fun m => !(m.s == x)) := fun l => by
    unfold keepM
    rw [List.filter_map]
    rfl
  rw [e, e, h]
end Go.Proofs.Ytfldooljmjeaoaa
namespace Go.Proofs.Ytfldooljmjeaoaa
open Go.ChangeShapes Go.WideShapes Go.ChangeAt Go.RowKit

section
variable {H : Type} {enc : TypeId × Value → H} {W : World} {base : Nat}
set_option maxRecDepth 100000 in
theorem leaf_call2 {fuel : Nat} {cs : List Value} {y : DataW H × List MemPlace} (hl : cs.length = 11) (h : DataW.trod enc Try.prog W 0 (fun _ => true) true fuel 41 cs = some y) : ∃ p : CP, cs = rowC p ∧ RdW W p.2.2.2 p.2.2.1.z ∧ OkM p.2.2.1 ∧ OkI p.1 ∧ OkI p.2.1 := by
  obtain ⟨c0, c1, c2, c3, c4, c5, c6, c7, c8, c9, c10, rfl⟩ := list11 hl
  have hu := Try.underlying41
  have hm := Try.underlying39
  have h4 := Try.underlying37
  obtain ⟨_, _, k0⟩ := trod_field hu h 0 _ rfl 1 c_int
  obtain ⟨_, _, k1⟩ := trod_field hu h 1 _ rfl 1 c_int
  obtain ⟨_, _, k2⟩ := trod_field hu h 2 _ rfl 9 c_msg9
  obtain ⟨_, _, m0⟩ := trod_field hm k2 0 _ rfl 1 c_int
  obtain ⟨_, _, m1⟩ := trod_field hm k2 1 _ rfl 1 c_int
  obtain ⟨_, _, m2⟩ := trod_field hm k2 2 _ rfl 1 c_int
  obtain ⟨_, _, m3⟩ := trod_field hm k2 3 _ rfl 1 c_int
  obtain ⟨_, _, m4⟩ := trod_field hm k2 4 _ rfl 4 c_arr4
  obtain ⟨_, _, m5⟩ := trod_field hm k2 5 _ rfl 1 c_bytes
  obtain ⟨_, _, e0⟩ := trod_elem h4 m4 0 (by omega) c_int
  obtain ⟨_, _, e1⟩ := trod_elem h4 m4 1 (by omega) c_int
  obtain ⟨_, _, e2⟩ := trod_elem h4 m4 2 (by omega) c_int
  obtain ⟨_, _, e3⟩ := trod_elem h4 m4 3 (by omega) c_int
  obtain ⟨n0, rfl, rk0⟩ := leaf_int k0
  obtain ⟨n1, rfl, rk1⟩ := leaf_int k1
  obtain ⟨s, rfl, rm0⟩ := leaf_int m0
  obtain ⟨d, rfl, rm1⟩ := leaf_int m1
  obtain ⟨k, rfl, rm2⟩ := leaf_int m2
  obtain ⟨q, rfl, rm3⟩ := leaf_int m3
  obtain ⟨a, rfl, re0⟩ := leaf_int e0
  obtain ⟨b, rfl, re1⟩ := leaf_int e1
  obtain ⟨c, rfl, re2⟩ := leaf_int e2
  obtain ⟨e, rfl, re3⟩ := leaf_int e3
  obtain ⟨_, l, hl⟩ := leaf_bytes m5
  exact ⟨(n0, n1, (⟨s, d, k, q, a, b, c, e, l⟩, c10)), rfl, hl, ⟨rm0, rm1, rm2, rm3, re0, re1, re2, re3⟩, rk0, rk1⟩
set_option maxRecDepth 100000 in
theorem arg_calls2 {v : Value} {d : DataW H} {p : List MemPlace} (hval : Value.okWide Try.prog W .any base 23 v) (h0 : DataW.Trod enc Try.prog W 0 (fun _ => true) true 23 v d p) : ∃ ps : List CP, RdCl W v ps ∧ ∀ p ∈ ps, OkM p.2.2.1 ∧ OkI p.1 ∧ OkI p.2.1 := by
  obtain ⟨fuel, hf⟩ := h0
  rcases slice_arg Try.underlying23 hval with rfl | ⟨b, off, n, c, rfl, hn, hc⟩
  · exact ⟨[], ⟨.inl ⟨rfl, rfl⟩, by simp⟩, by simp⟩
  · rcases Deep.open_slice Try.underlying23 hf with ⟨hcs, hx⟩ | ⟨a, len, cap, m, fl, D, Pl, hcs, _, hl, hm, hmm, hx, hi⟩
    · simp [Value.cells] at hcs
    · simp only [Value.cells, List.cons.injEq, Value.slice.injEq, Option.some.injEq, and_true] at hcs
      obtain ⟨rfl, rfl, rfl⟩ := hcs
      simp only [if_true] at hmm
      subst hmm
      have each : ∀ i, i < n → ∃ p : CP, (∀ r x, (rowC p)[r]? = some x → W.cell? ⟨b, off + (i * 11 + r), none⟩ = some x) ∧ RdW W p.2.2.2 p.2.2.1.z ∧ OkM p.2.2.1 ∧ OkI p.1 ∧ OkI p.2.1 := fun i hin => by
        obtain ⟨cs', h1, h2⟩ := hi i (by omega)
        rw [c_call] at h1
        obtain ⟨_, h3, h4⟩ := World.cells?_some h1
        obtain ⟨q, rfl, k1⟩ := leaf_call2 h3 h2
        refine ⟨q, fun r x hr => ?_, k1⟩
        have hlt := (List.getElem?_eq_some_iff.1 hr).1
        have h5 := h4 r (by rw [rowC_len] at hlt; omega)
        rw [addr_add, addr_add, Nat.add_assoc] at h5
        rw [h5, hr]
      obtain ⟨ps, h1, h2⟩ := list_of n each
      refine ⟨ps, ⟨.inr ⟨b, off, m, by rw [h1], by omega, hm, fun j x hj => ?_⟩, fun p hp => by obtain ⟨i, hi⟩ := List.getElem?_of_mem hp; exact (h2 i p hi).2.1⟩, fun p hp => by obtain ⟨i, hi⟩ := List.getElem?_of_mem hp; exact (h2 i p hi).2.2⟩
      obtain ⟨i, r, p, k1, k2, k3, k4⟩ := cellsC_inv ps hj
      rw [k3]
      exact (h2 i p k1).1 r x k4
end
theorem okmg_of {m : Mg} (h : OkM m) (hz : m.z.length ≤ 1536) : OkMg m := by
  obtain ⟨a, b, c, d, e, f, g, i⟩ := h
  refine ⟨fun y hy => ?_, hz⟩
  simp at hy
  rcases hy with rfl | rfl | rfl | rfl | rfl | rfl | rfl | rfl
  · exact a
  · exact b
  · exact c
  · exact d
  · exact e
  · exact f
  · exact g
  · exact i
/-- a store into the reference's box -/
theorem QL.kept {w0 X Y : World} {B g n pb : Nat} {v u : Value} {qs ps : List GP} (h : QL w0 X B g n v qs u ps) (hg : X.grownBy Y (some pb)) (h0 : w0.heap.size ≤ pb) (h1 : pb ≠ g) (h2 : v.ownBlock ≠ some pb) (h3 : u.ownBlock ≠ some pb) (h4 : ∀ q ∈ qs, q.1.z ≠ [] → q.2.ownBlock ≠ some pb) (h5 : ∀ q ∈ ps, q.1.z ≠ [] → q.2.ownBlock ≠ some pb) : QL w0 Y B g n v qs u ps :=
  ⟨h.m.kept hg (by simp; exact h1) (fun k hk e => by simp at e; subst e; exact h2 hk) (fun p hp hz k hk e => by simp at e; subst e; exact h4 p hp hz hk), h.ok, h.rd.kept hg (fun _ k hk e => by simp at e; subst e; exact h3 hk), fun p hp => (h.dt p hp).kept hg (fun hz k hk e => by simp at e; subst e; exact h5 p hp hz hk), h.eq,
   fun k hk => ⟨(h.sep k hk).1, (h.sep k hk).2.1, Nat.lt_of_lt_of_le (h.sep k hk).2.2 hg.size⟩, fun p hp hz k hk => ⟨(h.dsep p hp hz k hk).1, (h.dsep p hp hz k hk).2.1, Nat.lt_of_lt_of_le (h.dsep p hp hz k hk).2.2 hg.size⟩, gb_new h.gr hg h0, h.b0, Nat.le_trans h.b1 hg.size, h.g0⟩
def newOM (n : Int) : Option (Nat × List Mg) := if n < 1 ∨ 200 < n then none else some (n.toNat, [])
def codeQ (c : Int) (o : Option (Nat × List Mg)) : Int := match o with | none => c | some _ => 0
/-- the program's queue, new or decoded, or none -/
def QN (w : World) (S : Nat) (qv : Value) : Option (Nat × List Mg) → Prop
  | none => qv = .pointer none
  | some r => ∃ g B v qs, qv = .pointer (some ⟨g, 0, none⟩) ∧ S ≤ g ∧ S ≤ B ∧ B ≤ w.heap.size ∧ IsM w B g r.1 v qs ∧ qs.map (·.1) = r.2
theorem QN.grown {w w' : World} {S : Nat} {qv : Value} {o : Option (Nat × List Mg)} (h : QN w S qv o) (hg : w.grownBy w' none) : QN w' S qv o := by
  cases o with
  | none => exact h
  | some r =>
    obtain ⟨g, B, v, qs, h1, h2, h3, h4, h5, h6⟩ := h
    exact ⟨g, B, v, qs, h1, h2, h3, Nat.le_trans h4 hg.size, h5.grown hg, h6⟩
theorem newM_all (n : Int) (w : World) : Calls Try.prog 6 #[.int .i64 n] w fun e w' => ∃ qv, e = .returned (.tuple #[qv, .int .i64 (codeQ 2 (newOM n))]) ∧ w.grownBy w' none ∧ QN w' w.heap.size qv (newOM n) := by
  by_cases h : n < 1 ∨ 200 < n
  · have e : newOM n = none := by unfold newOM; rw [if_pos h]
    rw [e]
    refine (newM_no n w h).mono ?_
    rintro e w' ⟨rfl, rfl⟩
    exact ⟨_, rfl, gb_refl _ _, rfl⟩
  · obtain ⟨m, hm⟩ : ∃ m : Nat, n = (m : Int) := ⟨n.toNat, by omega⟩
    subst hm
    have e : newOM (m : Int) = some (m, []) := by unfold newOM; rw [if_neg h, Int.toNat_natCast]
    rw [e]
    refine (newM_any m w (by omega) (by omega)).mono ?_
    rintro e w' ⟨g, rfl, h1, h2, h3⟩
    exact ⟨_, rfl, h2, g, w.heap.size, _, [], rfl, h1, Nat.le_refl _, h2.size, h3, rfl⟩
theorem rnewM_all (n : Int) (w : World) : Calls Try.prog 7 #[.int .i64 n] w fun e w' => ∃ m : Nat, e = .returned (.tuple #[.agg #[.int .i64 (m : Int), .slice none 0 0], .int .i64 (codeQ 2 (newOM n))]) ∧ w.grownBy w' none ∧ ∀ r, newOM n = some r → m = r.1 ∧ r.2 = [] := by
  by_cases h : n < 1 ∨ 200 < n
  · have e : newOM n = none := by unfold newOM; rw [if_pos h]
    rw [e]
    refine (rnewM_no n w h).mono ?_
    rintro e w' ⟨rfl, hg⟩
    exact ⟨0, rfl, hg, fun r hr => by cases hr⟩
  · obtain ⟨m, hm⟩ : ∃ m : Nat, n = (m : Int) := ⟨n.toNat, by omega⟩
    subst hm
    have e : newOM (m : Int) = some (m, []) := by unfold newOM; rw [if_neg h, Int.toNat_natCast]
    rw [e]
    refine (rnewM_any m w (by omega) (by omega)).mono ?_
    rintro e w' ⟨rfl, hg⟩
    exact ⟨m, rfl, hg, fun r hr => by cases hr; exact ⟨rfl, rfl⟩⟩
theorem decQ_all (v : Value) (bs : List UInt8) (w : World) (h : Rd w v bs) (hb : bs.length ≤ 100000) : Calls Try.prog 8 #[v] w fun e w' => ∃ qv, e = .returned (.tuple #[qv, .int .i64 (codeQ 4 (decM bs))]) ∧ w.grownBy w' none ∧ QN w' w.heap.size qv (decM bs) := by
  refine (decodeM_any v bs w h hb).mono ?_
  intro e w' hd
  unfold DecMP at hd
  cases hq : decM bs with
  | none =>
    rw [hq] at hd
    obtain ⟨rfl, hg⟩ := hd
    exact ⟨_, rfl, hg, rfl⟩
  | some r =>
    rw [hq] at hd
    obtain ⟨g, B, u, ps, rfl, h1, h2, h3, h4, h5, h6⟩ := hd
    exact ⟨_, rfl, h4, g, B, u, ps, rfl, h1, h2, h3, h5, h6⟩
/-- the reference's list, new or decoded -/
def RN (w w' : World) (u : Value) (l : List Mg) : Prop := ∃ ps, RdG w' u ps ∧ ps.map (·.1) = l ∧ (∀ k, u.ownBlock = some k → w.heap.size ≤ k ∧ k < w'.heap.size) ∧ ∀ p ∈ ps, Rd w' p.2 p.1.z ∧ ∀ k, p.2.ownBlock = some k → w.heap.size ≤ k
theorem rdecQ_all (v : Value) (bs : List UInt8) (w : World) (h : Rd w v bs) (hb : bs.length ≤ 100000) (hlt : ∀ k, v.ownBlock = some k → k < w.heap.size) : Calls Try.prog 9 #[v] w fun e w' => ∃ (m : Nat) (a : Option Addr) (k c : Nat), e = .returned (.tuple #[.agg #[.int .i64 (m : Int), .slice a k c], .int .i64 (codeQ 4 (decM bs))]) ∧ w.grownBy w' none ∧ ∀ r, decM bs = some r → m = r.1 ∧ RN w w' (.slice a k c) r.2 := by
  refine (rdecodeQ_any v bs w h hb hlt).mono ?_
  intro e w' hd
  unfold RefQ at hd
  cases hq : decM bs with
  | none =>
    rw [hq] at hd
    obtain ⟨rfl, hg⟩ := hd
    exact ⟨0, none, 0, 0, rfl, hg, fun r hr => by cases hr⟩
  | some r =>
    rw [hq] at hd
    obtain ⟨a, c, ps, rfl, h1, h2, h3, h4⟩ := hd
    exact ⟨r.1, a, ps.length, c, rfl, h4, fun r' hr => by cases hr; exact ⟨rfl, ps, h1.rd, h2, fun k hk => h1.lt k hk, h3⟩⟩
end Go.Proofs.Ytfldooljmjeaoaa
