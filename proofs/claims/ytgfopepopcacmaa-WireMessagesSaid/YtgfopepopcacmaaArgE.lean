/-
  What a list of effects comes as, as the argument of a law.
-/
import Derived.Test.YtgfopepopcacmaaArgs
import Derived.Test.YtgfopepopcacmaaEffE
import Derived.Deep.Slices
namespace Go.Proofs.Ytgfopepopcacmaa
open Go.ChangeShapes Go.WideShapes Go.ChangeAt Go.RowKit

theorem spot_none {w : World} {a : Addr} {v : Value} (h : w.cell? a = some v) : a = ⟨a.block, a.off, none⟩ := by
  obtain ⟨b, o, s⟩ := a
  cases s with
  | none => rfl
  | some s =>
    unfold World.cell? at h
    simp only [Option.isSome_some, if_true] at h
    split at h <;> cases h

section
variable {H : Type} {enc : TypeId × Value → H} {P : Program} {W : World} {base : Nat}
theorem mapM_at {α β : Type} {f : α → Option β} : ∀ {l : List α} {r : List β}, l.mapM f = some r → ∀ {i : Nat} {x : α}, l[i]? = some x → ∃ y, f x = some y ∧ r[i]? = some y := by
  intro l
  induction l with
  | nil => intro r _ i x hi; simp at hi
  | cons a l ih =>
    intro r h i x hi
    rw [List.mapM_cons] at h
    simp only [bind, Option.bind_eq_some_iff] at h
    obtain ⟨y, hy, ys, hys, hr⟩ := h
    cases hr
    cases i with
    | zero => simp at hi; subst hi; exact ⟨y, hy, rfl⟩
    | succ i =>
      obtain ⟨z, h1, h2⟩ := ih hys (i := i) (by simpa using hi)
      exact ⟨z, h1, by simpa using h2⟩
/-- no weight that is met in reading is more than the reach -/
def Wt (P : Program) (t : TypeId) (d : DataW H) : Prop := ∀ k ∈ d.weights P t, k ≤ reachBytes
theorem all_mem {e : TypeId} : ∀ {ds : List (DataW H)} {d : DataW H}, d ∈ ds → ∀ k ∈ d.weights P e, k ∈ DataW.weightsAll P e ds := by
  intro ds
  induction ds with
  | nil => intro d hd; simp at hd
  | cons a ds ih =>
    intro d hd k hk
    rw [DataW.weightsAll]
    rcases List.mem_cons.1 hd with rfl | hd
    · exact List.mem_append_left _ hk
    · exact List.mem_append_right _ (ih hd k hk)
theorem trod_field {w : World} {b0 : Nat} {sp : Nat → Bool} {held : Bool} {t : TypeId} {cs : List Value} {x : DataW H × List MemPlace} {fuel : Nat} {fs : Array Field} (ht : P.underlying t = some (.struct fs)) (h : DataW.trod enc P w b0 sp held fuel t cs = some x)
    (i : Nat) (f : Field) (hf : fs[i]? = some f) (n : Nat) (hn : P.cellsOf f.type = n) (hwt : Wt P t x.1) : ∃ m y, DataW.trod enc P w b0 sp held m f.type ((cs.drop f.offset).take n) = some y ∧ Wt P f.type y.1 := by
  cases fuel with
  | zero => simp [DataW.trod] at h
  | succ m =>
    rw [DataW.trod_step] at h
    unfold DataW.trodStep at h
    simp only [ht] at h
    split at h
    · simp only [Option.map_eq_some_iff] at h
      obtain ⟨xs, hxs, rfl⟩ := h
      obtain ⟨y, hy, hyi⟩ := mapM_at hxs (i := i) (x := f) (by simpa using hf)
      rw [hn] at hy
      refine ⟨m, y, hy, fun k hk => hwt k ?_⟩
      simp only [DataW.weights, ht]
      exact DataW.weights_mem_each (j := i) (t := f.type) (d := y.1) (by simp [hf]) (by simp [hyi]) k hk
    · simp at h
theorem trod_elem {w : World} {b0 : Nat} {sp : Nat → Bool} {held : Bool} {t e : TypeId} {cs : List Value} {x : DataW H × List MemPlace} {fuel n : Nat} (ht : P.underlying t = some (.array n e)) (h : DataW.trod enc P w b0 sp held fuel t cs = some x)
    (i : Nat) (hi : i < n) (he : P.cellsOf e = 1) (hwt : Wt P t x.1) : ∃ m y, DataW.trod enc P w b0 sp held m e ((cs.drop i).take 1) = some y ∧ Wt P e y.1 := by
  cases fuel with
  | zero => simp [DataW.trod] at h
  | succ m =>
    rw [DataW.trod_step] at h
    unfold DataW.trodStep at h
    simp only [ht] at h
    split at h
    · simp only [Option.map_eq_some_iff] at h
      obtain ⟨xs, hxs, rfl⟩ := h
      obtain ⟨y, hy, hyi⟩ := mapM_at hxs (i := i) (x := i) (by simp [hi])
      rw [he, Nat.mul_one] at hy
      refine ⟨m, y, hy, fun k hk => hwt k ?_⟩
      simp only [DataW.weights, ht]
      exact all_mem (List.mem_map_of_mem (List.mem_of_getElem? hyi)) k hk
    · simp at h
end

section
variable {H : Type} {enc : TypeId × Value → H} {W : World}
theorem c_int : Try.prog.cellsOf 3 = 1 := by kernel_rfl
theorem c_arr : Try.prog.cellsOf 55 = 4 := by kernel_rfl
theorem c_msg : Try.prog.cellsOf 57 = 9 := by kernel_rfl
theorem c_bytes : Try.prog.cellsOf 22 = 1 := by kernel_rfl
theorem b_u8 : Try.prog.bytesOf 5 = 1 := by kernel_rfl
theorem c_eff : Try.prog.cellsOf 75 = 15 := by kernel_rfl
theorem leaf_int {fuel : Nat} {v : Value} {y : DataW H × List MemPlace} (h : DataW.trod enc Try.prog W 0 (fun _ => true) true fuel 3 [v] = some y) : ∃ n, v = .int .i64 n ∧ OkI n := by
  obtain ⟨n, hc, _, hw⟩ := DataW.trod_int Try.underlying3 h
  simp only [List.cons.injEq, and_true] at hc
  simp only [Lit.wf, Bool.and_eq_true, decide_eq_true_eq] at hw
  have e1 : IntKind.i64.min = -9223372036854775808 := by kernel_rfl
  have e2 : IntKind.i64.max = 9223372036854775807 := by kernel_rfl
  rw [e1, e2] at hw
  exact ⟨n, hc, hw⟩
theorem leaf_bytes {fuel : Nat} {v : Value} {y : DataW H × List MemPlace} (h : DataW.trod enc Try.prog W 0 (fun _ => true) true fuel 22 [v] = some y) (hwt : Wt Try.prog 22 y.1) : IsSl v ∧ ∃ l : List UInt8, RdW W v l ∧ l.length ≤ reachBytes := by
  rcases open_ints Try.underlying22 Try.underlying5 (by kernel_rfl) h with ⟨hcs, hx⟩ | ⟨a, len, cap, zs, hcs, _, hl, hm, hz, hx, hcell, hwz⟩
  · simp only [List.cons.injEq, and_true] at hcs
    subst hcs
    exact ⟨⟨_, _, _, rfl⟩, [], .inl (.inl ⟨rfl, rfl⟩), Nat.zero_le _⟩
  · simp only [List.cons.injEq, and_true] at hcs
    subst hcs
    refine ⟨⟨_, _, _, rfl⟩, ?_⟩
    simp only [if_true] at hz
    have hreach : len ≤ reachBytes := by
      have := hwt ((lits (H := H) .u8 (zs.take len)).length * 1 + (lits (H := H) .u8 (zs.drop len)).length * 1) (by subst hx; simp only [DataW.weights, Try.underlying22, b_u8]; rw [Nat.add_mul]; simp)
      simp only [lits, List.length_map, List.length_take] at this
      omega
    by_cases h0 : cap = 0
    · subst h0
      have : len = 0 := by omega
      subst this
      exact ⟨[], .inr ⟨a, rfl, rfl⟩, Nat.zero_le _⟩
    · have h1 := hcell 0 (by omega)
      rw [show a.add 0 = a by unfold Addr.add; rfl] at h1
      have ha := spot_none h1
      have hlen : ((zs.take len).map fun m => UInt8.ofNat m.toNat).length = len := by simp; omega
      refine ⟨(zs.take len).map fun m => UInt8.ofNat m.toNat, .inl (.inr ⟨a.block, a.off, cap, by rw [hlen, ← ha], by rw [hlen]; exact hl, hm, fun j x hj => ?_⟩), by rw [hlen]; exact hreach⟩
      simp only [List.getElem?_map, Option.map_eq_some_iff] at hj
      obtain ⟨y, hy, rfl⟩ := hj
      obtain ⟨h1, h2⟩ := List.getElem?_eq_some_iff.1 hy
      have hjn : j < zs.length := by simp at h1; omega
      have hcj := hcell j hjn
      rw [ha, addr_add] at hcj
      rw [hcj]
      rw [List.getElem_take] at h2
      have hb := range_u8 hwz j
      have e : zs[j]? = some y := by rw [List.getElem?_eq_getElem hjn, h2]
      simp only [e, Option.getD_some] at hb
      simp only [List.getD, e, Option.getD_some, bv]
      congr 2
      simp only [UInt8.toNat_ofNat']
      omega

theorem list15 {cs : List Value} (h : cs.length = 15) : ∃ c0 c1 c2 c3 c4 c5 c6 c7 c8 c9 c10 c11 c12 c13 c14, cs = [c0, c1, c2, c3, c4, c5, c6, c7, c8, c9, c10, c11, c12, c13, c14] :=
  match cs, h with | [a, b, c, d, e, f, g, i, j, k, l, m, n, o, p], _ => ⟨a, b, c, d, e, f, g, i, j, k, l, m, n, o, p, rfl⟩

set_option maxRecDepth 100000 in
theorem leaf_eff {fuel : Nat} {cs : List Value} {y : DataW H × List MemPlace} (hl : cs.length = 15) (h : DataW.trod enc Try.prog W 0 (fun _ => true) true fuel 75 cs = some y) (hwt : Wt Try.prog 75 y.1) :
    ∃ p : EffP, cs = rowE (p.1.1 ++ p.1.2.1.1) p.2.1 p.2.2 ∧ (OkE p.1 ∧ IsSl p.2.1 ∧ IsSl p.2.2 ∧ RdW W p.2.1 p.1.2.1.2 ∧ RdW W p.2.2 p.1.2.2) ∧ p.1.2.1.2.length ≤ reachBytes ∧ p.1.2.2.length ≤ reachBytes := by
  obtain ⟨c0, c1, c2, c3, c4, c5, c6, c7, c8, c9, c10, c11, c12, c13, c14, rfl⟩ := list15 hl
  have hu := Try.underlying75
  have hm := Try.underlying57
  have har := Try.underlying55
  obtain ⟨_, _, k0, k0w⟩ := trod_field hu h 0 _ rfl 1 c_int hwt
  obtain ⟨_, _, kA, kAw⟩ := trod_field hu h 1 _ rfl 4 c_arr hwt
  obtain ⟨_, _, kM, kMw⟩ := trod_field hu h 2 _ rfl 9 c_msg hwt
  obtain ⟨_, _, kD, kDw⟩ := trod_field hu h 3 _ rfl 1 c_bytes hwt
  obtain ⟨_, _, a0, _⟩ := trod_elem har kA 0 (by omega) c_int kAw
  obtain ⟨_, _, a1, _⟩ := trod_elem har kA 1 (by omega) c_int kAw
  obtain ⟨_, _, a2, _⟩ := trod_elem har kA 2 (by omega) c_int kAw
  obtain ⟨_, _, a3, _⟩ := trod_elem har kA 3 (by omega) c_int kAw
  obtain ⟨_, _, m0, m0w⟩ := trod_field hm kM 0 _ rfl 1 c_int kMw
  obtain ⟨_, _, m1, m1w⟩ := trod_field hm kM 1 _ rfl 1 c_int kMw
  obtain ⟨_, _, m2, m2w⟩ := trod_field hm kM 2 _ rfl 1 c_int kMw
  obtain ⟨_, _, m3, m3w⟩ := trod_field hm kM 3 _ rfl 1 c_int kMw
  obtain ⟨_, _, mA, mAw⟩ := trod_field hm kM 4 _ rfl 4 c_arr kMw
  obtain ⟨_, _, mD, mDw⟩ := trod_field hm kM 5 _ rfl 1 c_bytes kMw
  obtain ⟨_, _, b0, _⟩ := trod_elem har mA 0 (by omega) c_int mAw
  obtain ⟨_, _, b1, _⟩ := trod_elem har mA 1 (by omega) c_int mAw
  obtain ⟨_, _, b2, _⟩ := trod_elem har mA 2 (by omega) c_int mAw
  obtain ⟨_, _, b3, _⟩ := trod_elem har mA 3 (by omega) c_int mAw
  obtain ⟨n0, rfl, r0⟩ := leaf_int k0
  obtain ⟨n1, rfl, r1⟩ := leaf_int a0
  obtain ⟨n2, rfl, r2⟩ := leaf_int a1
  obtain ⟨n3, rfl, r3⟩ := leaf_int a2
  obtain ⟨n4, rfl, r4⟩ := leaf_int a3
  obtain ⟨n5, rfl, r5⟩ := leaf_int m0
  obtain ⟨n6, rfl, r6⟩ := leaf_int m1
  obtain ⟨n7, rfl, r7⟩ := leaf_int m2
  obtain ⟨n8, rfl, r8⟩ := leaf_int m3
  obtain ⟨n9, rfl, r9⟩ := leaf_int b0
  obtain ⟨n10, rfl, r10⟩ := leaf_int b1
  obtain ⟨n11, rfl, r11⟩ := leaf_int b2
  obtain ⟨n12, rfl, r12⟩ := leaf_int b3
  obtain ⟨s1, lm, hlm, hlr⟩ := leaf_bytes mD mDw
  obtain ⟨s2, ld, hld, hdr⟩ := leaf_bytes kD kDw
  refine ⟨(([n0, n1, n2, n3, n4], ([n5, n6, n7, n8, n9, n10, n11, n12], lm), ld), c13, c14), rfl, ⟨⟨rfl, rfl, ?_, ?_⟩, s1, s2, hlm, hld⟩, hlr, hdr⟩
  · intro z hz
    simp only [List.mem_cons, List.not_mem_nil, or_false] at hz
    rcases hz with rfl | rfl | rfl | rfl | rfl <;> assumption
  · intro z hz
    simp only [List.mem_cons, List.not_mem_nil, or_false] at hz
    rcases hz with rfl | rfl | rfl | rfl | rfl | rfl | rfl | rfl <;> assumption

theorem list_of {α : Type} {Q : Nat → α → Prop} : ∀ (n : Nat), (∀ i, i < n → ∃ p, Q i p) → ∃ ps : List α, ps.length = n ∧ ∀ i p, ps[i]? = some p → Q i p := by
  intro n
  induction n with
  | zero => intro _; exact ⟨[], rfl, by simp⟩
  | succ n ih =>
    intro h
    obtain ⟨ps, h1, h2⟩ := ih (fun i hi => h i (by omega))
    obtain ⟨p, hp⟩ := h n (by omega)
    refine ⟨ps ++ [p], by simp [h1], fun i q hq => ?_⟩
    rcases Nat.lt_or_ge i n with hi | hi
    · rw [List.getElem?_append_left (by omega)] at hq
      exact h2 i q hq
    · have hlt := (List.getElem?_eq_some_iff.1 hq).1
      simp at hlt
      have : i = n := by omega
      subst this
      rw [List.getElem?_append_right (by omega), h1, Nat.sub_self] at hq
      simp at hq
      subst hq
      exact hp
theorem cellsP_inv : ∀ (ps : List EffP), (∀ p ∈ ps, (p.1.1 ++ p.1.2.1.1).length = 13) → ∀ {j : Nat} {c : Value}, (cellsP ps)[j]? = some c → ∃ i r p, ps[i]? = some p ∧ r < 15 ∧ j = i * 15 + r ∧ (rowE (p.1.1 ++ p.1.2.1.1) p.2.1 p.2.2)[r]? = some c := by
  intro ps
  induction ps with
  | nil => intro _ j c h; simp [cellsP] at h
  | cons q ps ih =>
    intro hl j c h
    have hq : (rowE (q.1.1 ++ q.1.2.1.1) q.2.1 q.2.2).length = 15 := by rw [rowE_len, hl q (by simp)]
    have hcp : cellsP (q :: ps) = rowE (q.1.1 ++ q.1.2.1.1) q.2.1 q.2.2 ++ cellsP ps := by simp [cellsP]
    rw [hcp] at h
    rcases Nat.lt_or_ge j 15 with hj | hj
    · rw [List.getElem?_append_left (by omega)] at h
      exact ⟨0, j, q, rfl, hj, by omega, h⟩
    · rw [List.getElem?_append_right (by omega), hq] at h
      obtain ⟨i, r, p, h1, h2, h3, h4⟩ := ih (fun p hp => hl p (by simp [hp])) h
      exact ⟨i + 1, r, p, by simpa using h1, h2, by omega, h4⟩
set_option maxRecDepth 100000 in
theorem arg_effects {base : Nat} {v : Value} {d : DataW H} {p : List MemPlace} (hval : Value.okWide Try.prog W .any base 60 v) (h : DataW.Trod enc Try.prog W 0 (fun _ => true) true 60 v d p) (hwt : Wt Try.prog 60 d) :
    ∃ ps : List EffP, RdEs W v ps ∧ ∀ p ∈ ps, p.1.2.1.2.length ≤ reachBytes ∧ p.1.2.2.length ≤ reachBytes := by
  obtain ⟨fuel, hf⟩ := h
  rcases slice_arg Try.underlying60 hval with rfl | ⟨b, off, n, c, rfl, hn, hc⟩
  · exact ⟨[], ⟨.inl ⟨rfl, rfl⟩, by simp⟩, by simp⟩
  · rcases Deep.open_slice Try.underlying60 hf with ⟨hcs, hx⟩ | ⟨a, len, cap, m, fl, D, Pl, hcs, _, hl, hm, hmm, hx, hi⟩
    · simp [Value.cells] at hcs
    · simp only [Value.cells, List.cons.injEq, Value.slice.injEq, Option.some.injEq, and_true] at hcs
      obtain ⟨rfl, rfl, rfl⟩ := hcs
      simp only [if_true] at hmm
      subst hmm
      have each : ∀ i, i < n → ∃ p : EffP, (∀ r x, (rowE (p.1.1 ++ p.1.2.1.1) p.2.1 p.2.2)[r]? = some x → W.cell? ⟨b, off + (i * 15 + r), none⟩ = some x) ∧ (OkE p.1 ∧ IsSl p.2.1 ∧ IsSl p.2.2 ∧ RdW W p.2.1 p.1.2.1.2 ∧ RdW W p.2.2 p.1.2.2) ∧ p.1.2.1.2.length ≤ reachBytes ∧ p.1.2.2.length ≤ reachBytes := fun i hin => by
        obtain ⟨cs', h1, h2⟩ := hi i (by omega)
        rw [c_eff] at h1
        obtain ⟨_, h3, h4⟩ := World.cells?_some h1
        have hwi : Wt Try.prog 75 (D i) := fun k hk => hwt k (by
          rw [(Prod.mk.inj hx).1]
          simp only [DataW.weights, Try.underlying60]
          exact List.mem_cons_of_mem _ (List.mem_append_left _ (all_mem (List.mem_map_of_mem (List.mem_range.2 hin)) k hk)))
        obtain ⟨q, rfl, k1, k2⟩ := leaf_eff h3 h2 hwi
        refine ⟨q, fun r x hr => ?_, k1, k2⟩
        have hlt := (List.getElem?_eq_some_iff.1 hr).1
        have h5 := h4 r (by omega)
        rw [addr_add, addr_add, Nat.add_assoc] at h5
        rw [h5, hr]
      obtain ⟨ps, h1, h2⟩ := list_of n each
      have hok : ∀ p ∈ ps, OkE p.1 ∧ IsSl p.2.1 ∧ IsSl p.2.2 ∧ RdW W p.2.1 p.1.2.1.2 ∧ RdW W p.2.2 p.1.2.2 := fun p hp => by
        obtain ⟨i, hi⟩ := List.getElem?_of_mem hp
        exact (h2 i p hi).2.1
      refine ⟨ps, ⟨.inr ⟨b, off, m, by rw [h1], by omega, hm, fun j x hj => ?_⟩, hok⟩, fun p hp => by obtain ⟨i, hi⟩ := List.getElem?_of_mem hp; exact (h2 i p hi).2.2⟩
      obtain ⟨i, r, p, k1, k2, k3, k4⟩ := cellsP_inv ps (fun p hp => by obtain ⟨⟨e1, e2, _⟩, _⟩ := hok p hp; rw [List.length_append, e1, e2]) hj
      rw [k3]
      exact (h2 i p k1).1 r x k4
end
end Go.Proofs.Ytgfopepopcacmaa
