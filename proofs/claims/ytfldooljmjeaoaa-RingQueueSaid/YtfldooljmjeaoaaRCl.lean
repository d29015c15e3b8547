/-
  Lists of calls on a queue of messages, as an argument.
-/
import Derived.Test.YtfldooljmjeaoaaRSm
import Derived.Test.YtfldooljmjeaoaaRTk
namespace Go.Proofs.Ytfldooljmjeaoaa
open Go.ChangeShapes Go.WideShapes Go.ChangeAt Go.RowKit

abbrev CP := Int × Int × GP
def rowC (p : CP) : List Value := .int .i64 p.1 :: .int .i64 p.2.1 :: rowG p.2.2
theorem rowC_len (p : CP) : (rowC p).length = 11 := rfl
def cellsC (ps : List CP) : List Value := ps.flatMap rowC
theorem cellsC_get (d : Nat) (hd : d < 11) : ∀ (ps : List CP) {i : Nat} {p : CP}, ps[i]? = some p → (cellsC ps)[i * 11 + d]? = (rowC p)[d]?
  | [], i, p, h => by simp at h
  | q :: ps, 0, p, h => by
    simp at h; subst h
    rw [Nat.zero_mul, Nat.zero_add]
    exact List.getElem?_append_left (by rw [rowC_len]; omega)
  | q :: ps, i + 1, p, h => by
    have := cellsC_get d hd ps (i := i) (p := p) (by simpa using h)
    rw [show (i + 1) * 11 + d = (i * 11 + d) + 11 by omega]
    exact this
theorem cellsC_inv : ∀ (ps : List CP) {j : Nat} {c : Value}, (cellsC ps)[j]? = some c → ∃ i r p, ps[i]? = some p ∧ r < 11 ∧ j = i * 11 + r ∧ (rowC p)[r]? = some c := by
  intro ps
  induction ps with
  | nil => intro j c h; simp [cellsC] at h
  | cons q ps ih =>
    intro j c h
    have hq : (rowC q).length = 11 := rfl
    have hcp : cellsC (q :: ps) = rowC q ++ cellsC ps := by simp [cellsC]
    rw [hcp] at h
    rcases Nat.lt_or_ge j 11 with hj | hj
    · rw [List.getElem?_append_left (by omega)] at h
      exact ⟨0, j, q, rfl, hj, by omega, h⟩
    · rw [List.getElem?_append_right (by omega), hq] at h
      obtain ⟨i, r, p, h1, h2, h3, h4⟩ := ih h
      exact ⟨i + 1, r, p, by simpa using h1, h2, by omega, h4⟩
/-- a list of calls that can be read -/
def RdC (w : World) (v : Value) (ps : List CP) : Prop :=
  (v = .slice none 0 0 ∧ ps = []) ∨ ∃ b off cap, v = .slice (some ⟨b, off, none⟩) ps.length cap ∧ ps.length ≤ cap ∧ cap ≤ maxLen ∧ ∀ (j : Nat) (c : Value), (cellsC ps)[j]? = some c → w.cell? ⟨b, off + j, none⟩ = some c
def RdCl (w : World) (v : Value) (ps : List CP) : Prop := RdC w v ps ∧ ∀ p ∈ ps, RdW w p.2.2.2 p.2.2.1.z
theorem RdC.kept {w w' : World} {v : Value} {ps : List CP} {row : Option Nat} (h : RdC w v ps) (hg : w.grownBy w' row) (hv : ps ≠ [] → ∀ k, v.ownBlock = some k → row ≠ some k) : RdC w' v ps := by
  rcases h with h1 | ⟨b, off, cap, rfl, h1, h2, h3⟩
  · exact .inl h1
  · exact .inr ⟨b, off, cap, rfl, h1, h2, fun j c hj => hg.cell (h3 j c hj) (fun e => hv (by rintro rfl; simp [cellsC] at hj) b rfl e.symm)⟩
theorem RdCl.grown {w w' : World} {v : Value} {ps : List CP} (h : RdCl w v ps) (hg : w.grownBy w' none) : RdCl w' v ps :=
  ⟨h.1.kept hg (by simp), fun p hp => (h.2 p hp).grown hg⟩
theorem RdC.len {w : World} {v : Value} {ps : List CP} (h : RdC w v ps) : ∃ a c, v = .slice a ps.length c := by
  rcases h with ⟨rfl, rfl⟩ | ⟨b, off, cap, rfl, _⟩
  · exact ⟨none, 0, rfl⟩
  · exact ⟨_, _, rfl⟩
theorem RdC.small {w : World} {v : Value} {ps : List CP} (h : RdC w v ps) : (ps.length : Int) ≤ 9223372036854775807 := by
  rcases h with ⟨rfl, rfl⟩ | ⟨b, off, cap, rfl, h1, h2, _⟩
  · simp
  · simp only [maxLen] at h2; omega
theorem RdC.at {w : World} {a : Option Addr} {n c : Nat} {ps : List CP} (h : RdC w (.slice a n c) ps) {i : Nat} {p : CP} (hi : ps[i]? = some p) :
    ∃ b off, a = some ⟨b, off, none⟩ ∧ ∀ (d : Nat) (u : Value), (rowC p)[d]? = some u → w.cell? ⟨b, off + i * 11 + d, none⟩ = some u := by
  rcases h with ⟨_, rfl⟩ | ⟨b, off, cap, h0, h1, h2, h3⟩
  · simp at hi
  · simp only [Value.slice.injEq] at h0
    refine ⟨b, off, h0.1, fun d u hd => ?_⟩
    have h9 : d < 11 := by have := (List.getElem?_eq_some_iff.1 hd).1; rw [rowC_len] at this; exact this
    rw [Nat.add_assoc]
    exact h3 _ _ (by rw [cellsC_get d h9 ps hi]; exact hd)
section
variable {H : Type} {enc : TypeId × Value → H} {P : Program} {W : World} {base : Nat}
theorem trod_elem {w : World} {b0 : Nat} {sp : Nat → Bool} {held : Bool} {t e : TypeId} {cs : List Value} {x : DataW H × List MemPlace} {fuel n : Nat} (ht : P.underlying t = some (.array n e)) (h : DataW.trod enc P w b0 sp held fuel t cs = some x)
    (i : Nat) (hi : i < n) (he : P.cellsOf e = 1) : ∃ m y, DataW.trod enc P w b0 sp held m e ((cs.drop i).take 1) = some y := by
  cases fuel with
  | zero => simp [DataW.trod] at h
  | succ m =>
    rw [DataW.trod_step] at h
    unfold DataW.trodStep at h
    simp only [ht] at h
    split at h
    · simp only [Option.map_eq_some_iff] at h
      obtain ⟨xs, hxs, rfl⟩ := h
      obtain ⟨y, hy⟩ := mapM_at hxs (i := i) (x := i) (by simp [hi])
      rw [he, Nat.mul_one] at hy
      exact ⟨m, y, hy⟩
    · simp at h
end
section
variable {H : Type} {enc : TypeId × Value → H} {W : World} {base : Nat}
theorem c_arr4 : Try.prog.cellsOf 37 = 4 := by kernel_rfl
theorem c_msg9 : Try.prog.cellsOf 39 = 9 := by kernel_rfl
theorem c_call : Try.prog.cellsOf 41 = 11 := by kernel_rfl
theorem list11 {cs : List Value} (h : cs.length = 11) : ∃ c0 c1 c2 c3 c4 c5 c6 c7 c8 c9 c10, cs = [c0, c1, c2, c3, c4, c5, c6, c7, c8, c9, c10] :=
  match cs, h with | [a, b, c, d, e, f, g, i, j, k, l], _ => ⟨a, b, c, d, e, f, g, i, j, k, l, rfl⟩
set_option maxRecDepth 100000 in
theorem leaf_call {fuel : Nat} {cs : List Value} {y : DataW H × List MemPlace} (hl : cs.length = 11) (h : DataW.trod enc Try.prog W 0 (fun _ => true) true fuel 41 cs = some y) : ∃ p : CP, cs = rowC p ∧ RdW W p.2.2.2 p.2.2.1.z := by
  obtain ⟨c0, c1, c2, c3, c4, c5, c6, c7, c8, c9, c10, rfl⟩ := list11 hl
  have hu := Try.underlying41
  have hm := Try.underlying39
  have h4 := Try.underlying37
  obtain ⟨_, _, k0⟩ := trod_field hu h 0 _ rfl 1 c_int
  obtain ⟨_, _, k1⟩ := trod_field hu h 1 _ rfl 1 c_int
  obtain ⟨_, _, k2⟩ := trod_field hu h 2 _ rfl 9 c_msg9
  obtain ⟨_, _, m0⟩ := trod_field hm k2 0 _ rfl 1 c_int
  obtain ⟨_, _, m1⟩ := trod_field hm k2 1 _ rfl 1 c_int
  obtain ⟨_, _, m2⟩ := trod_field hm k2 2 _ rfl 1 c_int
  obtain ⟨_, _, m3⟩ := trod_field hm k2 3 _ rfl 1 c_int
  obtain ⟨_, _, m4⟩ := trod_field hm k2 4 _ rfl 4 c_arr4
  obtain ⟨_, _, m5⟩ := trod_field hm k2 5 _ rfl 1 c_bytes
  obtain ⟨_, _, e0⟩ := trod_elem h4 m4 0 (by omega) c_int
  obtain ⟨_, _, e1⟩ := trod_elem h4 m4 1 (by omega) c_int
  obtain ⟨_, _, e2⟩ := trod_elem h4 m4 2 (by omega) c_int
  obtain ⟨_, _, e3⟩ := trod_elem h4 m4 3 (by omega) c_int
  obtain ⟨n0, rfl, _⟩ := leaf_int k0
  obtain ⟨n1, rfl, _⟩ := leaf_int k1
  obtain ⟨s, rfl, _⟩ := leaf_int m0
  obtain ⟨d, rfl, _⟩ := leaf_int m1
  obtain ⟨k, rfl, _⟩ := leaf_int m2
  obtain ⟨q, rfl, _⟩ := leaf_int m3
  obtain ⟨a, rfl, _⟩ := leaf_int e0
  obtain ⟨b, rfl, _⟩ := leaf_int e1
  obtain ⟨c, rfl, _⟩ := leaf_int e2
  obtain ⟨e, rfl, _⟩ := leaf_int e3
  obtain ⟨_, l, hl⟩ := leaf_bytes m5
  exact ⟨(n0, n1, (⟨s, d, k, q, a, b, c, e, l⟩, c10)), rfl, hl⟩
set_option maxRecDepth 100000 in
theorem arg_calls {v : Value} {d : DataW H} {p : List MemPlace} (hval : Value.okWide Try.prog W .any base 23 v) (h0 : DataW.Trod enc Try.prog W 0 (fun _ => true) true 23 v d p) : ∃ ps : List CP, RdCl W v ps := by
  obtain ⟨fuel, hf⟩ := h0
  rcases slice_arg Try.underlying23 hval with rfl | ⟨b, off, n, c, rfl, hn, hc⟩
  · exact ⟨[], .inl ⟨rfl, rfl⟩, by simp⟩
  · rcases Deep.open_slice Try.underlying23 hf with ⟨hcs, hx⟩ | ⟨a, len, cap, m, fl, D, Pl, hcs, _, hl, hm, hmm, hx, hi⟩
    · simp [Value.cells] at hcs
    · simp only [Value.cells, List.cons.injEq, Value.slice.injEq, Option.some.injEq, and_true] at hcs
      obtain ⟨rfl, rfl, rfl⟩ := hcs
      simp only [if_true] at hmm
      subst hmm
      have each : ∀ i, i < n → ∃ p : CP, (∀ r x, (rowC p)[r]? = some x → W.cell? ⟨b, off + (i * 11 + r), none⟩ = some x) ∧ RdW W p.2.2.2 p.2.2.1.z := fun i hin => by
        obtain ⟨cs', h1, h2⟩ := hi i (by omega)
        rw [c_call] at h1
        obtain ⟨_, h3, h4⟩ := World.cells?_some h1
        obtain ⟨q, rfl, k1⟩ := leaf_call h3 h2
        refine ⟨q, fun r x hr => ?_, k1⟩
        have hlt := (List.getElem?_eq_some_iff.1 hr).1
        have h5 := h4 r (by rw [rowC_len] at hlt; omega)
        rw [addr_add, addr_add, Nat.add_assoc] at h5
        rw [h5, hr]
      obtain ⟨ps, h1, h2⟩ := list_of n each
      refine ⟨ps, .inr ⟨b, off, m, by rw [h1], by omega, hm, fun j x hj => ?_⟩, fun p hp => by obtain ⟨i, hi⟩ := List.getElem?_of_mem hp; exact (h2 i p hi).2⟩
      obtain ⟨i, r, p, k1, k2, k3, k4⟩ := cellsC_inv ps hj
      rw [k3]
      exact (h2 i p k1).1 r x k4
end
def FewC (ps : List CP) (w : World) (e : Ending) (w' : World) : Prop := ∃ t : Bool, e = .returned (.bool t) ∧ (t = true → ps.length ≤ 40) ∧ w = w'
set_option maxRecDepth 100000 in
set_option maxHeartbeats 4000000 in
theorem fewC_any (v : Value) (ps : List CP) (w : World) (h : RdCl w v ps) : Calls Try.prog 5 #[v] w (FewC ps w) := by
  have hsm := h.1.small
  obtain ⟨a, c, rfl⟩ := h.1.len
  have H := Lib.hid h
  clear h
  go_enter Try.func5, Try.ntmps5
  go_wp2_with fail
  go_loop [3, 4] (fun u i => ∃ (k : Nat) (z : Int), k ≤ ps.length ∧ i = .int .i64 k ∧ u = .int .i64 z) (fun _ i => ps.length - (intOf i).toNat)
  case atStart => exact ⟨0, 0, Nat.zero_le _, rfl, rfl⟩
  case round =>
    obtain ⟨k, z, hk, rfl, rfl⟩ := hrel
    by_cases hlt : k < ps.length
    · obtain ⟨p, hp⟩ : ∃ p, ps[k]? = some p := ⟨ps[k], by simp [hlt]⟩
      obtain ⟨b, off, rfl, hcc⟩ := H.out.1.at hp
      have hds := (H.out.2 p (List.mem_of_getElem? hp)).small
      obtain ⟨ad, cd, hpd⟩ := (H.out.2 p (List.mem_of_getElem? hp)).len
      have h10 := hcc 10 p.2.2.2 rfl
      rw [hpd] at h10
      clear hcc hpd hp
      go_wp2
      go_round
      case rel => exact ⟨k + 1, _, by omega, by go_num, rfl⟩
      case measure => simp [intOf]; omega
    · obtain rfl : k = ps.length := by omega
      by_cases h3 : ps.length ≤ 40
      · have h3' : (ps.length : Int) ≤ 40 := by omega
        have H3 := Lib.hid h3
        clear h3
        go_wp2
        go_ret
        exact ⟨_, rfl, fun _ => H3.out, rfl⟩
      · have h3' : (40 : Int) < ps.length := by omega
        have hd : decide ((ps.length : Int) ≤ 40) = false := by simp; omega
        clear h3
        go_wp2
        go_ret
        exact ⟨false, rfl, (by simp), rfl⟩
end Go.Proofs.Ytfldooljmjeaoaa
