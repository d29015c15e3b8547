/-
  Put, find, Get, Set, Drop of a table: the walks.
-/
import Derived.Test.YtjijiondinbmnaaTNew
namespace Go.Proofs.Ytjijiondinbmnaa
open Go.RowKit

def zS : SS := (0, false, 0)
def putL (l : List SS) (v : Int) : List SS := match bestN l l.length with | none => l | some b => l.set b ((l.getD b zS).1, true, v)
def putH (l : List SS) : Int := match bestN l l.length with | none => 0 | some b => (hnd l b : Nat)
def putE (l : List SS) : Int := match bestN l l.length with | none => 13 | some _ => 0
theorem putL_len (l : List SS) (v : Int) : (putL l v).length = l.length := by unfold putL; split <;> simp
def PutP (l : List SS) (v : Int) (g s : Nat) (w : World) (e : Ending) (w' : World) : Prop :=
  e = .returned (.tuple #[.int .i64 (putH l), .int .i64 (putE l)]) ∧ w.grownBy w' (some s) ∧ IsT w' g s (putL l v)
theorem set_mem {l : List SS} {i : Nat} {q : SS} (h : ∀ p ∈ l, SOk p) (hq : SOk q) : ∀ p ∈ l.set i q, SOk p := by
  intro p hp
  rcases List.mem_or_eq_of_mem_set hp with h1 | h1
  · exact h p h1
  · rw [h1]; exact hq
theorem IsT.put {w : World} {g s : Nat} {l : List SS} (h : IsT w g s l) {b : Nat} {p : SS} (hp : l[b]? = some p) (hne2 : p.1 ≠ 1000) (v : Int) (hv : OkI v) :
    IsT ((w.setCell ⟨s, b * 3 + 1, none⟩ (.bool true)).setCell ⟨s, b * 3 + 2, none⟩ (.int .i64 v)) g s (l.set b (p.1, true, v)) ∧
    w.grownBy ((w.setCell ⟨s, b * 3 + 1, none⟩ (.bool true)).setCell ⟨s, b * 3 + 2, none⟩ (.int .i64 v)) (some s) := by
  have hok := h.ok p (List.mem_of_getElem? hp)
  have hlt : b < l.length := (List.getElem?_eq_some_iff.1 hp).1
  refine ⟨?_, gb_same (gb_setCell _ _ _) (gb_setCell _ _ _)⟩
  obtain ⟨k1, k2⟩ := World.ownsRow.stored h.row (b * 3 + 1) (.bool true)
  rw [cellsS_set1 l true hp] at k1
  obtain ⟨k3, k4⟩ := World.ownsRow.stored k1 (b * 3 + 2) (.int .i64 v)
  rw [cellsS_set2 (l.set b (p.1, true, p.2.2)) v (p := (p.1, true, p.2.2)) (by simp [hlt])] at k3
  rw [List.set_set] at k3
  refine ⟨?_, by rw [List.length_set]; exact k3, h.ne, by simpa using h.pos, by simpa using h.len, set_mem h.ok ⟨hok.1, fun _ => by have := hok.1; simp only; omega, by simp, hv⟩⟩
  rw [List.length_set]
  have hne := h.ne
  exact blk_kept' (blk_kept' h.tab k2 (by simp; omega)) k4 (by simp; omega)
set_option maxRecDepth 100000 in
set_option maxHeartbeats 2000000 in
theorem put_any {w : World} {g s : Nat} {l : List SS} (h : IsT w g s l) (v : Int) (hv : OkI v) : Calls Try.prog 22 #[.pointer (some ⟨g, 0, none⟩), .int .i64 v] w (PutP l v g s w) := by
  have HF := Lib.hid (free_any h)
  have H := Lib.hid h
  clear h
  unfold PutP putL putH putE
  cases hb : bestN l l.length with
  | none =>
    rw [hb] at HF
    go_enter Try.func22, Try.ntmps22
    go_wp2_with fail
    refine HF.out.mono ?_
    rintro e w1 ⟨rfl, hg1⟩
    have HG := Lib.hid hg1
    clear hg1
    simp only [bI]
    go_wp2
    go_ret2
    exact ⟨rfl, gb_none _ HG.out, H.out.grown HG.out⟩
  | some b =>
    rw [hb] at HF
    obtain ⟨hbk, p, hp, hf, hne⟩ := bestN_spec hb
    have HP := Lib.hid hp
    have HB := Lib.hid hb
    have hgd : (l.getD b zS).1 = p.1 := by rw [List.getD_eq_getElem?_getD, hp]; rfl
    simp only [hgd]
    clear hb hp hgd
    go_enter Try.func22, Try.ntmps22
    go_wp2_with fail
    refine HF.out.mono ?_
    rintro e w1 ⟨rfl, hg1⟩
    have HT := Lib.hid (H.out.grown hg1)
    have HG := Lib.hid hg1
    obtain ⟨_, q1, q2⟩ := HT.out.at HP.out
    have hc := HT.out.cell
    have f1 := HT.out.frozen (b * 3 + 1)
    have f2 := HT.out.frozen (b * 3 + 2)
    have hd : w1.cell? ⟨g, 0, none⟩ = some (.slice (some ⟨s, 0, none⟩) l.length l.length) := hc
    have hb0 : ((b : Int) < 0) = False := by simp
    clear hg1 hd
    simp only [bI]
    go_wp2
    go_region
    obtain ⟨k1, k2⟩ := HT.out.put HP.out hne v hv
    have k3 := k1.grown (gb_drew _ none)
    have k4 := gb_trans0 k2 (gb_drew _ none)
    generalize (((w1.setCell ⟨s, b * 3 + 1, none⟩ (.bool true)).setCell ⟨s, b * 3 + 2, none⟩ (.int .i64 v)).drew) = w2 at *
    have HH := Lib.hid (handle_any k3 (i := b) (by simpa using hbk))
    have HT2 := Lib.hid k3
    have HG2 := Lib.hid k4
    have HE : Hid (hnd (l.set b (p.1, true, v)) b = hnd l b) := Lib.hid (by
      rw [hnd_at HP.out, hnd_at (p := (p.1, true, v)) (by simp [hbk]), List.length_set])
    rw [HE.out] at HH
    clear k1 k2 k3 k4 hc f1 f2 q1 q2
    go_wp2_with fail
    refine HH.out.mono ?_
    rintro e w3 ⟨rfl, hg3⟩
    have HG3 := Lib.hid hg3
    clear hg3
    go_wp2
    go_ret2
    exact ⟨rfl, gb_trans0 (gb_trans (gb_none (some s) HG.out) HG2.out (fun _ e => .inl e)) HG3.out, HT2.out.grown HG3.out⟩

def findI (l : List SS) (h : Int) : Option Nat :=
  if h < 0 then none else
    match l[h.toNat % l.length]? with
    | none => none
    | some p => if p.2.1 = true ∧ p.1 * l.length + h.toNat % l.length = h.toNat then some (h.toNat % l.length) else none
def findV (s : Nat) : Option Nat → Value
  | none => .pointer none
  | some i => .pointer (some ⟨s, i * 3, none⟩)
theorem findI_spec {l : List SS} {h : Int} {i : Nat} (e : findI l h = some i) : ∃ p, l[i]? = some p ∧ p.2.1 = true ∧ ((p.1 * l.length + i : Nat) : Int) = h ∧ i < l.length := by
  unfold findI at e
  split at e
  · cases e
  · split at e
    · cases e
    · rename_i h0 _ p hp
      split at e
      · rename_i hx
        cases e
        exact ⟨p, hp, hx.1, by omega, (List.getElem?_eq_some_iff.1 hp).1⟩
      · cases e
def ValS (v : Value) (w : World) (e : Ending) (w' : World) : Prop := e = .returned v ∧ w.grownBy w' none
set_option maxRecDepth 100000 in
set_option maxHeartbeats 2000000 in
theorem find_any {w : World} {g s : Nat} {l : List SS} (h : IsT w g s l) (x : Int) (hx : OkI x) : Calls Try.prog 49 #[.pointer (some ⟨g, 0, none⟩), .int .i64 x] w (ValS (findV s (findI l x)) w) := by
  have hc := h.cell
  have hlen := h.len
  have hpos := h.pos
  have H := Lib.hid h
  clear h
  by_cases hneg : x < 0
  · have e : findI l x = none := by unfold findI; rw [if_pos hneg]
    rw [e]
    clear e
    go_enter Try.func49, Try.ntmps49
    go_wp2
    go_ret
    exact ⟨rfl, gb_refl _ _⟩
  · obtain ⟨n, rfl⟩ : ∃ n : Nat, x = (n : Int) := ⟨x.toNat, by omega⟩
    have hlt : n % l.length < l.length := Nat.mod_lt _ hpos
    obtain ⟨p, hp⟩ : ∃ p, l[n % l.length]? = some p := ⟨l[n % l.length], by simp [hlt]⟩
    have e : findI l (n : Int) = if p.2.1 = true ∧ p.1 * l.length + n % l.length = n then some (n % l.length) else none := by
      unfold findI; rw [if_neg hneg, Int.toNat_natCast, hp]
    rw [e]
    have hmod : (n : Int).tmod (l.length : Int) = ((n % l.length : Nat) : Int) := rfl
    have hn0 : ((n : Int) < 0) = False := by simp
    have hl0 : ((l.length : Int) == 0) = false := by rw [beq_eq_false_iff_ne]; omega
    have hl1 : ¬ (l.length : Int) = 0 := by omega
    obtain ⟨_, q1, _⟩ := H.out.at hp
    have HH := Lib.hid (handle_any H.out (i := n % l.length) hlt)
    rw [hnd_at hp] at HH
    obtain ⟨gen, full, val⟩ := p
    simp only at q1 HH ⊢
    clear hp e hneg
    generalize hm : n % l.length = m at *
    cases full with
    | false =>
      go_enter Try.func49, Try.ntmps49
      go_wp2
      go_ret
      exact ⟨rfl, gb_refl _ _⟩
    | true =>
      by_cases hh : gen * l.length + m = n
      · have hnh : (((gen * l.length + m : Nat) : Int) != (n : Int)) = false := by rw [hh]; simp
        rw [if_pos ⟨rfl, hh⟩]
        clear hh
        go_enter Try.func49, Try.ntmps49
        go_wp2_with fail
        refine HH.out.mono ?_
        rintro e w3 ⟨rfl, hg3⟩
        have hc3 := (H.out.grown hg3).cell
        have HG3 := Lib.hid hg3
        clear hg3
        go_wp2
        go_ret
        exact ⟨rfl, HG3.out⟩
      · have hnh : (((gen * l.length + m : Nat) : Int) != (n : Int)) = true := by simp; omega
        rw [if_neg (fun e => hh e.2)]
        clear hh
        go_enter Try.func49, Try.ntmps49
        go_wp2_with fail
        refine HH.out.mono ?_
        rintro e w3 ⟨rfl, hg3⟩
        have hc3 := (H.out.grown hg3).cell
        have HG3 := Lib.hid hg3
        clear hg3
        go_wp2
        go_ret
        exact ⟨rfl, HG3.out⟩
end Go.Proofs.Ytjijiondinbmnaa
