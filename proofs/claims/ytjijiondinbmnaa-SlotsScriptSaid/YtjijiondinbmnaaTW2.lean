/-
  The reference's table: Put, Get, Set, Drop: the walks.
-/
import Derived.Test.YtjijiondinbmnaaTW
import Derived.BigQuiet
namespace Go.Proofs.Ytjijiondinbmnaa
open Go.RowKit

theorem putL_eq {l : List SS} {v : Int} {b : Nat} {p : SS} (hb : bestN l l.length = some b) (hp : l[b]? = some p) : putL l v = l.set b (p.1, true, v) ∧ putH l = (hnd l b : Nat) ∧ putE l = 0 := by
  unfold putL putH putE
  rw [hb]
  simp only [gd hp]
  exact ⟨trivial, trivial, trivial⟩
theorem put_eq_none {l : List SS} {v : Int} (hb : bestN l l.length = none) : putL l v = l ∧ putH l = 0 ∧ putE l = 13 := by
  unfold putL putH putE
  rw [hb]
  exact ⟨rfl, rfl, rfl⟩
/-- what the reference's calls that make a table give: a table, and numbers -/
def TabP (l : List SS) (rest : Array Value) (w : World) (e : Ending) (w' : World) : Prop :=
  ∃ s c, e = .returned (.tuple (#[.slice (some ⟨s, 0, none⟩) l.length c] ++ rest)) ∧ w.grownBy w' none ∧ IsW w' s c l
theorem IsW.storeAt {w : World} {s c : Nat} {l l' : List SS} (h : IsW w s c l) (j : Nat) (u : Value) (hc : (cellsS l).set j u = cellsS l') (hl : l'.length = l.length) :
    (w.setCell ⟨s, j, none⟩ u).ownsRow 0 76 3 (.slice (some ⟨s, 0, none⟩) l'.length c) l'.length (cellsS l') := by
  have := (World.ownsRow.stored h.row j u).1
  rw [hc] at this
  rw [hl]
  exact this
theorem IsW.put {w : World} {s c : Nat} {l : List SS} (h : IsW w s c l) {b : Nat} {p : SS} (hp : l[b]? = some p) (hne2 : p.1 ≠ 1000) (v : Int) (hv : OkI v) :
    IsW ((w.setCell ⟨s, b * 3 + 1, none⟩ (.bool true)).setCell ⟨s, b * 3 + 2, none⟩ (.int .i64 v)) s c (l.set b (p.1, true, v)) ∧
    w.grownBy ((w.setCell ⟨s, b * 3 + 1, none⟩ (.bool true)).setCell ⟨s, b * 3 + 2, none⟩ (.int .i64 v)) (some s) := by
  have hok := h.ok p (List.mem_of_getElem? hp)
  have hlt : b < l.length := (List.getElem?_eq_some_iff.1 hp).1
  refine ⟨?_, gb_same (gb_setCell _ _ _) (gb_setCell _ _ _)⟩
  obtain ⟨k1, k2⟩ := World.ownsRow.stored h.row (b * 3 + 1) (.bool true)
  rw [cellsS_set1 l true hp] at k1
  obtain ⟨k3, k4⟩ := World.ownsRow.stored k1 (b * 3 + 2) (.int .i64 v)
  rw [cellsS_set2 (l.set b (p.1, true, p.2.2)) v (p := (p.1, true, p.2.2)) (by simp [hlt]), List.set_set] at k3
  exact ⟨by rw [List.length_set]; exact k3, by simpa using h.len, set_mem h.ok ⟨hok.1, fun _ => by have := hok.1; simp only; omega, by simp, hv⟩⟩
theorem IsW.sets {w : World} {s c : Nat} {l : List SS} (h : IsW w s c l) {b : Nat} {p : SS} (hp : l[b]? = some p) (hf : p.2.1 = true) (v : Int) (hv : OkI v) :
    IsW (w.setCell ⟨s, b * 3 + 2, none⟩ (.int .i64 v)) s c (l.set b (p.1, true, v)) ∧ w.grownBy (w.setCell ⟨s, b * 3 + 2, none⟩ (.int .i64 v)) (some s) := by
  have hok := h.ok p (List.mem_of_getElem? hp)
  obtain ⟨k1, k2⟩ := World.ownsRow.stored h.row (b * 3 + 2) (.int .i64 v)
  rw [cellsS_set2 l v hp, hf] at k1
  exact ⟨⟨by rw [List.length_set]; exact k1, by simpa using h.len, set_mem h.ok ⟨hok.1, fun _ => hok.2.1 hf, by simp, hv⟩⟩, k2⟩
theorem IsW.dropped {w : World} {s c : Nat} {l : List SS} (h : IsW w s c l) {b : Nat} {p : SS} (hp : l[b]? = some p) (hf : p.2.1 = true) :
    IsW (((w.setCell ⟨s, b * 3, none⟩ (.int .i64 ((p.1 : Int) + 1))).setCell ⟨s, b * 3 + 1, none⟩ (.bool false)).setCell ⟨s, b * 3 + 2, none⟩ (.int .i64 0)) s c (l.set b (p.1 + 1, false, 0)) ∧
    w.grownBy (((w.setCell ⟨s, b * 3, none⟩ (.int .i64 ((p.1 : Int) + 1))).setCell ⟨s, b * 3 + 1, none⟩ (.bool false)).setCell ⟨s, b * 3 + 2, none⟩ (.int .i64 0)) (some s) := by
  have hok := h.ok p (List.mem_of_getElem? hp)
  have hlt : b < l.length := (List.getElem?_eq_some_iff.1 hp).1
  refine ⟨?_, gb_same (gb_same (gb_setCell _ _ _) (gb_setCell _ _ _)) (gb_setCell _ _ _)⟩
  obtain ⟨k1, k2⟩ := World.ownsRow.stored h.row (b * 3) (.int .i64 ((p.1 : Int) + 1))
  have e0 := cellsS_set0 l (p.1 + 1) hp
  rw [Int.natCast_add] at e0
  rw [show ((p.1 : Int) + 1) = (p.1 : Int) + ((1 : Nat) : Int) from rfl] at k1 k2 ⊢
  rw [e0] at k1
  obtain ⟨k3, k4⟩ := World.ownsRow.stored k1 (b * 3 + 1) (.bool false)
  rw [cellsS_set1 _ false (p := (p.1 + 1, p.2.1, p.2.2)) (by simp [hlt]), List.set_set] at k3
  obtain ⟨k5, k6⟩ := World.ownsRow.stored k3 (b * 3 + 2) (.int .i64 0)
  rw [cellsS_set2 _ 0 (p := (p.1 + 1, false, p.2.2)) (by simp [hlt]), List.set_set] at k5
  exact ⟨by rw [List.length_set]; exact k5, by simpa using h.len, set_mem h.ok ⟨by have := hok.2.1 hf; simp only; omega, by simp, by simp, by simp [OkI]⟩⟩
set_option maxRecDepth 100000 in
theorem rget_any {w : World} {s c : Nat} {l : List SS} (h : IsW w s c l) (x : Int) : Calls Try.prog 37 #[.slice (some ⟨s, 0, none⟩) l.length c, .int .i64 x] w (GetP (getN l x) (getB l x) w) := by
  have HF := Lib.hid (rfind_any h x)
  have H := Lib.hid h
  clear h
  unfold getN getB
  cases hf : findI l x with
  | none =>
    rw [hf] at HF
    go_enter Try.func37, Try.ntmps37
    go_wp2_with fail
    refine HF.out.mono ?_
    rintro e w1 ⟨rfl, hg1⟩
    have HG := Lib.hid hg1
    clear hg1
    simp only [fI]
    go_wp2
    go_ret2
    exact ⟨rfl, HG.out⟩
  | some i =>
    rw [hf] at HF
    obtain ⟨p, hp, _, _, hi⟩ := findI_spec hf
    have HP := Lib.hid hp
    simp only [gd hp]
    have hi0 : ((i : Int) < 0) = False := by simp
    clear hf hp
    go_enter Try.func37, Try.ntmps37
    go_wp2_with fail
    refine HF.out.mono ?_
    rintro e w1 ⟨rfl, hg1⟩
    obtain ⟨_, _, q2⟩ := (H.out.grown hg1).at HP.out
    have HG := Lib.hid hg1
    clear hg1
    simp only [fI]
    go_wp2
    go_ret2
    exact ⟨rfl, HG.out⟩
set_option maxRecDepth 100000 in
theorem rset_any {w : World} {s c : Nat} {l : List SS} (h : IsW w s c l) (x v : Int) (hv : OkI v) : Calls Try.prog 38 #[.slice (some ⟨s, 0, none⟩) l.length c, .int .i64 x, .int .i64 v] w (TabP (setL l x v) #[.int .i64 (errF l x)] w) := by
  have HF := Lib.hid (rfind_any h x)
  have H := Lib.hid h
  clear h
  unfold setL errF
  cases hf : findI l x with
  | none =>
    rw [hf] at HF
    go_enter Try.func38, Try.ntmps38
    go_wp2_with fail
    refine HF.out.mono ?_
    rintro e w1 ⟨rfl, hg1⟩
    have HG := Lib.hid hg1
    clear hg1
    simp only [fI]
    go_wp2
    go_ret2
    exact ⟨s, c, rfl, HG.out, H.out.grown HG.out⟩
  | some i =>
    rw [hf] at HF
    obtain ⟨p, hp, hfull, _, hi⟩ := findI_spec hf
    have HP := Lib.hid hp
    simp only [gd hp]
    have hi0 : ((i : Int) < 0) = False := by simp
    clear hf hp
    go_enter Try.func38, Try.ntmps38
    go_wp2_with fail
    refine HF.out.mono ?_
    rintro e w1 ⟨rfl, hg1⟩
    have HC := Lib.hid (copied_any (H.out.grown hg1) (by omega))
    have HG := Lib.hid hg1
    clear hg1
    simp only [fI]
    go_wp2_with fail
    refine HC.out.mono ?_
    rintro e w2 ⟨s2, c2, rfl, hs2, hg2, hw2⟩
    obtain ⟨_, _, q2⟩ := hw2.at HP.out
    have y2 := hw2.frozen (i * 3 + 2)
    obtain ⟨k1, k2⟩ := hw2.sets HP.out hfull v hv
    have HW := Lib.hid k1
    have HG2 := Lib.hid (gb_trans (gb_same HG.out hg2) k2 (fun k e => .inr (by cases e; exact Nat.le_trans HG.out.size hs2)))
    clear hs2 hg2 hw2 k1 k2
    go_wp2
    go_ret2
    exact ⟨s2, c2, by rw [List.length_set]; rfl, HG2.out, HW.out⟩
set_option maxRecDepth 100000 in
theorem rdrop_any {w : World} {s c : Nat} {l : List SS} (h : IsW w s c l) (x : Int) : Calls Try.prog 39 #[.slice (some ⟨s, 0, none⟩) l.length c, .int .i64 x] w (TabP (dropL l x) #[.int .i64 (errF l x)] w) := by
  have HF := Lib.hid (rfind_any h x)
  have H := Lib.hid h
  clear h
  unfold dropL errF
  cases hf : findI l x with
  | none =>
    rw [hf] at HF
    go_enter Try.func39, Try.ntmps39
    go_wp2_with fail
    refine HF.out.mono ?_
    rintro e w1 ⟨rfl, hg1⟩
    have HG := Lib.hid hg1
    clear hg1
    simp only [fI]
    go_wp2
    go_ret2
    exact ⟨s, c, rfl, HG.out, H.out.grown HG.out⟩
  | some i =>
    rw [hf] at HF
    obtain ⟨p, hp, hfull, _, hi⟩ := findI_spec hf
    have HP := Lib.hid hp
    simp only [gd hp]
    have hi0 : ((i : Int) < 0) = False := by simp
    clear hf hp
    go_enter Try.func39, Try.ntmps39
    go_wp2_with fail
    refine HF.out.mono ?_
    rintro e w1 ⟨rfl, hg1⟩
    have HC := Lib.hid (copied_any (H.out.grown hg1) (by omega))
    have HG := Lib.hid hg1
    clear hg1
    simp only [fI]
    go_wp2_with fail
    refine HC.out.mono ?_
    rintro e w2 ⟨s2, c2, rfl, hs2, hg2, hw2⟩
    obtain ⟨q0, q1, q2⟩ := hw2.at HP.out
    obtain ⟨r0, _, _⟩ := (H.out.grown (gb_same HG.out hg2)).at HP.out
    have y0 := hw2.frozen (i * 3)
    have y1 := hw2.frozen (i * 3 + 1)
    have y2 := hw2.frozen (i * 3 + 2)
    have hgl : (p.1 : Int) < 1000 := by have := (H.out.ok p (List.mem_of_getElem? HP.out)).2.1 hfull; omega
    obtain ⟨k1, k2⟩ := hw2.dropped HP.out hfull
    have HW := Lib.hid k1
    have HG2 := Lib.hid (gb_trans (gb_same HG.out hg2) k2 (fun k e => .inr (by cases e; exact Nat.le_trans HG.out.size hs2)))
    clear hs2 hg2 hw2 k1 k2
    go_wp2
    go_ret2
    exact ⟨s2, c2, by rw [List.length_set]; rfl, HG2.out, HW.out⟩
end Go.Proofs.Ytjijiondinbmnaa
