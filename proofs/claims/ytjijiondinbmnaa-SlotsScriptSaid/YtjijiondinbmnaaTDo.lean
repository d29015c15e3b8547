/-
  law.do: the walk.
-/
import Derived.Test.YtjijiondinbmnaaTREnc
import Derived.Test.YtjijiondinbmnaaTCall
namespace Go.Proofs.Ytjijiondinbmnaa
open Go.RowKit

theorem apartTW {w : World} {g s s2 c : Nat} {l l2 : List SS} (h : IsT w g s l) (h2 : IsW w s2 c l2) : s ≠ s2 ∧ g ≠ s2 := by
  rcases h2.row.2 with ⟨he, _⟩ | ⟨g2, cap, cur, he, _, hb, _⟩
  · cases he
  · cases he
    constructor
    · rintro rfl
      rcases h.row.2 with ⟨he, _⟩ | ⟨g3, cap3, cur3, he, _, hb3, _⟩
      · cases he
      · cases he
        rw [hb] at hb3
        cases hb3
    · rintro rfl
      have := h.tab
      rw [hb] at this
      cases this
def DoP (l : List SS) (x : ST) (g s : Nat) (w : World) (e : Ending) (w' : World) : Prop :=
  ∃ s3 c3, e = .returned (.tuple #[.slice (some ⟨s3, 0, none⟩) (callL l x).length c3, .bool true]) ∧ w.grownBy w' (some s) ∧ IsT w' g s (callL l x) ∧ IsW w' s3 c3 (callL l x)
set_option maxRecDepth 100000 in
set_option maxHeartbeats 4000000 in
theorem do_any {w : World} {g s s2 cc : Nat} {l : List SS} (h : IsT w g s l) (hu : IsW w s2 cc l) (x : ST) (hx : OkT x) : Calls Try.prog 15 #[.pointer (some ⟨g, 0, none⟩), .slice (some ⟨s2, 0, none⟩) l.length cc, .agg #[.int .i64 x.1, .int .i64 x.2.1, .int .i64 x.2.2]] w (DoP l x g s w) := by
  obtain ⟨kind, hd, val⟩ := x
  obtain ⟨w1, hw1⟩ : ∃ w1, w.alloc (.cells #[.int .i64 kind, .int .i64 hd, .int .i64 val] 38) = w1 := ⟨_, rfl⟩
  have hg1 : w.grownBy w1 none := by rw [← hw1]; exact gb_alloc _ _ _
  have hb0 : w1.heap[w.heap.size]? = some (.cells #[.int .i64 kind, .int .i64 hd, .int .i64 val] 38 (0, 0)) := by rw [← hw1]; exact heap_at_alloc _ _
  have c0 : w1.cell? ⟨w.heap.size, 0, none⟩ = some (.int .i64 kind) := cell_row hb0
  have c1 : w1.cell? ⟨w.heap.size, 1, none⟩ = some (.int .i64 hd) := cell_row hb0
  have c2 : w1.cell? ⟨w.heap.size, 2, none⟩ = some (.int .i64 val) := cell_row hb0
  have H1 := Lib.hid (h.grown hg1)
  have HU1 := Lib.hid (hu.grown hg1)
  have HAP := Lib.hid (apartTW h hu)
  have HNE := Lib.hid (show w.heap.size ≠ s from by have := h.lt.2; omega)
  have HW1 := Lib.hid hw1
  have HG1 := Lib.hid hg1
  have HX := Lib.hid hx
  have hll := hu.len
  clear h hu hw1 hg1 hb0 hx
  by_cases h0 : kind = 0
  · subst h0
    have hpu := put_any H1.out val HX.out.2.2
    unfold PutP at hpu
    have HPU := Lib.hid hpu
    clear hpu
    unfold DoP callL
    simp only [if_true]
    go_enter Try.func15, Try.ntmps15
    go_wp2_with fail
    rw [HW1.out]
    go_wp2_with fail
    refine HPU.out.mono ?_
    rintro e w3 ⟨rfl, hg3, ht3⟩
    have d0 := hg3.cell c0 (by have := HNE.out; simp; omega)
    have d1 := hg3.cell c1 (by have := HNE.out; simp; omega)
    have d2 := hg3.cell c2 (by have := HNE.out; simp; omega)
    have HU3 := Lib.hid (HU1.out.kept hg3 (by have := HAP.out.1; simp; omega))
    have HG3 := Lib.hid hg3
    have HT3 := Lib.hid ht3
    have HC2 := Lib.hid (rput_any HU3.out val HX.out.2.2)
    clear hg3 ht3 c0 c1 c2
    go_wp2_with fail
    refine HC2.out.mono ?_
    rintro e w4 ⟨s3, c3, rfl, hg4, hw4⟩
    have HG4 := Lib.hid (gb_trans0 HG3.out hg4)
    have HT4 := Lib.hid (HT3.out.grown hg4)
    have HW4 := Lib.hid hw4
    clear hg4 hw4
    clear d0 d1 d2
    go_wp2
    go_ret2
    exact ⟨s3, c3, rfl, gb_trans (gb_none (some s) HG1.out) HG4.out (fun _ e => .inl e), HT4.out, HW4.out⟩
  have h0' : (kind == 0) = false := by simpa using h0
  by_cases h1 : kind = 1
  · subst h1
    have HGE := Lib.hid (get_any H1.out hd HX.out.2.1)
    unfold DoP callL
    simp only [if_neg h0, if_true]
    clear h0 h0'
    go_enter Try.func15, Try.ntmps15
    go_wp2_with fail
    rw [HW1.out]
    go_wp2_with fail
    refine HGE.out.mono ?_
    rintro e w3 ⟨rfl, hg3'⟩
    have hg3 := gb_none (some s) hg3'
    have ht3 := H1.out.grown hg3'
    clear hg3'
    have d0 := hg3.cell c0 (by have := HNE.out; simp; omega)
    have d1 := hg3.cell c1 (by have := HNE.out; simp; omega)
    have d2 := hg3.cell c2 (by have := HNE.out; simp; omega)
    have HU3 := Lib.hid (HU1.out.kept hg3 (by have := HAP.out.1; simp; omega))
    have HG3 := Lib.hid hg3
    have HT3 := Lib.hid ht3
    have HC2 := Lib.hid (rget_any HU3.out hd)
    clear hg3 ht3 c0 c1 c2
    go_wp2_with fail
    refine HC2.out.mono ?_
    rintro e w4 ⟨rfl, hg4⟩
    have HG4 := Lib.hid (gb_trans0 HG3.out hg4)
    have HT4 := Lib.hid (HT3.out.grown hg4)
    have HW4 := Lib.hid (HU3.out.grown hg4)
    clear hg4
    clear d0 d1 d2
    go_wp2
    go_ret2
    exact ⟨s2, cc, rfl, gb_trans (gb_none (some s) HG1.out) HG4.out (fun _ e => .inl e), HT4.out, HW4.out⟩
  have h1' : (kind == 1) = false := by simpa using h1
  by_cases h2 : kind = 2
  · subst h2
    have HSE := Lib.hid (set_any H1.out hd val HX.out.2.1 HX.out.2.2)
    unfold DoP callL
    simp only [if_neg h0, if_neg h1, if_true]
    clear h0 h0' h1 h1'
    go_enter Try.func15, Try.ntmps15
    go_wp2_with fail
    rw [HW1.out]
    go_wp2_with fail
    refine HSE.out.mono ?_
    rintro e w3 ⟨rfl, hg3, ht3⟩
    have d0 := hg3.cell c0 (by have := HNE.out; simp; omega)
    have d1 := hg3.cell c1 (by have := HNE.out; simp; omega)
    have d2 := hg3.cell c2 (by have := HNE.out; simp; omega)
    have HU3 := Lib.hid (HU1.out.kept hg3 (by have := HAP.out.1; simp; omega))
    have HG3 := Lib.hid hg3
    have HT3 := Lib.hid ht3
    have HC2 := Lib.hid (rset_any HU3.out hd val HX.out.2.2)
    clear hg3 ht3 c0 c1 c2
    go_wp2_with fail
    refine HC2.out.mono ?_
    rintro e w4 ⟨s3, c3, rfl, hg4, hw4⟩
    have HG4 := Lib.hid (gb_trans0 HG3.out hg4)
    have HT4 := Lib.hid (HT3.out.grown hg4)
    have HW4 := Lib.hid hw4
    clear hg4 hw4
    clear d0 d1 d2
    go_wp2
    go_ret2
    exact ⟨s3, c3, rfl, gb_trans (gb_none (some s) HG1.out) HG4.out (fun _ e => .inl e), HT4.out, HW4.out⟩
  have h2' : (kind == 2) = false := by simpa using h2
  have HDR := Lib.hid (drop_any H1.out hd HX.out.2.1)
  unfold DoP callL
  simp only [if_neg h0, if_neg h1, if_neg h2]
  clear h0 h1 h2
  go_enter Try.func15, Try.ntmps15
  go_wp2_with fail
  rw [HW1.out]
  go_wp2_with fail
  refine HDR.out.mono ?_
  rintro e w3 ⟨rfl, hg3, ht3⟩
  have d0 := hg3.cell c0 (by have := HNE.out; simp; omega)
  have d1 := hg3.cell c1 (by have := HNE.out; simp; omega)
  have d2 := hg3.cell c2 (by have := HNE.out; simp; omega)
  have HU3 := Lib.hid (HU1.out.kept hg3 (by have := HAP.out.1; simp; omega))
  have HG3 := Lib.hid hg3
  have HT3 := Lib.hid ht3
  have HC2 := Lib.hid (rdrop_any HU3.out hd)
  clear hg3 ht3 c0 c1 c2
  go_wp2_with fail
  refine HC2.out.mono ?_
  rintro e w4 ⟨s3, c3, rfl, hg4, hw4⟩
  have HG4 := Lib.hid (gb_trans0 HG3.out hg4)
  have HT4 := Lib.hid (HT3.out.grown hg4)
  have HW4 := Lib.hid hw4
  clear hg4 hw4
  clear d0 d1 d2
  go_wp2
  go_ret2
  exact ⟨s3, c3, rfl, gb_trans (gb_none (some s) HG1.out) HG4.out (fun _ e => .inl e), HT4.out, HW4.out⟩
end Go.Proofs.Ytjijiondinbmnaa
