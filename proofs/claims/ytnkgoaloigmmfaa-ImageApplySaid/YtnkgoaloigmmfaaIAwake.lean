/-
  law.awake: the walk.
-/
import Derived.Test.YtnkgoaloigmmfaaIDiff
namespace Go.Proofs.Ytnkgoaloigmmfaa
open Go.RowKit

theorem bvs_zeros (n : Nat) : List.replicate n (Value.int .u8 0) = bvs (List.replicate n 0) := by
  unfold bvs; rw [List.map_replicate]; rfl
theorem mk_run (n : Nat) (w : World) (hn : n ≤ 1099511627776) :
    ∃ w', (Instr.makeSlice 22 (.int .i64 n) (.int .i64 n)).run Try.prog w = .ok (.slice (some ⟨w.heap.size, 0, none⟩) n n) w' ∧ Own w' w.heap.size (.slice (some ⟨w.heap.size, 0, none⟩) n n) (List.replicate n 0) ∧ w.grownBy w' none := by
  obtain ⟨i0, hi, hz0, hz1, hz2⟩ := info_parts info5
  obtain ⟨w', h1, h2, h3⟩ := run_make_full (P := Try.prog) w w.heap.size 22 5 i0 (.int .u8 0) 1 Try.underlying22 hi hz0 hz1 .i64 .i64 n (by rw [hz2]; omega) (by unfold maxLen; omega) (Nat.le_refl _)
  refine ⟨w', h1, ?_, h3⟩
  unfold Own
  rw [List.length_replicate, ← bvs_zeros]
  have e : (madeCells (Value.int .u8 0).cells (n * 1)).toList = List.replicate n (Value.int .u8 0) := by rw [Nat.mul_one]; exact toList_madeCells_one _ _
  rw [← e]; exact h2
theorem mk_step {ops : Array Oper} {rest : List Oper} {o : Oper} {a : Act} {w : World} {Q : Exit → Act → World → Prop} (hgd : o.guard = none) (l c : Operand) (ho : o.op = .makeSlice 22 l c)
    (n : Nat) (hl : a.eval l = .int .i64 n) (hc : a.eval c = .int .i64 n) (hn : n ≤ 1099511627776)
    (h : ∀ w', Own w' w.heap.size (.slice (some ⟨w.heap.size, 0, none⟩) n n) (List.replicate n 0) → w.grownBy w' none → wpList Try.prog ops Q rest (a.put o.dst (.slice (some ⟨w.heap.size, 0, none⟩) n n)) w') : wpList Try.prog ops Q (o :: rest) a w := by
  obtain ⟨w', hr, h2, h3⟩ := mk_run n w hn
  refine wpList_plain hgd fun _ hK => ?_
  unfold Oper.wp execOp
  simp only [ho, hl, hc, hr, Sem.run_bind, Sem.run_pure, Result.andThen_ok]
  exact hK _ _ (h w' h2 h3)

def a300 : List UInt8 := List.replicate 300 0
def b300 : List UInt8 := (List.replicate 300 0).set 200 1
theorem aw1 : (diffL a300 b300).map (·.1) = [1] := by decide +kernel
theorem aw2 : diffL a300 (a300.take 256) = [] := by decide +kernel
theorem a300_len : a300.length = 300 := by unfold a300; exact List.length_replicate
theorem a300_ne : a300 ≠ [] := fun e => by have := congrArg List.length e; rw [a300_len] at this; cases this
theorem b300_len : b300.length = 300 := by unfold b300; rw [List.length_set]; exact List.length_replicate
theorem Rd.take {w : World} {a : Option Addr} {n c : Nat} {l : List UInt8} (h : Rd w (.slice a n c) l) {m : Nat} (hm : m ≤ l.length) : Rd w (.slice a m c) (l.take m) := by
  rcases h with ⟨h0, rfl⟩ | ⟨b, off, cap, h0, h1, h2, h3⟩
  · cases h0
    simp at hm
    subst hm
    exact .inl ⟨rfl, rfl⟩
  · cases h0
    refine .inr ⟨b, off, c, by rw [List.length_take, Nat.min_eq_left hm], by rw [List.length_take]; omega, h2, fun j x hj => h3 j x ?_⟩
    rw [List.getElem?_take] at hj
    split at hj
    · exact hj
    · cases hj
theorem aw_facts : ∃ l : List UInt8, List.replicate 300 0 = l ∧ l.length = 300 ∧ l ≠ [] ∧ l[200]? = some 0 ∧ (diffL l (l.set 200 1)).map (·.1) = [1] ∧ diffL l (l.take 256) = [] ∧ (l.take 256).length = 256 :=
  ⟨a300, rfl, a300_len, a300_ne, by decide +kernel, aw1, aw2, by rw [List.length_take, a300_len]; rfl⟩

set_option maxRecDepth 100000 in
set_option maxHeartbeats 1000000 in
theorem awake_any (w : World) : Calls Try.prog 11 #[] w (BoolQ true w) := by
  obtain ⟨la, e0, e1, e2, e3, e4, e5, e6⟩ := aw_facts
  have E0 := Lib.hid e0
  have E1 := Lib.hid e1
  have E2 := Lib.hid e2
  have E3 := Lib.hid e3
  have E4 := Lib.hid e4
  have E5 := Lib.hid e5
  have E6 := Lib.hid e6
  clear e0 e1 e2 e3 e4 e5 e6
  have hc3 := count_any 300
  have e300 : cntI 300 = 3 := by decide
  rw [e300] at hc3
  have HC3 := Lib.hid (fun W => hc3 W (by omega) (by omega))
  clear hc3 e300
  go_enter Try.func11, Try.ntmps11
  go_wp2_with (first | ((with_reducible refine mk_step rfl _ _ rfl 300 rfl rfl (by omega) ?_); go_must (intro w1 ho1 hg1; rw [E0.out] at ho1; have HO1 := Lib.hid ho1; have HG1 : Hid (w.grownBy w1 none) := Lib.hid hg1; clear ho1 hg1; have HE := Lib.hid (Own.lit w1 #[] [] 0 w1.heap.size rfl rfl (Nat.le_refl _) (Nat.zero_le _)))) | (at_builtin; refine app_bytes rfl _ _ rfl w1.heap.size _ _ [] la rfl rfl HE.out (HO1.out.rd.grown (gb_alloc _ _ _)) (by simp) (by have := E1.out; simp; omega) ?_; go_must (intro v2 w2 ho2 hg2 hf2; rw [List.nil_append] at ho2; obtain ⟨g, cap, rfl, hgB, hgs⟩ := Own.at ho2 E2.out; rw [E1.out] at ho2 ⊢; have HO2 := Lib.hid ho2; have hcl := HO2.out.cellAt E1.out 200 0 E3.out; have hfr := HO2.out.frozenAt E1.out 200; have HG2 : Hid (w1.grownBy w2 none) := Lib.hid (gb_trans (gb_alloc _ _ none) hg2 (fun k hk => .inr (HE.out.lt k hk).1)); clear ho2 hg2 hf2)))
  obtain ⟨w3, hw3⟩ : ∃ W, W = w2.setCell ⟨g, 200, none⟩ (.int .u8 1) := ⟨_, rfl⟩
  have HO3 : Hid (Own w3 w1.heap.size (.slice (some ⟨g, 0, none⟩) 300 cap) (la.set 200 1)) := Lib.hid (by rw [hw3]; exact HO2.out.set E1.out 200 1)
  have hg23 : w2.grownBy w3 (some g) := by rw [hw3]; exact gb_setCell _ _ _
  have HG3 : Hid (w1.grownBy w3 none) := Lib.hid (gb_trans HG2.out hg23 (fun k hk => .inr (by cases hk; omega)))
  rw [← hw3]
  clear hw3 hg23 hcl hfr
  have hd1 := diff_any _ _ la (la.set 200 1) w3 (HO1.out.rd.grown HG3.out) HO3.out.rd (by rw [List.length_set, E1.out]; omega)
  rw [List.length_set, E1.out] at hd1
  have HD1 := Lib.hid hd1
  clear hd1
  go_wp2_with fail
  refine HD1.out.mono ?_
  rintro e w4 ⟨cv, ps, rfl, hps, hc4, hg4⟩
  have HPS := Lib.hid hps
  have HC4 := Lib.hid hc4
  have HG4 := Lib.hid hg4
  obtain ⟨acv, ccv, rfl⟩ := hc4.slice
  clear hps hc4 hg4
  have hp1 : ∃ d dv, ps = [((1, d), dv)] := by
    have h1 := E4.out
    rw [← HPS.out] at h1
    match ps, h1 with
    | [((k, d), dv)], h1 => simp at h1; subst h1; exact ⟨d, dv, rfl⟩
    | [], h1 => simp at h1
    | _ :: _ :: _, h1 => simp at h1
  obtain ⟨d, dv, rfl⟩ := hp1
  obtain ⟨gc, oc, rfl, q0, _⟩ := HC4.out.rd.at (i := 0) rfl
  simp only [Nat.zero_mul, Nat.add_zero] at q0
  have HG14 : Hid (w1.grownBy w4 none) := Lib.hid (gb_same HG3.out HG4.out)
  have hd2 := fun W (hg : w1.grownBy W none) => diff_any _ (.slice (some ⟨w.heap.size, 0, none⟩) 256 300) la (la.take 256) W (HO1.out.rd.grown hg) ((HO1.out.rd.grown hg).take (by rw [E1.out]; omega)) (by rw [E6.out]; omega)
  rw [E5.out, E6.out] at hd2
  have HD2 := Lib.hid hd2
  have HG5 := Lib.hid (fun o => gb_same HG14.out (gb_alloc w4 o none))
  clear hd2
  go_wp2_with fail
  refine (HD2.out _ (HG5.out _)).mono ?_
  rintro e w6 ⟨cv2, ps2, rfl, hps2, hc6, hg6⟩
  have hz2 : ps2 = [] := by cases ps2 with | nil => rfl | cons x xs => simp at hps2
  subst hz2
  obtain ⟨acv2, ccv2, rfl⟩ := hc6.slice
  have gW := gb_same hg6 (gb_alloc w6 (Obj.cells #[.int .i64 256, .slice acv2 0 ccv2] 29) none)
  have hb1 := blk_kept (heap_at_alloc w4 (Obj.cells #[.int .i64 300, .slice (some ⟨gc, oc, none⟩) 1 ccv] 29)) gW
  have q2 := (gb_same (gb_alloc w4 (Obj.cells #[.int .i64 300, .slice (some ⟨gc, oc, none⟩) 1 ccv] 29) none) gW).cell q0 (by simp)
  have r0 : (w6.alloc (Obj.cells #[.int .i64 256, .slice acv2 0 ccv2] 29)).cell? ⟨w4.heap.size, 0, none⟩ = some (.int .i64 300) := cell_row hb1
  have r1 : (w6.alloc (Obj.cells #[.int .i64 256, .slice acv2 0 ccv2] 29)).cell? ⟨w4.heap.size, 1, none⟩ = some (.slice (some ⟨gc, oc, none⟩) 1 ccv) := cell_row hb1
  have r2 : (w6.alloc (Obj.cells #[.int .i64 256, .slice acv2 0 ccv2] 29)).cell? ⟨gc, oc, none⟩ = some (.int .i64 1) := q2
  clear gW hb1 q2
  have HGF : Hid (w.grownBy w6 none) := Lib.hid (gb_same HG1.out (gb_same (HG5.out _) hg6))
  clear hps2 hc6 hg6
  go_wp2_with (go_at_call 12; refine (HC3.out _).mono ?_; rintro e w' ⟨rfl, rfl⟩)
  go_ret
  exact ⟨rfl, gb_same HGF.out (gb_alloc _ _ _)⟩
end Go.Proofs.Ytnkgoaloigmmfaa
