/-
  law.WireCanonical: the walk.
-/
import Derived.Test.YtgfopepopcacmaaCanon
namespace Go.Proofs.Ytgfopepopcacmaa
open Go.RowKit

theorem str_le {ss : List ByteArray} {s : ByteArray} (h : s ∈ ss) : s.size ≤ (encSs ss).length := by
  obtain ⟨i, hi⟩ := List.getElem?_of_mem h
  have h1 : encSL ss = encSL (ss.take i) ++ (encS (bl s) ++ encSL (ss.drop (i + 1))) := by
    obtain ⟨h2, h3⟩ := List.getElem?_eq_some_iff.1 hi
    have h4 : ss = ss.take i ++ s :: ss.drop (i + 1) := by
      conv => lhs; rw [← List.take_append_drop i ss, List.drop_eq_getElem_cons h2, h3]
    conv => lhs; rw [h4]
    simp [encSL]
  unfold encSs
  rw [h1]
  simp only [encS, List.length_append, bl_len]
  omega
theorem strs_c (lv : Value) (ss : List ByteArray) (w : World) (hl : RdL w lv (svs ss)) (h6 : (encSs ss).length ≤ 600) (hn : ss.length ≤ 600) : Calls Try.prog 17 #[.slice none 0 0, lv] w (EncPost w (encSs ss)) := by
  refine (strings_any (.slice none 0 0) lv w w.heap.size [] ss 600 (fun s hs => Nat.le_trans (str_le hs) h6) (Own.nil _ _) hl (Nat.le_refl _) (by simp [Value.ownBlock]) (by simp only [List.length_nil]; omega) (by omega)).mono ?_
  rintro e w' ⟨v', rfl, ho, hg, _⟩
  exact ⟨v', rfl, ho, hg⟩

def ReadEX (bs : List UInt8) (w : World) (e : Ending) (w' : World) : Prop :=
  ∃ (a : Option Addr) (n c : Nat) (ps : List EffP) (r : Int), e = .returned (.tuple #[.slice a n c, .int .i64 r]) ∧ ELp w' w.heap.size (.slice a n c) ps ∧ w.grownBy w' none ∧ (r = 0 ∨ r = 4) ∧ (r = 0 → (∀ x ∈ ps.map (·.1), OkE x) ∧ encEs (ps.map (·.1)) = bs ∧ ps.length ≤ 160)
theorem readEffects_x (v : Value) (bs : List UInt8) (w : World) (hv : Rd w v bs) (hb : bs.length ≤ 1099511627776) : Calls Try.prog 34 #[v] w (ReadEX bs w) := by
  refine (readEffects_u v bs w hv hb).mono fun e w' hr => ?_
  obtain ⟨a, n, c, ps, r, rfl, hel, hg, h⟩ := hr
  exact ⟨a, n, c, ps, _, rfl, hel, hg, by cases r; exact .inr rfl; exact .inl rfl, fun e0 => h (by cases r; simp at e0; rfl)⟩

def ReadMX (bs : List UInt8) (w : World) (e : Ending) (w' : World) : Prop :=
  ∃ (z0 z1 z2 z3 z4 z5 z6 z7 : Int) (a : Option Addr) (m c : Nat) (l : List UInt8) (r : Int), e = .returned (.tuple #[.agg #[.int .i64 z0, .int .i64 z1, .int .i64 z2, .int .i64 z3, .int .i64 z4, .int .i64 z5, .int .i64 z6, .int .i64 z7, .slice a m c], .int .i64 r]) ∧ Own w' w.heap.size (.slice a m c) l ∧ w.grownBy w' none ∧ (r = 0 ∨ r = 4) ∧ (r = 0 → OkM 8 ([z0, z1, z2, z3, z4, z5, z6, z7], l) ∧ encMM ([z0, z1, z2, z3, z4, z5, z6, z7], l) = bs)
theorem readMsg_x (v : Value) (bs : List UInt8) (w : World) (hv : Rd w v bs) (hb : bs.length ≤ 1099511627776) : Calls Try.prog 33 #[v] w (ReadMX bs w) := by
  refine (readMsg_u v bs w hv hb).mono fun e w' hr => ?_
  obtain ⟨⟨zs, l⟩, mv, r, rfl, hl, ⟨a, m, c, rfl⟩, hom, hg, h⟩ := hr
  simp only at hl
  match zs, hl with
  | [z0, z1, z2, z3, z4, z5, z6, z7], _ => exact ⟨z0, z1, z2, z3, z4, z5, z6, z7, a, m, c, l, _, rfl, hom, hg, by cases r; exact .inr rfl; exact .inl rfl, fun e0 => h (by cases r; simp at e0; rfl)⟩

def ReadXX (bs : List UInt8) (w : World) (e : Ending) (w' : World) : Prop :=
  ∃ (z0 z1 z2 z3 z4 z5 z6 : Int) (a : Option Addr) (m c : Nat) (l : List UInt8) (r : Int), e = .returned (.tuple #[.agg #[.int .i64 z0, .int .i64 z1, .int .i64 z2, .int .i64 z3, .int .i64 z4, .int .i64 z5, .int .i64 z6, .slice a m c], .int .i64 r]) ∧ Own w' w.heap.size (.slice a m c) l ∧ w.grownBy w' none ∧ (r = 0 ∨ r = 4) ∧ (r = 0 → OkM 7 ([z0, z1, z2, z3, z4, z5, z6], l) ∧ encMM ([z0, z1, z2, z3, z4, z5, z6], l) = bs)
theorem readEntry_x (v : Value) (bs : List UInt8) (w : World) (hv : Rd w v bs) (hb : bs.length ≤ 1099511627776) : Calls Try.prog 35 #[v] w (ReadXX bs w) := by
  refine (readEntry_u v bs w hv hb).mono fun e w' hr => ?_
  obtain ⟨⟨zs, l⟩, mv, r, rfl, hl, ⟨a, m, c, rfl⟩, hom, hg, h⟩ := hr
  simp only at hl
  match zs, hl with
  | [z0, z1, z2, z3, z4, z5, z6], _ => exact ⟨z0, z1, z2, z3, z4, z5, z6, a, m, c, l, _, rfl, hom, hg, by cases r; exact .inr rfl; exact .inl rfl, fun e0 => h (by cases r; simp at e0; rfl)⟩

set_option maxRecDepth 100000 in
set_option maxHeartbeats 8000000 in
theorem wireCan_any (v : Value) (bs : List UInt8) (w : World) (hv : Rd w v bs) (hsm : (bs.length : Int) ≤ 9223372036854775807) :
    Calls Try.prog 5 #[v] w (BoolQ true w) := by
  obtain ⟨ad, cd, rfl⟩ := hv.len
  have HV := Lib.hid hv
  clear hv
  by_cases h600 : 600 < bs.length
  · go_enter Try.func5, Try.ntmps5
    go_wp2_with (go_at_call 10; refine (awake_any _).mono ?_; rintro e w0 ⟨rfl, g0⟩)
    go_ret
    exact ⟨rfl, g0⟩
  go_enter Try.func5, Try.ntmps5
  go_wp2_with fail
  refine (awake_any _).mono ?_
  rintro e w0 ⟨rfl, g0⟩
  have HRE := Lib.hid (read_any _ bs w0 (HV.out.grown g0) (by omega))
  have G0 := Lib.hid g0
  clear g0
  go_wp2_with fail
  refine HRE.out.mono ?_
  rintro e w1 ⟨b, sl, rfl, hbge, hR1, hg1, hsl⟩
  have HST := Lib.hid (rstrs_u b sl bs 0 false w1 600 w1.heap.size hR1 (Nat.le_refl _) (by omega))
  have G1 := Lib.hid (gb_same G0.out hg1)
  have hb0 : w.heap.size ≤ b := Nat.le_trans G0.out.size hbge
  clear hR1 hg1 hsl HRE hbge
  go_wp2_with fail
  refine HST.out.mono ?_
  rintro e w2 ⟨a2, n2, c2, vs, q, g, rfl, hown, hR2, hg2, t1, t2⟩
  have hq := hR2.le
  have G2 : Hid (w.grownBy w2 none) := Lib.hid (gb_new G1.out hg2 hb0)
  have HRL := Lib.hid (own_rdl hown)
  have T1 := Lib.hid t1
  clear t1 t2 hown hg2 HST
  by_cases hE : g = true ∨ q < bs.length
  · have HEN := Lib.hid (by have := end_any b sl bs q g w2 hR2; rw [end_no hE] at this; exact this)
    clear hE hR2 T1
    go_wp2_with (go_at_call 14; refine HEN.out.mono ?_; go_must (rintro e w4 ⟨rfl, n4, hw4⟩; have G4 : Hid (w.grownBy w4 none) := Lib.hid (by rw [hw4]; exact gb_same G2.out (gb_drewN _ _ _)); clear hw4))
    refine (readMsg_x _ bs w4 (HV.out.grown G4.out) (by omega)).mono ?_
    rintro e wa ⟨y0, y1, y2, y3, y4, y5, y6, y7, ay, my, cy, ly, ry, rfl, hoy, hga, hy04, hry⟩
    have HY04 := Lib.hid hy04
    have GA := Lib.hid (gb_same G4.out hga)
    have HOY := Lib.hid hoy
    have HRY := Lib.hid hry
    clear hoy hga hry hy04
    go_wp2_with ((with_reducible refine is_store 57 5 35 ?_); go_must (refine st_row 57 5 35 wa.heap.size _ #[.int .i64 y0, .int .i64 y1, .int .i64 y2, .int .i64 y3, .int .i64 y4, .int .i64 y5, .int .i64 y6, .int .i64 y7, .slice ay my cy] _ rfl rfl (heap_at_alloc _ _) sz_msg rfl rfl ?_; intro wb hbb hgb; have gab : wa.grownBy wb none := gb_new (gb_alloc _ _ _) hgb (Nat.le_refl _); have HBB := Lib.hid hbb; have GB := Lib.hid (gb_same GA.out gab); have HOB := Lib.hid (HOY.out.grown gab); clear hbb hgb gab))
    refine (readEffects_x _ bs wb (HV.out.grown GB.out) (by omega)).mono ?_
    rintro e wc ⟨ae, ne, ce, ps, re, rfl, hel, hgc, he04, hre⟩
    have HE04 := Lib.hid he04
    have GC := Lib.hid (gb_same GB.out hgc)
    have HBC := Lib.hid (blk_kept HBB.out hgc)
    have HOC := Lib.hid (HOB.out.grown hgc)
    have HEC := Lib.hid hel
    have HRE2 := Lib.hid hre
    clear hel hgc hre he04
    go_wp2_with fail
    refine (readEntry_x _ bs wc (HV.out.grown GC.out) (by omega)).mono ?_
    rintro e wd ⟨u0, u1, u2, u3, u4, u5, u6, au, mu, cu, lu, ru, rfl, hou, hgd, hu04, hru⟩
    have HU04 := Lib.hid hu04
    have GD := Lib.hid (gb_same GC.out hgd)
    have HBD := Lib.hid (blk_kept HBC.out hgd)
    have HOD := Lib.hid (HOC.out.grown hgd)
    have HED := Lib.hid (HEC.out.kept hgd (by simp))
    have HOU := Lib.hid hou
    have HRU := Lib.hid hru
    clear hou hgd hru hu04
    have HF : Hid (∀ wf, wf.heap[wd.heap.size]? = some (.cells #[.int .i64 u0, .int .i64 u1, .int .i64 u2, .int .i64 u3, .int .i64 u4, .int .i64 u5, .int .i64 u6, .slice au mu cu] 65 (0, 0)) → wd.grownBy wf none → wf.heap[wa.heap.size]? = some (.cells #[.int .i64 y0, .int .i64 y1, .int .i64 y2, .int .i64 y3, .int .i64 y4, .int .i64 y5, .int .i64 y6, .int .i64 y7, .slice ay my cy] 57 (0, 0)) ∧ w.grownBy wf none ∧ Rd wf (.slice ay my cy) ly ∧ ELp wf wb.heap.size (.slice ae ne ce) ps ∧ Rd wf (.slice au mu cu) lu) := Lib.hid (fun wf h1 h2 => ⟨blk_kept HBD.out h2, gb_same GD.out h2, HOD.out.rd.grown h2, HED.out.kept h2 (by simp), HOU.out.rd.grown h2⟩)
    have HMC : Hid (ry = 0 → ∀ W, Rd W (.slice ay my cy) ly → Calls Try.prog 36 #[.slice none 0 0, .agg #[.int .i64 y0, .int .i64 y1, .int .i64 y2, .int .i64 y3, .int .i64 y4, .int .i64 y5, .int .i64 y6, .int .i64 y7, .slice ay my cy]] W (EncPost W bs)) := Lib.hid (fun h W hW => by have := wmsg_c ([y0, y1, y2, y3, y4, y5, y6, y7], ly) (.slice ay my cy) W (HRY.out h).1 hW; rw [(HRY.out h).2] at this; exact this)
    have HXC : Hid (ru = 0 → ∀ W, Rd W (.slice au mu cu) lu → Calls Try.prog 38 #[.slice none 0 0, .agg #[.int .i64 u0, .int .i64 u1, .int .i64 u2, .int .i64 u3, .int .i64 u4, .int .i64 u5, .int .i64 u6, .slice au mu cu]] W (EncPost W bs)) := Lib.hid (fun h W hW => by have := went_c ([u0, u1, u2, u3, u4, u5, u6], lu) (.slice au mu cu) W (HRU.out h).1 hW; rw [(HRU.out h).2] at this; exact this)
    have HEX : Hid (re = 0 → ∀ W, ELp W wb.heap.size (.slice ae ne ce) ps → Calls Try.prog 37 #[.slice none 0 0, .slice ae ne ce] W (EncPost W bs)) := Lib.hid (fun h W hW => by have := weffects_any _ ps W (hW.rdes (HRE2.out h).1) (by rw [(HRE2.out h).2.1]; omega) (by have := (HRE2.out h).2.2; omega); rw [(HRE2.out h).2.1] at this; exact this)
    have HSM : Hid (∀ v W, w.grownBy W none → Rd W v bs → Calls Try.prog 32 #[v, .slice ad bs.length cd] W fun e w' => e = .returned (.bool true) ∧ W.grownBy w' none) := Lib.hid (fun v W h1 h2 => same_g v _ W bs h2 (HV.out.grown h1))
    clear HOD HED HOU HRU HRE2 HRY HOC HEC HBC HBD HBB HOB HOY
    rcases HY04.out with rfl | rfl <;> rcases HE04.out with rfl | rfl <;> rcases HU04.out with rfl | rfl
    all_goals (try (have HMC1 := Lib.hid (HMC.out rfl)))
    all_goals (try (have HXC1 := Lib.hid (HXC.out rfl)))
    all_goals (try (have HEX1 := Lib.hid (HEX.out rfl)))
    all_goals clear HMC HXC HEX
    all_goals (go_wp2_with (first | ((with_reducible refine is_store 65 9 45 ?_); go_must (refine st_row 65 9 45 wd.heap.size _ #[.int .i64 u0, .int .i64 u1, .int .i64 u2, .int .i64 u3, .int .i64 u4, .int .i64 u5, .int .i64 u6, .slice au mu cu] _ rfl rfl (heap_at_alloc _ _) sz_ent rfl rfl ?_; intro wf hbf hgf; have g0 : wd.grownBy wf none := gb_new (gb_alloc _ _ _) hgf (Nat.le_refl _); have HQ := Lib.hid (And.intro g0 hbf); have HM := Lib.hid (HF.out wf hbf g0).1; have cm0 : wf.cell? ⟨wa.heap.size, 0, none⟩ = some (.int .i64 y0) := cell_row HM.out; have cm1 : wf.cell? ⟨wa.heap.size, 1, none⟩ = some (.int .i64 y1) := cell_row HM.out; have cm2 : wf.cell? ⟨wa.heap.size, 2, none⟩ = some (.int .i64 y2) := cell_row HM.out; have cm3 : wf.cell? ⟨wa.heap.size, 3, none⟩ = some (.int .i64 y3) := cell_row HM.out; have cm4 : wf.cell? ⟨wa.heap.size, 4, none⟩ = some (.int .i64 y4) := cell_row HM.out; have cm5 : wf.cell? ⟨wa.heap.size, 5, none⟩ = some (.int .i64 y5) := cell_row HM.out; have cm6 : wf.cell? ⟨wa.heap.size, 6, none⟩ = some (.int .i64 y6) := cell_row HM.out; have cm7 : wf.cell? ⟨wa.heap.size, 7, none⟩ = some (.int .i64 y7) := cell_row HM.out; have cm8 : wf.cell? ⟨wa.heap.size, 8, none⟩ = some (.slice ay my cy) := cell_row HM.out; have cx0 : wf.cell? ⟨wd.heap.size, 0, none⟩ = some (.int .i64 u0) := cell_row HQ.out.2; have cx1 : wf.cell? ⟨wd.heap.size, 1, none⟩ = some (.int .i64 u1) := cell_row HQ.out.2; have cx2 : wf.cell? ⟨wd.heap.size, 2, none⟩ = some (.int .i64 u2) := cell_row HQ.out.2; have cx3 : wf.cell? ⟨wd.heap.size, 3, none⟩ = some (.int .i64 u3) := cell_row HQ.out.2; have cx4 : wf.cell? ⟨wd.heap.size, 4, none⟩ = some (.int .i64 u4) := cell_row HQ.out.2; have cx5 : wf.cell? ⟨wd.heap.size, 5, none⟩ = some (.int .i64 u5) := cell_row HQ.out.2; have cx6 : wf.cell? ⟨wd.heap.size, 6, none⟩ = some (.int .i64 u6) := cell_row HQ.out.2; have cx7 : wf.cell? ⟨wd.heap.size, 7, none⟩ = some (.slice au mu cu) := cell_row HQ.out.2; clear hbf hgf g0)) | (go_at_call 36; refine (HMC1.out _ (HF.out _ HQ.out.2 HQ.out.1).2.2.1).mono ?_; go_must (rintro e wn ⟨v1, rfl, ho1, hg1⟩; have hq := And.intro (gb_same HQ.out.1 hg1) (blk_kept HQ.out.2 hg1); have HQ := Lib.hid hq; have HR := Lib.hid ho1.rd; have cx0 : wn.cell? ⟨wd.heap.size, 0, none⟩ = some (.int .i64 u0) := cell_row HQ.out.2; have cx1 : wn.cell? ⟨wd.heap.size, 1, none⟩ = some (.int .i64 u1) := cell_row HQ.out.2; have cx2 : wn.cell? ⟨wd.heap.size, 2, none⟩ = some (.int .i64 u2) := cell_row HQ.out.2; have cx3 : wn.cell? ⟨wd.heap.size, 3, none⟩ = some (.int .i64 u3) := cell_row HQ.out.2; have cx4 : wn.cell? ⟨wd.heap.size, 4, none⟩ = some (.int .i64 u4) := cell_row HQ.out.2; have cx5 : wn.cell? ⟨wd.heap.size, 5, none⟩ = some (.int .i64 u5) := cell_row HQ.out.2; have cx6 : wn.cell? ⟨wd.heap.size, 6, none⟩ = some (.int .i64 u6) := cell_row HQ.out.2; have cx7 : wn.cell? ⟨wd.heap.size, 7, none⟩ = some (.slice au mu cu) := cell_row HQ.out.2; clear ho1 hg1 hq)) | (go_at_call 37; refine (HEX1.out _ (HF.out _ HQ.out.2 HQ.out.1).2.2.2.1).mono ?_; go_must (rintro e wn ⟨v1, rfl, ho1, hg1⟩; have hq := And.intro (gb_same HQ.out.1 hg1) (blk_kept HQ.out.2 hg1); have HQ := Lib.hid hq; have HR := Lib.hid ho1.rd; have cx0 : wn.cell? ⟨wd.heap.size, 0, none⟩ = some (.int .i64 u0) := cell_row HQ.out.2; have cx1 : wn.cell? ⟨wd.heap.size, 1, none⟩ = some (.int .i64 u1) := cell_row HQ.out.2; have cx2 : wn.cell? ⟨wd.heap.size, 2, none⟩ = some (.int .i64 u2) := cell_row HQ.out.2; have cx3 : wn.cell? ⟨wd.heap.size, 3, none⟩ = some (.int .i64 u3) := cell_row HQ.out.2; have cx4 : wn.cell? ⟨wd.heap.size, 4, none⟩ = some (.int .i64 u4) := cell_row HQ.out.2; have cx5 : wn.cell? ⟨wd.heap.size, 5, none⟩ = some (.int .i64 u5) := cell_row HQ.out.2; have cx6 : wn.cell? ⟨wd.heap.size, 6, none⟩ = some (.int .i64 u6) := cell_row HQ.out.2; have cx7 : wn.cell? ⟨wd.heap.size, 7, none⟩ = some (.slice au mu cu) := cell_row HQ.out.2; clear ho1 hg1 hq)) | (go_at_call 38; refine (HXC1.out _ (HF.out _ HQ.out.2 HQ.out.1).2.2.2.2).mono ?_; go_must (rintro e wn ⟨v1, rfl, ho1, hg1⟩; have hq := And.intro (gb_same HQ.out.1 hg1) (blk_kept HQ.out.2 hg1); have HQ := Lib.hid hq; have HR := Lib.hid ho1.rd; have cx0 : wn.cell? ⟨wd.heap.size, 0, none⟩ = some (.int .i64 u0) := cell_row HQ.out.2; have cx1 : wn.cell? ⟨wd.heap.size, 1, none⟩ = some (.int .i64 u1) := cell_row HQ.out.2; have cx2 : wn.cell? ⟨wd.heap.size, 2, none⟩ = some (.int .i64 u2) := cell_row HQ.out.2; have cx3 : wn.cell? ⟨wd.heap.size, 3, none⟩ = some (.int .i64 u3) := cell_row HQ.out.2; have cx4 : wn.cell? ⟨wd.heap.size, 4, none⟩ = some (.int .i64 u4) := cell_row HQ.out.2; have cx5 : wn.cell? ⟨wd.heap.size, 5, none⟩ = some (.int .i64 u5) := cell_row HQ.out.2; have cx6 : wn.cell? ⟨wd.heap.size, 6, none⟩ = some (.int .i64 u6) := cell_row HQ.out.2; have cx7 : wn.cell? ⟨wd.heap.size, 7, none⟩ = some (.slice au mu cu) := cell_row HQ.out.2; clear ho1 hg1 hq)) | (go_at_call 32; refine (HSM.out _ _ (HF.out _ HQ.out.2 HQ.out.1).2.1 HR.out).mono ?_; go_must (rintro e wn ⟨rfl, hg1⟩; have hq := And.intro (gb_same HQ.out.1 hg1) (blk_kept HQ.out.2 hg1); have HQ := Lib.hid hq; have cx0 : wn.cell? ⟨wd.heap.size, 0, none⟩ = some (.int .i64 u0) := cell_row HQ.out.2; have cx1 : wn.cell? ⟨wd.heap.size, 1, none⟩ = some (.int .i64 u1) := cell_row HQ.out.2; have cx2 : wn.cell? ⟨wd.heap.size, 2, none⟩ = some (.int .i64 u2) := cell_row HQ.out.2; have cx3 : wn.cell? ⟨wd.heap.size, 3, none⟩ = some (.int .i64 u3) := cell_row HQ.out.2; have cx4 : wn.cell? ⟨wd.heap.size, 4, none⟩ = some (.int .i64 u4) := cell_row HQ.out.2; have cx5 : wn.cell? ⟨wd.heap.size, 5, none⟩ = some (.int .i64 u5) := cell_row HQ.out.2; have cx6 : wn.cell? ⟨wd.heap.size, 6, none⟩ = some (.int .i64 u6) := cell_row HQ.out.2; have cx7 : wn.cell? ⟨wd.heap.size, 7, none⟩ = some (.slice au mu cu) := cell_row HQ.out.2; clear hg1 hq))))
    all_goals go_ret
    all_goals exact ⟨rfl, (HF.out _ HQ.out.2 HQ.out.1).2.1⟩
  · have HEN := Lib.hid (by have := end_any b sl bs q g w2 hR2; rw [end_yes hE] at this; exact this)
    have hgf : g = false := by cases g with
      | true => exact absurd (.inl rfl) hE
      | false => rfl
    obtain ⟨ss, rfl, hss, hseg⟩ := rdList_strs_seg (Nat.zero_le _) (T1.out hgf).2
    have hbs : encSs ss = bs := (hseg.all (by omega)).symm
    have HBS := Lib.hid hbs
    have hsl : ss.length ≤ 600 := by omega
    clear hE hR2 T1 hgf hseg hbs hss
    go_wp2_with (go_at_call 14; refine HEN.out.mono ?_; go_must (rintro e w4 ⟨rfl, n4, hw4⟩; have G4 : Hid (w.grownBy w4 none) := Lib.hid (by rw [hw4]; exact gb_same G2.out (gb_drewN _ _ _)); have HC := Lib.hid (strs_c _ ss w4 (HRL.out.grown (show w2.grownBy w4 none by rw [hw4]; exact gb_drewN _ _ _)) (by rw [HBS.out]; omega) hsl); clear hw4))
    refine HC.out.mono ?_
    rintro e w5 ⟨v5, rfl, ho5, hg5⟩
    rw [HBS.out] at ho5
    have G5 := Lib.hid (gb_same G4.out hg5)
    have HSA := Lib.hid (same_g v5 _ w5 bs ho5.rd (HV.out.grown G5.out))
    clear ho5 hg5 HC
    go_wp2_with (go_at_call 32; refine HSA.out.mono ?_; go_must (rintro e w6 ⟨rfl, hg6⟩; have G6 := Lib.hid (gb_same G5.out hg6); clear hg6))
    refine (readMsg_x _ bs w6 (HV.out.grown G6.out) (by omega)).mono ?_
    rintro e wa ⟨y0, y1, y2, y3, y4, y5, y6, y7, ay, my, cy, ly, ry, rfl, hoy, hga, hy04, hry⟩
    have HY04 := Lib.hid hy04
    have GA := Lib.hid (gb_same G6.out hga)
    have HOY := Lib.hid hoy
    have HRY := Lib.hid hry
    clear hoy hga hry hy04
    go_wp2_with ((with_reducible refine is_store 57 5 35 ?_); go_must (refine st_row 57 5 35 wa.heap.size _ #[.int .i64 y0, .int .i64 y1, .int .i64 y2, .int .i64 y3, .int .i64 y4, .int .i64 y5, .int .i64 y6, .int .i64 y7, .slice ay my cy] _ rfl rfl (heap_at_alloc _ _) sz_msg rfl rfl ?_; intro wb hbb hgb; have gab : wa.grownBy wb none := gb_new (gb_alloc _ _ _) hgb (Nat.le_refl _); have HBB := Lib.hid hbb; have GB := Lib.hid (gb_same GA.out gab); have HOB := Lib.hid (HOY.out.grown gab); clear hbb hgb gab))
    refine (readEffects_x _ bs wb (HV.out.grown GB.out) (by omega)).mono ?_
    rintro e wc ⟨ae, ne, ce, ps, re, rfl, hel, hgc, he04, hre⟩
    have HE04 := Lib.hid he04
    have GC := Lib.hid (gb_same GB.out hgc)
    have HBC := Lib.hid (blk_kept HBB.out hgc)
    have HOC := Lib.hid (HOB.out.grown hgc)
    have HEC := Lib.hid hel
    have HRE2 := Lib.hid hre
    clear hel hgc hre he04
    go_wp2_with fail
    refine (readEntry_x _ bs wc (HV.out.grown GC.out) (by omega)).mono ?_
    rintro e wd ⟨u0, u1, u2, u3, u4, u5, u6, au, mu, cu, lu, ru, rfl, hou, hgd, hu04, hru⟩
    have HU04 := Lib.hid hu04
    have GD := Lib.hid (gb_same GC.out hgd)
    have HBD := Lib.hid (blk_kept HBC.out hgd)
    have HOD := Lib.hid (HOC.out.grown hgd)
    have HED := Lib.hid (HEC.out.kept hgd (by simp))
    have HOU := Lib.hid hou
    have HRU := Lib.hid hru
    clear hou hgd hru hu04
    have HF : Hid (∀ wf, wf.heap[wd.heap.size]? = some (.cells #[.int .i64 u0, .int .i64 u1, .int .i64 u2, .int .i64 u3, .int .i64 u4, .int .i64 u5, .int .i64 u6, .slice au mu cu] 65 (0, 0)) → wd.grownBy wf none → wf.heap[wa.heap.size]? = some (.cells #[.int .i64 y0, .int .i64 y1, .int .i64 y2, .int .i64 y3, .int .i64 y4, .int .i64 y5, .int .i64 y6, .int .i64 y7, .slice ay my cy] 57 (0, 0)) ∧ w.grownBy wf none ∧ Rd wf (.slice ay my cy) ly ∧ ELp wf wb.heap.size (.slice ae ne ce) ps ∧ Rd wf (.slice au mu cu) lu) := Lib.hid (fun wf h1 h2 => ⟨blk_kept HBD.out h2, gb_same GD.out h2, HOD.out.rd.grown h2, HED.out.kept h2 (by simp), HOU.out.rd.grown h2⟩)
    have HMC : Hid (ry = 0 → ∀ W, Rd W (.slice ay my cy) ly → Calls Try.prog 36 #[.slice none 0 0, .agg #[.int .i64 y0, .int .i64 y1, .int .i64 y2, .int .i64 y3, .int .i64 y4, .int .i64 y5, .int .i64 y6, .int .i64 y7, .slice ay my cy]] W (EncPost W bs)) := Lib.hid (fun h W hW => by have := wmsg_c ([y0, y1, y2, y3, y4, y5, y6, y7], ly) (.slice ay my cy) W (HRY.out h).1 hW; rw [(HRY.out h).2] at this; exact this)
    have HXC : Hid (ru = 0 → ∀ W, Rd W (.slice au mu cu) lu → Calls Try.prog 38 #[.slice none 0 0, .agg #[.int .i64 u0, .int .i64 u1, .int .i64 u2, .int .i64 u3, .int .i64 u4, .int .i64 u5, .int .i64 u6, .slice au mu cu]] W (EncPost W bs)) := Lib.hid (fun h W hW => by have := went_c ([u0, u1, u2, u3, u4, u5, u6], lu) (.slice au mu cu) W (HRU.out h).1 hW; rw [(HRU.out h).2] at this; exact this)
    have HEX : Hid (re = 0 → ∀ W, ELp W wb.heap.size (.slice ae ne ce) ps → Calls Try.prog 37 #[.slice none 0 0, .slice ae ne ce] W (EncPost W bs)) := Lib.hid (fun h W hW => by have := weffects_any _ ps W (hW.rdes (HRE2.out h).1) (by rw [(HRE2.out h).2.1]; omega) (by have := (HRE2.out h).2.2; omega); rw [(HRE2.out h).2.1] at this; exact this)
    have HSM : Hid (∀ v W, w.grownBy W none → Rd W v bs → Calls Try.prog 32 #[v, .slice ad bs.length cd] W fun e w' => e = .returned (.bool true) ∧ W.grownBy w' none) := Lib.hid (fun v W h1 h2 => same_g v _ W bs h2 (HV.out.grown h1))
    clear HOD HED HOU HRU HRE2 HRY HOC HEC HBC HBD HBB HOB HOY
    rcases HY04.out with rfl | rfl <;> rcases HE04.out with rfl | rfl <;> rcases HU04.out with rfl | rfl
    all_goals (try (have HMC1 := Lib.hid (HMC.out rfl)))
    all_goals (try (have HXC1 := Lib.hid (HXC.out rfl)))
    all_goals (try (have HEX1 := Lib.hid (HEX.out rfl)))
    all_goals clear HMC HXC HEX
    all_goals (go_wp2_with (first | ((with_reducible refine is_store 65 9 45 ?_); go_must (refine st_row 65 9 45 wd.heap.size _ #[.int .i64 u0, .int .i64 u1, .int .i64 u2, .int .i64 u3, .int .i64 u4, .int .i64 u5, .int .i64 u6, .slice au mu cu] _ rfl rfl (heap_at_alloc _ _) sz_ent rfl rfl ?_; intro wf hbf hgf; have g0 : wd.grownBy wf none := gb_new (gb_alloc _ _ _) hgf (Nat.le_refl _); have HQ := Lib.hid (And.intro g0 hbf); have HM := Lib.hid (HF.out wf hbf g0).1; have cm0 : wf.cell? ⟨wa.heap.size, 0, none⟩ = some (.int .i64 y0) := cell_row HM.out; have cm1 : wf.cell? ⟨wa.heap.size, 1, none⟩ = some (.int .i64 y1) := cell_row HM.out; have cm2 : wf.cell? ⟨wa.heap.size, 2, none⟩ = some (.int .i64 y2) := cell_row HM.out; have cm3 : wf.cell? ⟨wa.heap.size, 3, none⟩ = some (.int .i64 y3) := cell_row HM.out; have cm4 : wf.cell? ⟨wa.heap.size, 4, none⟩ = some (.int .i64 y4) := cell_row HM.out; have cm5 : wf.cell? ⟨wa.heap.size, 5, none⟩ = some (.int .i64 y5) := cell_row HM.out; have cm6 : wf.cell? ⟨wa.heap.size, 6, none⟩ = some (.int .i64 y6) := cell_row HM.out; have cm7 : wf.cell? ⟨wa.heap.size, 7, none⟩ = some (.int .i64 y7) := cell_row HM.out; have cm8 : wf.cell? ⟨wa.heap.size, 8, none⟩ = some (.slice ay my cy) := cell_row HM.out; have cx0 : wf.cell? ⟨wd.heap.size, 0, none⟩ = some (.int .i64 u0) := cell_row HQ.out.2; have cx1 : wf.cell? ⟨wd.heap.size, 1, none⟩ = some (.int .i64 u1) := cell_row HQ.out.2; have cx2 : wf.cell? ⟨wd.heap.size, 2, none⟩ = some (.int .i64 u2) := cell_row HQ.out.2; have cx3 : wf.cell? ⟨wd.heap.size, 3, none⟩ = some (.int .i64 u3) := cell_row HQ.out.2; have cx4 : wf.cell? ⟨wd.heap.size, 4, none⟩ = some (.int .i64 u4) := cell_row HQ.out.2; have cx5 : wf.cell? ⟨wd.heap.size, 5, none⟩ = some (.int .i64 u5) := cell_row HQ.out.2; have cx6 : wf.cell? ⟨wd.heap.size, 6, none⟩ = some (.int .i64 u6) := cell_row HQ.out.2; have cx7 : wf.cell? ⟨wd.heap.size, 7, none⟩ = some (.slice au mu cu) := cell_row HQ.out.2; clear hbf hgf g0)) | (go_at_call 36; refine (HMC1.out _ (HF.out _ HQ.out.2 HQ.out.1).2.2.1).mono ?_; go_must (rintro e wn ⟨v1, rfl, ho1, hg1⟩; have hq := And.intro (gb_same HQ.out.1 hg1) (blk_kept HQ.out.2 hg1); have HQ := Lib.hid hq; have HR := Lib.hid ho1.rd; have cx0 : wn.cell? ⟨wd.heap.size, 0, none⟩ = some (.int .i64 u0) := cell_row HQ.out.2; have cx1 : wn.cell? ⟨wd.heap.size, 1, none⟩ = some (.int .i64 u1) := cell_row HQ.out.2; have cx2 : wn.cell? ⟨wd.heap.size, 2, none⟩ = some (.int .i64 u2) := cell_row HQ.out.2; have cx3 : wn.cell? ⟨wd.heap.size, 3, none⟩ = some (.int .i64 u3) := cell_row HQ.out.2; have cx4 : wn.cell? ⟨wd.heap.size, 4, none⟩ = some (.int .i64 u4) := cell_row HQ.out.2; have cx5 : wn.cell? ⟨wd.heap.size, 5, none⟩ = some (.int .i64 u5) := cell_row HQ.out.2; have cx6 : wn.cell? ⟨wd.heap.size, 6, none⟩ = some (.int .i64 u6) := cell_row HQ.out.2; have cx7 : wn.cell? ⟨wd.heap.size, 7, none⟩ = some (.slice au mu cu) := cell_row HQ.out.2; clear ho1 hg1 hq)) | (go_at_call 37; refine (HEX1.out _ (HF.out _ HQ.out.2 HQ.out.1).2.2.2.1).mono ?_; go_must (rintro e wn ⟨v1, rfl, ho1, hg1⟩; have hq := And.intro (gb_same HQ.out.1 hg1) (blk_kept HQ.out.2 hg1); have HQ := Lib.hid hq; have HR := Lib.hid ho1.rd; have cx0 : wn.cell? ⟨wd.heap.size, 0, none⟩ = some (.int .i64 u0) := cell_row HQ.out.2; have cx1 : wn.cell? ⟨wd.heap.size, 1, none⟩ = some (.int .i64 u1) := cell_row HQ.out.2; have cx2 : wn.cell? ⟨wd.heap.size, 2, none⟩ = some (.int .i64 u2) := cell_row HQ.out.2; have cx3 : wn.cell? ⟨wd.heap.size, 3, none⟩ = some (.int .i64 u3) := cell_row HQ.out.2; have cx4 : wn.cell? ⟨wd.heap.size, 4, none⟩ = some (.int .i64 u4) := cell_row HQ.out.2; have cx5 : wn.cell? ⟨wd.heap.size, 5, none⟩ = some (.int .i64 u5) := cell_row HQ.out.2; have cx6 : wn.cell? ⟨wd.heap.size, 6, none⟩ = some (.int .i64 u6) := cell_row HQ.out.2; have cx7 : wn.cell? ⟨wd.heap.size, 7, none⟩ = some (.slice au mu cu) := cell_row HQ.out.2; clear ho1 hg1 hq)) | (go_at_call 38; refine (HXC1.out _ (HF.out _ HQ.out.2 HQ.out.1).2.2.2.2).mono ?_; go_must (rintro e wn ⟨v1, rfl, ho1, hg1⟩; have hq := And.intro (gb_same HQ.out.1 hg1) (blk_kept HQ.out.2 hg1); have HQ := Lib.hid hq; have HR := Lib.hid ho1.rd; have cx0 : wn.cell? ⟨wd.heap.size, 0, none⟩ = some (.int .i64 u0) := cell_row HQ.out.2; have cx1 : wn.cell? ⟨wd.heap.size, 1, none⟩ = some (.int .i64 u1) := cell_row HQ.out.2; have cx2 : wn.cell? ⟨wd.heap.size, 2, none⟩ = some (.int .i64 u2) := cell_row HQ.out.2; have cx3 : wn.cell? ⟨wd.heap.size, 3, none⟩ = some (.int .i64 u3) := cell_row HQ.out.2; have cx4 : wn.cell? ⟨wd.heap.size, 4, none⟩ = some (.int .i64 u4) := cell_row HQ.out.2; have cx5 : wn.cell? ⟨wd.heap.size, 5, none⟩ = some (.int .i64 u5) := cell_row HQ.out.2; have cx6 : wn.cell? ⟨wd.heap.size, 6, none⟩ = some (.int .i64 u6) := cell_row HQ.out.2; have cx7 : wn.cell? ⟨wd.heap.size, 7, none⟩ = some (.slice au mu cu) := cell_row HQ.out.2; clear ho1 hg1 hq)) | (go_at_call 32; refine (HSM.out _ _ (HF.out _ HQ.out.2 HQ.out.1).2.1 HR.out).mono ?_; go_must (rintro e wn ⟨rfl, hg1⟩; have hq := And.intro (gb_same HQ.out.1 hg1) (blk_kept HQ.out.2 hg1); have HQ := Lib.hid hq; have cx0 : wn.cell? ⟨wd.heap.size, 0, none⟩ = some (.int .i64 u0) := cell_row HQ.out.2; have cx1 : wn.cell? ⟨wd.heap.size, 1, none⟩ = some (.int .i64 u1) := cell_row HQ.out.2; have cx2 : wn.cell? ⟨wd.heap.size, 2, none⟩ = some (.int .i64 u2) := cell_row HQ.out.2; have cx3 : wn.cell? ⟨wd.heap.size, 3, none⟩ = some (.int .i64 u3) := cell_row HQ.out.2; have cx4 : wn.cell? ⟨wd.heap.size, 4, none⟩ = some (.int .i64 u4) := cell_row HQ.out.2; have cx5 : wn.cell? ⟨wd.heap.size, 5, none⟩ = some (.int .i64 u5) := cell_row HQ.out.2; have cx6 : wn.cell? ⟨wd.heap.size, 6, none⟩ = some (.int .i64 u6) := cell_row HQ.out.2; have cx7 : wn.cell? ⟨wd.heap.size, 7, none⟩ = some (.slice au mu cu) := cell_row HQ.out.2; clear hg1 hq))))
    all_goals go_ret
    all_goals exact ⟨rfl, (HF.out _ HQ.out.2 HQ.out.1).2.1⟩
end Go.Proofs.Ytgfopepopcacmaa
