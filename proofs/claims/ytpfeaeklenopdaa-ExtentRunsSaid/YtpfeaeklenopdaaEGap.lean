/-
  extent.gap: the walk.
-/
import Derived.Test.YtpfeaeklenopdaaEGapM
namespace Go.Proofs.Ytpfeaeklenopdaa
open Go.RowKit Go.Shelf

attribute [local go_sem] Oper.semAt_some

/-- what the loop of gap keeps: its index in the first new block, and the marks of the loops over iterators -/
def GI (w : World) (Ds : List Nat) (k : Nat) (W : World) : Prop :=
  W.heap[w.heap.size]? = some (.cells #[.int .i64 (k : Int)] 3 (0, 0)) ∧ w.grownBy W none ∧ w.heap.size + 1 ≤ W.heap.size ∧ Ds.Nodup ∧ ∀ D ∈ Ds, w.heap.size + 1 ≤ D ∧ W.heap[D]? = some (.deferred (some []))
theorem GI.grown {w W W' : World} {Ds : List Nat} {k : Nat} (h : GI w Ds k W) (hg : W.grownBy W' none) : GI w Ds k W' := by
  obtain ⟨h1, h2, h3, h4, h5⟩ := h
  exact ⟨blk_kept h1 hg, gb_same h2 hg, Nat.le_trans h3 hg.size, h4, fun D hD => ⟨(h5 D hD).1, blk_kept (h5 D hD).2 hg⟩⟩
theorem GI.lt {w W : World} {Ds : List Nat} {k : Nat} (h : GI w Ds k W) : ∀ D ∈ Ds, D < W.heap.size := fun D hD => (Array.getElem?_eq_some_iff.1 (h.2.2.2.2 D hD).2).1
theorem GI.abide {w W W' : World} {Ds : List Nat} {k B : Nat} {row : Option Nat} (h : GI w Ds k W) (hB : w.heap.size + 1 ≤ B) (hD : ∀ D ∈ Ds, D < B) (hg : W.grownBy W' row) (hr : ∀ r, row = some r → B ≤ r) : GI w Ds k W' := by
  obtain ⟨h1, h2, h3, h4, h5⟩ := h
  refine ⟨blk_kept' h1 hg (fun e => by have := hr _ e; omega), gb_trans h2 hg (fun j e => .inr (by have := hr _ e; omega)), Nat.le_trans h3 hg.size, h4, fun D hd => ⟨(h5 D hd).1, blk_kept' (h5 D hd).2 hg (fun e => by have := hr _ e; have := hD D hd; omega)⟩⟩
theorem GI.store {w W : World} {Ds : List Nat} {k : Nat} (j : Nat) (h : GI w Ds k W) : GI w Ds j (W.setCell ⟨w.heap.size, 0, none⟩ (.int .i64 (j : Int))) := by
  obtain ⟨h1, h2, h3, h4, h5⟩ := h
  refine ⟨heap_setCell_same W w.heap.size 0 _ _ (.int .i64 (j : Int)) h1, gb_trans h2 (gb_setCell _ _ _) (fun r e => .inr (by cases e; simp)), by simpa using h3, h4, fun D hD => ⟨(h5 D hD).1, ?_⟩⟩
  rw [heap_setCell_other _ _ _ _ (by have := (h5 D hD).1; simp; omega)]
  exact (h5 D hD).2
theorem GI.mark {w W : World} {Ds : List Nat} {k D : Nat} (h : GI w Ds k W) (hD : w.heap.size + 1 ≤ D) (hlt : ∀ E ∈ Ds, E < D) (hd : W.heap[D]? = some (.deferred (some []))) : GI w (D :: Ds) k W := by
  obtain ⟨h1, h2, h3, h4, h5⟩ := h
  refine ⟨h1, h2, h3, List.nodup_cons.2 ⟨fun hm => by have := hlt D hm; omega, h4⟩, fun E hE => ?_⟩
  rcases List.mem_cons.1 hE with rfl | hE
  · exact ⟨hD, hd⟩
  · exact h5 E hE
/-- the inner loop's invariant: nothing has been visited; or it was left at the first one -/
def GJ (w : World) (Ds : List Nat) (k B : Nat) {T : Nat} (ys : List (BitNo T)) (W : World) : Prop := ys = [] ∧ GI w Ds k W ∧ ∀ D ∈ Ds, D < B
def GX (w : World) (Ds : List Nat) (B : Nat) {T : Nat} (cd : Code) (ys : List (BitNo T)) (W : World) : Prop := cd = Code.exit 1 ∧ ∃ x : BitNo T, ys = [x] ∧ GI w Ds (x.1 + 1) W ∧ ∀ D ∈ Ds, D < B
theorem GJ.own {w : World} {Ds : List Nat} {k B : Nat} {T : Nat} (hB : w.heap.size + 1 ≤ B) : OwnFrom B (GJ w Ds k B (T := T)) := by
  rintro ys W W' row ⟨h1, h2, h3⟩ hg hr
  exact ⟨h1, h2.abide hB h3 hg (fun r e => (hr r e).1), h3⟩
theorem GX.own {w : World} {Ds : List Nat} {B : Nat} {T : Nat} (cd : Code) (hB : w.heap.size + 1 ≤ B) : OwnFrom B (GX w Ds B (T := T) cd) := by
  rintro ys W W' row ⟨h1, x, h2, h3, h4⟩ hg hr
  exact ⟨h1, x, h2, h3.abide hB h4 hg (fun r e => (hr r e).1), h4⟩
theorem gap_fin {w W : World} {Ds : List Nat} {k B C : Nat} {T : Nat} {x : BitNo T} {cd : Code} (hcd : cd = Code.exit 1) (h : GJ w Ds k B ([] : List (BitNo T)) W) :
    KeepsFrom C W (W.setCell ⟨w.heap.size, 0, none⟩ (.int .i64 ((x.1 + 1 : Nat) : Int))) ∧ GX w Ds B cd [x] (W.setCell ⟨w.heap.size, 0, none⟩ (.int .i64 ((x.1 + 1 : Nat) : Int))) := by
  obtain ⟨_, h2, h3⟩ := h
  refine ⟨⟨by simp, fun j o _ hj ho => ?_⟩, hcd, x, rfl, h2.store (x.1 + 1), h3⟩
  rw [heap_setCell_other _ _ _ _ (fun e => ?_)]
  · exact hj
  · simp only at e; subst e; rw [h2.1] at hj; cases hj; cases ho
def mu (T P : Nat) (W : World) : Nat := match W.cell? ⟨P, 0, none⟩ with | some (.int _ z) => T + 1 - z.toNat | _ => 0
theorem GI.mu {w W : World} {Ds : List Nat} {k : Nat} (h : GI w Ds k W) (T : Nat) : mu T w.heap.size W = T + 1 - k := by
  unfold Go.Proofs.Ytpfeaeklenopdaa.mu
  rw [cell_row (j := 0) h.1]
  simp
def GapP (w : World) (o : Option Nat) (e : Ending) (w' : World) : Prop := e = .returned (.tuple #[.int .i64 ((o.getD 0 : Nat) : Int), .bool o.isSome]) ∧ w.grownBy w' none
theorem gap_leave {F : Fence} {n : Nat} {w : World} {Ds : List Nat} {k : Nat} {W : World} {b : Bool} {tmps : Array Value} {R : Ending → World → Prop} (h : GI w Ds k W) (h8 : tmps[8]? = some (.pointer (some ⟨w.heap.size, 0, none⟩))) (h9 : tmps[9]? = some (.bool b))
    (hR : ∀ W', w.grownBy W' none → R (.returned (.tuple #[.int .i64 (k : Int), .bool b])) W') : LeavesInM F n Try.prog Try.f44 tmps R (Ds.map Go.Proofs.Ytpfeaeklenopdaa.mark) .returning W := by
  refine leaves_marks (B := w.heap.size + 1) (J := fun W' => w.grownBy W' none ∧ W'.heap[w.heap.size]? = some (.cells #[.int .i64 (k : Int)] 3 (0, 0))) ?_ ?_ Ds W h.2.2.2.1 h.2.2.2.2 ⟨h.2.1, h.1⟩
  · rintro W' D ⟨h1, h2⟩ hD hd
    exact ⟨gb_trans h1 (grownBy_putObj' W' D (.deferred none)) (fun r e => .inr (by cases e; omega)), by rw [World.putObj_heap_other (by omega)]; exact h2⟩
  · rintro W' ⟨h1, h2⟩
    have hc : W'.cell? ⟨w.heap.size, 0, none⟩ = some (.int .i64 (k : Int)) := cell_row h2
    refine ⟨.tuple #[.int .i64 (k : Int), .bool b], ?_, hR W' h1⟩
    simp [results, Try.results44, go_sem, h8, h9, hc]
set_option maxRecDepth 100000 in
set_option maxHeartbeats 4000000 in
theorem gap_any (v : Value) (l : List UInt8) (f t m : Nat) (w : World) (hft : f ≤ t) (ht : t ≤ 8 * l.length) (hm : 1 ≤ m) (hm2 : (m : Int) ≤ 9223372036854775807) (hv : Rd w v l) (hl : l.length ≤ 1000000) :
    Calls Try.prog 44 #[v, .int .i64 (f : Int), .int .i64 (t : Int), .int .i64 (m : Int)] w (GapP w (gapS l f t m)) := by
  have HF := Lib.hid (fun W (k : Nat) (hg : w.grownBy W none) => find_any v l k (k + m) true W (hv.grown hg))
  have HV := Lib.hid hv
  have HL := Lib.hid hl
  have HT := Lib.hid ht
  have htI : (t : Int) ≤ 8000000 := by omega
  have HM := Lib.hid hm
  have HFT := Lib.hid hft
  obtain ⟨a, c, rfl⟩ := hv.len
  clear hv hl ht hft hm
  have H0 : Hid (GI w [] f (w.alloc (.cells #[.int .i64 (f : Int)] 3))) := Lib.hid ⟨heap_at_alloc _ _, gb_alloc _ _ _, by simp, List.nodup_nil, fun D hD => by cases hD⟩
  refine (callsIn_wide (n := 5)).1 ?_
  refine callsIn_of_wp_marks Try.func44 rfl trivial ?_ rfl
  simp only [Try.ntmps44, List.size_toArray, List.length_cons, List.length_nil, Nat.reduceAdd, Nat.reduceSub, Array.replicate_succ, Array.replicate_zero, List.push_toArray, List.append_toArray, List.nil_append, List.cons_append]
  gi_wp2
  refine wpIn_scope ?_
  gi_wp2
  refine wpIn_label ?_
  gi_wp2
  refine wpIn_loop (fun a' W => ∃ (k : Nat) (Ds : List Nat) (u10 u11 u12 u13 u14 u15 u16 u17 u18 u19 u20 u21 u22 u23 u24 u25 u26 : Value), f ≤ k ∧ k ≤ t ∧ a' = { tmps := #[.slice a l.length c, .int .i64 (f : Int), .int .i64 (t : Int), .int .i64 (m : Int), undef, undef, undef, undef, .pointer (some ⟨w.heap.size, 0, none⟩), .bool false, u10, u11, u12, u13, u14, u15, u16, u17, u18, u19, u20, u21, u22, u23, u24, u25, u26], defers := Ds.map mark } ∧ GI w Ds k W ∧ ∀ b, f ≤ b → b < k → okG l t m b = false) (fun _ W => mu t w.heap.size W) ?_ ?_
  · exact ⟨f, [], undef, .int .i64 (f : Int), undef, undef, undef, undef, undef, undef, undef, undef, undef, undef, undef, undef, undef, undef, undef, Nat.le_refl _, HFT.out, rfl, H0.out, fun b h1 h2 => by omega⟩
  · rintro a' wr ⟨k, Ds, u10, u11, u12, u13, u14, u15, u16, u17, u18, u19, u20, u21, u22, u23, u24, u25, u26, hkf, hkt, rfl, hGI, hno⟩
    have hc : wr.cell? ⟨w.heap.size, 0, none⟩ = some (.int .i64 (k : Int)) := cell_row hGI.1
    have hfz : wr.frozen? ⟨w.heap.size, 0, none⟩ = false := frozen_row hGI.1
    have hkI : (k : Int) ≤ (t : Int) := by omega
    have HGI := Lib.hid hGI
    have HNO := Lib.hid hno
    have HKF := Lib.hid hkf
    have HKT := Lib.hid hkt
    clear hGI hno hkf hkt
    by_cases hlt : k + m ≤ t
    · have hkm : (m : Int) ≤ (t : Int) - (k : Int) := by omega
      have hkm2 : (k : Int) + (m : Int) ≤ 8000000 := by omega
      have hf0 := HF.out wr k HGI.out.2.1
      obtain ⟨W4, hW4⟩ : ∃ W4, (((wr.alloc (.cells #[.slice a l.length c] 22)).alloc (.cells #[.int .i64 (k : Int)] 3)).alloc (.cells #[.int .i64 ((k + m : Nat) : Int)] 3)).alloc (.cells #[.bool true] 4) = W4 := ⟨_, rfl⟩
      rw [hW4, Int.natCast_add] at hf0
      have hbx := boxes_new wr (.slice a l.length c) k (k + m) true
      rw [hW4] at hbx
      have hz4 : W4.heap.size = wr.heap.size + 4 := by rw [← hW4]; simp
      have hg4 : wr.grownBy W4 none := by rw [← hW4]; exact gb_same (gb_same (gb_same (gb_alloc _ _ _) (gb_alloc _ _ _)) (gb_alloc _ _ _)) (gb_alloc _ _ _)
      have HF4 := Lib.hid hf0
      have HBX := Lib.hid hbx
      have HZ4 := Lib.hid hz4
      have HG4 : Hid (w.grownBy W4 none) := Lib.hid (gb_same HGI.out.2.1 hg4)
      have HJ0 : Hid (GJ w Ds k wr.heap.size ([] : List (BitNo (k + m))) W4) := Lib.hid ⟨rfl, HGI.out.grown hg4, HGI.out.lt⟩
      have HV4 : Hid (Rd W4 (.slice a l.length c) l) := Lib.hid (HV.out.grown (gb_same HGI.out.2.1 hg4))
      have HP : Hid (w.heap.size + 1 ≤ wr.heap.size) := Lib.hid HGI.out.2.2.1
      have HLT := Lib.hid hlt
      clear hf0 hbx hz4 hg4 hW4 hlt
      gi_wp2_with (refine ⟨trivial, ?_⟩; gi_at_call 36; refine (callsIn_wide.2 HF4.out).mono ?_; rintro e w' ⟨rfl, rfl⟩)
      refine wpIn_rangeFunc_ownG rfl (by omega) (gf := 46) (lb := #[.pointer (some ⟨wr.heap.size + 1, 0, none⟩), .pointer (some ⟨wr.heap.size + 1 + 1, 0, none⟩), .pointer (some ⟨wr.heap.size, 0, none⟩), .pointer (some ⟨wr.heap.size + 1 + 1 + 1, 0, none⟩)]) rfl trivial (enters_of Try.func46 (by kernel_rfl) rfl)
        (find_stops 4 (by omega) (wr.heap.size + 1) (wr.heap.size + 1 + 1) wr.heap.size (wr.heap.size + 1 + 1 + 1) (.slice a l.length c) l k (k + m) true w' (Nat.le_add_right _ _) (Nat.le_trans HLT.out HT.out) HL.out (DKp (wr.heap.size + 4) w.heap.size) (DKp.refl _ _) (fun h k => h.trans k) (DKp.drew _ _) ?hR)
        (fun h k => h.trans k) (fun W l o o' hl _ _ _ => DKp.put (by rw [HZ4.out] at hl; exact hl)) (Below.refl _ _) (fun _ => rfl) (GJ w Ds k wr.heap.size) (GX w Ds wr.heap.size) (fun ys W W' row h hg hr => GJ.own (B := wr.heap.size) HP.out ys W W' row h hg (fun r e => ⟨by have := (hr r e).1; have := HZ4.out; omega, (hr r e).2⟩))
        (fun cd ys W W' row h hg hr => GX.own (B := wr.heap.size) cd HP.out ys W W' row h hg (fun r e => ⟨by have := (hr r e).1; have := HZ4.out; omega, (hr r e).2⟩)) HJ0.out
        (fun x => { tmps := #[.slice a l.length c, .int .i64 (f : Int), .int .i64 (t : Int), .int .i64 (m : Int), undef, undef, undef, undef, .pointer (some ⟨w.heap.size, 0, none⟩), .bool false, .int .i64 (x.1 : Int), u11, .int .i64 (m : Int), .int .i64 (t : Int), .int .i64 (k : Int), .int .i64 ((t : Int) - (k : Int)), .bool true, .slice a l.length c, .int .i64 (k : Int), .int .i64 (k : Int), .int .i64 (m : Int), .int .i64 ((k : Int) + (m : Int)), .func (.func 46) #[] #[.pointer (some ⟨wr.heap.size + 1, 0, none⟩), .pointer (some ⟨wr.heap.size + 1 + 1, 0, none⟩), .pointer (some ⟨wr.heap.size, 0, none⟩), .pointer (some ⟨wr.heap.size + 1 + 1 + 1, 0, none⟩)], .int .i64 (x.1 : Int), u24, u25, u26], defers := [] }) ?assign ?body ?done ?stop
      case hR =>
        intro W W' h1 h2
        have hb := (HBX.out.stay (W' := W') (fun j hj1 hj2 => by rw [h2.2 j (by omega) (by have := HP.out; omega)]; exact h1.block j (by rw [HZ4.out]; omega))).cells
        refine ⟨hb.1, hb.2.1, hb.2.2.1, hb.2.2.2, HV.out.blocks (fun j hj => ?_)⟩
        have h3 := HP.out
        rw [h2.2 j (by omega) (by omega), h1.block j (by rw [HZ4.out]; omega)]
        exact HG4.out.block j hj (by simp)
      case assign =>
        intro lp x W K hK
        gi_wp2
        exact hK
      case body =>
        rintro lp pre x W ⟨rfl, hI, hlt⟩ hlen
        have HI := Lib.hid (gap_fin (C := w'.heap.size) (x := x) (cd := Code.exit 1) rfl (⟨rfl, hI, hlt⟩ : GJ w Ds k wr.heap.size ([] : List (BitNo (k + m))) W))
        have c0 : W.cell? ⟨w.heap.size, 0, none⟩ = some (.int .i64 (k : Int)) := cell_row hI.1
        have f0 : W.frozen? ⟨w.heap.size, 0, none⟩ = false := frozen_row hI.1
        have hx : (x.1 : Int) < (k : Int) + (m : Int) := by have := x.2; omega
        clear hI hlt hlen
        gi_wp2
        exact HI.out
      case done =>
        rintro D ys W hD hys ⟨rfl, hI, hlt⟩ hK
        have c0 : W.cell? ⟨w.heap.size, 0, none⟩ = some (.int .i64 (k : Int)) := cell_row hI.1
        have f0 : W.frozen? ⟨w.heap.size, 0, none⟩ = false := frozen_row hI.1
        have HE : Hid (findL l k (k + m) true = []) := Lib.hid hys.symm
        have HI : Hid (GI w (D :: Ds) k W) := Lib.hid (hI.mark (by have := HP.out; have := HZ4.out; omega) (fun E hE => by have := hlt E hE; have := HZ4.out; omega) hK)
        clear hI hlt hys hK hD
        gi_wp2
        refine gap_leave (k := k) (HI.out.store k) rfl rfl (fun W' hg => ⟨?_, hg⟩)
        rw [gapS_some HKF.out HM.out HLT.out HE.out HNO.out]
        rfl
      case stop =>
        rintro D cd pre W hD ⟨x, hkx, hxt, hb, hys⟩ ⟨rfl, y, rfl, hI, hlt⟩ hK
        have hxy : y.1 = x ∧ findL l k x true = [] := by
          cases hf : findL l k x true with
          | nil => rw [hf] at hys; simp at hys; exact ⟨hys, rfl⟩
          | cons z zs => rw [hf] at hys; simp at hys
        obtain ⟨hy, hnil⟩ := hxy
        rw [hy] at hI
        gi_wp2
        have h1 := HP.out
        have h2 := HZ4.out
        refine ⟨⟨x + 1, D :: Ds, _, _, _, _, _, _, _, _, _, _, _, _, _, _, _, _, _, by have := HKF.out; omega, by have := HLT.out; omega, rfl, hI.mark (by omega) (fun E hE => by have := hlt E hE; omega) hK, fun b hb1 hb2 => ?_⟩, ?_⟩
        · by_cases hbk : b < k
          · exact HNO.out b hb1 hbk
          · exact okG_set (x := x) (by omega) (by omega) hb
        · rw [hI.mu, HGI.out.mu]
          omega
    · have hkm : ¬ (m : Int) ≤ (t : Int) - (k : Int) := by omega
      gi_wp2
      refine gap_leave (k := 0) (HGI.out.store 0) rfl rfl (fun W' hg => ⟨?_, hg⟩)
      rw [gapS_none (fun b h1 h2 => ?_)]
      · rfl
      · by_cases hb : b < k
        · exact HNO.out b h1 hb
        · exact okG_far (by omega)
end Go.Proofs.Ytpfeaeklenopdaa
