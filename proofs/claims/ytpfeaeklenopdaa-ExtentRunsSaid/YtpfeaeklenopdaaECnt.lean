/-
  extent.find as a sequence; extent.Count and extent.Clear.
-/
import Derived.Test.YtpfeaeklenopdaaEFind
namespace Go.Proofs.Ytpfeaeklenopdaa
open Go.RowKit Go.Shelf

attribute [local go_sem] Oper.semAt_some

abbrev BitNo (t : Nat) := { x : Nat // x < t }
theorem find_any (v : Value) (l : List UInt8) (f t : Nat) (on : Bool) (w : World) (hv : Rd w v l) :
    Calls Try.prog 36 #[v, .int .i64 (f : Int), .int .i64 (t : Int), .bool on] w fun e w' => e = .returned (.func (.func 46) #[] #[.pointer (some ⟨w.heap.size + 1, 0, none⟩), .pointer (some ⟨w.heap.size + 1 + 1, 0, none⟩), .pointer (some ⟨w.heap.size, 0, none⟩), .pointer (some ⟨w.heap.size + 1 + 1 + 1, 0, none⟩)]) ∧
      w' = (((w.alloc (.cells #[v] 22)).alloc (.cells #[.int .i64 (f : Int)] 3)).alloc (.cells #[.int .i64 (t : Int)] 3)).alloc (.cells #[.bool on] 4) := by
  obtain ⟨a, c, rfl⟩ := hv.len
  have hmf : ∀ (fn : Fn) (first cap : Array Value) (w : World), (Instr.makeFunc fn first cap).run Try.prog w = .ok (.func fn first cap) w := fun _ _ _ _ => rfl
  clear hv
  go_enter Try.func36, Try.ntmps36
  go_wp2
  go_ret
  exact ⟨rfl, rfl⟩
theorem find_stops (n : Nat) (hn : 2 ≤ n) (Bf Bt Bb Bo : Nat) (v : Value) (l : List UInt8) (f t : Nat) (on : Bool) (w : World) (hft : f ≤ t) (ht : t ≤ 8 * l.length) (hl : l.length ≤ 1000000) (Kp : World → World → Prop) (hKr : ∀ W, Kp W W) (hKt : ∀ {A B C : World}, Kp A B → Kp B C → Kp A C) (hKd : ∀ W, Kp W W.drew)
    (hR : ∀ W W', Below w.heap.size w W → Kp W W' → W'.cell? ⟨Bf, 0, none⟩ = some (.int .i64 (f : Int)) ∧ W'.cell? ⟨Bt, 0, none⟩ = some (.int .i64 (t : Int)) ∧ W'.cell? ⟨Bb, 0, none⟩ = some v ∧ W'.cell? ⟨Bo, 0, none⟩ = some (.bool on) ∧ Rd W' v l) :
    SeqStopsK Fence.wide n Try.prog 46 #[.pointer (some ⟨Bf, 0, none⟩), .pointer (some ⟨Bt, 0, none⟩), .pointer (some ⟨Bb, 0, none⟩), .pointer (some ⟨Bo, 0, none⟩)] (fun x : BitNo t => #[Value.int .i64 (x.1 : Int)]) Kp
      (fun ys => ys.map (·.1) = findL l f t on) (fun ys => ∃ x, f ≤ x ∧ x < t ∧ bitN l x = on ∧ ys.map (·.1) = findL l f x on ++ [x]) (t - f) w := fun lp J Jx W hW hJ _ hY h0 => by
  refine (find1_in n hn lp Bf Bt Bb Bo v l f t on hft ht hl Kp hKr (fun h k => hKt h k) hKd (fun pre W => ∃ ys : List (BitNo t), ys.map (·.1) = pre ∧ J ys W) (fun pre W => ∃ ys : List (BitNo t), ys.map (·.1) = pre ∧ Jx ys W)
    (fun pre W1 h => ?_) ?_ W (fun W' h => hR W W' hW h) ⟨[], rfl, h0⟩).mono ?_
  · obtain ⟨ys, h1, h2⟩ := h
    exact ⟨ys, h1, hJ ys W1 _ none h2 (gb_drew _ _) (fun r e => by cases e)⟩
  · rintro x W1 hfx hxt hb ⟨ys, hys, hj⟩
    have hlen := findL_len l f x on
    obtain ⟨fn, tmps, assign, body, hy, hRd⟩ := hY ys ⟨x, hxt⟩ W1 hj (by have := congrArg List.length hys; simp only [List.length_map] at this; omega)
    refine ⟨fn, tmps, assign, body, hy, hRd.mono ?_⟩
    rintro e W' (⟨h1, h2, h3⟩ | ⟨h1, h2⟩)
    · exact .inl ⟨h1, ⟨_, by simp [hys], h2⟩, h3⟩
    · exact .inr ⟨h1, ⟨_, by simp [hys], h2⟩⟩
  · rintro e W' ⟨h1, ⟨ys, h2, h3⟩ | ⟨x, hfx, hxt, hb, ys, h2, h3⟩⟩
    · exact ⟨h1, .inl ⟨ys, h2, h3⟩⟩
    · exact ⟨h1, .inr ⟨ys, ⟨x, hfx, hxt, hb, h2⟩, h3⟩⟩

def DKp (n₀ P : Nat) (W W' : World) : Prop := W.heap.size ≤ W'.heap.size ∧ ∀ k, k < n₀ → k ≠ P → W'.heap[k]? = W.heap[k]?
theorem frozen_row {w : World} {g j : Nat} {cs : Array Value} {t : TypeId} (h : w.heap[g]? = some (.cells cs t (0, 0))) : w.frozen? ⟨g, j, none⟩ = false := by simp [World.frozen?, h]
theorem DKp.refl (n P : Nat) (W : World) : DKp n P W W := ⟨Nat.le_refl _, fun _ _ _ => rfl⟩
theorem DKp.trans {n P : Nat} {A B C : World} (h : DKp n P A B) (k : DKp n P B C) : DKp n P A C := ⟨Nat.le_trans h.1 k.1, fun i h1 h2 => (k.2 i h1 h2).trans (h.2 i h1 h2)⟩
theorem DKp.put {n P l : Nat} {W : World} {o' : Obj} (h : n ≤ l) : DKp n P W (W.putObj l o') := ⟨by simp, fun k h1 _ => World.putObj_heap_other (by omega)⟩
theorem DKp.drew (n P : Nat) (W : World) : DKp n P W W.drew := ⟨Nat.le_refl _, fun _ _ _ => rfl⟩
theorem Rd.blocks {w w' : World} {v : Value} {l : List UInt8} (h : Rd w v l) (hk : ∀ k, k < w.heap.size → w'.heap[k]? = w.heap[k]?) : Rd w' v l := by
  rcases h with h | ⟨b, off, cap, rfl, h1, h2, h3⟩
  · exact .inl h
  · refine .inr ⟨b, off, cap, rfl, h1, h2, fun j x hj => ?_⟩
    have h4 := h3 j x hj
    have h5 : b < w.heap.size := World.block_lt_of_cell? _ _ h4
    unfold World.cell? at h4 ⊢
    rw [hk b h5]; exact h4
/-- the four boxes that find makes -/
def Boxes (W : World) (p : Nat) (v : Value) (f t : Nat) (on : Bool) : Prop :=
  W.heap[p]? = some (.cells #[v] 22 (0, 0)) ∧ W.heap[p + 1]? = some (.cells #[.int .i64 (f : Int)] 3 (0, 0)) ∧ W.heap[p + 1 + 1]? = some (.cells #[.int .i64 (t : Int)] 3 (0, 0)) ∧ W.heap[p + 1 + 1 + 1]? = some (.cells #[.bool on] 4 (0, 0))
theorem boxes_new (w : World) (v : Value) (f t : Nat) (on : Bool) : Boxes ((((w.alloc (.cells #[v] 22)).alloc (.cells #[.int .i64 (f : Int)] 3)).alloc (.cells #[.int .i64 (t : Int)] 3)).alloc (.cells #[.bool on] 4)) w.heap.size v f t on := by
  have h1 := heap_at_alloc (w.alloc (.cells #[v] 22)) (.cells #[.int .i64 (f : Int)] 3)
  have h2 := heap_at_alloc ((w.alloc (.cells #[v] 22)).alloc (.cells #[.int .i64 (f : Int)] 3)) (.cells #[.int .i64 (t : Int)] 3)
  have h3 := heap_at_alloc (((w.alloc (.cells #[v] 22)).alloc (.cells #[.int .i64 (f : Int)] 3)).alloc (.cells #[.int .i64 (t : Int)] 3)) (.cells #[.bool on] 4)
  simp only [World.size_alloc] at h1 h2 h3
  exact ⟨blk_kept (blk_kept (blk_kept (heap_at_alloc w _) (gb_alloc _ _ _)) (gb_alloc _ _ _)) (gb_alloc _ _ _), blk_kept (blk_kept h1 (gb_alloc _ _ _)) (gb_alloc _ _ _), blk_kept h2 (gb_alloc _ _ _), h3⟩
theorem Boxes.stay {W W' : World} {p : Nat} {v : Value} {f t : Nat} {on : Bool} (h : Boxes W p v f t on) (hk : ∀ j, p ≤ j → j < p + 4 → W'.heap[j]? = W.heap[j]?) : Boxes W' p v f t on :=
  ⟨(hk _ (by omega) (by omega)).trans h.1, (hk _ (by omega) (by omega)).trans h.2.1, (hk _ (by omega) (by omega)).trans h.2.2.1, (hk _ (by omega) (by omega)).trans h.2.2.2⟩
theorem Boxes.cells {W : World} {p : Nat} {v : Value} {f t : Nat} {on : Bool} (h : Boxes W p v f t on) : W.cell? ⟨p + 1, 0, none⟩ = some (.int .i64 (f : Int)) ∧ W.cell? ⟨p + 1 + 1, 0, none⟩ = some (.int .i64 (t : Int)) ∧ W.cell? ⟨p, 0, none⟩ = some v ∧ W.cell? ⟨p + 1 + 1 + 1, 0, none⟩ = some (.bool on) :=
  ⟨cell_row h.2.1, cell_row h.2.2.1, cell_row h.1, cell_row h.2.2.2⟩
/-- a counter in the first new block -/
def CInv (w : World) {t : Nat} (ys : List (BitNo t)) (W : World) : Prop := W.heap[w.heap.size]? = some (.cells #[.int .i64 (ys.length : Int)] 3 (0, 0)) ∧ w.grownBy W none ∧ w.heap.size + 5 ≤ W.heap.size
theorem CInv.own (w : World) {t : Nat} (B : Nat) (hB : w.heap.size ≤ B) : OwnFrom B (CInv w (t := t)) := by
  rintro ys W W' row ⟨h1, h2, h3⟩ hg hr
  have hr' : ∀ r, row = some r → ∃ o : Obj, W.heap[r]? = some o ∧ o.isCells = false := fun r e => (hr r e).2
  exact ⟨(grownBy_keeps_cells hg hr' h1 rfl).trans h1, gb_trans h2 hg (fun k e => .inr (by have := (hr k e).1; omega)), Nat.le_trans h3 hg.size⟩
theorem cnt_fin {w W : World} {t : Nat} {pre : List (BitNo t)} {x : BitNo t} {B : Nat} (h : CInv w pre W) : KeepsFrom B W (W.setCell ⟨w.heap.size, 0, none⟩ (.int .i64 ((pre.length + 1 : Nat) : Int))) ∧ DKp (w.heap.size + 5) w.heap.size W (W.setCell ⟨w.heap.size, 0, none⟩ (.int .i64 ((pre.length + 1 : Nat) : Int))) ∧ CInv w (pre ++ [x]) (W.setCell ⟨w.heap.size, 0, none⟩ (.int .i64 ((pre.length + 1 : Nat) : Int))) := by
  obtain ⟨h1, h2, h3⟩ := h
  refine ⟨⟨by simp, fun j o _ hj ho => ?_⟩, ⟨by simp, fun k _ hk => heap_setCell_other _ _ _ _ (by simpa using hk)⟩, ?_, gb_trans h2 (gb_setCell _ _ _) (fun k hk => .inr (by cases hk; simp)), by simpa using h3⟩
  · rw [heap_setCell_other _ _ _ _ (fun e => ?_)]
    · exact hj
    · simp only at e; subst e; rw [h1] at hj; cases hj; cases ho
  · have := heap_setCell_same W w.heap.size 0 _ _ (.int .i64 ((pre.length + 1 : Nat) : Int)) h1
    rw [List.length_append, List.length_singleton]
    exact this
set_option maxRecDepth 100000 in
set_option maxHeartbeats 2000000 in
theorem count_any (v : Value) (l : List UInt8) (w : World) (hv : Rd w v l) (hl : l.length ≤ 1000000) :
    Calls Try.prog 20 #[v] w fun e w' => e = .returned (.int .i64 ((findL l 0 (8 * l.length) true).length : Int)) ∧ w.grownBy w' none := by
  have HS := Lib.hid (size_any v l _ (hv.grown (gb_alloc w (.cells #[.int .i64 0] 3) none)) hl)
  have HF := Lib.hid (find_any v l 0 (8 * l.length) true _ (hv.grown (gb_alloc w (.cells #[.int .i64 0] 3) none)))
  obtain ⟨W4, hW4⟩ : ∃ W4, ((((w.alloc (.cells #[.int .i64 0] 3)).alloc (.cells #[v] 22)).alloc (.cells #[.int .i64 ((0 : Nat) : Int)] 3)).alloc (.cells #[.int .i64 ((8 * l.length : Nat) : Int)] 3)).alloc (.cells #[.bool true] 4) = W4 := ⟨_, rfl⟩
  rw [hW4] at HF
  have hbx := boxes_new (w.alloc (.cells #[.int .i64 0] 3)) v 0 (8 * l.length) true
  rw [hW4] at hbx
  have hz4 : W4.heap.size = w.heap.size + 5 := by rw [← hW4]; simp
  have hg4 : w.grownBy W4 none := by rw [← hW4]; exact gb_same (gb_same (gb_same (gb_same (gb_alloc _ _ _) (gb_alloc _ _ _)) (gb_alloc _ _ _)) (gb_alloc _ _ _)) (gb_alloc _ _ _)
  have h0 : CInv w (t := 8 * l.length) [] W4 := ⟨by rw [← hW4]; exact blk_kept (blk_kept (blk_kept (blk_kept (heap_at_alloc _ _) (gb_alloc _ _ _)) (gb_alloc _ _ _)) (gb_alloc _ _ _)) (gb_alloc _ _ _), hg4, by omega⟩
  have HBX := Lib.hid hbx
  have HZ4 := Lib.hid hz4
  have HG4 := Lib.hid hg4
  have H0 := Lib.hid h0
  have HV := Lib.hid hv
  have HL := Lib.hid hl
  have HN0 := Lib.hid (findL_len l 0 (8 * l.length) true)
  obtain ⟨a, c, rfl⟩ := hv.len
  clear hW4 hbx hz4 hg4 h0 hv hl
  refine (callsIn_wide (n := 5)).1 ?_
  refine callsIn_of_wp_marks Try.func20 rfl trivial ?_ rfl
  simp only [Try.ntmps20, List.size_toArray, List.length_cons, List.length_nil, Nat.reduceAdd, Nat.reduceSub, Array.replicate_succ, Array.replicate_zero, List.push_toArray, List.append_toArray, List.nil_append, List.cons_append]
  gi_wp2_with (first | (refine ⟨trivial, ?_⟩; gi_at_call 43; refine (callsIn_wide.2 HS.out).mono ?_; rintro e w' ⟨rfl, rfl⟩) | (refine ⟨trivial, ?_⟩; gi_at_call 36; refine (callsIn_wide.2 HF.out).mono ?_; rintro e w' ⟨rfl, rfl⟩))
  rw [World.size_alloc] at HBX
  refine wpIn_rangeFunc_ownG rfl (by omega) (gf := 46) (lb := #[.pointer (some ⟨w.heap.size + 1 + 1, 0, none⟩), .pointer (some ⟨w.heap.size + 1 + 1 + 1, 0, none⟩), .pointer (some ⟨w.heap.size + 1, 0, none⟩), .pointer (some ⟨w.heap.size + 1 + 1 + 1 + 1, 0, none⟩)]) rfl trivial (enters_of Try.func46 (by kernel_rfl) rfl)
    (find_stops 4 (by omega) (w.heap.size + 1 + 1) (w.heap.size + 1 + 1 + 1) (w.heap.size + 1) (w.heap.size + 1 + 1 + 1 + 1) (.slice a l.length c) l 0 (8 * l.length) true w' (Nat.zero_le _) (Nat.le_refl _) HL.out (DKp (w.heap.size + 5) w.heap.size) (DKp.refl _ _) (fun h k => h.trans k) (DKp.drew _ _) ?hR)
    (fun h k => h.trans k) (fun W l o o' hl _ _ _ => DKp.put (by rw [HZ4.out] at hl; exact hl)) (Below.refl _ _) (fun _ => rfl) (CInv w) (fun _ _ _ => False) (CInv.own w _ (by rw [HZ4.out]; omega)) (fun _ _ _ _ _ hs _ _ => hs) H0.out
    (fun x => { tmps := #[.slice a l.length c, undef, .int .i64 0, .pointer (some ⟨w.heap.size, 0, none⟩), .slice a l.length c, .slice a l.length c, .int .i64 (8 * (l.length : Int)), .func (.func 46) #[] #[.pointer (some ⟨w.heap.size + 1 + 1, 0, none⟩), .pointer (some ⟨w.heap.size + 1 + 1 + 1, 0, none⟩), .pointer (some ⟨w.heap.size + 1, 0, none⟩), .pointer (some ⟨w.heap.size + 1 + 1 + 1 + 1, 0, none⟩)], .int .i64 (x.1 : Int), undef, undef, undef], defers := [] }) ?assign ?body ?done ?stop
  case hR =>
    intro W W' h1 h2
    have hb := (HBX.out.stay (W' := W') (fun j hj1 hj2 => by rw [h2.2 j (by omega) (by omega)]; exact h1.block j (by rw [HZ4.out]; omega))).cells
    exact ⟨hb.1, hb.2.1, hb.2.2.1, hb.2.2.2, HV.out.blocks (fun k hk => by rw [h2.2 k (by omega) (by omega), h1.block k (by rw [HZ4.out]; omega)]; exact HG4.out.block k hk (by simp))⟩
  case assign =>
    intro l x W K hK
    gi_wp2
    simpa using hK
  case body =>
    rintro lp pre x W hI hlen
    have c0 : W.cell? ⟨w.heap.size, 0, none⟩ = some (.int .i64 (pre.length : Int)) := cell_row hI.1
    have f0 : W.frozen? ⟨w.heap.size, 0, none⟩ = false := frozen_row hI.1
    have HI := Lib.hid (cnt_fin (B := w'.heap.size) (x := x) hI)
    have HLL := HL.out
    have hle : (pre.length : Int) ≤ 8000000 := by omega
    clear hI hlen HLL
    generalize pre.length = m at *
    gi_wp2
    exact HI.out
  case done =>
    rintro D ys W hD hys ⟨h1, h2, h3⟩ hK
    have c0 : W.cell? ⟨w.heap.size, 0, none⟩ = some (.int .i64 (ys.length : Int)) := cell_row h1
    have HYL : Hid (ys.length = (findL l 0 (8 * l.length) true).length) := Lib.hid (by rw [← hys, List.length_map])
    have H2 := Lib.hid h2
    have HK := Lib.hid hK
    have HD := Lib.hid hD
    clear h1 h2 h3 hys hK hD
    generalize ys.length = m at *
    gi_wp2
    refine ⟨by simp, .inl ⟨_, _, rfl, run_takeDeferred HK.out, ?_⟩⟩
    refine ⟨.int .i64 (m : Int), ?_, ?_⟩
    · simp [results, Try.results20, go_sem]
    · exact ⟨by rw [HYL.out], gb_trans H2.out (grownBy_putObj' W D (.deferred none)) (fun k hk => .inr (by cases hk; have := HZ4.out; have := HD.out; omega))⟩
  case stop =>
    rintro D c pre W _ _ h _
    exact h.elim
set_option maxRecDepth 100000 in
set_option maxHeartbeats 2000000 in
theorem clear_ok (v : Value) (l : List UInt8) (w : World) (f t : Nat) (hft : f ≤ t) (ht : t ≤ 8 * l.length) (hv : Rd w v l) (hl : l.length ≤ 1000000) :
    Calls Try.prog 13 #[v, .int .i64 (f : Int), .int .i64 (t : Int)] w fun e w' => e = .returned (.tuple #[.int .i64 ((findL l f t false).length : Int), .int .i64 0]) ∧ w.grownBy w' none := by
  have hvb : validB l f t = true := by unfold validB; simp; omega
  have hs := valid_any v l f t w hv hl
  rw [hvb] at hs
  have HS := Lib.hid hs
  have ht63 : (t : Int) ≤ 8000000 := by omega
  have hf63 : (f : Int) ≤ 8000000 := by omega
  clear hvb hs
  have HF := Lib.hid (find_any v l f t false _ (hv.grown (gb_alloc w (.cells #[.int .i64 0] 3) none)))
  obtain ⟨W4, hW4⟩ : ∃ W4, ((((w.alloc (.cells #[.int .i64 0] 3)).alloc (.cells #[v] 22)).alloc (.cells #[.int .i64 (f : Int)] 3)).alloc (.cells #[.int .i64 (t : Int)] 3)).alloc (.cells #[.bool false] 4) = W4 := ⟨_, rfl⟩
  rw [hW4] at HF
  have hbx := boxes_new (w.alloc (.cells #[.int .i64 0] 3)) v f t false
  rw [hW4] at hbx
  have hz4 : W4.heap.size = w.heap.size + 5 := by rw [← hW4]; simp
  have hg4 : w.grownBy W4 none := by rw [← hW4]; exact gb_same (gb_same (gb_same (gb_same (gb_alloc _ _ _) (gb_alloc _ _ _)) (gb_alloc _ _ _)) (gb_alloc _ _ _)) (gb_alloc _ _ _)
  have h0 : CInv w (t := t) [] W4 := ⟨by rw [← hW4]; exact blk_kept (blk_kept (blk_kept (blk_kept (heap_at_alloc _ _) (gb_alloc _ _ _)) (gb_alloc _ _ _)) (gb_alloc _ _ _)) (gb_alloc _ _ _), hg4, by omega⟩
  have HBX := Lib.hid hbx
  have HZ4 := Lib.hid hz4
  have HG4 := Lib.hid hg4
  have H0 := Lib.hid h0
  have HV := Lib.hid hv
  have HL := Lib.hid hl
  have HN0 := Lib.hid (findL_len l f t false)
  obtain ⟨a, c, rfl⟩ := hv.len
  have HFT := Lib.hid hft
  have HT := Lib.hid ht
  clear hW4 hbx hz4 hg4 h0 hv hl hft ht
  refine (callsIn_wide (n := 5)).1 ?_
  refine callsIn_of_wp_marks Try.func13 rfl trivial ?_ rfl
  simp only [Try.ntmps13, List.size_toArray, List.length_cons, List.length_nil, Nat.reduceAdd, Nat.reduceSub, Array.replicate_succ, Array.replicate_zero, List.push_toArray, List.append_toArray, List.nil_append, List.cons_append]
  gi_wp2_with (first | (refine ⟨trivial, ?_⟩; gi_at_call 35; refine (callsIn_wide.2 HS.out).mono ?_; rintro e w' ⟨rfl, rfl⟩) | (refine ⟨trivial, ?_⟩; gi_at_call 36; refine (callsIn_wide.2 HF.out).mono ?_; rintro e w' ⟨rfl, rfl⟩))
  rw [World.size_alloc] at HBX
  refine wpIn_rangeFunc_ownG rfl (by omega) (gf := 46) (lb := #[.pointer (some ⟨w.heap.size + 1 + 1, 0, none⟩), .pointer (some ⟨w.heap.size + 1 + 1 + 1, 0, none⟩), .pointer (some ⟨w.heap.size + 1, 0, none⟩), .pointer (some ⟨w.heap.size + 1 + 1 + 1 + 1, 0, none⟩)]) rfl trivial (enters_of Try.func46 (by kernel_rfl) rfl)
    (find_stops 4 (by omega) (w.heap.size + 1 + 1) (w.heap.size + 1 + 1 + 1) (w.heap.size + 1) (w.heap.size + 1 + 1 + 1 + 1) (.slice a l.length c) l f t false w' HFT.out HT.out HL.out (DKp (w.heap.size + 5) w.heap.size) (DKp.refl _ _) (fun h k => h.trans k) (DKp.drew _ _) ?hR)
    (fun h k => h.trans k) (fun W l o o' hl _ _ _ => DKp.put (by rw [HZ4.out] at hl; exact hl)) (Below.refl _ _) (fun _ => rfl) (CInv w) (fun _ _ _ => False) (CInv.own w _ (by rw [HZ4.out]; omega)) (fun _ _ _ _ _ hs _ _ => hs) H0.out
    (fun x => { tmps := #[.slice a l.length c, .int .i64 (f : Int), .int .i64 (t : Int), undef, undef, undef, .int .i64 0, .int .i64 0, .pointer (some ⟨w.heap.size, 0, none⟩), .slice a l.length c, .int .i64 (f : Int), .int .i64 (t : Int), .bool true, .bool false, .slice a l.length c, .int .i64 (f : Int), .int .i64 (t : Int), .func (.func 46) #[] #[.pointer (some ⟨w.heap.size + 1 + 1, 0, none⟩), .pointer (some ⟨w.heap.size + 1 + 1 + 1, 0, none⟩), .pointer (some ⟨w.heap.size + 1, 0, none⟩), .pointer (some ⟨w.heap.size + 1 + 1 + 1 + 1, 0, none⟩)], .int .i64 (x.1 : Int), undef, undef, undef], defers := [] }) ?assign ?body ?done ?stop
  case hR =>
    intro W W' h1 h2
    have hb := (HBX.out.stay (W' := W') (fun j hj1 hj2 => by rw [h2.2 j (by omega) (by omega)]; exact h1.block j (by rw [HZ4.out]; omega))).cells
    exact ⟨hb.1, hb.2.1, hb.2.2.1, hb.2.2.2, HV.out.blocks (fun k hk => by rw [h2.2 k (by omega) (by omega), h1.block k (by rw [HZ4.out]; omega)]; exact HG4.out.block k hk (by simp))⟩
  case assign =>
    intro l x W K hK
    gi_wp2
    simpa using hK
  case body =>
    rintro lp pre x W hI hlen
    have c0 : W.cell? ⟨w.heap.size, 0, none⟩ = some (.int .i64 (pre.length : Int)) := cell_row hI.1
    have f0 : W.frozen? ⟨w.heap.size, 0, none⟩ = false := frozen_row hI.1
    have HI := Lib.hid (cnt_fin (B := w'.heap.size) (x := x) hI)
    have HLL := HL.out
    have hle : (pre.length : Int) ≤ 8000000 := by omega
    clear hI hlen HLL
    generalize pre.length = m at *
    gi_wp2
    exact HI.out
  case done =>
    rintro D ys W hD hys ⟨h1, h2, h3⟩ hK
    have c0 : W.cell? ⟨w.heap.size, 0, none⟩ = some (.int .i64 (ys.length : Int)) := cell_row h1
    have HYL : Hid (ys.length = (findL l f t false).length) := Lib.hid (by rw [← hys, List.length_map])
    have H2 := Lib.hid h2
    have HK := Lib.hid hK
    have HD := Lib.hid hD
    clear h1 h2 h3 hys hK hD
    generalize ys.length = m at *
    gi_wp2
    refine ⟨by simp, .inl ⟨_, _, rfl, run_takeDeferred HK.out, ?_⟩⟩
    refine ⟨.tuple #[.int .i64 (m : Int), .int .i64 0], ?_, ?_⟩
    · simp [results, Try.results13, go_sem]
    · exact ⟨by rw [HYL.out], gb_trans H2.out (grownBy_putObj' W D (.deferred none)) (fun k hk => .inr (by cases hk; have := HZ4.out; have := HD.out; omega))⟩
  case stop =>
    rintro D c pre W _ _ h _
    exact h.elim

def codeS (c : Int) {T : Type} (o : Option T) : Int := match o with | none => c | some _ => 0
def clearS (l : List UInt8) (x y : Int) : Option Nat := if validB l x y then some (findL l x.toNat y.toNat false).length else none
def NumP (w : World) (o : Option Nat) (e : Ending) (w' : World) : Prop := e = .returned (.tuple #[.int .i64 ((o.getD 0 : Nat) : Int), .int .i64 (codeS 1 o)]) ∧ w.grownBy w' none
theorem validB_spec {l : List UInt8} {x y : Int} (h : validB l x y = true) : ∃ f t : Nat, x = (f : Int) ∧ y = (t : Int) ∧ f ≤ t ∧ t ≤ 8 * l.length := by
  unfold validB at h
  simp only [Bool.and_eq_true, decide_eq_true_eq] at h
  exact ⟨x.toNat, y.toNat, by omega, by omega, by omega, by omega⟩
set_option maxRecDepth 100000 in
theorem clear_any (v : Value) (l : List UInt8) (x y : Int) (w : World) (hv : Rd w v l) (hl : l.length ≤ 1000000) :
    Calls Try.prog 13 #[v, .int .i64 x, .int .i64 y] w (NumP w (clearS l x y)) := by
  by_cases hb : validB l x y = true
  · obtain ⟨f, t, rfl, rfl, hft, ht⟩ := validB_spec hb
    unfold clearS
    rw [if_pos hb]
    exact clear_ok v l w f t hft ht hv hl
  · have hb2 : validB l x y = false := by simpa using hb
    unfold clearS
    rw [if_neg hb]
    have hs := valid_any v l x y w hv hl
    rw [hb2] at hs
    have HS := Lib.hid hs
    obtain ⟨a, c, rfl⟩ := hv.len
    clear hs hb hb2 hv
    go_enter Try.func13, Try.ntmps13
    go_wp2_with (go_at_call 35; refine HS.out.mono ?_; rintro e w' ⟨rfl, rfl⟩)
    go_ret2
    exact ⟨rfl, gb_refl _ _⟩
set_option maxRecDepth 100000 in
set_option maxHeartbeats 1000000 in
theorem rcount_any (v : Value) (l : List UInt8) (w : World) (hv : Rd w v l) (hl : l.length ≤ 1000000) :
    Calls Try.prog 21 #[v] w fun e w' => e = .returned (.int .i64 ((findL l 0 (8 * l.length) true).length : Int)) ∧ w.grownBy w' none := by
  have HG := Lib.hid (fun (k : Nat) (hk : (k : Int) ≤ 9223372036854775807) => rget_any v l k w hv hl (by omega) hk)
  have HL := Lib.hid hl
  obtain ⟨a, c, rfl⟩ := hv.len
  have hlI : (l.length : Int) ≤ 1000000 := by omega
  clear hv hl
  generalize hT : 8 * l.length = T at *
  have hTI : 8 * (l.length : Int) = (T : Int) := by omega
  have hTm : (T : Int) ≤ 8000000 := by omega
  go_enter Try.func21, Try.ntmps21
  go_wp2
  go_loopw [3, 4] (fun m i wr => ∃ k : Nat, k ≤ T ∧ i = .int .i64 (k : Int) ∧ m = .int .i64 ((findL l 0 k true).length : Int) ∧ wr = w) (fun _ i _ => T - (intOf i).toNat)
  case atStart => exact ⟨0, Nat.zero_le _, rfl, by rw [findL_nil]; rfl, rfl⟩
  case round =>
    obtain ⟨k, hk, rfl, rfl, rfl⟩ := hrel
    have hle := findL_len l 0 k true
    have hfs := findL_snoc (l := l) (f := 0) (k := k) (on := true) (Nat.zero_le _)
    have hmI : ((findL l 0 k true).length : Int) ≤ 8000000 := by omega
    by_cases hlt : k < T
    · have hkI : (k : Int) < 8 * (l.length : Int) := by omega
      have hg := HG.out k (by omega)
      unfold bitI at hg
      simp only [Int.toNat_natCast, show decide (0 ≤ (k : Int)) = true by simp, Bool.true_and] at hg
      cases hb : bitN l k
      · rw [hb] at hg hfs
        have HG2 := Lib.hid hg
        have HFS := Lib.hid hfs
        clear hg hfs hb hle
        go_wp2_with (go_at_call 19; refine HG2.out.mono ?_; rintro e w' ⟨rfl, rfl⟩)
        go_roundw
        case rel => exact ⟨k + 1, by omega, by go_num, by rw [HFS.out]; rfl, trivial⟩
        case measure => simp [intOf]; omega
      · rw [hb] at hg hfs
        have HG2 := Lib.hid hg
        have HFS := Lib.hid hfs
        clear hg hfs hb hle
        go_wp2_with (go_at_call 19; refine HG2.out.mono ?_; rintro e w' ⟨rfl, rfl⟩)
        go_roundw
        case rel => exact ⟨k + 1, by omega, by go_num, by rw [HFS.out]; simp, trivial⟩
        case measure => simp [intOf]; omega
    · obtain rfl : k = T := by omega
      have hkI : ¬ (k : Int) < 8 * (l.length : Int) := by omega
      clear hfs hle
      go_wp2
      go_ret
      exact ⟨rfl, gb_refl _ _⟩
set_option maxRecDepth 100000 in
set_option maxHeartbeats 1000000 in
theorem rclear_any (v : Value) (l : List UInt8) (x y : Int) (w : World) (hv : Rd w v l) (hl : l.length ≤ 1000000) :
    Calls Try.prog 14 #[v, .int .i64 x, .int .i64 y] w (NumP w (clearS l x y)) := by
  by_cases hb : validB l x y = true
  · have hs := rvalid_any v l x y w hv hl
    obtain ⟨f, t, rfl, rfl, hft, ht⟩ := validB_spec hb
    unfold clearS
    rw [if_pos hb, Int.toNat_natCast, Int.toNat_natCast]
    rw [hb] at hs
    have HS := Lib.hid hs
    have HG := Lib.hid (fun (k : Nat) (hk : (k : Int) ≤ 9223372036854775807) => rget_any v l k w hv hl (by omega) hk)
    obtain ⟨a, c, rfl⟩ := hv.len
    have htm : (t : Int) ≤ 8000000 := by omega
    clear hs hb hv
    go_enter Try.func14, Try.ntmps14
    go_wp2_with (go_at_call 37; refine HS.out.mono ?_; rintro e w' ⟨rfl, rfl⟩)
    go_loopw [8, 9] (fun m i wr => ∃ k : Nat, f ≤ k ∧ k ≤ t ∧ i = .int .i64 (k : Int) ∧ m = .int .i64 ((findL l f k false).length : Int) ∧ wr = w) (fun _ i _ => t - (intOf i).toNat)
    case atStart => exact ⟨f, Nat.le_refl _, hft, rfl, by rw [findL_nil]; rfl, rfl⟩
    case round =>
      obtain ⟨k, hkf, hk, rfl, rfl, rfl⟩ := hrel
      have hle := findL_len l f k false
      have hfs := findL_snoc (l := l) (f := f) (k := k) (on := false) hkf
      have hmI : ((findL l f k false).length : Int) ≤ 8000000 := by omega
      by_cases hlt : k < t
      · have hkI : (k : Int) < (t : Int) := by omega
        have hg := HG.out k (by omega)
        unfold bitI at hg
        simp only [Int.toNat_natCast, show decide (0 ≤ (k : Int)) = true by simp, Bool.true_and] at hg
        cases hb : bitN l k
        · rw [hb] at hg hfs
          have HG2 := Lib.hid hg
          have HFS := Lib.hid hfs
          clear hg hfs hb hle
          go_wp2_with (go_at_call 19; refine HG2.out.mono ?_; rintro e w' ⟨rfl, rfl⟩)
          go_roundw
          case rel => exact ⟨k + 1, by omega, by omega, by go_num, by rw [HFS.out]; simp, trivial⟩
          case measure => simp [intOf]; omega
        · rw [hb] at hg hfs
          have HG2 := Lib.hid hg
          have HFS := Lib.hid hfs
          clear hg hfs hb hle
          go_wp2_with (go_at_call 19; refine HG2.out.mono ?_; rintro e w' ⟨rfl, rfl⟩)
          go_roundw
          case rel => exact ⟨k + 1, by omega, by omega, by go_num, by rw [HFS.out]; rfl, trivial⟩
          case measure => simp [intOf]; omega
      · obtain rfl : k = t := by omega
        clear hfs hle
        go_wp2
        go_ret2
        exact ⟨rfl, gb_refl _ _⟩
  · have hb2 : validB l x y = false := by simpa using hb
    unfold clearS
    rw [if_neg hb]
    have hs := rvalid_any v l x y w hv hl
    rw [hb2] at hs
    have HS := Lib.hid hs
    obtain ⟨a, c, rfl⟩ := hv.len
    clear hs hb hb2 hv
    go_enter Try.func14, Try.ntmps14
    go_wp2_with (go_at_call 37; refine HS.out.mono ?_; rintro e w' ⟨rfl, rfl⟩)
    go_ret2
    exact ⟨rfl, gb_refl _ _⟩
end Go.Proofs.Ytpfeaeklenopdaa
