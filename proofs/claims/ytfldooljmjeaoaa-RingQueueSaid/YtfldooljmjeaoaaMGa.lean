/-
  Several texts in one: ROrd, RRB, RTwo, RRP, RRT, RRE, RRD, RRN.
-/
import Derived.Test.YtfldooljmjeaoaaRSh
import Derived.Test.YtfldooljmjeaoaaRDecB
import Derived.Test.YtfldooljmjeaoaaHeld
import Derived.Test.YtfldooljmjeaoaaRQM
import Derived.Test.YtfldooljmjeaoaaRTk
namespace Go.Proofs.Ytfldooljmjeaoaa
open Go.RowKit

theorem RdW.take {w : World} {a : Option Addr} {n c : Nat} {l : List UInt8} (h : RdW w (.slice a n c) l) {m : Nat} (hm : m ≤ l.length) : RdW w (.slice a m c) (l.take m) := by
  rcases h with (⟨h0, rfl⟩ | ⟨b, off, cap, h0, h1, h2, h3⟩) | ⟨ad, h0, rfl⟩
  · cases h0
    obtain rfl : m = 0 := by simpa using hm
    exact .inl (.inl ⟨rfl, rfl⟩)
  · cases h0
    refine .inl (.inr ⟨b, off, c, by rw [List.length_take, Nat.min_eq_left hm], by rw [List.length_take]; omega, h2, fun j x hj => h3 j x ?_⟩)
    rw [List.getElem?_take] at hj
    split at hj
    · exact hj
    · cases hj
  · cases h0
    obtain rfl : m = 0 := by simpa using hm
    exact .inr ⟨ad, rfl, rfl⟩
theorem putN_le (n : Nat) (l b : List UInt8) : putN n l b ≤ b.length := Nat.min_le_left _ _
/-- two rows lie apart -/
def Apart (v u : Value) : Prop := ∀ k, v.ownBlock = some k → u.ownBlock ≠ some k
theorem Apart.fr {w : World} {v v' u : Value} {B : Nat} {l : List UInt8} (h : Apart v u) (hf : Fr w v v') (hu : Own w B u l) : Apart v' u := fun k hk e => by
  rcases hf k hk with h1 | h1
  · exact h k h1 e
  · have := (hu.lt k e).2; omega
theorem Apart.symm {v u : Value} (h : Apart v u) : Apart u v := fun k hk e => h k e hk
end Go.Proofs.Ytfldooljmjeaoaa
namespace Go.Proofs.Ytfldooljmjeaoaa
open Go.RowKit Go.Shelf

def rB (n : Nat) (u : Value) : Value := .agg #[.int .i64 (n : Int), u]
theorem row2 {w : World} {g : Nat} {x0 x1 : Value} {T : TypeId} (h : w.heap[g]? = some (.cells #[x0, x1] T (0, 0))) : w.cell? ⟨g, 0, none⟩ = some x0 ∧ w.cell? ⟨g, 1, none⟩ = some x1 := ⟨cell_row h, cell_row h⟩
theorem lit2 (w : World) (o : Obj) : Own ((w.alloc o).alloc (.cells #[] 5)) w.heap.size (.slice (some ⟨w.heap.size + 1, 0, none⟩) 0 0) [] := by
  have := Own.lit (w.alloc o) #[] [] 0 w.heap.size rfl rfl (by simp) (Nat.zero_le _)
  rwa [World.size_alloc] at this
theorem rd_form {w : World} {v : Value} {l : List UInt8} (h : Rd w v l) : ∃ a c, v = .slice a l.length c ∧ l.length ≤ c ∧ (c : Int) ≤ 9223372036854775807 := by
  rcases h with ⟨rfl, rfl⟩ | ⟨b, off, cap, rfl, h1, h2, _⟩
  · exact ⟨_, _, rfl, Nat.le_refl _, by simp⟩
  · exact ⟨_, _, rfl, h1, by simp only [maxLen] at h2; omega⟩
end Go.Proofs.Ytfldooljmjeaoaa
namespace Go.Proofs.Ytfldooljmjeaoaa
open Go.RowKit Go.Shelf

section
variable {P : Program} {md : Region.Mode} {ops : Array Oper} {Q : Exit → Act → World → Prop} {S : World → Prop}
theorem wpAnyK_twoL {J i j : Nat} {oi oj : Oper} {fuel : Nat} {listed Li Lj : Array Bool} {a : Act} {w : World} (hr : Region.ready md ops listed = [i, j]) (hi : (ops.toList.drop i).head? = some oi) (hj : (ops.toList.drop j).head? = some oj)
    (hwi : Region.wanted oi (yielded ops a.tmps) = true) (hwj : Region.wanted oj (yielded ops a.tmps) = true) (hli : listed.setIfInBounds i true = Li) (hlj : listed.setIfInBounds j true = Lj)
    (h1 : ∀ K : Act → World → Prop, (∀ a' w', (Li.getD J true = false → S w') → wpAnyK P md ops Q S J fuel Li a' w' → K a' w') → Oper.wp P oi a w K Q)
    (h2 : ∀ K : Act → World → Prop, (∀ a' w', (Lj.getD J true = false → S w') → wpAnyK P md ops Q S J fuel Lj a' w' → K a' w') → Oper.wp P oj a w K Q) : wpAnyK P md ops Q S J (fuel + 1) listed a w := by
  subst hli hlj
  refine ⟨fun h0 => (by rw [hr] at h0; cases h0), fun k hk => ?_⟩
  rw [hr, List.mem_cons, List.mem_singleton] at hk
  rcases hk with rfl | rfl
  · unfold wpOp
    simp only [hd_get hi, hwi, if_true]
    exact .inl (h1 _ (fun a' w' h1 h2 => ⟨h1, h2⟩))
  · unfold wpOp
    simp only [hd_get hj, hwj, if_true]
    exact .inl (h2 _ (fun a' w' h1 h2 => ⟨h1, h2⟩))
end
end Go.Proofs.Ytfldooljmjeaoaa
namespace Go.Proofs.Ytfldooljmjeaoaa
open Go.RowKit Go.Shelf

theorem st_row_op {o : Oper} {a : Act} {w : World} {K : Act → World → Prop} {Q : Exit → Act → World → Prop} (t : TypeId) (x v : Tmp) (ho : o.op = .store t (.tmp x) (.tmp v))
    (g : Nat) (old cs : Array Value) (e : TypeId) (hx : a.eval (.tmp x) = .pointer (some ⟨g, 0, none⟩)) (hv : a.eval (.tmp v) = .agg cs) (hg : w.heap[g]? = some (.cells old e (0, 0)))
    (hi : (Try.prog.info? t).map (·.size) = some cs.size) (hos : old.size = cs.size) (h1 : cs.toList.all (·.oneCell') = true)
    (h : ∀ w', w'.heap[g]? = some (.cells cs e (0, 0)) → w.grownBy w' (some g) → K (a.put o.dst (.tuple #[])) w') : Oper.wp Try.prog o a w K Q := by
  unfold Oper.wp execOp
  simp only [ho, hx, hv, Instr.storeAt, Instr.sureAddr, Sem.run_bind, Sem.run_pure, Result.andThen_ok, run_storeVar_row w g e t old cs hg hi hos (by rw [← Array.all_toList]; exact h1)]
  exact h _ (setRow_heap w g old cs e _ hg) (gb_setRow w g cs)
/-- what the reference's Put and Take answer: a queue, and a value -/
def RetQ (w : World) (n : Nat) (l : List UInt8) (R : Value → World → Prop) (e : Ending) (w' : World) : Prop :=
  ∃ u x, e = .returned (.tuple #[rB n u, x]) ∧ Own w' w.heap.size u l ∧ R x w' ∧ w.grownBy w' none
end Go.Proofs.Ytfldooljmjeaoaa
namespace Go.Proofs.Ytfldooljmjeaoaa
open Go.RowKit Go.Shelf

theorem Rd.tail {w : World} {a : Option Addr} {c : Nat} {l : List UInt8} (h : Rd w (.slice a l.length c) l) {k : Nat} (hk : k ≤ l.length) :
    (a = none ∧ l = [] ∧ c = 0 ∧ k = 0) ∨ ∃ g off, a = some ⟨g, off, none⟩ ∧ l.length ≤ c ∧ c ≤ maxLen ∧ (c ≠ k → RdW w (.slice (some ⟨g, off + k, none⟩) (l.length - k) (c - k)) (l.drop k)) ∧ (c = k → RdW w (.slice (some ⟨g, off, none⟩) (l.length - k) (c - k)) (l.drop k)) := by
  have e : (l.drop k).take (l.length - k) = l.drop k := List.take_of_length_le (by rw [List.length_drop]; omega)
  rcases h.part (q := k) (m := l.length - k) (by omega) with ⟨h1, h2, h3, h4⟩ | ⟨g, off, h1, h2, h3, h4, h5⟩
  · exact .inl ⟨h1, List.eq_nil_of_length_eq_zero (by omega), h4, h3⟩
  · rw [e] at h4 h5
    exact .inr ⟨g, off, h1, h2, h3, h4, h5⟩
end Go.Proofs.Ytfldooljmjeaoaa
namespace Go.Proofs.Ytfldooljmjeaoaa
open Go.RowKit Go.Shelf

def decO (bs : List UInt8) (n : Nat) : Option (List UInt8 × Nat) → Option (Nat × List UInt8)
  | none => none
  | some r => if r.2 < bs.length then none else some (n, r.1)
theorem decB_q (bs : List UInt8) : decB bs = decO bs (iV (unl false (rdBounded 1 4096 bs 0))).toNat (unl (unl false (rdBounded 1 4096 bs 0)).isNone (rdBytes (iV (unl false (rdBounded 1 4096 bs 0))) bs (iQ 0 (unl false (rdBounded 1 4096 bs 0))))) := by
  unfold decB
  rw [unl_f]
  cases rdBounded 1 4096 bs 0 with
  | none => rfl
  | some r =>
    obtain ⟨n, p⟩ := r
    show _ = decO bs n.toNat (rdBytes n bs p)
    simp only
    cases rdBytes n bs p with
    | none => rfl
    | some r2 => rfl
theorem iV_pos (bs : List UInt8) : (unl false (rdBounded 1 4096 bs 0)).isNone = false → 0 ≤ iV (unl false (rdBounded 1 4096 bs 0)) := by
  rw [unl_f]
  intro h
  cases hr : rdBounded 1 4096 bs 0 with
  | none => rw [hr] at h; cases h
  | some r =>
    obtain ⟨n, p⟩ := r
    have := (rdBounded_enc hr).1
    show 0 ≤ n
    omega
def rdB (w : World) (o : Option (Nat × List UInt8)) (e : Ending) (w' : World) : Prop :=
  match o with
  | none => e = .returned (.tuple #[rB 0 (.slice none 0 0), .int .i64 4]) ∧ w.grownBy w' none
  | some (n, l) => ∃ u, e = .returned (.tuple #[rB n u, .int .i64 0]) ∧ Own w' w.heap.size u l ∧ w.grownBy w' none
end Go.Proofs.Ytfldooljmjeaoaa
namespace Go.Proofs.Ytfldooljmjeaoaa
open Go.RowKit Go.Shelf

theorem refqsize : (Try.prog.info? 32).map (·.size) = some 2 := by kernel_rfl
def cdM : Option (Nat × List Mg) → Int | some _ => 0 | none => 4
def RefP (bs : List UInt8) (w : World) (e : Ending) (w' : World) : Prop :=
  ∃ (x : Int) (a : Option Addr) (m c : Nat), e = .returned (.tuple #[.agg #[.int .i64 x, .slice a m c], .int .i64 (cdM (decM bs))]) ∧ w.grownBy w' none
theorem oV_iV : oV = iV := by funext o; cases o <;> rfl
theorem oQ_iQ : oQ = iQ := by funext p o; cases o <;> rfl
set_option maxRecDepth 100000 in
set_option maxHeartbeats 4000000 in
theorem rdecodeM_any (v : Value) (bs : List UInt8) (w : World) (h : Rd w v bs) (hb : bs.length ≤ 100000) (hlt : ∀ k, v.ownBlock = some k → k < w.heap.size) : Calls Try.prog 9 #[v] w (RefP bs w) := by
  obtain ⟨a, c, rfl⟩ := h.len
  obtain ⟨n, K, q0, f0, hn, hn2, hKn, hK, hq0, hf0, hX, hY⟩ := decM_two bs
  rw [oV_iV] at hn hK
  rw [oQ_iQ] at hK hq0 hf0
  have HXY := Lib.hid (And.intro hX hY)
  have HKN : Hid (K ≤ n ∧ n ≤ 200) := Lib.hid ⟨hKn, hn2⟩
  clear hX hY
  have hb0 := heap_alloc2_0 w (.cells #[.int .i64 0, .slice none 0 0] 32) (.cells #[.slice a bs.length c, .int .i64 0, .bool false] 69)
  have hb1 := heap_alloc2_1 w (.cells #[.int .i64 0, .slice none 0 0] 32) (.cells #[.slice a bs.length c, .int .i64 0, .bool false] 69)
  have hga : w.grownBy ((w.alloc (.cells #[.int .i64 0, .slice none 0 0] 32)).alloc (.cells #[.slice a bs.length c, .int .i64 0, .bool false] 69)) none := gb_same (gb_alloc _ _ _) (gb_alloc _ _ _)
  have hq : IsQ ((w.alloc (.cells #[.int .i64 0, .slice none 0 0] 32)).alloc (.cells #[.slice a bs.length c, .int .i64 0, .bool false] 69)) (w.heap.size + 1) (.slice a bs.length c) bs 0 false :=
    ⟨hb1, h.grown hga, fun e => by have := hlt _ e; omega, Nat.zero_le _, by omega⟩
  have HQB := Lib.hid (qBounded_any (w.heap.size + 1) (.slice a bs.length c) bs 0 false 1 200 _ hq)
  rw [hn] at HQB
  have HBB := Lib.hid hb0
  have HGA := Lib.hid hga
  have HVL := Lib.hid hlt
  clear h hb hb0 hb1 hga hq hlt
  go_enter Try.func9, Try.ntmps9
  go_wp2_with fail
  refine HQB.out.mono ?_
  rintro e w1 ⟨rfl, hq1, hg1⟩
  have HG1 := Lib.hid (gb_new HGA.out hg1 (by omega))
  have HB1 := Lib.hid (blk_kept' HBB.out hg1 (by simp))
  have HQ1 := Lib.hid hq1
  clear hg1 hq1 HQB
  have HZB := Lib.hid (heap_at_alloc w1 (.cells #[.int .i64 0, .slice none 0 0] 32))
  have HGZ := Lib.hid (gb_alloc w1 (.cells #[.int .i64 0, .slice none 0 0] 32) none)
  have HX0 : Hid (w.heap.size + 1 < w1.heap.size) := Lib.hid (lt_of_blk HQ1.out.blk)
  go_wp2_with ((with_reducible refine is_store 32 5 13 ?_); go_must (refine st_row 32 5 13 w1.heap.size _ #[.int .i64 (n : Int), .slice none 0 0] _ rfl rfl HZB.out refqsize rfl rfl ?_; intro w2 hb2 hg2; have HB2 := Lib.hid hb2; have HG2 := Lib.hid hg2; have t0 := (row2 hb2).1; clear hb2 hg2))
  have HQ2 := Lib.hid ((HQ1.out.grown HGZ.out).kept HG2.out (by have := HX0.out; simp; omega) (fun k hk e => by have h1 := HVL.out k hk; have h2 := HG1.out.size; simp at e; omega))
  have HGW2 := Lib.hid (gb_new (gb_same HG1.out HGZ.out) HG2.out HG1.out.size)
  have HBR2 := Lib.hid (blk_kept' (blk_kept HB1.out HGZ.out) HG2.out (by have := HX0.out; simp; omega))
  have HQB2 := Lib.hid (qBounded_any (w.heap.size + 1) (.slice a bs.length c) bs _ _ 0 (n : Int) w2 HQ2.out)
  rw [hK, hq0, hf0] at HQB2
  clear hK hq0 hf0 hn
  refine HQB2.out.mono ?_
  rintro e w3 ⟨rfl, hq3, hg3⟩
  have HQ3 := Lib.hid hq3
  have HB3 := Lib.hid (blk_kept' HB2.out hg3 (by have := HX0.out; simp; omega))
  have HBR3 := Lib.hid (blk_kept' HBR2.out hg3 (by simp))
  have HG3 := Lib.hid (gb_new HGW2.out hg3 (by omega))
  clear hq3 hg3 t0 HQB2
  generalize w1.heap.size = qb at *
  have HZ3 : Hid (qb + 1 ≤ w3.heap.size) := Lib.hid (lt_of_blk HB3.out)
  go_wp2_with fail
  go_loopw [7] (fun i wr => ∃ (k q : Nat) (f : Bool) (av : Option Addr) (cv : Nat) (ps : List GP), k ≤ K ∧ i = .int .i64 k ∧ ps.length = k ∧ Hid (IsQ wr (w.heap.size + 1) (.slice a bs.length c) bs q f) ∧ Hid (wr.heap[qb]? = some (.cells #[.int .i64 (n : Int), .slice av k cv] 32 (0, 0))) ∧ Hid (GRow wr (qb + 1) (.slice av k cv) ps) ∧ Hid (wr.heap[w.heap.size]? = some (.cells #[.int .i64 0, .slice none 0 0] 32 (0, 0))) ∧ Hid (w.grownBy wr none) ∧ Hid (qb + 1 ≤ wr.heap.size) ∧ Hid ((f = false ∧ f0 = false ∧ rdGs bs q0 k = some (ps.map (·.1), q)) ∨ (f = true ∧ (f0 = true ∨ rdGs bs q0 k = none)))) (fun i _ => K - (intOf i).toNat)
  case atStart => exact ⟨0, q0, f0, none, 0, [], Nat.zero_le _, rfl, rfl, HQ3, HB3, Lib.hid (GRow.nil _ _), HBR3, HG3, HZ3, Lib.hid (by
    cases f0 with
    | false => exact .inl ⟨rfl, rfl, rfl⟩
    | true => exact .inr ⟨rfl, .inl rfl⟩)⟩
  case round =>
    obtain ⟨k, q, f, av, cv, ps, hk, rfl, hps, HQ, HB, HR, HBR, HG, HZ, HST⟩ := hrel
    have c2 := HQ.out.c2
    have hf2 := HQ.out.fr 2
    have HEN := Lib.hid (qEnd_any _ _ _ _ _ wr HQ.out)
    cases f with
    | true =>
      have HD : Hid (decM bs = none) := Lib.hid (by
        rcases HST.out with ⟨h1, _⟩ | ⟨_, h2⟩
        · cases h1
        · cases f0 with
          | true => exact (HXY.out.2 rfl).2
          | false =>
            rw [HXY.out.1 rfl, rdGs_none (h2.resolve_left (by simp)) K hk]
            rfl)
      rw [end_no (.inl rfl)] at HEN
      by_cases hlt : k < K
      · go_wp2_with fail
        refine HEN.out.mono ?_
        rintro e w5 ⟨rfl, m5, hw5⟩
        have hg5 : wr.grownBy w5 none := by rw [hw5]; exact gb_drewN _ _ _
        have HBR5 := Lib.hid (blk_kept HBR.out hg5)
        have HG5 := Lib.hid (gb_same HG.out hg5)
        clear hw5 hg5 c2 hf2
        go_wp2_with ((with_reducible refine is_store 32 2 40 ?_); go_must (refine st_row 32 2 40 w.heap.size _ #[.int .i64 0, .slice none 0 0] _ rfl rfl HBR5.out refqsize rfl rfl ?_; intro w6 hb6 hg6))
        refine ret_cb rfl w.heap.size 32 #[.int .i64 0, .slice none 0 0] (.int .i64 4) rfl rfl hb6 Try.underlying32 refqsize ?_
        unfold RefP
        rw [HD.out]
        exact ⟨_, _, _, _, rfl, gb_new HG5.out hg6 (Nat.le_refl _)⟩
      · go_wp2_with fail
        refine HEN.out.mono ?_
        rintro e w5 ⟨rfl, m5, hw5⟩
        have hg5 : wr.grownBy w5 none := by rw [hw5]; exact gb_drewN _ _ _
        have HBR5 := Lib.hid (blk_kept HBR.out hg5)
        have HG5 := Lib.hid (gb_same HG.out hg5)
        clear hw5 hg5 c2 hf2
        go_wp2_with ((with_reducible refine is_store 32 2 40 ?_); go_must (refine st_row 32 2 40 w.heap.size _ #[.int .i64 0, .slice none 0 0] _ rfl rfl HBR5.out refqsize rfl rfl ?_; intro w6 hb6 hg6))
        refine ret_cb rfl w.heap.size 32 #[.int .i64 0, .slice none 0 0] (.int .i64 4) rfl rfl hb6 Try.underlying32 refqsize ?_
        unfold RefP
        rw [HD.out]
        exact ⟨_, _, _, _, rfl, gb_new HG5.out hg6 (Nat.le_refl _)⟩
    | false =>
      by_cases hlt : k < K
      · have HPS := Lib.hid hps
        have HKL : Hid (k < K) := Lib.hid hlt
        have HSTT : Hid ((unl false (rdG bs q)).isNone = false ∧ f0 = false ∧ rdGs bs q0 (k + 1) = some (ps.map (·.1) ++ [gMg (unl false (rdG bs q))], gPos q (unl false (rdG bs q))) ∨ (unl false (rdG bs q)).isNone = true ∧ (f0 = true ∨ rdGs bs q0 (k + 1) = none)) := Lib.hid (by
          rcases HST.out with ⟨_, h2, h3⟩ | ⟨h1, _⟩
          · rw [unl_f]
            cases hx : rdG bs q with
            | none => exact .inr ⟨rfl, .inr (by rw [rdGs, h3]; simp only; rw [hx])⟩
            | some r =>
              obtain ⟨m, q2⟩ := r
              exact .inl ⟨rfl, h2, by rw [rdGs, h3]; simp only; rw [hx]; rfl⟩
          · cases h1)
        clear hps HEN
        go_wp2_with fail
        have HQ0 := Lib.hid (HQ.out.grown (gb_drew wr none))
        have HB0 := Lib.hid (blk_kept HB.out (gb_drew wr none))
        have HBR0 := Lib.hid (blk_kept HBR.out (gb_drew wr none))
        have HR0 := Lib.hid (HR.out.grown (gb_drew wr none))
        have HG0 := Lib.hid (gb_same HG.out (gb_drew wr none))
        have HZ0 : Hid (qb + 1 ≤ wr.drew.heap.size) := Lib.hid HZ.out
        have HS0 := Lib.hid (row2 HB0.out).2
        have HMG := Lib.hid (qMsg_any (w.heap.size + 1) (.slice a bs.length c) bs q false wr.drew HQ0.out (fun j hj => by have := HVL.out j hj; have := HX0.out; have := HZ0.out; omega))
        unfold GotMQ at HMG
        generalize gMg (unl false (rdG bs q)) = m at HMG HSTT
        generalize gPos q (unl false (rdG bs q)) = q2 at HMG HSTT
        generalize (unl false (rdG bs q)).isNone = f2 at HMG HSTT
        unfold Mg.row at HMG
        clear c2 hf2
        refine region_KL (fuel := 8) (listed := #[false, false, false, false, false, false, false, false]) (fun X => X.cell? ⟨qb, 1, none⟩ = some (.slice av k cv)) 7 (by kernel_rfl) rfl (by kernel_rfl) ?_
        generalize wr.drew = v0 at *
        refine wpAnyK_takeL (i := 0) (d := 30) (v := ?_) (T' := ?_) (listed' := #[true, false, false, false, false, false, false, false]) rfl rfl (by kernel_rfl) (fun _ _ _ h => h) rfl (Or.inl ⟨by rfl, ?_⟩) ?_ HS0.out ?_
        rotate_left 2
        · intro w hS; clear hS; go_simp; rfl
        · simp only [List.setIfInBounds_toArray, List.set_cons_succ, List.set_cons_zero]; rfl
        refine wpAnyK_takeL (i := 1) (d := 31) (v := ?_) (T' := ?_) (listed' := #[true, true, false, false, false, false, false, false]) rfl rfl (by kernel_rfl) (fun _ _ _ h => h) rfl (Or.inl ⟨by rfl, ?_⟩) ?_ HS0.out ?_
        rotate_left 2
        · intro w hS; have t0 := hS; clear hS; go_simp; rfl
        · simp only [List.setIfInBounds_toArray, List.set_cons_succ, List.set_cons_zero]; rfl
        refine wpAnyK_takeL (i := 2) (d := 32) (v := ?_) (T' := ?_) (listed' := #[true, true, true, false, false, false, false, false]) rfl rfl (by kernel_rfl) (fun _ _ _ h => h) rfl (Or.inl ⟨by rfl, ?_⟩) ?_ HS0.out ?_
        rotate_left 2
        · intro w hS; clear hS; go_simp; rfl
        · simp only [List.setIfInBounds_toArray, List.set_cons_succ, List.set_cons_zero]; rfl
        refine wpAnyK_oneL (i := 3) (listed' := #[true, true, true, true, false, false, false, false]) (by kernel_rfl) rfl (by rfl) rfl ?_
        intro K' hK
        go_simp
        refine HMG.out.mono ?_
        rintro e v3 ⟨dv3, rfl, ho3, hq3, hg3⟩
        have HQ3' := Lib.hid hq3
        have HB3' := Lib.hid (blk_kept' HB0.out hg3 (by have := HX0.out; simp; omega))
        have HBR3' := Lib.hid (blk_kept' HBR0.out hg3 (by simp))
        have HR3' := Lib.hid (HR0.out.kept hg3 (fun j hj e => by have := (HR0.out.lt j hj).1; have := HX0.out; simp at e; omega))
        have HG3' := Lib.hid (gb_new HG0.out hg3 (by omega))
        have HZ3' := Lib.hid (Nat.le_trans HZ0.out hg3.size)
        have HD1 := Lib.hid ho3.one
        have HS3 := Lib.hid (row2 HB3'.out).2
        clear ho3 hq3 hg3
        refine hK _ _ (fun _ => HS3.out) ?_
        clear hK K'
        refine wpAnyK_oneL (i := 4) (listed' := #[true, true, true, true, true, false, false, false]) (by kernel_rfl) rfl (by rfl) rfl ?_
        intro K' hK
        go_simp
        have hg5 : v3.grownBy (v3.alloc (.cells #[.int .i64 m.s, .int .i64 m.d, .int .i64 m.k, .int .i64 m.q, .int .i64 m.a, .int .i64 m.b, .int .i64 m.c, .int .i64 m.e, dv3] 39)) none := gb_alloc _ _ _
        have hlit : RdG (v3.alloc (.cells #[.int .i64 m.s, .int .i64 m.d, .int .i64 m.k, .int .i64 m.q, .int .i64 m.a, .int .i64 m.b, .int .i64 m.c, .int .i64 m.e, dv3] 39)) (.slice (some ⟨v3.heap.size, 0, none⟩) 1 1) [(m, dv3)] := RdG.one (heap_at_alloc _ _)
        generalize v3.alloc (.cells #[.int .i64 m.s, .int .i64 m.d, .int .i64 m.k, .int .i64 m.q, .int .i64 m.a, .int .i64 m.b, .int .i64 m.c, .int .i64 m.e, dv3] 39) = v5 at *
        have HL5 := Lib.hid hlit
        have HQ5 := Lib.hid (HQ3'.out.grown hg5)
        have HB5 := Lib.hid (blk_kept HB3'.out hg5)
        have HBR5 := Lib.hid (blk_kept HBR3'.out hg5)
        have HR5 := Lib.hid (HR3'.out.grown hg5)
        have HG5 := Lib.hid (gb_same HG3'.out hg5)
        have HZ5 := Lib.hid (Nat.le_trans HZ3'.out hg5.size)
        have HS5 := Lib.hid (row2 HB5.out).2
        clear hg5 hlit
        refine hK _ _ (fun _ => HS5.out) ?_
        clear hK K'
        refine wpAnyK_oneL (i := 5) (listed' := #[true, true, true, true, true, true, false, false]) (by kernel_rfl) rfl (by rfl) rfl ?_
        intro K' hK
        refine msg_app_op _ _ rfl (qb + 1) (.slice av k cv) (.slice (some ⟨v3.heap.size, 0, none⟩) 1 1) ps [(m, dv3)] rfl rfl HR5.out HL5.out (by simp; exact HD1.out) (by have := HPS.out; have := HKL.out; have := HKN.out; simp; omega) HZ5.out ?_
        intro u6 v6 h6 hg6 hf6
        have hvl := fun j hj => HR5.out.lt j hj
        have hvn : (Value.slice av k cv).ownBlock ≠ some qb := fun e => by have := (hvl _ e).1; omega
        have HB6 := Lib.hid (blk_kept' HB5.out hg6 hvn)
        have HBR6 := Lib.hid (blk_kept' HBR5.out hg6 (fun e => by have := (hvl _ e).1; have := HX0.out; omega))
        have HQ6 := Lib.hid (HQ5.out.kept hg6 (fun e => by have := (hvl _ e).1; have := HX0.out; omega) (fun j hj e => by have := (hvl j e).1; have := HVL.out j hj; have := HX0.out; omega))
        have HG6 := Lib.hid (gb_trans HG5.out hg6 (fun j hj => .inr (by have := (hvl j hj).1; have := HX0.out; omega)))
        have HZ6 := Lib.hid (Nat.le_trans HZ5.out hg6.size)
        obtain ⟨a6, c6, e6, _, _⟩ := h6.slice
        rw [show (ps ++ [(m, dv3)]).length = k + 1 by have := HPS.out; simp; omega] at e6
        subst e6
        have HR6 := Lib.hid h6
        have HS6 := Lib.hid (row2 HB6.out).2
        clear h6 hg6 hf6 hvl hvn
        refine hK _ _ (fun _ => HS6.out) ?_
        clear hK K'
        refine wpAnyK_takeL (i := 6) (d := 36) (v := ?_) (T' := ?_) (listed' := #[true, true, true, true, true, true, true, false]) rfl rfl (by kernel_rfl) (fun _ _ _ h => h) rfl (Or.inl ⟨by rfl, ?_⟩) ?_ HS6.out ?_
        rotate_left 2
        · intro w hS; clear hS; go_simp; rfl
        · simp only [List.setIfInBounds_toArray, List.set_cons_succ, List.set_cons_zero]; rfl
        have hfz : v6.frozen? ⟨qb, 1, none⟩ = false := blk_frozen (j := 1) HB6.out
        have hb7 := blk_set HB6.out 1 (.slice a6 (k + 1) c6)
        simp only [List.setIfInBounds_toArray, List.set_cons_succ, List.set_cons_zero] at hb7
        have hg7 := gb_setCell v6 ⟨qb, 1, none⟩ (.slice a6 (k + 1) c6)
        have HB7 := Lib.hid hb7
        have HBR7 := Lib.hid (blk_kept' HBR6.out hg7 (by have := HX0.out; simp; omega))
        have HQ7 := Lib.hid (HQ6.out.kept hg7 (by have := HX0.out; simp; omega) (fun j hj e => by have := HVL.out j hj; have := HX0.out; simp at e; omega))
        have HR7 := Lib.hid (HR6.out.kept hg7 (fun j hj e => by have := (HR6.out.lt j hj).1; simp at e; omega))
        have HG7 := Lib.hid (gb_new HG6.out hg7 (by have := HX0.out; show w.heap.size ≤ qb; omega))
        have HZ7 : Hid (qb + 1 ≤ (v6.setCell ⟨qb, 1, none⟩ (.slice a6 (k + 1) c6)).heap.size) := Lib.hid (Nat.le_trans HZ6.out hg7.size)
        clear hb7 hg7
        refine wpAnyK_oneL (i := 7) (listed' := #[true, true, true, true, true, true, true, true]) (by kernel_rfl) rfl (by rfl) rfl ?_
        intro K' hK
        have hcs := HS6.out
        go_simp
        refine hK _ _ (fun h => Bool.noConfusion (show true = false from h)) ?_
        clear hK K'
        refine wpAnyK_done (by kernel_rfl) ?_ _
        go_wp2
        go_roundw
        case rel => exact ⟨k + 1, q2, f2, _, _, ps ++ [(m, dv3)], by have := HKL.out; omega, by go_num, by have := HPS.out; simp; omega, HQ7, HB7, HR7, HBR7, HG7, HZ7, Lib.hid (by rw [List.map_append]; exact HSTT.out)⟩
        case measure => have := HKL.out; simp [intOf]; omega
      · obtain rfl : k = K := by omega
        have HX := Lib.hid (show f0 = false ∧ rdGs bs q0 k = some (ps.map (·.1), q) from by
          rcases HST.out with ⟨_, h2, h3⟩ | ⟨h1, _⟩
          · exact ⟨h2, h3⟩
          · cases h1)
        clear hlt
        by_cases hq : q < bs.length
        · have HD : Hid (decM bs = none) := Lib.hid (by rw [HXY.out.1 HX.out.1, HX.out.2]; exact if_pos hq)
          rw [end_no (.inr hq)] at HEN
          clear hq
          go_wp2_with fail
          refine HEN.out.mono ?_
          rintro e w5 ⟨rfl, m5, hw5⟩
          have hg5 : wr.grownBy w5 none := by rw [hw5]; exact gb_drewN _ _ _
          have HBR5 := Lib.hid (blk_kept HBR.out hg5)
          have HG5 := Lib.hid (gb_same HG.out hg5)
          clear hw5 hg5 c2 hf2
          go_wp2_with ((with_reducible refine is_store 32 2 40 ?_); go_must (refine st_row 32 2 40 w.heap.size _ #[.int .i64 0, .slice none 0 0] _ rfl rfl HBR5.out refqsize rfl rfl ?_; intro w6 hb6 hg6))
          refine ret_cb rfl w.heap.size 32 #[.int .i64 0, .slice none 0 0] (.int .i64 4) rfl rfl hb6 Try.underlying32 refqsize ?_
          unfold RefP
          rw [HD.out]
          exact ⟨_, _, _, _, rfl, gb_new HG5.out hg6 (Nat.le_refl _)⟩
        · have HD : Hid (decM bs = some (n, ps.map (·.1))) := Lib.hid (by rw [HXY.out.1 HX.out.1, HX.out.2]; exact if_neg hq)
          rw [end_yes (by simp; omega)] at HEN
          clear hq
          go_wp2_with fail
          refine HEN.out.mono ?_
          rintro e w5 ⟨rfl, m5, hw5⟩
          have hg5 : wr.grownBy w5 none := by rw [hw5]; exact gb_drewN _ _ _
          have HBR5 := Lib.hid (blk_kept HBR.out hg5)
          have HB5 := Lib.hid (blk_kept HB.out hg5)
          have HG5 := Lib.hid (gb_same HG.out hg5)
          clear hw5 hg5 c2 hf2
          go_wp2_with (first | ((with_reducible refine is_load 32 41 5 ?_); go_must (refine ld_row 32 41 5 qb _ _ rfl HB5.out Try.underlying32 refqsize ?_)) | ((with_reducible refine is_store 32 2 41 ?_); go_must (refine st_row 32 2 41 w.heap.size _ #[.int .i64 (n : Int), .slice av k cv] _ rfl rfl HBR5.out refqsize rfl rfl ?_; intro w6 hb6 hg6)))
          refine ret_cb rfl w.heap.size 32 #[.int .i64 (n : Int), .slice av k cv] (.int .i64 0) rfl rfl hb6 Try.underlying32 refqsize ?_
          unfold RefP
          rw [HD.out]
          exact ⟨_, _, _, _, rfl, gb_new HG5.out hg6 (Nat.le_refl _)⟩
end Go.Proofs.Ytfldooljmjeaoaa
namespace Go.Proofs.Ytfldooljmjeaoaa
open Go.RowKit Go.Shelf

def rM (n : Nat) (u : Value) : Value := .agg #[.int .i64 (n : Int), u]
set_option maxRecDepth 100000 in
theorem rnewM_any (n : Nat) (w : World) (hn : 0 < n) (hn2 : n ≤ 200) : Calls Try.prog 7 #[.int .i64 n] w (ValG (.tuple #[rM n (.slice none 0 0), .int .i64 0]) w) := by
  have h1 : ¬ (n : Int) < 1 := by omega
  have h2 : ¬ (200 : Int) < n := by omega
  have HB := Lib.hid (heap_at_alloc w (.cells #[.int .i64 0, .slice none 0 0] 32))
  go_enter Try.func7, Try.ntmps7
  go_wp2_with ((with_reducible refine is_store 32 2 12 ?_); go_must (refine st_row 32 2 12 w.heap.size _ _ _ rfl rfl HB.out refqsize rfl rfl ?_; intro w4 hb4 hg4))
  refine ret_cb rfl w.heap.size 32 _ (.int .i64 0) rfl rfl hb4 Try.underlying32 refqsize ?_
  exact ⟨rfl, gb_new (gb_alloc _ _ _) hg4 (Nat.le_refl _)⟩
set_option maxRecDepth 100000 in
theorem rnewM_no (n : Int) (w : World) (hn : n < 1 ∨ 200 < n) : Calls Try.prog 7 #[.int .i64 n] w (ValG (.tuple #[rM 0 (.slice none 0 0), .int .i64 2]) w) := by
  have HB := Lib.hid (heap_at_alloc w (.cells #[.int .i64 0, .slice none 0 0] 32))
  by_cases h1 : n < 1
  · clear hn
    go_enter Try.func7, Try.ntmps7
    go_wp2_with ((with_reducible refine is_store 32 2 10 ?_); go_must (refine st_row 32 2 10 w.heap.size _ _ _ rfl rfl HB.out refqsize rfl rfl ?_; intro w4 hb4 hg4))
    refine ret_cb rfl w.heap.size 32 _ (.int .i64 2) rfl rfl hb4 Try.underlying32 refqsize ?_
    exact ⟨rfl, gb_new (gb_alloc _ _ _) hg4 (Nat.le_refl _)⟩
  · have h2 : 200 < n := by omega
    clear hn
    go_enter Try.func7, Try.ntmps7
    go_wp2_with ((with_reducible refine is_store 32 2 10 ?_); go_must (refine st_row 32 2 10 w.heap.size _ _ _ rfl rfl HB.out refqsize rfl rfl ?_; intro w4 hb4 hg4))
    refine ret_cb rfl w.heap.size 32 _ (.int .i64 2) rfl rfl hb4 Try.underlying32 refqsize ?_
    exact ⟨rfl, gb_new (gb_alloc _ _ _) hg4 (Nat.le_refl _)⟩
theorem RdG.at9 {w : World} {a : Option Addr} {n c : Nat} {ps : List GP} (h : RdG w (.slice a n c) ps) {i : Nat} {p : GP} (hi : ps[i]? = some p) :
    ∃ b off, a = some ⟨b, off, none⟩ ∧ w.cell? ⟨b, off + i * 9, none⟩ = some (.int .i64 p.1.s) ∧ w.cell? ⟨b, off + i * 9 + 1, none⟩ = some (.int .i64 p.1.d) ∧ w.cell? ⟨b, off + i * 9 + 2, none⟩ = some (.int .i64 p.1.k) ∧ w.cell? ⟨b, off + i * 9 + 3, none⟩ = some (.int .i64 p.1.q) ∧ w.cell? ⟨b, off + i * 9 + 4, none⟩ = some (.int .i64 p.1.a) ∧ w.cell? ⟨b, off + i * 9 + 5, none⟩ = some (.int .i64 p.1.b) ∧ w.cell? ⟨b, off + i * 9 + 6, none⟩ = some (.int .i64 p.1.c) ∧ w.cell? ⟨b, off + i * 9 + 7, none⟩ = some (.int .i64 p.1.e) ∧ w.cell? ⟨b, off + i * 9 + 8, none⟩ = some p.2 := by
  obtain ⟨b, off, h1, h3⟩ := h.at hi
  exact ⟨b, off, h1, h3 0 _ rfl, h3 1 _ rfl, h3 2 _ rfl, h3 3 _ rfl, h3 4 _ rfl, h3 5 _ rfl, h3 6 _ rfl, h3 7 _ rfl, h3 8 _ rfl⟩
def rFst : List GP → Value
  | [] => noMsg
  | p :: _ => .tuple #[.agg (p.1.row p.2), .bool true]
theorem row_oneR (m : Mg) (dv : Value) (h : dv.oneCell' = true) : (m.row dv).toList.all (·.oneCell') = true := by
  unfold Mg.row
  simp only [List.all_cons, List.all_nil, h]
  rfl
set_option maxRecDepth 100000 in
set_option maxHeartbeats 4000000 in
theorem rfirstM_any (n : Nat) (u : Value) (ps : List GP) (w : World) (hu : RdG w u ps) (h1 : ∀ p ∈ ps, p.2.oneCell' = true) : Calls Try.prog 10 #[rM n u] w (ValG (rFst ps) w) := by
  obtain ⟨a, c, rfl, hpc, hcm⟩ := hu.len
  have hb0 := heap_alloc2_0 w (.cells #[.int .i64 (n : Int), .slice a ps.length c] 32) (.cells #[.int .i64 0, .int .i64 0, .int .i64 0, .int .i64 0, .int .i64 0, .int .i64 0, .int .i64 0, .int .i64 0, .slice none 0 0] 39)
  have hb1 := heap_alloc2_1 w (.cells #[.int .i64 (n : Int), .slice a ps.length c] 32) (.cells #[.int .i64 0, .int .i64 0, .int .i64 0, .int .i64 0, .int .i64 0, .int .i64 0, .int .i64 0, .int .i64 0, .slice none 0 0] 39)
  have hga : w.grownBy ((w.alloc (.cells #[.int .i64 (n : Int), .slice a ps.length c] 32)).alloc (.cells #[.int .i64 0, .int .i64 0, .int .i64 0, .int .i64 0, .int .i64 0, .int .i64 0, .int .i64 0, .int .i64 0, .slice none 0 0] 39)) none := gb_same (gb_alloc _ _ _) (gb_alloc _ _ _)
  have HB1 := Lib.hid hb1
  have HGA := Lib.hid hga
  have hu2 := hu.grown hga
  have t1 := (row2 hb0).2
  have hsm : (ps.length : Int) ≤ 9223372036854775807 := by simp only [maxLen] at hcm; omega
  unfold rM
  cases ps with
  | nil =>
    clear hu hu2 hb0 hb1 hga h1 hpc hcm
    go_enter Try.func10, Try.ntmps10
    go_wp2_with ((with_reducible refine is_store 39 2 8 ?_); go_must (refine st_row 39 2 8 (w.heap.size + 1) _ #[.int .i64 0, .int .i64 0, .int .i64 0, .int .i64 0, .int .i64 0, .int .i64 0, .int .i64 0, .int .i64 0, .slice none 0 0] _ rfl rfl HB1.out msize rfl rfl ?_; intro w4 hb4 hg4))
    refine ret_cb rfl (w.heap.size + 1) 39 #[.int .i64 0, .int .i64 0, .int .i64 0, .int .i64 0, .int .i64 0, .int .i64 0, .int .i64 0, .int .i64 0, .slice none 0 0] (.bool false) rfl rfl hb4 Try.underlying39 msize ?_
    exact ⟨rfl, gb_new HGA.out hg4 (by omega)⟩
  | cons p qs =>
    obtain ⟨b, off, rfl, n0, n1, n2, n3, n4, n5, n6, n7, n8⟩ := hu2.at9 (i := 0) rfl
    simp only [Nat.zero_mul, Nat.add_zero] at n0 n1 n2 n3 n4 n5 n6 n7 n8
    have HO := Lib.hid (h1 p (by simp))
    obtain ⟨m, hm⟩ : ∃ m, (p :: qs).length = m := ⟨_, rfl⟩
    have hm0 : 0 < m := by rw [← hm]; simp
    have hmi : (0 : Int) < (m : Int) := by omega
    have hms : ¬ ((m : Int) = 0) := by omega
    rw [hm] at t1 hsm HB1 HGA n0 n1 n2 n3 n4 n5 n6 n7 n8 ⊢
    clear hu hu2 hb0 hb1 hga h1 hm hm0 hpc hcm
    go_enter Try.func10, Try.ntmps10
    go_wp2_with ((with_reducible refine is_store 39 2 12 ?_); go_must (refine st_row 39 2 12 (w.heap.size + 1) _ (p.1.row p.2) _ rfl rfl HB1.out msize rfl (row_oneR _ _ HO.out) ?_; intro w4 hb4 hg4))
    refine ret_cb rfl (w.heap.size + 1) 39 (p.1.row p.2) (.bool true) rfl rfl hb4 Try.underlying39 msize ?_
    exact ⟨rfl, gb_new HGA.out hg4 (by omega)⟩
end Go.Proofs.Ytfldooljmjeaoaa
