/-
  law.RingBytes: the walk.
-/
import Derived.Test.YtjidkaeglhfajaaRRE
import Derived.Deep.CutBlock
namespace Go.Proofs.Ytjidkaeglhfajaa
open Go.RowKit Go.Shelf

theorem row3 {w : World} {g : Nat} {x0 x1 x2 : Value} {T : TypeId} (h : w.heap[g]? = some (.cells #[x0, x1, x2] T (0, 0))) : w.cell? ⟨g, 0, none⟩ = some x0 ∧ w.cell? ⟨g, 1, none⟩ = some x1 ∧ w.cell? ⟨g, 2, none⟩ = some x2 := ⟨cell_row h, cell_row h, cell_row h⟩
def newO (n : Int) : Option (Nat × List UInt8) := if n < 1 ∨ 4096 < n then none else some (n.toNat, [])
def codeO (c : Int) (o : Option (Nat × List UInt8)) : Int := match o with | none => c | some _ => 0
/-- the program's queue, or none -/
def QS (w : World) (B : Nat) (qv : Value) : Option (Nat × List UInt8) → Prop
  | none => qv = .pointer none
  | some r => ∃ g s f cs, qv = .pointer (some ⟨g, 0, none⟩) ∧ B ≤ g ∧ B ≤ s ∧ IsB w g s r.1 f cs r.2
theorem QS.grown {w w' : World} {B : Nat} {qv : Value} {o : Option (Nat × List UInt8)} (h : QS w B qv o) (hg : w.grownBy w' none) : QS w' B qv o := by
  cases o with
  | none => exact h
  | some r =>
    obtain ⟨g, s, f, cs, h1, h2, h3, h4⟩ := h
    exact ⟨g, s, f, cs, h1, h2, h3, h4.grown hg⟩
theorem newB_all (n : Int) (w : World) : Calls Try.prog 12 #[.int .i64 n] w fun e w' => ∃ qv, e = .returned (.tuple #[qv, .int .i64 (codeO 2 (newO n))]) ∧ w.grownBy w' none ∧ QS w' w.heap.size qv (newO n) := by
  by_cases h : n < 1 ∨ 4096 < n
  · have e : newO n = none := by unfold newO; rw [if_pos h]
    rw [e]
    refine (newB_no n w h).mono ?_
    rintro e w' ⟨rfl, rfl⟩
    exact ⟨_, rfl, gb_refl _ _, rfl⟩
  · obtain ⟨m, hm⟩ : ∃ m : Nat, n = (m : Int) := ⟨n.toNat, by omega⟩
    subst hm
    have e : newO (m : Int) = some (m, []) := by unfold newO; rw [if_neg h, Int.toNat_natCast]
    rw [e]
    refine (newB_any m w (by omega) (by omega)).mono ?_
    rintro e w' ⟨g, s, rfl, h1, h2, h3, h4⟩
    exact ⟨_, rfl, h3, g, s, 0, _, rfl, h1, h2, h4⟩
theorem rnewB_all (n : Int) (w : World) : Calls Try.prog 13 #[.int .i64 n] w fun e w' => ∃ m : Nat, e = .returned (.tuple #[.agg #[.int .i64 (m : Int), .slice none 0 0], .int .i64 (codeO 2 (newO n))]) ∧ w.grownBy w' none ∧ ∀ r, newO n = some r → m = r.1 ∧ r.2 = [] := by
  by_cases h : n < 1 ∨ 4096 < n
  · have e : newO n = none := by unfold newO; rw [if_pos h]
    rw [e]
    refine (rnew_no n w h).mono ?_
    rintro e w' ⟨rfl, hg⟩
    exact ⟨0, rfl, hg, fun r hr => by cases hr⟩
  · obtain ⟨m, hm⟩ : ∃ m : Nat, n = (m : Int) := ⟨n.toNat, by omega⟩
    subst hm
    have e : newO (m : Int) = some (m, []) := by unfold newO; rw [if_neg h, Int.toNat_natCast]
    rw [e]
    refine (rnew_any m w (by omega) (by omega)).mono ?_
    rintro e w' ⟨rfl, hg⟩
    exact ⟨m, rfl, hg, fun r hr => by cases hr; exact ⟨rfl, rfl⟩⟩
theorem decB_all (v : Value) (bs : List UInt8) (w : World) (h : Rd w v bs) (hb : bs.length ≤ 100000) : Calls Try.prog 14 #[v] w fun e w' => ∃ qv, e = .returned (.tuple #[qv, .int .i64 (codeO 4 (decB bs))]) ∧ w.grownBy w' none ∧ QS w' w.heap.size qv (decB bs) := by
  refine (decodeB_any v bs w h hb).mono ?_
  intro e w' hd
  unfold DecBP at hd
  cases hq : decB bs with
  | none =>
    rw [hq] at hd
    obtain ⟨rfl, hg⟩ := hd
    exact ⟨_, rfl, hg, rfl⟩
  | some r =>
    rw [hq] at hd
    obtain ⟨g, s, cs, rfl, h1, h2, h3, h4⟩ := hd
    exact ⟨_, rfl, h3, g, s, 0, cs, rfl, h1, h2, h4⟩
theorem rdecB_all (v : Value) (bs : List UInt8) (w : World) (h : Rd w v bs) (hb : bs.length ≤ 100000) (hlt : ∀ k, v.ownBlock = some k → k < w.heap.size) : Calls Try.prog 15 #[v] w fun e w' => ∃ (m : Nat) (a : Option Addr) (k c : Nat), e = .returned (.tuple #[.agg #[.int .i64 (m : Int), .slice a k c], .int .i64 (codeO 4 (decB bs))]) ∧ w.grownBy w' none ∧ ∀ r, decB bs = some r → m = r.1 ∧ Own w' w.heap.size (.slice a k c) r.2 := by
  refine (rdecodeB_any v bs w h hb hlt).mono ?_
  intro e w' hd
  unfold rdB at hd
  cases hq : decB bs with
  | none =>
    rw [hq] at hd
    obtain ⟨rfl, hg⟩ := hd
    exact ⟨0, none, 0, 0, rfl, hg, fun r hr => by cases hr⟩
  | some r =>
    obtain ⟨m, l⟩ := r
    rw [hq] at hd
    obtain ⟨u, rfl, h1, h2⟩ := hd
    obtain ⟨a, c, rfl⟩ := h1.rd.len
    exact ⟨m, a, l.length, c, rfl, h2, fun r hr => by cases hr; exact ⟨rfl, h1⟩⟩
/-- the reference's queue in its block -/
def IsP (w : World) (g s pb n : Nat) (L : List UInt8) : Prop := ∃ a c, w.heap[pb]? = some (.cells #[.int .i64 (n : Int), .slice a L.length c] 31 (0, 0)) ∧ Rd w (.slice a L.length c) L ∧ ∀ j, (Value.slice a L.length c).ownBlock = some j → j ≠ g ∧ j ≠ s ∧ j ≠ pb ∧ j < w.heap.size
def Both (w : World) (B pb : Nat) (qv : Value) (o : Option (Nat × List UInt8)) : Prop :=
  match o with
  | none => qv = .pointer none
  | some r => ∃ g s f cs, qv = .pointer (some ⟨g, 0, none⟩) ∧ B ≤ g ∧ B ≤ s ∧ g ≠ pb ∧ s ≠ pb ∧ IsB w g s r.1 f cs r.2 ∧ IsP w g s pb r.1 r.2
theorem IsP.grown {w w' : World} {g s pb n : Nat} {L : List UInt8} (h : IsP w g s pb n L) (hg : w.grownBy w' none) : IsP w' g s pb n L := by
  obtain ⟨a, c, h1, h2, h3⟩ := h
  exact ⟨a, c, blk_kept h1 hg, h2.grown hg, fun j hj => by have := h3 j hj; have := hg.size; omega⟩
set_option maxRecDepth 100000 in
set_option maxHeartbeats 4000000 in
theorem ringBytes_any (bv lv : Value) (b : List UInt8) (ps : List RP) (size : Int) (w : World) (hb : Rd w bv b) (hbl : ∀ k, bv.ownBlock = some k → k < w.heap.size) (hl : RdRs w lv ps) (hps : ∀ p ∈ ps, OkP w p) :
    Calls Try.prog 3 #[bv, lv, .int .i64 size] w (BoolQ true w) := by
  have hsb := hb.small
  have hsm := hl.1.small
  have HA := Lib.hid (awake_any w)
  have HSH := Lib.hid short_any
  obtain ⟨ab, cb, rfl⟩ := hb.len
  obtain ⟨al, cl, rfl⟩ := hl.1.len
  have HBV := Lib.hid hb
  have HBL := Lib.hid hbl
  have HL := Lib.hid hl
  have HPS := Lib.hid hps
  clear hb hbl hl hps
  by_cases hlb : 1000 < b.length
  · have hlb' : (1000 : Int) < (b.length : Int) := by omega
    clear hlb
    go_enter Try.func3, Try.ntmps3
    go_wp2_with fail
    refine HA.out.mono ?_
    rintro e w1 ⟨rfl, hg1⟩
    have HG1 := Lib.hid hg1
    clear hg1
    go_wp2
    go_ret
    exact ⟨rfl, HG1.out⟩
  · have hlb' : ¬ (1000 : Int) < (b.length : Int) := by omega
    have HLB : Hid (b.length ≤ 1000) := Lib.hid (by omega)
    clear hlb
    go_enter Try.func3, Try.ntmps3
    go_wp2_with fail
    refine HA.out.mono ?_
    rintro e w1 ⟨rfl, hg1⟩
    have HG1 := Lib.hid hg1
    have HS := Lib.hid (HSH.out _ _ _ (HL.out.grown hg1))
    clear hg1
    cases hsb2 : shortB ps with
    | false =>
      rw [hsb2] at HS
      clear hsb2
      go_wp2_with (go_at_call 11; (with_reducible refine HS.out.mono ?_); rintro e w' ⟨rfl, rfl⟩)
      go_ret
      exact ⟨rfl, HG1.out⟩
    | true =>
      have HSP := Lib.hid (shortB_spec hsb2)
      rw [hsb2] at HS
      clear hsb2
      go_wp2_with (go_at_call 11; (with_reducible refine HS.out.mono ?_); rintro e w' ⟨rfl, rfl⟩)
      refine (newB_all size w1).mono ?_
      rintro e w2 ⟨qv, rfl, hg2, hq2⟩
      have HG2 := Lib.hid (gb_same HG1.out hg2)
      have HQ2 : Hid (QS w2 w.heap.size qv (newO size)) := Lib.hid (by
        cases hno : newO size with
        | none => rw [hno] at hq2; exact hq2
        | some r =>
          rw [hno] at hq2
          obtain ⟨g, s, f, cs, h1, h2, h3, h4⟩ := hq2
          have := HG1.out.size
          exact ⟨g, s, f, cs, h1, by omega, by omega, h4⟩)
      have HQB2 : Hid (∀ r, newO size = some r → ∀ g s f cs, qv = .pointer (some ⟨g, 0, none⟩) → IsB w2 g s r.1 f cs r.2 → g < w2.heap.size ∧ s < w2.heap.size) := Lib.hid (fun r _ g s f cs _ h => h.lt)
      clear hg2 hq2
      go_wp2_with fail
      refine (rnewB_all size w2).mono ?_
      rintro e w3 ⟨m, rfl, hg3, hm3⟩
      have HG3 := Lib.hid (gb_same HG2.out hg3)
      have HQ3 := Lib.hid (HQ2.out.grown hg3)
      have HM3 := Lib.hid hm3
      have HPS3 := Lib.hid hg3.size
      have HG23 := Lib.hid hg3
      have HZB := Lib.hid (heap_at_alloc w3 (.cells #[.int .i64 0, .slice none 0 0] 31))
      clear hg3 hm3
      generalize hev : codeO 2 (newO size) = ev
      have HEV := Lib.hid hev
      clear hev
      go_upto_if 41 with ((with_reducible refine is_store 31 9 37 ?_); go_must (refine st_row 31 9 37 w3.heap.size _ #[.int .i64 (m : Int), .slice none 0 0] _ rfl rfl HZB.out bsize rfl rfl ?_; intro w4 hb4 hg4; have HB4 := Lib.hid hb4; have HG4 := Lib.hid (gb_new (gb_alloc w3 (.cells #[.int .i64 0, .slice none 0 0] 31) none) hg4 (Nat.le_refl _)); clear hb4 hg4))
      have HPB : Hid (w.heap.size ≤ w3.heap.size ∧ w2.heap.size ≤ w3.heap.size ∧ w3.heap.size < w4.heap.size) := Lib.hid ⟨HG3.out.size, HPS3.out, lt_of_blk HB4.out⟩
      have HGW4 := Lib.hid (gb_same HG3.out HG4.out)
      have HQ4 := Lib.hid (HQ3.out.grown HG4.out)
      have HGG24 := Lib.hid (gb_same HG23.out HG4.out)
      generalize hpb : w3.heap.size = pb at *
      have HPBE := Lib.hid hpb
      clear hpb
      go_cut [7, 8, 10, 41] from 42 to 51 (fun q e f _ wx => ∃ (qv : Value) (ev : Int) (o : Option (Nat × List UInt8)), q = qv ∧ e = .int .i64 ev ∧ f = .int .i64 ev ∧ Hid ((o = none → ev ≠ 0) ∧ (∀ r, o = some r → ev = 0)) ∧ Hid (Both wx w.heap.size pb qv o) ∧ Hid (w.grownBy wx none) ∧ Hid (pb < wx.heap.size))
      case first =>
        generalize hbd : decide (0 < b.length) = t
        cases t with
        | false =>
          clear hbd
          have HBO : Hid (Both w4 w.heap.size pb qv (newO size)) := Lib.hid (by
            cases hno : newO size with
            | none => have h := HQ4.out; rw [hno] at h; exact h
            | some r =>
              have h := HQ2.out
              rw [hno] at h
              obtain ⟨g, s, f, cs, e1, h1, h2', h3⟩ := h
              obtain ⟨hm1, hm2⟩ := HM3.out r hno
              have hlt := h3.lt
              have hpb := HPB.out
              exact ⟨g, s, f, cs, e1, h1, h2', by omega, by omega, h3.grown HGG24.out, none, 0, by rw [← hm1, hm2]; exact HB4.out, by rw [hm2]; exact .inl ⟨rfl, rfl⟩, by simp [Value.ownBlock]⟩)
          go_wp2
          go_meet
          case rel => exact ⟨qv, ev, newO size, rfl, rfl, rfl, Lib.hid (by
            rw [← HEV.out]
            refine ⟨fun h => by rw [h]; decide, fun r h => by rw [h]; rfl⟩), HBO, HGW4, Lib.hid HPB.out.2.2⟩
        | true =>
          clear hbd
          have HLBB : Hid (b.length ≤ 100000) := Lib.hid (by have := HLB.out; omega)
          go_wp2_with fail
          refine (decB_all _ b w4 (HBV.out.grown HGW4.out) HLBB.out).mono ?_
          rintro e w5 ⟨qv5, rfl, hg5, hq5⟩
          have HG5 := Lib.hid (gb_same HGW4.out hg5)
          have HB5 := Lib.hid (blk_kept HB4.out hg5)
          have HQ5 := Lib.hid hq5
          have HZ5 := Lib.hid hg5.size
          have HLT5 : Hid (∀ k, (Value.slice ab b.length cb).ownBlock = some k → k < w5.heap.size) := Lib.hid (fun k hk => by have := HBL.out k hk; have := HG5.out.size; omega)
          clear hg5 hq5
          go_wp2_with fail
          refine (rdecB_all _ b w5 (HBV.out.grown HG5.out) HLBB.out HLT5.out).mono ?_
          rintro e w6 ⟨m6, a6, k6, c6, rfl, hg6, hm6⟩
          have HG6 := Lib.hid (gb_same HG5.out hg6)
          have HB6 := Lib.hid (blk_kept HB5.out hg6)
          have HQ6 := Lib.hid (HQ5.out.grown hg6)
          have HM6 := Lib.hid hm6
          have HG56 := Lib.hid hg6
          generalize hev5 : codeO 4 (decB b) = ev5
          have HEV5 := Lib.hid hev5
          clear hg6 hm6 hev5
          go_wp2_with ((with_reducible refine is_store 31 9 50 ?_); go_must (refine st_row 31 9 50 pb _ #[.int .i64 (m6 : Int), .slice a6 k6 c6] _ rfl rfl HB6.out bsize rfl rfl ?_; intro w7 hb7 hg7; have HB7 := Lib.hid hb7; have HG7 := Lib.hid hg7; clear hb7 hg7))
          have HGW7 := Lib.hid (gb_new HG6.out HG7.out HPB.out.1)
          have HBO : Hid (Both w7 w.heap.size pb qv5 (decB b)) := Lib.hid (by
            have hpb := HPB.out
            have hz5 := HZ5.out
            cases hno : decB b with
            | none => have h := HQ6.out; rw [hno] at h; exact h
            | some r =>
              have h := HQ5.out
              rw [hno] at h
              obtain ⟨g, s, f, cs, e1, h1, h2', h3⟩ := h
              obtain ⟨hm1, hm2⟩ := HM6.out r hno
              have hlt := h3.lt
              obtain ⟨a', c', he⟩ := hm2.rd.len
              simp only [Value.slice.injEq] at he
              obtain ⟨rfl, rfl, rfl⟩ := he
              have ho := hm2.lt
              exact ⟨g, s, f, cs, e1, by omega, by omega, by omega, by omega, (h3.grown HG56.out).kept HG7.out (by simp; omega) (by simp; omega), a6, c6, by rw [← hm1]; exact HB7.out, hm2.rd.kept HG7.out (fun j hj e => by have := (ho j hj).1; simp at e; omega), fun j hj => by have h8 := ho j hj; have h9 := HG7.out.size; omega⟩)
          go_meet
          case rel => exact ⟨qv5, ev5, decB b, rfl, rfl, rfl, Lib.hid (by
            rw [← HEV5.out]
            refine ⟨fun h => by rw [h]; decide, fun r h => by rw [h]; rfl⟩), HBO, HGW7, Lib.hid (lt_of_blk HB7.out)⟩
      case rest =>
        obtain ⟨qv7, ev7, o, rfl, rfl, rfl, HEO, HBT, HGC, HPC⟩ := hcut
        cases o with
        | none =>
          have hq0 : u7 = .pointer none := HBT.out
          subst hq0
          have he0 := HEO.out.1 rfl
          have he1 : (ev7 != 0) = true := by simpa using he0
          have he2 : (ev7 == 0) = false := by simpa using he0
          clear he0
          go_wp2_with fail
          go_loopw [11] (fun i wr => i = .int .i64 0 ∧ Hid (w.grownBy wr none)) (fun _ _ => 0)
          case atStart => exact ⟨rfl, HGC⟩
          case round =>
            obtain ⟨rfl, HG⟩ := hrel
            generalize hN : ps.length = N at *
            clear hN
            by_cases hN0 : (0 : Int) < (N : Int)
            · go_wp2
              go_ret
              exact ⟨rfl, HG.out⟩
            · go_wp2
              go_ret
              exact ⟨rfl, HG.out⟩
        | some r =>
          obtain ⟨n, L0⟩ := r
          obtain ⟨g, s, f0, cs0, rfl, hgB, hsB, hgp, hsp, hq0, hp0⟩ := HBT.out
          have he0 := HEO.out.2 _ rfl
          subst he0
          have HQC := Lib.hid hq0
          have HPCC := Lib.hid hp0
          have HGS := Lib.hid (show w.heap.size ≤ g ∧ w.heap.size ≤ s ∧ g ≠ pb ∧ s ≠ pb ∧ w.heap.size ≤ pb from ⟨hgB, hsB, hgp, hsp, HPB.out.1⟩)
          have HNL : Hid (n ≤ 4096) := Lib.hid hq0.le
          clear hq0 hp0 hgB hsB hgp hsp HBT HEO
          go_wp2_with fail
          go_loopw [11] (fun i wr => ∃ (k f : Nat) (cs L : List UInt8), k ≤ ps.length ∧ i = .int .i64 k ∧ Hid (IsB wr g s n f cs L) ∧ Hid (IsP wr g s pb n L) ∧ Hid (w.grownBy wr none)) (fun i _ => ps.length - (intOf i).toNat)
          case atStart => exact ⟨0, f0, cs0, L0, Nat.zero_le _, rfl, HQC, HPCC, HGC⟩
          case round =>
            obtain ⟨k, f, cs, L, hk, rfl, HQ, HP, HG⟩ := hrel
            have HLR := Lib.hid (HL.out.grown HG.out)
            by_cases hlt : k < ps.length
            · obtain ⟨p, hp⟩ : ∃ p, ps[k]? = some p := ⟨ps[k], by simp [hlt]⟩
              have hpm := List.mem_of_getElem? hp
              obtain ⟨gb, off, hal, q0, q1, q2⟩ := HLR.out.1.at hp
              subst hal
              have HRD := Lib.hid (HLR.out.2 p hpm)
              have HOK := Lib.hid (HPS.out p hpm)
              have HNE : Hid (p.1.2.2 ≠ [] → ∀ k, p.2.ownBlock = some k → k ≠ g ∧ k ≠ s) := Lib.hid (fun hz k hk => by
                have := (HL.out.2 p hpm).blk hz k hk
                have := HGS.out
                omega)
              obtain ⟨ad, cd, hpd, hcd⟩ := HRD.out.form
              have hds := HRD.out.small
              obtain ⟨⟨kind, z, bx⟩, pv⟩ := p
              simp only at hpd q0 q1 q2 HRD HNE hds hcd HOK
              subst hpd
              clear hp hpm
              go_upto_block 2 with fail
              have hxb := heap_at_alloc wr (.cells #[.int .i64 kind, .int .i64 z, .slice ad bx.length cd] 37)
              have hgx := gb_alloc wr (.cells #[.int .i64 kind, .int .i64 z, .slice ad bx.length cd] 37) none
              have HXL : Hid (w.heap.size ≤ wr.heap.size ∧ g < wr.heap.size ∧ s < wr.heap.size ∧ pb < wr.heap.size) := Lib.hid ⟨HG.out.size, HQ.out.lt.1, HQ.out.lt.2, by obtain ⟨_, _, h1, _⟩ := HP.out; exact lt_of_blk h1⟩
              generalize hxbe : wr.heap.size = xb at *
              generalize wr.alloc (.cells #[.int .i64 kind, .int .i64 z, .slice ad bx.length cd] 37) = w0 at *
              have HX0 := Lib.hid hxb
              have HQ0 := Lib.hid (HQ.out.grown hgx)
              have HP0 := Lib.hid (HP.out.grown hgx)
              have HG0 := Lib.hid (gb_same HG.out hgx)
              have HRD0 := Lib.hid (HRD.out.grown hgx)
              have HZX : Hid (xb < w0.heap.size) := Lib.hid (lt_of_blk hxb)
              clear hxb hgx hxbe q0 q1 q2
              go_cut [13, 14, 15, 16, 17, 18] from 62 to 168 (fun ok _ _ _ _ _ wx => ok = .bool true ∧ ∃ (f : Nat) (cs L : List UInt8), Hid (IsB wx g s n f cs L) ∧ Hid (IsP wx g s pb n L) ∧ Hid (w.grownBy wx none))
              case first =>
                obtain ⟨a, c, hpb0, hpr0, hpn0⟩ := HP0.out
                obtain ⟨t0, t1⟩ := row2 hpb0
                obtain ⟨x0, x1, x2⟩ := row3 HX0.out
                have HPR := Lib.hid hpr0
                have HPN := Lib.hid hpn0
                have HPB0 := Lib.hid hpb0
                clear hpb0 hpr0 hpn0
                by_cases h0 : kind = 0
                · subst h0
                  have hln := HQ0.out.cnt
                  have hrp := rputB_any n (.slice a L.length c) (.slice ad bx.length cd) L bx w0 HPR.out hln HNL.out HRD0.out
                  have hpp : ∀ (W : World) (f' : Nat) (cs' : List UInt8), IsB W g s n f' cs' L → RdW W (.slice ad bx.length cd) bx → Calls Try.prog 17 #[.pointer (some ⟨g, 0, none⟩), .slice ad bx.length cd] W (PutP W g s n f' L bx) := fun W f' cs' hq hr => put_any hq _ bx hr HNE.out
                  unfold PutP at hpp
                  unfold RetQ rB at hrp
                  generalize hm2 : putN n L bx = m2 at hrp hpp
                  generalize hL2 : L ++ bx.take m2 = L2 at hrp hpp
                  have HPP := Lib.hid hpp
                  clear hm2 hL2 hpp hln
                  go_wp2_with fail
                  refine hrp.mono ?_
                  rintro e w1 ⟨u1, y1, rfl, ho1, rfl, hg1⟩
                  obtain ⟨a1, c1, rfl⟩ := ho1.rd.len
                  have HO1 := Lib.hid ho1
                  have HG1 := Lib.hid hg1
                  have HG01 := Lib.hid (gb_same HG0.out hg1)
                  clear hrp ho1 hg1 t0 t1 x0 x1 x2
                  obtain ⟨x0, x1, x2⟩ := row3 (blk_kept (blk_kept HX0.out HG1.out) (gb_alloc w1 (.cells #[.int .i64 (n : Int), .slice a1 L2.length c1] 31) none))
                  go_wp2_with fail
                  have hgx := gb_alloc w1 (.cells #[.int .i64 (n : Int), .slice a1 L2.length c1] 31) none
                  have hbx := heap_at_alloc w1 (.cells #[.int .i64 (n : Int), .slice a1 L2.length c1] 31)
                  have HN1 : Hid (w0.heap.size ≤ w1.heap.size) := Lib.hid HG1.out.size
                  generalize hbn : w1.heap.size = b14 at *
                  generalize w1.alloc (.cells #[.int .i64 (n : Int), .slice a1 L2.length c1] 31) = w2 at *
                  have HB14 := Lib.hid hbx
                  have HG02 := Lib.hid (gb_same HG01.out hgx)
                  have HGX2 := Lib.hid (gb_same HG1.out hgx)
                  have HO2 := Lib.hid (HO1.out.grown hgx)
                  clear hgx hbx hbn
                  refine (HPP.out w2 f cs (HQ0.out.grown HGX2.out) (HRD0.out.grown HGX2.out)).mono ?_
                  rintro e w3 ⟨rfl, hk3, cs3, hq3⟩
                  have HQ3 := Lib.hid hq3
                  have HG3 := Lib.hid (K2.new HG02.out HGS.out.1 HGS.out.2.1 hk3)
                  have HBP3 := Lib.hid ((hk3.block pb (lt_of_blk (blk_kept HPB0.out HGX2.out)) (fun e => HGS.out.2.2.1 e.symm) (fun e => HGS.out.2.2.2.1 e.symm)).trans (blk_kept HPB0.out HGX2.out))
                  have HB3 := Lib.hid ((hk3.block b14 (lt_of_blk HB14.out) (by have := HXL.out; have := HZX.out; have := HN1.out; omega) (by have := HXL.out; have := HZX.out; have := HN1.out; omega)).trans HB14.out)
                  have HO3 := Lib.hid (K2.own HO2.out hk3 (fun j hj => by have := (HO2.out.lt j hj).1; have := HXL.out; have := HZX.out; omega))
                  clear hk3 hq3 x0 x1 x2
                  obtain ⟨y0, y1⟩ := row2 HB3.out
                  go_wp2_with ((with_reducible refine is_store 31 9 104 ?_); go_must (refine st_row 31 9 104 pb _ #[.int .i64 (n : Int), .slice a1 L2.length c1] _ rfl rfl HBP3.out bsize rfl rfl ?_; intro w4 hb4 hg4; have HB4' := Lib.hid hb4; have HG4' := Lib.hid hg4; clear hb4 hg4))
                  have HGW4' := Lib.hid (gb_new HG3.out HG4'.out HGS.out.2.2.2.2)
                  have HQ4' := Lib.hid (HQ3.out.kept HG4'.out (by have := HGS.out; simp; omega) (by have := HGS.out; simp; omega))
                  have HP4' : Hid (IsP w4 g s pb n L2) := Lib.hid ⟨a1, c1, HB4'.out, HO3.out.rd.kept HG4'.out (fun j hj e => by have := (HO3.out.lt j hj).1; have := HXL.out; have := HZX.out; simp at e; omega), fun j hj => by have := HO3.out.lt j hj; have := HXL.out; have := HZX.out; have := HG4'.out.size; omega⟩
                  go_meet
                  case rel => exact ⟨rfl, f, cs3, L2, HQ4', HP4', HGW4'⟩
                · have h0' : (kind == 0) = false := by rw [beq_eq_false_iff_ne]; exact h0
                  by_cases h1 : kind = 1
                  · subst h1
                    have hrp := rtakeB_any n (.slice a L.length c) L z w0 HPR.out (by have := HQ0.out.cnt; have := HNL.out; omega) HOK.out.2.2
                    have hpp : ∀ (W : World) (f' : Nat) (cs' : List UInt8), IsB W g s n f' cs' L → Calls Try.prog 20 #[.pointer (some ⟨g, 0, none⟩), .int .i64 z] W (TakeP W g s n L z) := fun W f' cs' hq => take_any hq z HOK.out.2.2
                    unfold TakeP at hpp
                    unfold RetQ rB at hrp
                    generalize hL2 : L.drop z.toNat = L2 at hrp hpp
                    generalize hL3 : L.take z.toNat = L3 at hrp hpp
                    have HPP := Lib.hid hpp
                    clear hL3 hL2 hpp h0
                    go_wp2_with fail
                    refine hrp.mono ?_
                    rintro e w1 ⟨u1, v1, rfl, ho1, hov1, hg1⟩
                    obtain ⟨a1, c1, rfl⟩ := ho1.rd.len
                    obtain ⟨a2, c2, rfl⟩ := hov1.rd.len
                    have HO1 := Lib.hid ho1
                    have HV1 := Lib.hid hov1
                    have HG1 := Lib.hid hg1
                    have HG01 := Lib.hid (gb_same HG0.out hg1)
                    clear hrp ho1 hg1 hov1 t0 t1 x0 x1 x2
                    obtain ⟨x0, x1, x2⟩ := row3 (blk_kept (blk_kept HX0.out HG1.out) (gb_alloc w1 (.cells #[.int .i64 (n : Int), .slice a1 L2.length c1] 31) none))
                    go_wp2_with fail
                    have hgx := gb_alloc w1 (.cells #[.int .i64 (n : Int), .slice a1 L2.length c1] 31) none
                    have hbx := heap_at_alloc w1 (.cells #[.int .i64 (n : Int), .slice a1 L2.length c1] 31)
                    have HN1 : Hid (w0.heap.size ≤ w1.heap.size) := Lib.hid HG1.out.size
                    generalize hbn : w1.heap.size = b14 at *
                    generalize w1.alloc (.cells #[.int .i64 (n : Int), .slice a1 L2.length c1] 31) = w2 at *
                    have HB14 := Lib.hid hbx
                    have HG02 := Lib.hid (gb_same HG01.out hgx)
                    have HGX2 := Lib.hid (gb_same HG1.out hgx)
                    have HO2 := Lib.hid (HO1.out.grown hgx)
                    have HV2 := Lib.hid (HV1.out.grown hgx)
                    clear hgx hbx hbn
                    refine (HPP.out w2 f cs (HQ0.out.grown HGX2.out)).mono ?_
                    rintro e w3 ⟨v3, f3, cs3, rfl, ho3, hk3, hq3⟩
                    have HQ3 := Lib.hid hq3
                    have HG3 := Lib.hid (K2.new HG02.out HGS.out.1 HGS.out.2.1 hk3)
                    have HBP3 := Lib.hid ((hk3.block pb (lt_of_blk (blk_kept HPB0.out HGX2.out)) (fun e => HGS.out.2.2.1 e.symm) (fun e => HGS.out.2.2.2.1 e.symm)).trans (blk_kept HPB0.out HGX2.out))
                    have HB3 := Lib.hid ((hk3.block b14 (lt_of_blk HB14.out) (by have := HXL.out; have := HZX.out; have := HN1.out; omega) (by have := HXL.out; have := HZX.out; have := HN1.out; omega)).trans HB14.out)
                    have HO3 := Lib.hid (K2.own HO2.out hk3 (fun j hj => by have := (HO2.out.lt j hj).1; have := HXL.out; have := HZX.out; omega))
                    have HV3 := Lib.hid (K2.own HV2.out hk3 (fun j hj => by have := (HV2.out.lt j hj).1; have := HXL.out; have := HZX.out; omega))
                    have HT3 := Lib.hid ho3.rd
                    clear hk3 hq3 ho3 x0 x1 x2
                    go_wp2_with fail
                    refine (same_gW _ _ w3 L3 HT3.out.w HV3.out.rd.w).mono ?_
                    rintro e w5 ⟨rfl, hg5⟩
                    have HQ5 := Lib.hid (HQ3.out.grown hg5)
                    have HG5 := Lib.hid (gb_same HG3.out hg5)
                    have HBP5 := Lib.hid (blk_kept HBP3.out hg5)
                    have HB5 := Lib.hid (blk_kept HB3.out hg5)
                    have HO5 := Lib.hid (HO3.out.grown hg5)
                    clear hg5
                    obtain ⟨y0, y1⟩ := row2 HB5.out
                    go_wp2_with ((with_reducible refine is_store 31 9 120 ?_); go_must (refine st_row 31 9 120 pb _ #[.int .i64 (n : Int), .slice a1 L2.length c1] _ rfl rfl HBP5.out bsize rfl rfl ?_; intro w4 hb4 hg4; have HB4' := Lib.hid hb4; have HG4' := Lib.hid hg4; clear hb4 hg4))
                    have HGW4' := Lib.hid (gb_new HG5.out HG4'.out HGS.out.2.2.2.2)
                    have HQ4' := Lib.hid (HQ5.out.kept HG4'.out (by have := HGS.out; simp; omega) (by have := HGS.out; simp; omega))
                    have HP4' : Hid (IsP w4 g s pb n L2) := Lib.hid ⟨a1, c1, HB4'.out, HO5.out.rd.kept HG4'.out (fun j hj e => by have := (HO5.out.lt j hj).1; have := HXL.out; have := HZX.out; simp at e; omega), fun j hj => by have := HO5.out.lt j hj; have := HXL.out; have := HZX.out; have := HG4'.out.size; omega⟩
                    go_meet
                    case rel => exact ⟨rfl, f3, cs3, L2, HQ4', HP4', HGW4'⟩
                  · have h1' : (kind == 1) = false := by rw [beq_eq_false_iff_ne]; exact h1
                    by_cases h2 : kind = 2
                    · subst h2
                      clear h0 h1
                      have HPK := Lib.hid (peek_any HQ0.out z HOK.out.2.2)
                      go_wp2_with fail
                      refine HPK.out.mono ?_
                      rintro e w1 ⟨v1, rfl, ho1, hg1⟩
                      have HQ1 := Lib.hid (HQ0.out.grown hg1)
                      have HG01 := Lib.hid (gb_same HG0.out hg1)
                      have HBP1 := Lib.hid (blk_kept HPB0.out hg1)
                      have HRK := Lib.hid (rpeekB_any n (.slice a L.length c) L z w1 (HPR.out.grown hg1) (by have := HQ0.out.cnt; have := HNL.out; omega) HOK.out.2.2)
                      have HX1 := Lib.hid (blk_kept HX0.out hg1)
                      have HPR1 := Lib.hid (HPR.out.grown hg1)
                      unfold rB at HRK
                      unfold PeekP at HRK
                      generalize hT : L.take z.toNat = T at ho1 HRK
                      have HO1 := Lib.hid ho1
                      obtain ⟨a1, c1, rfl⟩ := ho1.rd.len
                      have HSZ1 : Hid (w0.heap.size ≤ w1.heap.size) := Lib.hid hg1.size
                      clear ho1 hg1 t0 t1 x0 x1 x2 hT HPK
                      obtain ⟨t0, t1⟩ := row2 HBP1.out
                      obtain ⟨x0, x1, x2⟩ := row3 HX1.out
                      go_wp2_with fail
                      refine HRK.out.mono ?_
                      rintro e w2 ⟨v2, rfl, ho2, hg2⟩
                      have HQ2' := Lib.hid (HQ1.out.grown hg2)
                      have HG02 := Lib.hid (gb_same HG01.out hg2)
                      have HBP2 := Lib.hid (blk_kept HBP1.out hg2)
                      have HPR2 := Lib.hid (HPR1.out.grown hg2)
                      have HO2 := Lib.hid (HO1.out.grown hg2)
                      have HV2 := Lib.hid ho2.rd
                      have HSZ2 : Hid (w0.heap.size ≤ w2.heap.size) := Lib.hid (Nat.le_trans HSZ1.out hg2.size)
                      clear ho2 hg2 t0 t1 x0 x1 x2
                      go_wp2_with fail
                      refine (same_gW _ _ w2 T HO2.out.rd.w HV2.out.w).mono ?_
                      rintro e w3 ⟨rfl, hg3⟩
                      have HQ3 := Lib.hid (HQ2'.out.grown hg3)
                      have HG3 := Lib.hid (gb_same HG02.out hg3)
                      have HBP3 := Lib.hid (blk_kept HBP2.out hg3)
                      have HPR3 := Lib.hid (HPR2.out.grown hg3)
                      have HO3 := Lib.hid (HO2.out.grown hg3)
                      have HSZ3 : Hid (w0.heap.size ≤ w3.heap.size) := Lib.hid (Nat.le_trans HSZ2.out hg3.size)
                      clear hg3
                      cases T with
                      | nil =>
                        have HP3 : Hid (IsP w3 g s pb n L) := Lib.hid ⟨a, c, HBP3.out, HPR3.out, fun j hj => by have := HPN.out j hj; have := HSZ3.out; omega⟩
                        simp only [List.length_nil]
                        go_wp2
                        go_meet
                        case rel => exact ⟨rfl, f, cs, L, HQ3, HP3, HG3⟩
                      | cons t T =>
                        obtain ⟨gt, ct, hv, hgt⟩ := HO3.out.at (by simp)
                        simp only [Value.slice.injEq] at hv
                        obtain ⟨rfl, _, rfl⟩ := hv
                        have hcl := HO3.out.cellAt rfl 0 t rfl
                        have hfz := HO3.out.frozenAt rfl 0
                        have hl0 : (0 : Int) < ((t :: T).length : Int) := by simp
                        generalize hTL : (t :: T).length = TL at *
                        have HGT : Hid (gt ≠ g ∧ gt ≠ s ∧ gt ≠ pb ∧ w0.heap.size ≤ gt) := Lib.hid (by have := HXL.out; have := HZX.out; have := hgt.1; omega)
                        clear hgt hTL
                        go_wp2
                        go_meet
                        case rel => exact ⟨rfl, f, cs, L, Lib.hid (HQ3.out.kept (gb_setCell _ _ _) (by have := HGT.out; simp; omega) (by have := HGT.out; simp; omega)), Lib.hid ⟨a, c, blk_kept' HBP3.out (gb_setCell _ _ _) (by have := HGT.out; simp; omega), HPR3.out.kept (gb_setCell _ _ _) (fun j hj e => by have := HPN.out j hj; have := HGT.out; simp at e; omega), fun j hj => by have := HPN.out j hj; have := HSZ3.out; simp; omega⟩, Lib.hid (gb_new HG3.out (gb_setCell _ _ _) (by have := HGT.out; have := HXL.out; have := HZX.out; show w.heap.size ≤ gt; omega))⟩
                    · have h2' : (kind == 2) = false := by rw [beq_eq_false_iff_ne]; exact h2
                      clear h0 h1 h2
                      go_wp2_with fail
                      have HG1 := Lib.hid (gb_same HG0.out (gb_drew w0 none))
                      have HQ1 := Lib.hid (HQ0.out.grown (gb_drew w0 none))
                      have HP1 := Lib.hid (HP0.out.grown (gb_drew w0 none))
                      have HS0 : Hid (w0.drew.cell? ⟨xb, 2, none⟩ = some (.slice ad bx.length cd) ∧ w0.drew.cell? ⟨pb, 0, none⟩ = some (.int .i64 (n : Int)) ∧ w0.drew.cell? ⟨pb, 1, none⟩ = some (.slice a L.length c)) := Lib.hid ⟨x2, t0, t1⟩
                      have HPR1 := Lib.hid (HPR.out.grown (gb_drew w0 none))
                      have HRD1 := Lib.hid (HRD0.out.grown (gb_drew w0 none))
                      have HXX1 := Lib.hid (And.intro (blk_kept HX0.out (gb_drew w0 none)) (blk_kept HPB0.out (gb_drew w0 none)))
                      clear x0 x1 x2 t0 t1
                      refine region_KL (fuel := 12) (listed := #[false, false, false, false, false, false, false, false, false, false, false, false]) (fun X => X.cell? ⟨xb, 2, none⟩ = some (.slice ad bx.length cd) ∧ X.cell? ⟨pb, 0, none⟩ = some (.int .i64 (n : Int)) ∧ X.cell? ⟨pb, 1, none⟩ = some (.slice a L.length c)) 11 (by kernel_rfl) rfl (by kernel_rfl) ?_
                      generalize w0.drew = w1 at *
                      refine wpAnyK_takeL (i := 0) (d := 78) (v := ?_) (T' := ?_) (listed' := #[true, false, false, false, false, false, false, false, false, false, false, false]) rfl rfl (by kernel_rfl) (fun _ _ _ h => h) rfl (Or.inl ⟨by rfl, ?_⟩) ?_ HS0.out ?_
                      rotate_left 2
                      · intro w hS; clear hS; go_simp; rfl
                      · simp only [List.setIfInBounds_toArray, List.set_cons_succ, List.set_cons_zero]; rfl
                      refine wpAnyK_takeL (i := 1) (d := 79) (v := ?_) (T' := ?_) (listed' := #[true, true, false, false, false, false, false, false, false, false, false, false]) rfl rfl (by kernel_rfl) (fun _ _ _ h => h) rfl (Or.inl ⟨by rfl, ?_⟩) ?_ HS0.out ?_
                      rotate_left 2
                      · intro w hS; clear hS; go_simp; rfl
                      · simp only [List.setIfInBounds_toArray, List.set_cons_succ, List.set_cons_zero]; rfl
                      refine wpAnyK_takeL (i := 2) (d := 80) (v := ?_) (T' := ?_) (listed' := #[true, true, true, false, false, false, false, false, false, false, false, false]) rfl rfl (by kernel_rfl) (fun _ _ _ h => h) rfl (Or.inl ⟨by rfl, ?_⟩) ?_ HS0.out ?_
                      rotate_left 2
                      · intro w hS; have t0 := hS.1; clear hS; go_simp; rfl
                      · simp only [List.setIfInBounds_toArray, List.set_cons_succ, List.set_cons_zero]; rfl
                      refine wpAnyK_takeL (i := 5) (d := 83) (v := ?_) (T' := ?_) (listed' := #[true, true, true, false, false, true, false, false, false, false, false, false]) rfl rfl (by kernel_rfl) (fun _ _ _ h => h) rfl (Or.inl ⟨by rfl, ?_⟩) ?_ HS0.out ?_
                      rotate_left 2
                      · intro w hS; have t0 := hS.2.1; have t1 := hS.2.2; clear hS; go_simp; rfl
                      · simp only [List.setIfInBounds_toArray, List.set_cons_succ, List.set_cons_zero]; rfl
                      refine wpAnyK_takeL (i := 6) (d := 84) (v := ?_) (T' := ?_) (listed' := #[true, true, true, false, false, true, true, false, false, false, false, false]) rfl rfl (by kernel_rfl) (fun _ _ _ h => h) rfl (Or.inl ⟨by rfl, ?_⟩) ?_ HS0.out ?_
                      rotate_left 2
                      · intro w hS; clear hS; go_simp; rfl
                      · simp only [List.setIfInBounds_toArray, List.set_cons_succ, List.set_cons_zero]; rfl
                      refine wpAnyK_takeL (i := 7) (d := 85) (v := ?_) (T' := ?_) (listed' := #[true, true, true, false, false, true, true, true, false, false, false, false]) rfl rfl (by kernel_rfl) (fun _ _ _ h => h) rfl (Or.inl ⟨by rfl, ?_⟩) ?_ HS0.out ?_
                      rotate_left 2
                      · intro w hS; have t0 := hS.1; clear hS; go_simp; rfl
                      · simp only [List.setIfInBounds_toArray, List.set_cons_succ, List.set_cons_zero]; rfl
                      refine wpAnyK_oneL (i := 3) (listed' := #[true, true, true, true, false, true, true, true, false, false, false, false]) (by kernel_rfl) rfl (by rfl) rfl ?_
                      intro K hK
                      go_simp
                      refine (first_any w1 _ bx HRD1.out).mono ?_
                      rintro e w2 ⟨rfl, rfl⟩
                      refine hK _ _ (fun _ => HS0.out) ?_
                      clear hK K
                      refine wpAnyK_oneL (i := 4) (listed' := #[true, true, true, true, true, true, true, true, false, false, false, false]) (by kernel_rfl) rfl (by rfl) rfl ?_
                      intro K hK
                      go_simp
                      refine (index_any HQ1.out (firstB bx)).mono ?_
                      rintro e w2 ⟨rfl, hg2⟩
                      have HG2' := Lib.hid (gb_same HG1.out hg2)
                      have HQ2' := Lib.hid (HQ1.out.grown hg2)
                      have HP2' := Lib.hid (HP1.out.grown hg2)
                      have HPR2 := Lib.hid (HPR1.out.grown hg2)
                      have HRD2 := Lib.hid (HRD1.out.grown hg2)
                      have HS2 : Hid (w2.cell? ⟨xb, 2, none⟩ = some (.slice ad bx.length cd) ∧ w2.cell? ⟨pb, 0, none⟩ = some (.int .i64 (n : Int)) ∧ w2.cell? ⟨pb, 1, none⟩ = some (.slice a L.length c)) := Lib.hid ⟨(row3 (blk_kept HXX1.out.1 hg2)).2.2, (row2 (blk_kept HXX1.out.2 hg2)).1, (row2 (blk_kept HXX1.out.2 hg2)).2⟩
                      have HXX2 := Lib.hid (And.intro (blk_kept HXX1.out.1 hg2) (blk_kept HXX1.out.2 hg2))
                      clear hg2
                      refine hK _ _ (fun _ => HS2.out) ?_
                      clear hK K
                      refine wpAnyK_oneL (i := 8) (listed' := #[true, true, true, true, true, true, true, true, true, false, false, false]) (by kernel_rfl) rfl (by rfl) rfl ?_
                      intro K hK
                      go_simp
                      refine (first_any w2 _ bx HRD2.out).mono ?_
                      rintro e w3 ⟨rfl, rfl⟩
                      refine hK _ _ (fun _ => HS2.out) ?_
                      clear hK K
                      refine wpAnyK_oneL (i := 9) (listed' := #[true, true, true, true, true, true, true, true, true, true, false, false]) (by kernel_rfl) rfl (by rfl) rfl ?_
                      intro K hK
                      go_simp
                      refine (rindexB_any n (.slice a L.length c) L (firstB bx) w2 HPR2.out).mono ?_
                      rintro e w3 ⟨rfl, hg3⟩
                      have HG3 := Lib.hid (gb_same HG2'.out hg3)
                      have HQ3 := Lib.hid (HQ2'.out.grown hg3)
                      have HP3 := Lib.hid (HP2'.out.grown hg3)
                      have HS3 : Hid (w3.cell? ⟨xb, 2, none⟩ = some (.slice ad bx.length cd) ∧ w3.cell? ⟨pb, 0, none⟩ = some (.int .i64 (n : Int)) ∧ w3.cell? ⟨pb, 1, none⟩ = some (.slice a L.length c)) := Lib.hid ⟨(row3 (blk_kept HXX2.out.1 hg3)).2.2, (row2 (blk_kept HXX2.out.2 hg3)).1, (row2 (blk_kept HXX2.out.2 hg3)).2⟩
                      clear hg3
                      generalize idxI L (firstB bx) = I
                      refine hK _ _ (fun _ => HS3.out) ?_
                      clear hK K
                      refine wpAnyK_takeL (i := 10) (d := 88) (v := ?_) (T' := ?_) (listed' := #[true, true, true, true, true, true, true, true, true, true, true, false]) rfl rfl (by kernel_rfl) (fun _ _ _ h => h) rfl (Or.inl ⟨by rfl, ?_⟩) ?_ HS3.out ?_
                      rotate_left 2
                      · intro w hS; clear hS; go_simp; rfl
                      · simp only [List.setIfInBounds_toArray, List.set_cons_succ, List.set_cons_zero]; rfl
                      refine wpAnyK_oneL (i := 11) (listed' := #[true, true, true, true, true, true, true, true, true, true, true, true]) (by kernel_rfl) rfl (by rfl) rfl ?_
                      intro K hK
                      go_simp
                      refine hK _ _ (fun h => Bool.noConfusion (show true = false from h)) ?_
                      clear hK K
                      refine wpAnyK_done (by kernel_rfl) ?_ _
                      go_wp2
                      go_meet
                      case rel => exact ⟨by simp, f, cs, L, HQ3, HP3, HG3⟩
              case rest =>
                obtain ⟨rfl, f, cs, L, HQ, HP, HG⟩ := hcut
                obtain ⟨a, c, hpb0, hpr0, hpn0⟩ := HP.out
                have HPB0 := Lib.hid (blk_kept hpb0 (gb_drew wc none))
                have HPR := Lib.hid (hpr0.grown (gb_drew wc none))
                have HQ1 := Lib.hid (HQ.out.grown (gb_drew wc none))
                have HP1 := Lib.hid (HP.out.grown (gb_drew wc none))
                have HG1 := Lib.hid (gb_same HG.out (gb_drew wc none))
                have HS0 := Lib.hid (row2 HPB0.out)
                have hcn := HQ.out.cnt
                have HFB : Hid (∀ W : World, ∀ f' cs', IsB W g s n f' cs' L → Calls Try.prog 27 #[.pointer (some ⟨g, 0, none⟩)] W (NumG ((n - L.length : Nat) : Int) W)) := Lib.hid (fun W f' cs' h => freeB_any h)
                obtain ⟨r0, hr0⟩ : ∃ r0, n - L.length = r0 := ⟨_, rfl⟩
                rw [hr0] at HFB
                have hsum : (L.length : Int) + (r0 : Int) = (n : Int) := by omega
                have hwn : IntKind.i64.wrap (n : Int) = (n : Int) := by have := HNL.out; rw [IntKind.wrap_i64] <;> omega
                have hrs : (r0 : Int) ≤ 4096 := by have := HNL.out; omega
                have hls : (L.length : Int) ≤ 4096 := by have := HNL.out; omega
                have HLS : Hid (L.length ≤ 4096) := Lib.hid (by omega)
                clear hpb0 hpr0 hpn0 hr0 hcn
                go_wp2_with fail
                refine region_KL (fuel := 28) (listed := #[false, false, false, false, false, false, false, false, false, false, false, false, false, false, false, false, false, false, false, false, false, false, false, false, false, false, false, false]) (fun X => X.cell? ⟨pb, 0, none⟩ = some (.int .i64 (n : Int)) ∧ X.cell? ⟨pb, 1, none⟩ = some (.slice a L.length c)) 27 (by kernel_rfl) rfl (by kernel_rfl) ?_
                generalize wc.drew = v1 at *
                have HPB1 := Lib.hid HPB0.out
                have HPR1 := Lib.hid HPR.out
                refine wpAnyK_takeL (i := 0) (d := 141) (v := ?_) (T' := ?_) (listed' := #[true, false, false, false, false, false, false, false, false, false, false, false, false, false, false, false, false, false, false, false, false, false, false, false, false, false, false, false]) rfl rfl (by kernel_rfl) (fun _ _ _ h => h) rfl (Or.inl ⟨by rfl, ?_⟩) ?_ HS0.out ?_
                rotate_left 2
                · intro w hS; clear hS; go_simp; rfl
                · simp only [List.setIfInBounds_toArray, List.set_cons_succ, List.set_cons_zero]; rfl
                refine wpAnyK_takeL (i := 1) (d := 142) (v := ?_) (T' := ?_) (listed' := #[true, true, false, false, false, false, false, false, false, false, false, false, false, false, false, false, false, false, false, false, false, false, false, false, false, false, false, false]) rfl rfl (by kernel_rfl) (fun _ _ _ h => h) rfl (Or.inl ⟨by rfl, ?_⟩) ?_ HS0.out ?_
                rotate_left 2
                · intro w hS; clear hS; go_simp; rfl
                · simp only [List.setIfInBounds_toArray, List.set_cons_succ, List.set_cons_zero]; rfl
                refine wpAnyK_takeL (i := 2) (d := 143) (v := ?_) (T' := ?_) (listed' := #[true, true, true, false, false, false, false, false, false, false, false, false, false, false, false, false, false, false, false, false, false, false, false, false, false, false, false, false]) rfl rfl (by kernel_rfl) (fun _ _ _ h => h) rfl (Or.inl ⟨by rfl, ?_⟩) ?_ HS0.out ?_
                rotate_left 2
                · intro w hS; clear hS; go_simp; rfl
                · simp only [List.setIfInBounds_toArray, List.set_cons_succ, List.set_cons_zero]; rfl
                refine wpAnyK_takeL (i := 3) (d := 144) (v := ?_) (T' := ?_) (listed' := #[true, true, true, true, false, false, false, false, false, false, false, false, false, false, false, false, false, false, false, false, false, false, false, false, false, false, false, false]) rfl rfl (by kernel_rfl) (fun _ _ _ h => h) rfl (Or.inl ⟨by rfl, ?_⟩) ?_ HS0.out ?_
                rotate_left 2
                · intro w hS; clear hS; go_simp; rfl
                · simp only [List.setIfInBounds_toArray, List.set_cons_succ, List.set_cons_zero]; rfl
                refine wpAnyK_takeL (i := 5) (d := 146) (v := ?_) (T' := ?_) (listed' := #[true, true, true, true, false, true, false, false, false, false, false, false, false, false, false, false, false, false, false, false, false, false, false, false, false, false, false, false]) rfl rfl (by kernel_rfl) (fun _ _ _ h => h) rfl (Or.inl ⟨by rfl, ?_⟩) ?_ HS0.out ?_
                rotate_left 2
                · intro w hS; clear hS; go_simp; rfl
                · simp only [List.setIfInBounds_toArray, List.set_cons_succ, List.set_cons_zero]; rfl
                refine wpAnyK_takeL (i := 6) (d := 147) (v := ?_) (T' := ?_) (listed' := #[true, true, true, true, false, true, true, false, false, false, false, false, false, false, false, false, false, false, false, false, false, false, false, false, false, false, false, false]) rfl rfl (by kernel_rfl) (fun _ _ _ h => h) rfl (Or.inl ⟨by rfl, ?_⟩) ?_ HS0.out ?_
                rotate_left 2
                · intro w hS; have t0 := hS.2; clear hS; go_simp; rfl
                · simp only [List.setIfInBounds_toArray, List.set_cons_succ, List.set_cons_zero]; rfl
                refine wpAnyK_takeL (i := 7) (d := 148) (v := ?_) (T' := ?_) (listed' := #[true, true, true, true, false, true, true, true, false, false, false, false, false, false, false, false, false, false, false, false, false, false, false, false, false, false, false, false]) rfl rfl (by kernel_rfl) (fun _ _ _ h => h) rfl (Or.inl ⟨by rfl, ?_⟩) ?_ HS0.out ?_
                rotate_left 2
                · intro w hS; clear hS; go_simp; rfl
                · simp only [List.setIfInBounds_toArray, List.set_cons_succ, List.set_cons_zero]; rfl
                refine wpAnyK_oneL (i := 4) (listed' := #[true, true, true, true, true, true, true, true, false, false, false, false, false, false, false, false, false, false, false, false, false, false, false, false, false, false, false, false]) (by kernel_rfl) rfl (by rfl) rfl ?_
                intro K hK
                go_simp
                refine (lenB_any HQ1.out).mono ?_
                rintro e v2 ⟨rfl, rfl⟩
                refine hK _ _ (fun _ => HS0.out) ?_
                clear hK K
                refine wpAnyK_takeL (i := 8) (d := 149) (v := ?_) (T' := ?_) (listed' := #[true, true, true, true, true, true, true, true, true, false, false, false, false, false, false, false, false, false, false, false, false, false, false, false, false, false, false, false]) rfl rfl (by kernel_rfl) (fun _ _ _ h => h) rfl (Or.inl ⟨by rfl, ?_⟩) ?_ HS0.out ?_
                rotate_left 2
                · intro w hS; clear hS; go_simp; rfl
                · simp only [List.setIfInBounds_toArray, List.set_cons_succ, List.set_cons_zero]; rfl
                refine wpAnyK_takeL (i := 9) (d := 150) (v := ?_) (T' := ?_) (listed' := #[true, true, true, true, true, true, true, true, true, true, false, false, false, false, false, false, false, false, false, false, false, false, false, false, false, false, false, false]) rfl rfl (by kernel_rfl) (fun _ _ _ h => h) rfl (Or.inl ⟨by rfl, ?_⟩) ?_ HS0.out ?_
                rotate_left 2
                · intro w hS; clear hS; go_simp; rfl
                · simp only [List.setIfInBounds_toArray, List.set_cons_succ, List.set_cons_zero]; rfl
                refine wpAnyK_takeL (i := 10) (d := 151) (v := ?_) (T' := ?_) (listed' := #[true, true, true, true, true, true, true, true, true, true, true, false, false, false, false, false, false, false, false, false, false, false, false, false, false, false, false, false]) rfl rfl (by kernel_rfl) (fun _ _ _ h => h) rfl (Or.inl ⟨by rfl, ?_⟩) ?_ HS0.out ?_
                rotate_left 2
                · intro w hS; clear hS; go_simp; rfl
                · simp only [List.setIfInBounds_toArray, List.set_cons_succ, List.set_cons_zero]; rfl
                refine wpAnyK_takeL (i := 11) (d := 152) (v := ?_) (T' := ?_) (listed' := #[true, true, true, true, true, true, true, true, true, true, true, true, false, false, false, false, false, false, false, false, false, false, false, false, false, false, false, false]) rfl rfl (by kernel_rfl) (fun _ _ _ h => h) rfl (Or.inl ⟨by rfl, ?_⟩) ?_ HS0.out ?_
                rotate_left 2
                · intro w hS; clear hS; go_simp; rfl
                · simp only [List.setIfInBounds_toArray, List.set_cons_succ, List.set_cons_zero]; rfl
                refine wpAnyK_takeL (i := 13) (d := 154) (v := ?_) (T' := ?_) (listed' := #[true, true, true, true, true, true, true, true, true, true, true, true, false, true, false, false, false, false, false, false, false, false, false, false, false, false, false, false]) rfl rfl (by kernel_rfl) (fun _ _ _ h => h) rfl (Or.inl ⟨by rfl, ?_⟩) ?_ HS0.out ?_
                rotate_left 2
                · intro w hS; clear hS; go_simp; rfl
                · simp only [List.setIfInBounds_toArray, List.set_cons_succ, List.set_cons_zero]; rfl
                refine wpAnyK_takeL (i := 16) (d := 157) (v := ?_) (T' := ?_) (listed' := #[true, true, true, true, true, true, true, true, true, true, true, true, false, true, false, false, true, false, false, false, false, false, false, false, false, false, false, false]) rfl rfl (by kernel_rfl) (fun _ _ _ h => h) rfl (Or.inl ⟨by rfl, ?_⟩) ?_ HS0.out ?_
                rotate_left 2
                · intro w hS; clear hS; go_simp; rfl
                · simp only [List.setIfInBounds_toArray, List.set_cons_succ, List.set_cons_zero]; rfl
                refine wpAnyK_takeL (i := 17) (d := 158) (v := ?_) (T' := ?_) (listed' := #[true, true, true, true, true, true, true, true, true, true, true, true, false, true, false, false, true, true, false, false, false, false, false, false, false, false, false, false]) rfl rfl (by kernel_rfl) (fun _ _ _ h => h) rfl (Or.inl ⟨by rfl, ?_⟩) ?_ HS0.out ?_
                rotate_left 2
                · intro w hS; have t0 := hS.1; clear hS; go_simp; rfl
                · simp only [List.setIfInBounds_toArray, List.set_cons_succ, List.set_cons_zero]; rfl
                refine wpAnyK_oneL (i := 12) (listed' := #[true, true, true, true, true, true, true, true, true, true, true, true, true, true, false, false, true, true, false, false, false, false, false, false, false, false, false, false]) (by kernel_rfl) rfl (by rfl) rfl ?_
                intro K hK
                go_simp
                refine (lenB_any HQ1.out).mono ?_
                rintro e v2 ⟨rfl, rfl⟩
                refine hK _ _ (fun _ => HS0.out) ?_
                clear hK K
                refine wpAnyK_oneL (i := 14) (listed' := #[true, true, true, true, true, true, true, true, true, true, true, true, true, true, true, false, true, true, false, false, false, false, false, false, false, false, false, false]) (by kernel_rfl) rfl (by rfl) rfl ?_
                intro K hK
                go_simp
                refine (HFB.out _ _ _ HQ1.out).mono ?_
                rintro e v2 ⟨rfl, hg2⟩
                have HG2 := Lib.hid (gb_same HG1.out hg2)
                have HPB2 := Lib.hid (blk_kept HPB1.out hg2)
                have HPR2 := Lib.hid (HPR1.out.grown hg2)
                have HQ2 := Lib.hid (HQ1.out.grown hg2)
                have HP2 := Lib.hid (HP1.out.grown hg2)
                have HS2 := Lib.hid (row2 HPB2.out)
                clear hg2
                refine hK _ _ (fun _ => HS2.out) ?_
                clear hK K
                refine wpAnyK_takeL (i := 15) (d := 156) (v := ?_) (T' := ?_) (listed' := #[true, true, true, true, true, true, true, true, true, true, true, true, true, true, true, true, true, true, false, false, false, false, false, false, false, false, false, false]) rfl rfl (by kernel_rfl) (fun _ _ _ h => h) rfl (Or.inl ⟨by rfl, ?_⟩) ?_ HS2.out ?_
                rotate_left 2
                · intro w hS; clear hS; go_simp; rfl
                · simp only [List.setIfInBounds_toArray, List.set_cons_succ, List.set_cons_zero]; rfl
                refine wpAnyK_takeL (i := 18) (d := 159) (v := ?_) (T' := ?_) (listed' := #[true, true, true, true, true, true, true, true, true, true, true, true, true, true, true, true, true, true, true, false, false, false, false, false, false, false, false, false]) rfl rfl (by kernel_rfl) (fun _ _ _ h => h) rfl (Or.inl ⟨by rfl, ?_⟩) ?_ HS2.out ?_
                rotate_left 2
                · intro w hS; clear hS; go_simp; rfl
                · simp only [List.setIfInBounds_toArray, List.set_cons_succ, List.set_cons_zero]; rfl
                refine wpAnyK_takeL (i := 19) (d := 160) (v := ?_) (T' := ?_) (listed' := #[true, true, true, true, true, true, true, true, true, true, true, true, true, true, true, true, true, true, true, true, false, false, false, false, false, false, false, false]) rfl rfl (by kernel_rfl) (fun _ _ _ h => h) rfl (Or.inl ⟨by rfl, ?_⟩) ?_ HS2.out ?_
                rotate_left 2
                · intro w hS; clear hS; go_simp; rfl
                · simp only [List.setIfInBounds_toArray, List.set_cons_succ, List.set_cons_zero]; rfl
                refine wpAnyK_takeL (i := 20) (d := 161) (v := ?_) (T' := ?_) (listed' := #[true, true, true, true, true, true, true, true, true, true, true, true, true, true, true, true, true, true, true, true, true, false, false, false, false, false, false, false]) rfl rfl (by kernel_rfl) (fun _ _ _ h => h) rfl (Or.inl ⟨by rfl, ?_⟩) ?_ HS2.out ?_
                rotate_left 2
                · intro w hS; clear hS; go_simp; rfl
                · simp only [List.setIfInBounds_toArray, List.set_cons_succ, List.set_cons_zero]; rfl
                refine wpAnyK_takeL (i := 21) (d := 162) (v := ?_) (T' := ?_) (listed' := #[true, true, true, true, true, true, true, true, true, true, true, true, true, true, true, true, true, true, true, true, true, true, false, false, false, false, false, false]) rfl rfl (by kernel_rfl) (fun _ _ _ h => h) rfl (Or.inl ⟨by rfl, ?_⟩) ?_ HS2.out ?_
                rotate_left 2
                · intro w hS; clear hS; go_simp; rfl
                · simp only [List.setIfInBounds_toArray, List.set_cons_succ, List.set_cons_zero]; rfl
                refine wpAnyK_takeL (i := 23) (d := 164) (v := ?_) (T' := ?_) (listed' := #[true, true, true, true, true, true, true, true, true, true, true, true, true, true, true, true, true, true, true, true, true, true, false, true, false, false, false, false]) rfl rfl (by kernel_rfl) (fun _ _ _ h => h) rfl (Or.inl ⟨by rfl, ?_⟩) ?_ HS2.out ?_
                rotate_left 2
                · intro w hS; have t0 := hS.1; have t1 := hS.2; clear hS; go_simp; rfl
                · simp only [List.setIfInBounds_toArray, List.set_cons_succ, List.set_cons_zero]; rfl
                refine wpAnyK_oneL (i := 22) (listed' := #[true, true, true, true, true, true, true, true, true, true, true, true, true, true, true, true, true, true, true, true, true, true, true, true, false, false, false, false]) (by kernel_rfl) rfl (by rfl) rfl ?_
                intro K hK
                go_simp
                refine (encodeB_any HQ2.out).mono ?_
                rintro e v3 ⟨x3, rfl, ho3, hg3⟩
                have HX3 := Lib.hid ho3
                have HG3 := Lib.hid (gb_same HG2.out hg3)
                have HPB3 := Lib.hid (blk_kept HPB2.out hg3)
                have HPR3 := Lib.hid (HPR2.out.grown hg3)
                have HQ3 := Lib.hid (HQ2.out.grown hg3)
                have HP3 := Lib.hid (HP2.out.grown hg3)
                have HS3 := Lib.hid (row2 HPB3.out)
                clear hg3 ho3
                refine hK _ _ (fun _ => HS3.out) ?_
                clear hK K
                refine wpAnyK_oneL (i := 24) (listed' := #[true, true, true, true, true, true, true, true, true, true, true, true, true, true, true, true, true, true, true, true, true, true, true, true, true, false, false, false]) (by kernel_rfl) rfl (by rfl) rfl ?_
                intro K hK
                go_simp
                have hre := rencB_any n (.slice a L.length c) L v3 HPR3.out HLS.out HNL.out
                unfold rB at hre
                refine hre.mono ?_
                rintro e v4 ⟨x4, rfl, ho4, hg4⟩
                have HX4 := Lib.hid ho4
                have HY4 := Lib.hid (HX3.out.grown hg4)
                have HG4 := Lib.hid (gb_same HG3.out hg4)
                have HPB4 := Lib.hid (blk_kept HPB3.out hg4)
                have HPR4 := Lib.hid (HPR3.out.grown hg4)
                have HQ4 := Lib.hid (HQ3.out.grown hg4)
                have HP4 := Lib.hid (HP3.out.grown hg4)
                have HS4 := Lib.hid (row2 HPB4.out)
                clear hg4 ho4 hre
                refine hK _ _ (fun _ => HS4.out) ?_
                clear hK K
                refine wpAnyK_oneL (i := 25) (listed' := #[true, true, true, true, true, true, true, true, true, true, true, true, true, true, true, true, true, true, true, true, true, true, true, true, true, true, false, false]) (by kernel_rfl) rfl (by rfl) rfl ?_
                intro K hK
                go_simp
                refine (same_gW _ _ v4 (encQ n L) HY4.out.rd.w HX4.out.rd.w).mono ?_
                rintro e v5 ⟨rfl, hg5⟩
                have HG5 := Lib.hid (gb_same HG4.out hg5)
                have HPB5 := Lib.hid (blk_kept HPB4.out hg5)
                have HPR5 := Lib.hid (HPR4.out.grown hg5)
                have HQ5 := Lib.hid (HQ4.out.grown hg5)
                have HP5 := Lib.hid (HP4.out.grown hg5)
                have HS5 := Lib.hid (row2 HPB5.out)
                clear hg5
                refine hK _ _ (fun _ => HS5.out) ?_
                clear hK K
                refine wpAnyK_takeL (i := 26) (d := 167) (v := ?_) (T' := ?_) (listed' := #[true, true, true, true, true, true, true, true, true, true, true, true, true, true, true, true, true, true, true, true, true, true, true, true, true, true, true, false]) rfl rfl (by kernel_rfl) (fun _ _ _ h => h) rfl (Or.inl ⟨by rfl, ?_⟩) ?_ HS5.out ?_
                rotate_left 2
                · intro w hS; clear hS; go_simp; rfl
                · simp only [List.setIfInBounds_toArray, List.set_cons_succ, List.set_cons_zero]; rfl
                refine wpAnyK_oneL (i := 27) (listed' := #[true, true, true, true, true, true, true, true, true, true, true, true, true, true, true, true, true, true, true, true, true, true, true, true, true, true, true, true]) (by kernel_rfl) rfl (by rfl) rfl ?_
                intro K hK
                go_simp
                refine hK _ _ (fun h => Bool.noConfusion (show true = false from h)) ?_
                clear hK K
                refine wpAnyK_done (by kernel_rfl) ?_ _
                go_wp2
                go_roundw
                case rel => exact ⟨k + 1, f, cs, L, by omega, by go_num, HQ5, HP5, HG5⟩
                case measure => simp [intOf]; omega
            · obtain rfl : k = ps.length := by omega
              clear hlt
              go_wp2
              go_ret
              exact ⟨rfl, HG.out⟩
end Go.Proofs.Ytjidkaeglhfajaa
