/-
  law.RingQueue: the walk (under way).
-/
import Derived.Test.YtfldooljmjeaoaaMGd
import Derived.Deep.CutBlock
namespace Go.Proofs.Ytfldooljmjeaoaa
open Go.RowKit Go.Shelf

theorem data_ne {X : World} {dv : Value} {l : List UInt8} {pb k c : Nat} {n : Int} {a : Option Addr} {T : TypeId} (h : RdW X dv l) (hl : l ≠ []) (hb : X.heap[pb]? = some (.cells #[.int .i64 n, .slice a k c] T (0, 0))) : dv.ownBlock ≠ some pb := by
  intro e
  rcases h with h2 | ⟨_, h3, h4⟩
  · rcases h2 with ⟨rfl, _⟩ | ⟨b, off, cap, rfl, _, _, h5⟩
    · cases e
    · simp [Value.ownBlock] at e
      subst e
      obtain ⟨x, xs, rfl⟩ : ∃ x xs, l = x :: xs := by cases l with | nil => exact absurd rfl hl | cons x xs => exact ⟨x, xs, rfl⟩
      have h6 := h5 0 x rfl
      simp only [World.cell?, hb] at h6
      match off, h6 with
      | 0, h6 => simp [bv] at h6
      | 1, h6 => simp [bv] at h6
      | (m + 2), h6 => simp at h6
  · first | exact hl h3 | exact hl h4
theorem callsize : (Try.prog.info? 41).map (·.size) = some 11 := by kernel_rfl
/-- both queues, the reference's in its box -/
structure QB (w0 X : World) (pb B g n : Nat) (v : Value) (qs : List GP) (a : Option Addr) (c : Nat) (ps : List GP) : Prop where
  q : QL w0 X B g n v qs (.slice a ps.length c) ps
  b : X.heap[pb]? = some (.cells #[.int .i64 (n : Int), .slice a ps.length c] 32 (0, 0))
  ng : pb ≠ g
  nv : v.ownBlock ≠ some pb
  nu : (Value.slice a ps.length c).ownBlock ≠ some pb
  lo : w0.heap.size ≤ pb
theorem QB.grown {w0 X Y : World} {pb B g n c : Nat} {v : Value} {qs ps : List GP} {a : Option Addr} (h : QB w0 X pb B g n v qs a c ps) (hg : X.grownBy Y none) : QB w0 Y pb B g n v qs a c ps := ⟨h.q.grown hg, blk_kept h.b hg, h.ng, h.nv, h.nu, h.lo⟩
def BothM (w0 X : World) (pb : Nat) (qv : Value) : Option (Nat × List Mg) → Prop
  | none => qv = .pointer none
  | some r => ∃ B g v qs a c ps, qv = .pointer (some ⟨g, 0, none⟩) ∧ QB w0 X pb B g r.1 v qs a c ps
/-- what the reference's First answers, in one form -/
def FF (rs : List GP) (fm : Mg) (fv : Value) (hs : Bool) : Prop := (rs = [] ∧ hs = false ∧ fm = zMg ∧ fv = .slice none 0 0) ∨ (∃ rs', rs = (fm, fv) :: rs' ∧ hs = true)
theorem rFst_form (rs : List GP) (h : ∀ q ∈ rs, q.2.oneCell' = true) : ∃ (fm : Mg) (fv : Value) (hs : Bool), rFst rs = .tuple #[.agg (fm.row fv), .bool hs] ∧ fv.oneCell' = true ∧ FF rs fm fv hs := by
  cases rs with
  | nil => exact ⟨zMg, .slice none 0 0, false, rfl, rfl, .inl ⟨rfl, rfl, rfl, rfl⟩⟩
  | cons p rs => exact ⟨p.1, p.2, true, rfl, h p (List.mem_cons_self ..), .inr ⟨rs, rfl, rfl⟩⟩
theorem QB.store {w0 X Y : World} {pb B g n c k0 c0 : Nat} {v : Value} {qs ps : List GP} {a a0 : Option Addr} {n0 : Int} {T : TypeId} (h : QL w0 X B g n v qs (.slice a ps.length c) ps) (hb : X.heap[pb]? = some (.cells #[.int .i64 n0, .slice a0 k0 c0] T (0, 0))) (ng : pb ≠ g) (nv : v.ownBlock ≠ some pb) (nu : (Value.slice a ps.length c).ownBlock ≠ some pb) (lo : w0.heap.size ≤ pb)
    (hY : Y.heap[pb]? = some (.cells #[.int .i64 (n : Int), .slice a ps.length c] 32 (0, 0))) (hg : X.grownBy Y (some pb)) : QB w0 Y pb B g n v qs a c ps :=
  ⟨h.kept hg lo ng nv nu (fun q hq hz => data_ne (h.m.data q hq).w hz hb) (fun q hq hz => data_ne (h.dt q hq) hz hb), hY, ng, nv, nu, lo⟩
theorem rdw_none (X : World) : RdW X (.slice none 0 0) [] := (show Rd X (.slice none 0 0) [] from .inl ⟨rfl, rfl⟩).w
theorem one_of {X : World} {v : Value} {l : List UInt8} (h : RdW X v l) : v.oneCell' = true := by
  obtain ⟨a, c, e⟩ := h.len
  rw [e]; rfl
theorem fv_rd {w0 X : World} {pb B g n c : Nat} {v : Value} {qs rs : List GP} {a : Option Addr} (h : QB w0 X pb B g n v qs a c rs) {fm : Mg} {fv : Value} {hs : Bool} (hf : FF rs fm fv hs) : RdW X fv fm.z := by
  rcases hf with ⟨_, _, rfl, rfl⟩ | ⟨rs', rfl, _⟩
  · exact rdw_none X
  · exact h.q.dt (fm, fv) (List.mem_cons_self ..)
/-- the program's first message is the reference's -/
theorem head_of {w0 X : World} {pb B g n c : Nat} {v : Value} {qs rs : List GP} {a : Option Addr} (h : QB w0 X pb B g n v qs a c rs) {fm : Mg} {fv : Value} {hs : Bool} (hf : FF rs fm fv hs) : (rs = [] ∧ qs = [] ∧ hs = false ∧ fm = zMg) ∨ (∃ rs' qd qs', rs = (fm, fv) :: rs' ∧ qs = (fm, qd) :: qs' ∧ hs = true ∧ rs'.map (·.1) = qs'.map (·.1)) := by
  have he := h.q.eq
  rcases hf with ⟨rfl, hs, rfl, _⟩ | ⟨rs', rfl, hs⟩
  · cases qs with
    | nil => exact .inl ⟨rfl, rfl, hs, rfl⟩
    | cons q qs => simp at he
  · cases qs with
    | nil => simp at he
    | cons q qs =>
      simp only [List.map_cons, List.cons.injEq] at he
      obtain ⟨qm, qd⟩ := q
      obtain ⟨rfl, h2⟩ := he
      exact .inr ⟨rs', qd, qs, rfl, rfl, hs, h2⟩
theorem first_q {w0 X : World} {pb B g n c : Nat} {v : Value} {qs rs : List GP} {a : Option Addr} (h : QB w0 X pb B g n v qs a c rs) {fm : Mg} {fv : Value} {hs : Bool} (hf : FF rs fm fv hs) :
    Calls Try.prog 16 #[.pointer (some ⟨g, 0, none⟩)] X fun e w' => ∃ dv', e = .returned (.tuple #[.agg (fm.row dv'), .bool hs]) ∧ RdW w' dv' fm.z ∧ X.grownBy w' none := by
  rcases head_of h hf with ⟨rfl, rfl, rfl, rfl⟩ | ⟨rs', qd, qs', rfl, rfl, rfl, _⟩
  · exact (firstM_none h.q.m).mono (fun e w' he => ⟨_, he.1, rdw_none w', he.2⟩)
  · exact (firstM_any h.q.m (h.q.ok _ (List.mem_cons_self ..)).2).mono (fun e w' ⟨dv', he, ho, hg⟩ => ⟨dv', he, ho.rd.w, hg⟩)
theorem take_q {w0 X : World} {pb B g n c : Nat} {v : Value} {qs rs : List GP} {a : Option Addr} (h : QB w0 X pb B g n v qs a c rs) {fm : Mg} {fv : Value} {hs : Bool} (hf : FF rs fm fv hs) :
    Calls Try.prog 13 #[.pointer (some ⟨g, 0, none⟩)] X fun e w' => ∃ dv' v', e = .returned (.tuple #[.agg (fm.row dv'), .bool hs]) ∧ RdW w' dv' fm.z ∧ IsM w' B g n v' qs.tail ∧ KM X w' g v ∧ v'.ownBlock = v.ownBlock := by
  rcases head_of h hf with ⟨rfl, rfl, rfl, rfl⟩ | ⟨rs', qd, qs', rfl, rfl, rfl, _⟩
  · exact (takeM_none h.q.m).mono (fun e w' he => ⟨_, v, he.1, rdw_none w', h.q.m.grown he.2, KM.of he.2 (.inl rfl), rfl⟩)
  · exact (takeM_any h.q.m (h.q.ok _ (List.mem_cons_self ..)).2).mono (fun e w' ⟨dv', v', he, ho, hi, hk, hb⟩ => ⟨dv', v', he, ho.rd.w, hi, hk, hb⟩)
theorem QL.took {w0 X Y Z : World} {B g n : Nat} {v v3 u u' : Value} {qs rs : List GP} (h : QL w0 X B g n v qs u rs) (hm : IsM Y B g n v3 qs.tail) (hk : KM X Y g v) (hv : v3.ownBlock = v.ownBlock) (hg : Y.grownBy Z none) (hr : RdG Z u' rs.tail) (hu : ∀ j, u'.ownBlock = some j → u.ownBlock = some j ∨ (Y.heap.size ≤ j ∧ j < Z.heap.size)) : QL w0 Z B g n v3 qs.tail u' rs.tail := by
  have hsz := hk.2.2.2.1
  have hsz2 := hg.size
  refine ⟨hm.grown hg, fun p hp => h.ok p (List.mem_of_mem_tail hp), hr, fun p hp => ((h.dt p (List.mem_of_mem_tail hp)).km hk (fun hz k hk => ⟨(h.dsep p (List.mem_of_mem_tail hp) hz k hk).1, (h.dsep p (List.mem_of_mem_tail hp) hz k hk).2.1⟩)).grown hg, by rw [List.map_tail, List.map_tail, h.eq], fun k hk => ?_, fun p hp hz k hk => ?_, gb_same (KM.new h.gr h.g0 (fun k e => (h.m.row.lt k e).1) h.b0 hk) hg, h.b0, by have := h.b1; omega, h.g0⟩
  · rw [hv]
    rcases hu k hk with h1 | h1
    · obtain ⟨a1, a2, a3⟩ := h.sep k h1
      exact ⟨a1, a2, by omega⟩
    · exact ⟨by have := h.m.lt; omega, fun e => by have := (h.m.row.lt k e).2; omega, h1.2⟩
  · rw [hv]
    obtain ⟨a1, a2, a3⟩ := h.dsep p (List.mem_of_mem_tail hp) hz k hk
    exact ⟨a1, a2, by omega⟩
theorem fv_km {w0 X Y : World} {pb B g n c : Nat} {v : Value} {qs rs : List GP} {a : Option Addr} (h : QB w0 X pb B g n v qs a c rs) {fm : Mg} {fv : Value} {hs : Bool} (hf : FF rs fm fv hs) (hk : KM X Y g v) : RdW Y fv fm.z := by
  rcases hf with ⟨_, _, rfl, rfl⟩ | ⟨rs', rfl, _⟩
  · exact rdw_none Y
  · exact (h.q.dt (fm, fv) (List.mem_cons_self ..)).km hk (fun hz k e => ⟨(h.q.dsep _ (List.mem_cons_self ..) hz k e).1, (h.q.dsep _ (List.mem_cons_self ..) hz k e).2.1⟩)
theorem blk_km {X Y : World} {g b : Nat} {v : Value} {o : Obj} (h : X.heap[b]? = some o) (hk : KM X Y g v) (h1 : b ≠ g) (h2 : v.ownBlock ≠ some b) : Y.heap[b]? = some o := by
  rw [hk.2.2.2.2 b (lt_of_blk h) h1 h2]; exact h
theorem rtake_q (n : Nat) (a : Option Addr) (k c : Nat) (rs : List GP) (X : World) (hr : RdG X (.slice a k c) rs) (hlt : ∀ j, (Value.slice a k c).ownBlock = some j → j < X.heap.size) (h1 : ∀ q ∈ rs, q.2.oneCell' = true) (hl : rs.length ≤ 200) :
    Calls Try.prog 15 #[.agg #[.int .i64 (n : Int), .slice a k c]] X fun e w' => ∃ a' c', e = .returned (.agg #[.int .i64 (n : Int), .slice a' rs.tail.length c']) ∧ RdG w' (.slice a' rs.tail.length c') rs.tail ∧ X.grownBy w' none ∧ ∀ j, (Value.slice a' rs.tail.length c').ownBlock = some j → (Value.slice a k c).ownBlock = some j ∨ (X.heap.size ≤ j ∧ j < w'.heap.size) := by
  cases rs with
  | nil =>
    obtain ⟨a0, c0, he, _, _⟩ := hr.len
    simp only [Value.slice.injEq] at he
    obtain ⟨rfl, rfl, rfl⟩ := he
    exact (rtakeM_none n _ X hr).mono (fun e w' he => ⟨a, c, he.1, hr.grown he.2, he.2, fun j hj => .inl hj⟩)
  | cons p rs =>
    refine (rtakeM_any n _ p rs X hr (fun q hq => h1 q (List.mem_cons_of_mem _ hq)) (by simp at hl; omega)).mono ?_
    rintro e w' ⟨u, rfl, ho, hg⟩
    obtain ⟨a', c', rfl, _, _⟩ := ho.rd.len
    exact ⟨a', c', rfl, ho.rd, hg, fun j hj => .inr ⟨(ho.lt j hj).1, (ho.lt j hj).2⟩⟩
set_option maxRecDepth 100000 in
set_option maxHeartbeats 4000000 in
theorem ringQueue_any (bv lv : Value) (b : List UInt8) (ps : List CP) (size : Int) (w : World) (hb : Rd w bv b) (hbl : ∀ k, bv.ownBlock = some k → k < w.heap.size) (hl : RdCl w lv ps) (hps : ∀ p ∈ ps, OkM p.2.2.1 ∧ OkI p.1 ∧ OkI p.2.1) :
    Calls Try.prog 3 #[bv, lv, .int .i64 size] w fun e w' => e = .returned (.bool true) ∧ w.grownBy w' none := by
  have hsb := hb.small
  have hsm := hl.1.small
  have HA := Lib.hid (awake_any w)
  have HFW := Lib.hid (fun (W : World) (hg : w.grownBy W none) => fewC_any lv ps W (hl.grown hg))
  obtain ⟨ab, cb, rfl⟩ := hb.len
  obtain ⟨al, cl, rfl⟩ := hl.1.len
  have HBV := Lib.hid hb
  have HBL := Lib.hid hbl
  have HL := Lib.hid hl
  have HPS := Lib.hid hps
  clear hb hbl hl hps
  by_cases hlb : 1000 < b.length
  · have hlb' : (1000 : Int) < (b.length : Int) := by omega
    clear hlb
    go_enter Try.func3, Try.ntmps3
    go_wp2_with fail
    refine HA.out.mono ?_
    rintro e w1 ⟨rfl, hg1⟩
    have HG1 := Lib.hid hg1
    clear hg1
    go_wp2
    go_ret
    exact ⟨rfl, HG1.out⟩
  · have hlb' : ¬ (1000 : Int) < (b.length : Int) := by omega
    have HLB : Hid (b.length ≤ 1000) := Lib.hid (by omega)
    clear hlb
    go_enter Try.func3, Try.ntmps3
    go_wp2_with fail
    refine HA.out.mono ?_
    rintro e w1 ⟨rfl, hg1⟩
    have HG1 := Lib.hid hg1
    have HF := Lib.hid (HFW.out w1 hg1)
    clear hg1
    go_wp2_with fail
    refine HF.out.mono ?_
    rintro e w1' ⟨t, rfl, ht, rfl⟩
    cases t with
    | false =>
      clear ht
      go_wp2
      go_ret
      exact ⟨rfl, HG1.out⟩
    | true =>
      have h40 : (ps.length : Int) ≤ 40 := by have := ht rfl; omega
      clear ht HA HFW HF
      go_wp2_with fail
      refine (newM_all size w1).mono ?_
      rintro e w2 ⟨qv, rfl, hg2, hq2⟩
      have HG2 := Lib.hid (gb_same HG1.out hg2)
      have HQ2 := Lib.hid hq2
      have HS2 : Hid (w.heap.size ≤ w1.heap.size ∧ w1.heap.size ≤ w2.heap.size) := Lib.hid ⟨HG1.out.size, hg2.size⟩
      clear hg2 hq2
      go_wp2_with fail
      refine (rnewM_all size w2).mono ?_
      rintro e w3 ⟨m, rfl, hg3, hm3⟩
      have HG3 := Lib.hid (gb_same HG2.out hg3)
      have HM3 := Lib.hid hm3
      have HG23 := Lib.hid hg3
      have HZB := Lib.hid (heap_at_alloc w3 (.cells #[.int .i64 0, .slice none 0 0] 32))
      clear hg3 hm3
      generalize hev : codeQ 2 (newOM size) = ev
      have HEV := Lib.hid hev
      clear hev
      go_upto_if 46 with ((with_reducible refine is_store 32 9 42 ?_); go_must (refine st_row 32 9 42 w3.heap.size _ #[.int .i64 (m : Int), .slice none 0 0] _ rfl rfl HZB.out refqsize rfl rfl ?_; intro w4 hb4 hg4; have HB4 := Lib.hid hb4; have HG4 := Lib.hid (gb_new (gb_alloc w3 (.cells #[.int .i64 0, .slice none 0 0] 32) none) hg4 (Nat.le_refl _)); clear hb4 hg4))
      have HPB : Hid (w.heap.size ≤ w3.heap.size ∧ w2.heap.size ≤ w3.heap.size ∧ w3.heap.size < w4.heap.size) := Lib.hid ⟨HG3.out.size, HG23.out.size, lt_of_blk HB4.out⟩
      have HGW4 := Lib.hid (gb_same HG3.out HG4.out)
      have HGG24 := Lib.hid (gb_same HG23.out HG4.out)
      generalize hpb : w3.heap.size = pb at *
      clear hpb
      go_cut [7, 8, 10, 46] from 47 to 56 (fun q e f _ wx => ∃ (qv : Value) (ev : Int) (o : Option (Nat × List Mg)), q = qv ∧ e = .int .i64 ev ∧ f = .int .i64 ev ∧ Hid ((o = none → ev ≠ 0) ∧ (∀ r, o = some r → ev = 0)) ∧ Hid (BothM w wx pb qv o) ∧ Hid (w.grownBy wx none) ∧ Hid (pb < wx.heap.size))
      case first =>
        generalize hbd : decide (0 < b.length) = t
        cases t with
        | false =>
          clear hbd
          have HBO : Hid (BothM w w4 pb qv (newOM size)) := Lib.hid (by
            cases hno : newOM size with
            | none => have h := HQ2.out; rw [hno] at h; exact h
            | some r =>
              have h := HQ2.out
              rw [hno] at h
              obtain ⟨g, B, v, qs, e1, h1, h2, h3, h4, h5⟩ := h
              obtain ⟨hm1, hm2⟩ := HM3.out r hno
              have hs2 := HS2.out
              have hpb := HPB.out
              have hqn : qs = [] := by rw [hm2] at h5; exact List.map_eq_nil_iff.1 h5
              subst hqn
              exact ⟨B, g, v, [], none, 0, [], e1, ⟨⟨h4.grown HGG24.out, by simp, .inl ⟨rfl, rfl⟩, by simp, rfl, by simp [Value.ownBlock], by simp, HGW4.out, by omega, by omega, by omega⟩, by rw [← hm1]; exact HB4.out, by have := h4.lt; omega, fun e => by have := (h4.row.lt _ e).2; omega, by simp [Value.ownBlock], by omega⟩⟩)
          go_wp2
          go_meet
          case rel => exact ⟨qv, ev, newOM size, rfl, rfl, rfl, Lib.hid (by
            rw [← HEV.out]
            refine ⟨fun h => by rw [h]; decide, fun r h => by rw [h]; rfl⟩), HBO, HGW4, Lib.hid HPB.out.2.2⟩
        | true =>
          clear hbd
          have HLBB : Hid (b.length ≤ 100000) := Lib.hid (by have := HLB.out; omega)
          go_wp2_with fail
          refine (decQ_all _ b w4 (HBV.out.grown HGW4.out) HLBB.out).mono ?_
          rintro e w5 ⟨qv5, rfl, hg5, hq5⟩
          have HG5 := Lib.hid (gb_same HGW4.out hg5)
          have HB5 := Lib.hid (blk_kept HB4.out hg5)
          have HQ5 := Lib.hid hq5
          have HZ5 := Lib.hid hg5.size
          have HLT5 : Hid (∀ k, (Value.slice ab b.length cb).ownBlock = some k → k < w5.heap.size) := Lib.hid (fun k hk => by have := HBL.out k hk; have := HG5.out.size; omega)
          clear hg5 hq5
          go_wp2_with fail
          refine (rdecQ_all _ b w5 (HBV.out.grown HG5.out) HLBB.out HLT5.out).mono ?_
          rintro e w6 ⟨m6, a6, k6, c6, rfl, hg6, hm6⟩
          have HG6 := Lib.hid (gb_same HG5.out hg6)
          have HB6 := Lib.hid (blk_kept HB5.out hg6)
          have HM6 := Lib.hid hm6
          have HG56 := Lib.hid hg6
          generalize hev5 : codeQ 4 (decM b) = ev5
          have HEV5 := Lib.hid hev5
          clear hg6 hm6 hev5
          go_wp2_with ((with_reducible refine is_store 32 9 55 ?_); go_must (refine st_row 32 9 55 pb _ #[.int .i64 (m6 : Int), .slice a6 k6 c6] _ rfl rfl HB6.out refqsize rfl rfl ?_; intro w7 hb7 hg7; have HB7 := Lib.hid hb7; have HG7 := Lib.hid hg7; clear hb7 hg7))
          have HGW7 := Lib.hid (gb_new HG6.out HG7.out HPB.out.1)
          have HBO : Hid (BothM w w7 pb qv5 (decM b)) := Lib.hid (by
            have hpb := HPB.out
            have hz5 := HZ5.out
            have hs6 := HG56.out.size
            have hs7 := HG7.out.size
            cases hno : decM b with
            | none => have h := HQ5.out; rw [hno] at h; exact h
            | some r =>
              have h := HQ5.out
              rw [hno] at h
              obtain ⟨g, B, v, qs, e1, h1, h2, h3, h4, h5⟩ := h
              obtain ⟨hm1, l, hr1, hr2, hr3, hr4⟩ := HM6.out r hno
              obtain ⟨a', c', he, _, _⟩ := hr1.len
              simp only [Value.slice.injEq] at he
              obtain ⟨rfl, rfl, rfl⟩ := he
              have hbq : w5.heap[pb]? = some (.cells #[.int .i64 (m : Int), .slice none 0 0] 32 (0, 0)) := HB5.out
              have hdq : ∀ q ∈ qs, q.1.z ≠ [] → q.2.ownBlock ≠ some pb := fun q hq hz => data_ne (h4.data q hq).w hz hbq
              have h4' : IsM w7 B g r.1 v qs := (h4.grown HG56.out).kept HG7.out (by simp; omega) (fun k hk e => by have := (h4.row.lt k hk).1; simp at e; omega) (fun q hq hz k hk e => hdq q hq hz (by rw [hk]; exact congrArg some (Option.some.inj e).symm))
              have hok : ∀ q ∈ qs, OkMg q.1 := fun q hq => (decM_enc (n := r.1) (l := r.2) hno).2.1 q.1 (by rw [← h5]; exact List.mem_map.2 ⟨q, hq, rfl⟩)
              refine ⟨B, g, v, qs, a6, c6, l, e1, ⟨⟨h4', hok, hr1.kept HG7.out (fun _ k hk e => by have := (hr3 k hk).1; simp at e; omega), fun q hq => ((hr4 q hq).1.kept HG7.out (fun k hk e => by have := (hr4 q hq).2 k hk; simp at e; omega)).w, by rw [hr2, h5], fun k hk => ?_, fun q hq hz k hk => ?_, HGW7.out, by omega, by omega, by omega⟩, by rw [← hm1]; exact HB7.out, by omega, fun e => by have := (h4.row.lt _ e).1; omega, fun e => by have := (hr3 _ e).1; omega, by omega⟩⟩
              · have h8 := hr3 k hk
                exact ⟨by have := h4.lt; omega, fun e => by have := (h4.row.lt k e).2; omega, by omega⟩
              · have h8 := (hr4 q hq).2 k hk
                have h9 := (hr4 q hq).1.blk hz k hk
                exact ⟨by have := h4.lt; omega, fun e => by have := (h4.row.lt k e).2; omega, by omega⟩)
          go_meet
          case rel => exact ⟨qv5, ev5, decM b, rfl, rfl, rfl, Lib.hid (by
            rw [← HEV5.out]
            refine ⟨fun h => by rw [h]; decide, fun r h => by rw [h]; rfl⟩), HBO, HGW7, Lib.hid (lt_of_blk HB7.out)⟩
      case rest =>
        obtain ⟨qv7, ev7, o, rfl, rfl, rfl, HEO, HBT, HGC, HPC⟩ := hcut
        cases o with
        | none =>
          have hq0 : u7 = .pointer none := HBT.out
          subst hq0
          have he0 := HEO.out.1 rfl
          have he1 : (ev7 != 0) = true := by simpa using he0
          have he2 : (ev7 == 0) = false := by simpa using he0
          clear he0
          go_wp2_with fail
          go_loopw [11] (fun i wr => i = .int .i64 0 ∧ Hid (w.grownBy wr none)) (fun _ _ => 0)
          case atStart => exact ⟨rfl, HGC⟩
          case round =>
            obtain ⟨rfl, HG⟩ := hrel
            generalize hN : ps.length = N at *
            clear hN
            by_cases hN0 : (0 : Int) < (N : Int)
            · go_wp2
              go_ret
              exact ⟨rfl, HG.out⟩
            · go_wp2
              go_ret
              exact ⟨rfl, HG.out⟩
        | some r =>
          obtain ⟨n, L0⟩ := r
          obtain ⟨B, g, v0, qs0, a0, c0, rs0, rfl, hqb⟩ := HBT.out
          have he0 := HEO.out.2 _ rfl
          subst he0
          have HQB := Lib.hid hqb
          clear hqb HBT HEO
          go_wp2_with fail
          go_loopw [11] (fun i wr => ∃ (k : Nat) (v : Value) (qs : List GP) (a : Option Addr) (c : Nat) (rs : List GP), k ≤ ps.length ∧ i = .int .i64 k ∧ Hid (QB w wr pb B g n v qs a c rs)) (fun i _ => ps.length - (intOf i).toNat)
          case atStart => exact ⟨0, v0, qs0, a0, c0, rs0, Nat.zero_le _, rfl, HQB⟩
          case round =>
            obtain ⟨k, v, qs, a, c, rs, hk, rfl, HQ⟩ := hrel
            by_cases hlt : k < ps.length
            · obtain ⟨p, hp⟩ : ∃ p, ps[k]? = some p := ⟨ps[k], by simp [hlt]⟩
              have hl1 := HL.out.grown HQ.out.q.gr
              obtain ⟨gb, off, hal, hcc⟩ := hl1.1.at hp
              subst hal
              have hdw := hl1.2 p (List.mem_of_getElem? hp)
              have HOK := Lib.hid (HPS.out p (List.mem_of_getElem? hp))
              have HDO := Lib.hid (HL.out.2 p (List.mem_of_getElem? hp))
              obtain ⟨kd, sr, x, dv⟩ := p
              have hdw' : RdW wr dv x.z := hdw
              obtain ⟨ad, cd, hdv⟩ := hdw'.len
              subst hdv
              have m0 := hcc 0 _ rfl
              have m1 := hcc 1 _ rfl
              have m2 := hcc 2 _ rfl
              have m3 := hcc 3 _ rfl
              have m4 := hcc 4 _ rfl
              have m5 := hcc 5 _ rfl
              have m6 := hcc 6 _ rfl
              have m7 := hcc 7 _ rfl
              have m8 := hcc 8 _ rfl
              have m9 := hcc 9 _ rfl
              have m10 := hcc 10 _ rfl
              have HDW := Lib.hid hdw'
              have hzs := hdw'.small
              clear hcc hl1 hp hdw hdw'
              simp only [Nat.add_zero] at m0 m1 m2 m3 m4 m5 m6 m7 m8 m9 m10 hzs
              have HZX := Lib.hid (heap_at_alloc wr (.cells #[.int .i64 0, .int .i64 0, .int .i64 0, .int .i64 0, .int .i64 0, .int .i64 0, .int .i64 0, .int .i64 0, .int .i64 0, .int .i64 0, .slice none 0 0] 41))
              have HGX := Lib.hid (gb_alloc wr (.cells #[.int .i64 0, .int .i64 0, .int .i64 0, .int .i64 0, .int .i64 0, .int .i64 0, .int .i64 0, .int .i64 0, .int .i64 0, .int .i64 0, .slice none 0 0] 41) none)
              go_wp2_with (first | ((with_reducible refine is_store 41 12 80 ?_); go_must (refine st_row 41 12 80 wr.heap.size _ #[.int .i64 kd, .int .i64 sr, .int .i64 x.s, .int .i64 x.d, .int .i64 x.k, .int .i64 x.q, .int .i64 x.a, .int .i64 x.b, .int .i64 x.c, .int .i64 x.e, .slice ad x.z.length cd] _ rfl rfl HZX.out callsize rfl rfl ?_; intro w0 hb0 hg0; have HX0 := Lib.hid hb0; have HGX0 := Lib.hid (gb_new HGX.out hg0 (Nat.le_refl _)); have HQ0 := Lib.hid (HQ.out.grown HGX0.out); clear hb0 hg0)) | ((with_reducible refine is_load 32 82 9 ?_); go_must (refine ld_row 32 82 9 pb _ _ rfl HQ0.out.b Try.underlying32 refqsize ?_)))
              clear m0 m1 m2 m3 m4 m5 m6 m7 m8 m9 m10
              have hfs := rfirstM_any n (.slice a rs.length c) rs w0 HQ0.out.q.rd (fun q hq => by obtain ⟨a', c', e⟩ := (HQ0.out.q.dt q hq).len; rw [e]; rfl)
              unfold rM at hfs
              obtain ⟨fm, fv, hs, hrf, hfo, hfd⟩ := rFst_form rs (fun q hq => by obtain ⟨a', c', e⟩ := (HQ0.out.q.dt q hq).len; rw [e]; rfl)
              rw [hrf] at hfs
              have HFO := Lib.hid hfo
              have HFD := Lib.hid hfd
              clear hrf hfo hfd
              refine hfs.mono ?_
              rintro e w1' ⟨rfl, hg1⟩
              have HQ1 := Lib.hid (HQ0.out.grown hg1)
              have HX1 := Lib.hid (blk_kept HX0.out hg1)
              clear hg1 hfs
              have HZM := Lib.hid (heap_at_alloc w1' (.cells #[.int .i64 0, .int .i64 0, .int .i64 0, .int .i64 0, .int .i64 0, .int .i64 0, .int .i64 0, .int .i64 0, .slice none 0 0] 39))
              have HGM := Lib.hid (gb_alloc w1' (.cells #[.int .i64 0, .int .i64 0, .int .i64 0, .int .i64 0, .int .i64 0, .int .i64 0, .int .i64 0, .int .i64 0, .slice none 0 0] 39) none)
              go_upto_block 2 with ((with_reducible refine is_store 39 13 84 ?_); go_must (refine st_row 39 13 84 w1'.heap.size _ (fm.row fv) _ rfl rfl HZM.out msize rfl (row_oneR _ _ HFO.out) ?_; intro w2 hb2 hg2; have HM2 := Lib.hid hb2; have HGM2 := Lib.hid (gb_new HGM.out hg2 (Nat.le_refl _)); have x0 : w2.cell? ⟨wr.heap.size, 0, none⟩ = some (.int .i64 kd) := cell_row (j := 0) (blk_kept HX1.out HGM2.out); clear hb2 hg2))
              clear x0
              have HQ2 := Lib.hid (HQ1.out.grown HGM2.out)
              have HX2 := Lib.hid (blk_kept HX1.out HGM2.out)
              have HDW2 := Lib.hid (HDO.out.grown HQ2.out.q.gr)
              have HMB : Hid (w1'.heap.size ≠ g ∧ v.ownBlock ≠ some w1'.heap.size) := Lib.hid ⟨by have := HQ1.out.q.m.lt; omega, fun e => by have := (HQ1.out.q.m.row.lt _ e).2; omega⟩
              generalize wr.heap.size = xb at *
              generalize w1'.heap.size = mb at *
              go_cut [15, 16, 17, 18, 19, 20, 21, 22, 23] from 88 to 150 (fun ok _ _ _ _ _ _ _ _ wx => ok = .bool true ∧ ∃ (v : Value) (qs : List GP) (a : Option Addr) (c : Nat) (rs : List GP), Hid (QB w wx pb B g n v qs a c rs))
              case first =>
                have HFV := Lib.hid (fv_rd HQ2.out HFD.out)
                by_cases h0 : kd = 0
                · subst h0
                  have t2 : w2.cell? ⟨xb, 2, none⟩ = some (.int .i64 x.s) := cell_row (j := 2) (HX2.out)
                  have t3 : w2.cell? ⟨xb, 3, none⟩ = some (.int .i64 x.d) := cell_row (j := 3) (HX2.out)
                  have t4 : w2.cell? ⟨xb, 4, none⟩ = some (.int .i64 x.k) := cell_row (j := 4) (HX2.out)
                  have t5 : w2.cell? ⟨xb, 5, none⟩ = some (.int .i64 x.q) := cell_row (j := 5) (HX2.out)
                  have t6 : w2.cell? ⟨xb, 6, none⟩ = some (.int .i64 x.a) := cell_row (j := 6) (HX2.out)
                  have t7 : w2.cell? ⟨xb, 7, none⟩ = some (.int .i64 x.b) := cell_row (j := 7) (HX2.out)
                  have t8 : w2.cell? ⟨xb, 8, none⟩ = some (.int .i64 x.c) := cell_row (j := 8) (HX2.out)
                  have t9 : w2.cell? ⟨xb, 9, none⟩ = some (.int .i64 x.e) := cell_row (j := 9) (HX2.out)
                  have t10 : w2.cell? ⟨xb, 10, none⟩ = some (.slice ad x.z.length cd) := cell_row (j := 10) (HX2.out)
                  have hln := HQ2.out.q.len
                  have hone : ∀ q ∈ rs, q.2.oneCell' = true := fun q hq => one_of (HQ2.out.q.dt q hq)
                  have HGB : Hid (g < w2.heap.size ∧ B ≤ w2.heap.size ∧ pb < w2.heap.size ∧ ∀ k, v.ownBlock = some k → k < w2.heap.size) := Lib.hid ⟨HQ2.out.q.m.lt, HQ2.out.q.b1, lt_of_blk HQ2.out.b, fun k e => (HQ2.out.q.m.row.lt k e).2⟩
                  have hpq := fun (W : World) (hW : IsM W B g n v qs) (hB : B ≤ W.heap.size) (hv : RdW W (.slice ad x.z.length cd) x.z) => putM_any hW hB x _ hv
                  unfold PutM Mg.row at hpq
                  by_cases hfull : n ≤ rs.length ∨ 1536 < x.z.length
                  · have hpe : putME n qs x = 6 := by unfold putME; rw [if_pos (by rw [← hln]; exact hfull)]
                    have hrp := rputM_no n (.slice a rs.length c) rs x (.slice ad x.z.length cd) w2 HQ2.out.q.rd HDW2.out hfull
                    unfold ValG rM Mg.row at hrp
                    simp only [hpe] at hpq
                    have HRP := Lib.hid hrp
                    have HPQ := Lib.hid hpq
                    clear hln hone hpq hfull hpe hrp
                    go_wp2_with (first | ((with_reducible refine is_load 32 105 9 ?_); go_must (refine ld_row 32 105 9 pb _ _ rfl HQ2.out.b Try.underlying32 refqsize ?_)) | (go_at_call 11; refine HRP.out.mono ?_; go_must (rintro e w3 ⟨rfl, hg3⟩; have HG3 := Lib.hid hg3; have HZ3 := Lib.hid (heap_at_alloc w3 (.cells #[.int .i64 0, .slice none 0 0] 32)); have HGZ3 := Lib.hid (gb_alloc w3 (.cells #[.int .i64 0, .slice none 0 0] 32) none); clear hg3)) | ((with_reducible refine is_store 32 16 109 ?_); go_must (refine st_row 32 16 109 w3.heap.size _ #[.int .i64 (n : Int), .slice a rs.length c] _ rfl rfl HZ3.out refqsize rfl rfl ?_; intro w4 hb4 hg4; have HB4 := Lib.hid hb4; have HG34 := Lib.hid (gb_new HGZ3.out hg4 (Nat.le_refl _)); have HG24 := Lib.hid (gb_same HG3.out HG34.out); have HQ4 := Lib.hid (HQ2.out.grown HG24.out); have tt2 : w4.cell? ⟨xb, 2, none⟩ = some (.int .i64 x.s) := cell_row (j := 2) (blk_kept HX2.out HG24.out); have tt3 : w4.cell? ⟨xb, 3, none⟩ = some (.int .i64 x.d) := cell_row (j := 3) (blk_kept HX2.out HG24.out); have tt4 : w4.cell? ⟨xb, 4, none⟩ = some (.int .i64 x.k) := cell_row (j := 4) (blk_kept HX2.out HG24.out); have tt5 : w4.cell? ⟨xb, 5, none⟩ = some (.int .i64 x.q) := cell_row (j := 5) (blk_kept HX2.out HG24.out); have tt6 : w4.cell? ⟨xb, 6, none⟩ = some (.int .i64 x.a) := cell_row (j := 6) (blk_kept HX2.out HG24.out); have tt7 : w4.cell? ⟨xb, 7, none⟩ = some (.int .i64 x.b) := cell_row (j := 7) (blk_kept HX2.out HG24.out); have tt8 : w4.cell? ⟨xb, 8, none⟩ = some (.int .i64 x.c) := cell_row (j := 8) (blk_kept HX2.out HG24.out); have tt9 : w4.cell? ⟨xb, 9, none⟩ = some (.int .i64 x.e) := cell_row (j := 9) (blk_kept HX2.out HG24.out); have tt10 : w4.cell? ⟨xb, 10, none⟩ = some (.slice ad x.z.length cd) := cell_row (j := 10) (blk_kept HX2.out HG24.out); have HPW := Lib.hid (HPQ.out w4 HQ4.out.q.m HQ4.out.q.b1 (HDW2.out.grown HG24.out)); clear hb4 hg4)) | (go_at_call 12; refine HPW.out.mono ?_; go_must (rintro e w5 ⟨rfl, h5⟩; have hg5 : w4.grownBy w5 none := (by rcases h5 with h | h; exact h.2; exact absurd h.1 (by decide)); have HQ5 := Lib.hid (HQ4.out.grown hg5); have HB5 := Lib.hid (blk_kept HB4.out hg5); clear h5 hg5)) | ((with_reducible refine is_load 32 117 16 ?_); go_must (refine ld_row 32 117 16 w3.heap.size _ _ rfl HB5.out Try.underlying32 refqsize ?_)) | ((with_reducible refine is_store 32 9 117 ?_); go_must (refine st_row 32 9 117 pb _ #[.int .i64 (n : Int), .slice a rs.length c] _ rfl rfl HQ5.out.b refqsize rfl rfl ?_; intro w7 hb7 hg7; have HB7 := Lib.hid hb7; have HG7 := Lib.hid hg7; clear hb7 hg7)))
                    go_meet
                    case rel => exact ⟨by simp, v, qs, a, c, rs, Lib.hid (QB.store HQ5.out.q HQ5.out.b HQ5.out.ng HQ5.out.nv HQ5.out.nu HQ5.out.lo HB7.out HG7.out)⟩
                  · have hpe : putME n qs x = 0 := by unfold putME; rw [if_neg (by rw [← hln]; exact hfull)]
                    have hrp := rputM_any n (.slice a rs.length c) rs x (.slice ad x.z.length cd) w2 HQ2.out.q.rd hone HDW2.out (by omega) HQ2.out.q.m.le (by omega)
                    unfold RPutM rM Mg.row at hrp
                    generalize hrl : rs ++ [(x, (Value.slice ad x.z.length cd))] = rl at hrp
                    simp only [hpe] at hpq
                    have HRL := Lib.hid hrl
                    have HRP := Lib.hid hrp
                    have HPQ := Lib.hid hpq
                    have HFL := Lib.hid hfull
                    clear hln hone hpq hfull hpe hrp hrl
                    go_wp2_with (first | ((with_reducible refine is_load 32 105 9 ?_); go_must (refine ld_row 32 105 9 pb _ _ rfl HQ2.out.b Try.underlying32 refqsize ?_)) | (go_at_call 11; refine HRP.out.mono ?_; go_must (rintro e w3 ⟨u3, rfl, ho3, hg3⟩; obtain ⟨a3, c3, rfl, hl3, hl3'⟩ := ho3.rd.len; have HO3 := Lib.hid ho3; have HG3 := Lib.hid hg3; have HZ3 := Lib.hid (heap_at_alloc w3 (.cells #[.int .i64 0, .slice none 0 0] 32)); have HGZ3 := Lib.hid (gb_alloc w3 (.cells #[.int .i64 0, .slice none 0 0] 32) none); clear ho3 hg3 hl3 hl3')) | ((with_reducible refine is_store 32 16 109 ?_); go_must (refine st_row 32 16 109 w3.heap.size _ #[.int .i64 (n : Int), .slice a3 rl.length c3] _ rfl rfl HZ3.out refqsize rfl rfl ?_; intro w4 hb4 hg4; have HB4 := Lib.hid hb4; have HG34 := Lib.hid (gb_new HGZ3.out hg4 (Nat.le_refl _)); have HG24 := Lib.hid (gb_same HG3.out HG34.out); have HQ4 := Lib.hid (HQ2.out.grown HG24.out); have tt2 : w4.cell? ⟨xb, 2, none⟩ = some (.int .i64 x.s) := cell_row (j := 2) (blk_kept HX2.out HG24.out); have tt3 : w4.cell? ⟨xb, 3, none⟩ = some (.int .i64 x.d) := cell_row (j := 3) (blk_kept HX2.out HG24.out); have tt4 : w4.cell? ⟨xb, 4, none⟩ = some (.int .i64 x.k) := cell_row (j := 4) (blk_kept HX2.out HG24.out); have tt5 : w4.cell? ⟨xb, 5, none⟩ = some (.int .i64 x.q) := cell_row (j := 5) (blk_kept HX2.out HG24.out); have tt6 : w4.cell? ⟨xb, 6, none⟩ = some (.int .i64 x.a) := cell_row (j := 6) (blk_kept HX2.out HG24.out); have tt7 : w4.cell? ⟨xb, 7, none⟩ = some (.int .i64 x.b) := cell_row (j := 7) (blk_kept HX2.out HG24.out); have tt8 : w4.cell? ⟨xb, 8, none⟩ = some (.int .i64 x.c) := cell_row (j := 8) (blk_kept HX2.out HG24.out); have tt9 : w4.cell? ⟨xb, 9, none⟩ = some (.int .i64 x.e) := cell_row (j := 9) (blk_kept HX2.out HG24.out); have tt10 : w4.cell? ⟨xb, 10, none⟩ = some (.slice ad x.z.length cd) := cell_row (j := 10) (blk_kept HX2.out HG24.out); have HPW := Lib.hid (HPQ.out w4 HQ4.out.q.m HQ4.out.q.b1 (HDW2.out.grown HG24.out)); have HS4 : Hid (w2.heap.size ≤ w3.heap.size ∧ w3.heap.size < w4.heap.size) := Lib.hid ⟨HG3.out.size, lt_of_blk hb4⟩; clear hb4 hg4)) | (go_at_call 12; refine HPW.out.mono ?_; go_must (rintro e w5 ⟨rfl, h5⟩; have h6 : ∃ v' dv', IsM w5 B g n v' (qs ++ [(x, dv')]) ∧ KM w4 w5 g v ∧ Fr w4 v v' ∧ Own w5 w4.heap.size dv' x.z := (by rcases h5 with h | h; exact absurd rfl h.1; exact h.2); obtain ⟨v5, d5, hi5, hk5, hf5, _⟩ := h6; have HB5 := Lib.hid (blk_km HB4.out hk5 (by have := HGB.out.1; have := HS4.out; omega) (fun e => by have := HGB.out.2.2.2 _ e; have := HS4.out; omega)); have HP5 := Lib.hid (blk_km HQ4.out.b hk5 HQ4.out.ng HQ4.out.nv); have HI5 := Lib.hid hi5; have HK5 := Lib.hid hk5; have HF5 := Lib.hid hf5; clear hi5 hk5 hf5 h5)) | ((with_reducible refine is_load 32 117 16 ?_); go_must (refine ld_row 32 117 16 w3.heap.size _ _ rfl HB5.out Try.underlying32 refqsize ?_)) | ((with_reducible refine is_store 32 9 117 ?_); go_must (refine st_row 32 9 117 pb _ #[.int .i64 (n : Int), .slice a3 rl.length c3] _ rfl rfl HP5.out refqsize rfl rfl ?_; intro w7 hb7 hg7; have HB7 := Lib.hid hb7; have HG7 := Lib.hid hg7; clear hb7 hg7)))
                    have hrl := HRL.out
                    subst hrl
                    have hgs := HGB.out
                    have hs4 := HS4.out
                    have hql := HQ4.out.q.newL (HO3.out.rd.grown HG34.out) (fun k e => by
                      have h8 := HO3.out.lt k e
                      exact ⟨by omega, fun e2 => by have := hgs.2.2.2 _ e2; omega, by omega⟩) (fun p hp => by
                      rcases List.mem_append.1 hp with h | h
                      · exact HQ4.out.q.dt p h
                      · simp at h; subst h; exact HDW2.out.grown HG24.out) (fun p hp hz k e => by
                      rcases List.mem_append.1 hp with h | h
                      · exact HQ4.out.q.dsep p h hz k e
                      · simp at h; subst h
                        have h9 := HDO.out.blk hz k e
                        exact ⟨by have := HQ2.out.q.g0; omega, fun e2 => by have := (HQ2.out.q.m.row.lt k e2).1; have := HQ2.out.q.b0; omega, by have := HQ4.out.q.gr.size; omega⟩) HI5.out HK5.out HF5.out (fun p hp => by
                      rcases List.mem_append.1 hp with h | h
                      · exact HQ4.out.q.ok p h
                      · simp at h; subst h; exact okmg_of HOK.out.1 (show x.z.length ≤ 1536 by have := HFL.out; omega)) (by rw [List.map_append, List.map_append, HQ4.out.q.eq]; rfl)
                    go_meet
                    case rel => exact ⟨by simp, v5, qs ++ [(x, d5)], a3, c3, rs ++ [(x, .slice ad x.z.length cd)], Lib.hid (QB.store hql HP5.out HQ4.out.ng (fun e => by
                      rcases HF5.out _ e with h | h
                      · exact HQ4.out.nv h
                      · omega) (fun e => by have := (HO3.out.lt _ e).1; omega) HQ4.out.lo HB7.out HG7.out)⟩
                by_cases h1 : kd = 1
                · subst h1
                  clear h0
                  go_wp2_with fail
                  refine (take_q HQ2.out HFD.out).mono ?_
                  rintro e w3 ⟨dv3, v3, rfl, hd3, hi3, hk3, hv3⟩
                  have HO3 := Lib.hid (one_of hd3)
                  have HD3 := Lib.hid hd3
                  have HM3 := Lib.hid (blk_km HM2.out hk3 HMB.out.1 HMB.out.2)
                  have HB3 := Lib.hid (blk_km HQ2.out.b hk3 HQ2.out.ng HQ2.out.nv)
                  have HF3 := Lib.hid (fv_km HQ2.out HFD.out hk3)
                  have HR3 := Lib.hid (HQ2.out.q.rd.km hk3 (fun k e => ⟨(HQ2.out.q.sep k e).1, (HQ2.out.q.sep k e).2.1⟩))
                  have HS3 : Hid (w2.heap.size ≤ w3.heap.size) := Lib.hid hk3.2.2.2.1
                  have HK3 := Lib.hid hk3
                  have HI3 := Lib.hid hi3
                  have HV3 := Lib.hid hv3
                  have HZ3 := Lib.hid (heap_at_alloc w3 (.cells #[.int .i64 0, .int .i64 0, .int .i64 0, .int .i64 0, .int .i64 0, .int .i64 0, .int .i64 0, .int .i64 0, .slice none 0 0] 39))
                  have HGZ3 := Lib.hid (gb_alloc w3 (.cells #[.int .i64 0, .int .i64 0, .int .i64 0, .int .i64 0, .int .i64 0, .int .i64 0, .int .i64 0, .int .i64 0, .slice none 0 0] 39) none)
                  clear hd3 hi3 hk3 hv3
                  go_wp2_with (first | ((with_reducible refine is_store 39 18 123 ?_); go_must (refine st_row 39 18 123 w3.heap.size _ (fm.row dv3) _ rfl rfl HZ3.out msize rfl (row_oneR _ _ HO3.out) ?_; intro w4 hb4 hg4; have HG34 := Lib.hid (gb_new HGZ3.out hg4 (Nat.le_refl _)); have y0 : w4.cell? ⟨w3.heap.size, 0, none⟩ = some (.int .i64 fm.s) := cell_row (j := 0) (hb4); have y1 : w4.cell? ⟨w3.heap.size, 1, none⟩ = some (.int .i64 fm.d) := cell_row (j := 1) (hb4); have y2 : w4.cell? ⟨w3.heap.size, 2, none⟩ = some (.int .i64 fm.k) := cell_row (j := 2) (hb4); have y3 : w4.cell? ⟨w3.heap.size, 3, none⟩ = some (.int .i64 fm.q) := cell_row (j := 3) (hb4); have y4 : w4.cell? ⟨w3.heap.size, 4, none⟩ = some (.int .i64 fm.a) := cell_row (j := 4) (hb4); have y5 : w4.cell? ⟨w3.heap.size, 5, none⟩ = some (.int .i64 fm.b) := cell_row (j := 5) (hb4); have y6 : w4.cell? ⟨w3.heap.size, 6, none⟩ = some (.int .i64 fm.c) := cell_row (j := 6) (hb4); have y7 : w4.cell? ⟨w3.heap.size, 7, none⟩ = some (.int .i64 fm.e) := cell_row (j := 7) (hb4); have y8 : w4.cell? ⟨w3.heap.size, 8, none⟩ = some (dv3) := cell_row (j := 8) (hb4); have z0 : w4.cell? ⟨mb, 0, none⟩ = some (.int .i64 fm.s) := cell_row (j := 0) (blk_kept HM3.out HG34.out); have z1 : w4.cell? ⟨mb, 1, none⟩ = some (.int .i64 fm.d) := cell_row (j := 1) (blk_kept HM3.out HG34.out); have z2 : w4.cell? ⟨mb, 2, none⟩ = some (.int .i64 fm.k) := cell_row (j := 2) (blk_kept HM3.out HG34.out); have z3 : w4.cell? ⟨mb, 3, none⟩ = some (.int .i64 fm.q) := cell_row (j := 3) (blk_kept HM3.out HG34.out); have z4 : w4.cell? ⟨mb, 4, none⟩ = some (.int .i64 fm.a) := cell_row (j := 4) (blk_kept HM3.out HG34.out); have z5 : w4.cell? ⟨mb, 5, none⟩ = some (.int .i64 fm.b) := cell_row (j := 5) (blk_kept HM3.out HG34.out); have z6 : w4.cell? ⟨mb, 6, none⟩ = some (.int .i64 fm.c) := cell_row (j := 6) (blk_kept HM3.out HG34.out); have z7 : w4.cell? ⟨mb, 7, none⟩ = some (.int .i64 fm.e) := cell_row (j := 7) (blk_kept HM3.out HG34.out); have z8 : w4.cell? ⟨mb, 8, none⟩ = some (fv) := cell_row (j := 8) (blk_kept HM3.out HG34.out); have HSM := Lib.hid (sameM_any fm dv3 fv w4 (HD3.out.grown HG34.out) (HF3.out.grown HG34.out)); clear hb4 hg4)) | (go_at_call 14; refine HSM.out.mono ?_; go_must (rintro e w5 ⟨rfl, hg5⟩; have HG5 := Lib.hid (gb_same HG34.out hg5); have HB5 := Lib.hid (blk_kept HB3.out HG5.out); have hrt := rtake_q n a rs.length c rs w5 (HR3.out.grown HG5.out) (fun j hj => by have := (HQ2.out.q.sep j hj).2.2; have := HS3.out; have := HG5.out.size; omega) (fun q hq => one_of (HQ2.out.q.dt q hq)) (by have := HQ2.out.q.len; have := HQ2.out.q.m.cnt; have := HQ2.out.q.m.le; omega); generalize hts : rs.tail = ts at hrt; have HTS := Lib.hid hts; have HRT := Lib.hid hrt; clear hg5 hrt hts)) | ((with_reducible refine is_load 32 133 9 ?_); go_must (refine ld_row 32 133 9 pb _ _ rfl HB5.out Try.underlying32 refqsize ?_)) | (go_at_call 15; refine HRT.out.mono ?_; go_must (rintro e w6 ⟨a6, c6, rfl, hr6, hg6, hu6⟩; have HB6 := Lib.hid (blk_kept HB5.out hg6); have HR6 := Lib.hid hr6; have HG6 := Lib.hid (gb_same HG5.out hg6); have HU6 := Lib.hid hu6; have HS6 := Lib.hid HG5.out.size; clear hr6 hg6 hu6)) | ((with_reducible refine is_store 32 9 134 ?_); go_must (refine st_row 32 9 134 pb _ #[.int .i64 (n : Int), .slice a6 ts.length c6] _ rfl rfl HB6.out refqsize rfl rfl ?_; intro w7 hb7 hg7; have HB7 := Lib.hid hb7; have HG7 := Lib.hid hg7; clear hb7 hg7)))
                  have hts := HTS.out
                  subst hts
                  have hql := HQ2.out.q.took HI3.out HK3.out HV3.out HG6.out HR6.out (fun j hj => by
                    rcases HU6.out j hj with h | h
                    · exact .inl h
                    · exact .inr ⟨by have := HS6.out; omega, h.2⟩)
                  have hlb := lt_of_blk HQ2.out.b
                  go_meet
                  case rel => exact ⟨by simp, v3, qs.tail, a6, c6, rs.tail, Lib.hid (QB.store hql HB6.out HQ2.out.ng (by rw [HV3.out]; exact HQ2.out.nv) (fun e => by
                    rcases HU6.out _ e with h | h
                    · exact HQ2.out.nu h
                    · have := HS3.out; have := HS6.out; omega) HQ2.out.lo HB7.out HG7.out)⟩
                by_cases h2 : kd = 2
                · subst h2
                  clear h0 h1
                  go_wp2_with fail
                  refine (first_q HQ2.out HFD.out).mono ?_
                  rintro e w3 ⟨dv3, rfl, hd3, hg3⟩
                  have HO3 := Lib.hid (one_of hd3)
                  have HD3 := Lib.hid hd3
                  have HG3' := Lib.hid hg3
                  have HZ3 := Lib.hid (heap_at_alloc w3 (.cells #[.int .i64 0, .int .i64 0, .int .i64 0, .int .i64 0, .int .i64 0, .int .i64 0, .int .i64 0, .int .i64 0, .slice none 0 0] 39))
                  have HGZ3 := Lib.hid (gb_alloc w3 (.cells #[.int .i64 0, .int .i64 0, .int .i64 0, .int .i64 0, .int .i64 0, .int .i64 0, .int .i64 0, .int .i64 0, .slice none 0 0] 39) none)
                  clear hd3 hg3
                  go_wp2_with (first | ((with_reducible refine is_store 39 20 140 ?_); go_must (refine st_row 39 20 140 w3.heap.size _ (fm.row dv3) _ rfl rfl HZ3.out msize rfl (row_oneR _ _ HO3.out) ?_; intro w4 hb4 hg4; have HG4 := Lib.hid (gb_same HG3'.out (gb_new HGZ3.out hg4 (Nat.le_refl _))); have HG34 := Lib.hid (gb_new HGZ3.out hg4 (Nat.le_refl _)); have y0 : w4.cell? ⟨w3.heap.size, 0, none⟩ = some (.int .i64 fm.s) := cell_row (j := 0) (hb4); have y1 : w4.cell? ⟨w3.heap.size, 1, none⟩ = some (.int .i64 fm.d) := cell_row (j := 1) (hb4); have y2 : w4.cell? ⟨w3.heap.size, 2, none⟩ = some (.int .i64 fm.k) := cell_row (j := 2) (hb4); have y3 : w4.cell? ⟨w3.heap.size, 3, none⟩ = some (.int .i64 fm.q) := cell_row (j := 3) (hb4); have y4 : w4.cell? ⟨w3.heap.size, 4, none⟩ = some (.int .i64 fm.a) := cell_row (j := 4) (hb4); have y5 : w4.cell? ⟨w3.heap.size, 5, none⟩ = some (.int .i64 fm.b) := cell_row (j := 5) (hb4); have y6 : w4.cell? ⟨w3.heap.size, 6, none⟩ = some (.int .i64 fm.c) := cell_row (j := 6) (hb4); have y7 : w4.cell? ⟨w3.heap.size, 7, none⟩ = some (.int .i64 fm.e) := cell_row (j := 7) (hb4); have y8 : w4.cell? ⟨w3.heap.size, 8, none⟩ = some (dv3) := cell_row (j := 8) (hb4); have z0 : w4.cell? ⟨mb, 0, none⟩ = some (.int .i64 fm.s) := cell_row (j := 0) (blk_kept HM2.out HG4.out); have z1 : w4.cell? ⟨mb, 1, none⟩ = some (.int .i64 fm.d) := cell_row (j := 1) (blk_kept HM2.out HG4.out); have z2 : w4.cell? ⟨mb, 2, none⟩ = some (.int .i64 fm.k) := cell_row (j := 2) (blk_kept HM2.out HG4.out); have z3 : w4.cell? ⟨mb, 3, none⟩ = some (.int .i64 fm.q) := cell_row (j := 3) (blk_kept HM2.out HG4.out); have z4 : w4.cell? ⟨mb, 4, none⟩ = some (.int .i64 fm.a) := cell_row (j := 4) (blk_kept HM2.out HG4.out); have z5 : w4.cell? ⟨mb, 5, none⟩ = some (.int .i64 fm.b) := cell_row (j := 5) (blk_kept HM2.out HG4.out); have z6 : w4.cell? ⟨mb, 6, none⟩ = some (.int .i64 fm.c) := cell_row (j := 6) (blk_kept HM2.out HG4.out); have z7 : w4.cell? ⟨mb, 7, none⟩ = some (.int .i64 fm.e) := cell_row (j := 7) (blk_kept HM2.out HG4.out); have z8 : w4.cell? ⟨mb, 8, none⟩ = some (fv) := cell_row (j := 8) (blk_kept HM2.out HG4.out); have HSM := Lib.hid (sameM_any fm dv3 fv w4 (HD3.out.grown HG34.out) (HFV.out.grown HG4.out)); clear hb4 hg4)) | (go_at_call 14; refine HSM.out.mono ?_; go_must (rintro e w5 ⟨rfl, hg5⟩; have HG5 := Lib.hid (gb_same HG4.out hg5); clear hg5)))
                  go_meet
                  case rel => exact ⟨by simp, v, qs, a, c, rs, Lib.hid (HQ2.out.grown HG5.out)⟩
                · have x1 : w2.cell? ⟨xb, 1, none⟩ = some (.int .i64 sr) := cell_row (j := 1) HX2.out
                  have hone : ∀ q ∈ rs, q.2.oneCell' = true := fun q hq => one_of (HQ2.out.q.dt q hq)
                  have hlr := HQ2.out.q.len
                  have hkl : (keepM rs sr).length = (keepM qs sr).length := by
                    have := congrArg List.length (keepM_map rs qs sr HQ2.out.q.eq)
                    simpa using this
                  have hrd := rdropM_any n (.slice a rs.length c) rs sr w2 HQ2.out.q.rd hone (fun j hj => (HQ2.out.q.sep j hj).2.2) (by have := HQ2.out.q.m.cnt; have := HQ2.out.q.m.le; omega)
                  unfold RDropM rM at hrd
                  have hdp := fun (W : World) (hW : IsM W B g n v qs) => dropM_any hW sr
                  unfold DropM at hdp
                  have hcnt : rs.length - (keepM rs sr).length = qs.length - (keepM qs sr).length := by rw [hlr, hkl]
                  rw [hcnt] at hrd
                  clear hcnt
                  generalize qs.length - (keepM qs sr).length = cn at hrd hdp
                  generalize hkr : keepM rs sr = kr at hrd
                  have HKR := Lib.hid hkr
                  have HRD := Lib.hid hrd
                  have HDP := Lib.hid hdp
                  clear hone hlr hkl hrd hdp hkr
                  go_wp2_with (first | ((with_reducible refine is_load 32 89 9 ?_); go_must (refine ld_row 32 89 9 pb _ _ rfl HQ2.out.b Try.underlying32 refqsize ?_)) | (go_at_call 17; refine HRD.out.mono ?_; go_must (rintro e w3 ⟨u3, rfl, ho3, hg3⟩; obtain ⟨a3, c3, rfl, hl3, hl3'⟩ := ho3.rd.len; have HO3 := Lib.hid ho3; have HG3 := Lib.hid hg3; have HZ3 := Lib.hid (heap_at_alloc w3 (.cells #[.int .i64 0, .slice none 0 0] 32)); have HGZ3 := Lib.hid (gb_alloc w3 (.cells #[.int .i64 0, .slice none 0 0] 32) none); clear ho3 hg3 hl3 hl3')) | ((with_reducible refine is_store 32 22 93 ?_); go_must (refine st_row 32 22 93 w3.heap.size _ #[.int .i64 (n : Int), .slice a3 kr.length c3] _ rfl rfl HZ3.out refqsize rfl rfl ?_; intro w4 hb4 hg4; have HB4 := Lib.hid hb4; have HG34 := Lib.hid (gb_new HGZ3.out hg4 (Nat.le_refl _)); have HG24 := Lib.hid (gb_same HG3.out HG34.out); have HQ4 := Lib.hid (HQ2.out.grown HG24.out); have xx1 : w4.cell? ⟨xb, 1, none⟩ = some (.int .i64 sr) := cell_row (j := 1) (blk_kept HX2.out HG24.out); have HDW := Lib.hid (HDP.out w4 HQ4.out.q.m); have HS4 : Hid (w2.heap.size ≤ w3.heap.size ∧ w3.heap.size < w4.heap.size) := Lib.hid ⟨HG3.out.size, lt_of_blk hb4⟩; clear hb4 hg4)) | (go_at_call 18; refine HDW.out.mono ?_; go_must (rintro e w5 ⟨v5, rfl, hi5, hk5, hv5⟩; have HB5 := Lib.hid (blk_km HB4.out hk5 (by have := HQ2.out.q.m.lt; have := HS4.out; omega) (fun e => by have := (HQ2.out.q.m.row.lt _ e).2; have := HS4.out; omega)); have HP5 := Lib.hid (blk_km HQ4.out.b hk5 HQ4.out.ng HQ4.out.nv); have HI5 := Lib.hid hi5; have HK5 := Lib.hid hk5; have HV5 := Lib.hid hv5; clear hi5 hk5 hv5)) | ((with_reducible refine is_load 32 101 22 ?_); go_must (refine ld_row 32 101 22 w3.heap.size _ _ rfl HB5.out Try.underlying32 refqsize ?_)) | ((with_reducible refine is_store 32 9 101 ?_); go_must (refine st_row 32 9 101 pb _ #[.int .i64 (n : Int), .slice a3 kr.length c3] _ rfl rfl HP5.out refqsize rfl rfl ?_; intro w7 hb7 hg7; have HB7 := Lib.hid hb7; have HG7 := Lib.hid hg7; clear hb7 hg7)))
                  have hkr := HKR.out
                  subst hkr
                  have hsub : ∀ (l : List GP), ∀ p ∈ keepM l sr, p ∈ l := fun l p hp => (List.mem_filter.1 hp).1
                  have hql := HQ4.out.q.newL (HO3.out.rd.grown HG34.out) (fun k e => by
                    have h8 := HO3.out.lt k e
                    exact ⟨by have := HQ2.out.q.m.lt; omega, fun e2 => by have := (HQ2.out.q.m.row.lt _ e2).2; omega, by have := HS4.out; omega⟩) (fun p hp => HQ4.out.q.dt p (hsub _ p hp)) (fun p hp => HQ4.out.q.dsep p (hsub _ p hp)) HI5.out HK5.out (fun k e => .inl (by rw [← HV5.out]; exact e)) (fun p hp => HQ4.out.q.ok p (hsub _ p hp)) (keepM_map rs qs sr HQ4.out.q.eq)
                  have hlb := lt_of_blk HQ2.out.b
                  go_meet
                  case rel => exact ⟨by simp, v5, keepM qs sr, a3, c3, keepM rs sr, Lib.hid (QB.store hql HP5.out HQ2.out.ng (by rw [HV5.out]; exact HQ2.out.nv) (fun e => by have := (HO3.out.lt _ e).1; omega) HQ2.out.lo HB7.out HG7.out)⟩
              case rest =>
                obtain ⟨rfl, v2, qs2, a2, c2, rs2, HQ⟩ := hcut
                have HQ1 := Lib.hid (HQ.out.grown (gb_drew wc none))
                have HS1 := Lib.hid (row2 HQ1.out.b)
                have hln := HQ1.out.q.len
                have HN2 : Hid (n ≤ 200 ∧ rs2.length ≤ 200) := Lib.hid ⟨HQ1.out.q.m.le, by have := HQ1.out.q.m.cnt; have := HQ1.out.q.m.le; omega⟩
                have HOKR : Hid (∀ p ∈ rs2, OkMg p.1) := Lib.hid (fun p hp => by
                  have h1 : p.1 ∈ qs2.map (·.1) := by rw [← HQ1.out.q.eq]; exact List.mem_map.2 ⟨p, hp, rfl⟩
                  obtain ⟨q, hq, e⟩ := List.mem_map.1 h1
                  rw [← e]; exact HQ1.out.q.ok q hq)
                have HLN := Lib.hid hln
                clear hln
                go_wp2_with fail
                refine region_KL (fuel := 18) (listed := #[false, false, false, false, false, false, false, false, false, false, false, false, false, false, false, false, false, false]) (fun X => X.cell? ⟨pb, 0, none⟩ = some (.int .i64 (n : Int)) ∧ X.cell? ⟨pb, 1, none⟩ = some (.slice a2 rs2.length c2)) 17 (by kernel_rfl) rfl (by kernel_rfl) ?_
                generalize wc.drew = y1 at *
                refine wpAnyK_takeL (i := 0) (d := 150) (v := ?_) (T' := ?_) (listed' := #[true, false, false, false, false, false, false, false, false, false, false, false, false, false, false, false, false, false]) rfl rfl (by kernel_rfl) (fun _ _ _ h => h) rfl (Or.inl ⟨by rfl, ?_⟩) ?_ HS1.out ?_
                rotate_left 2
                · intro w hS; clear hS; go_simp; rfl
                · simp only [List.setIfInBounds_toArray, List.set_cons_succ, List.set_cons_zero]; rfl
                refine wpAnyK_takeL (i := 1) (d := 151) (v := ?_) (T' := ?_) (listed' := #[true, true, false, false, false, false, false, false, false, false, false, false, false, false, false, false, false, false]) rfl rfl (by kernel_rfl) (fun _ _ _ h => h) rfl (Or.inl ⟨by rfl, ?_⟩) ?_ HS1.out ?_
                rotate_left 2
                · intro w hS; clear hS; go_simp; rfl
                · simp only [List.setIfInBounds_toArray, List.set_cons_succ, List.set_cons_zero]; rfl
                refine wpAnyK_takeL (i := 2) (d := 152) (v := ?_) (T' := ?_) (listed' := #[true, true, true, false, false, false, false, false, false, false, false, false, false, false, false, false, false, false]) rfl rfl (by kernel_rfl) (fun _ _ _ h => h) rfl (Or.inl ⟨by rfl, ?_⟩) ?_ HS1.out ?_
                rotate_left 2
                · intro w hS; clear hS; go_simp; rfl
                · simp only [List.setIfInBounds_toArray, List.set_cons_succ, List.set_cons_zero]; rfl
                refine wpAnyK_takeL (i := 3) (d := 153) (v := ?_) (T' := ?_) (listed' := #[true, true, true, true, false, false, false, false, false, false, false, false, false, false, false, false, false, false]) rfl rfl (by kernel_rfl) (fun _ _ _ h => h) rfl (Or.inl ⟨by rfl, ?_⟩) ?_ HS1.out ?_
                rotate_left 2
                · intro w hS; clear hS; go_simp; rfl
                · simp only [List.setIfInBounds_toArray, List.set_cons_succ, List.set_cons_zero]; rfl
                refine wpAnyK_takeL (i := 5) (d := 155) (v := ?_) (T' := ?_) (listed' := #[true, true, true, true, false, true, false, false, false, false, false, false, false, false, false, false, false, false]) rfl rfl (by kernel_rfl) (fun _ _ _ h => h) rfl (Or.inl ⟨by rfl, ?_⟩) ?_ HS1.out ?_
                rotate_left 2
                · intro w hS; clear hS; go_simp; rfl
                · simp only [List.setIfInBounds_toArray, List.set_cons_succ, List.set_cons_zero]; rfl
                refine wpAnyK_takeL (i := 6) (d := 156) (v := ?_) (T' := ?_) (listed' := #[true, true, true, true, false, true, true, false, false, false, false, false, false, false, false, false, false, false]) rfl rfl (by kernel_rfl) (fun _ _ _ h => h) rfl (Or.inl ⟨by rfl, ?_⟩) ?_ HS1.out ?_
                rotate_left 2
                · intro w hS; have t1 := hS.2; clear hS; go_simp; rfl
                · simp only [List.setIfInBounds_toArray, List.set_cons_succ, List.set_cons_zero]; rfl
                refine wpAnyK_takeL (i := 7) (d := 157) (v := ?_) (T' := ?_) (listed' := #[true, true, true, true, false, true, true, true, false, false, false, false, false, false, false, false, false, false]) rfl rfl (by kernel_rfl) (fun _ _ _ h => h) rfl (Or.inl ⟨by rfl, ?_⟩) ?_ HS1.out ?_
                rotate_left 2
                · intro w hS; clear hS; go_simp; rfl
                · simp only [List.setIfInBounds_toArray, List.set_cons_succ, List.set_cons_zero]; rfl
                refine wpAnyK_oneL (i := 4) (listed' := #[true, true, true, true, true, true, true, true, false, false, false, false, false, false, false, false, false, false]) (by kernel_rfl) rfl (by rfl) rfl ?_
                intro K hK
                go_simp
                refine (lenM_any HQ1.out.q.m).mono ?_
                rintro e y2 ⟨rfl, rfl⟩
                rw [← HLN.out]
                refine hK _ _ (fun _ => HS1.out) ?_
                clear hK K
                refine wpAnyK_takeL (i := 8) (d := 158) (v := ?_) (T' := ?_) (listed' := #[true, true, true, true, true, true, true, true, true, false, false, false, false, false, false, false, false, false]) rfl rfl (by kernel_rfl) (fun _ _ _ h => h) rfl (Or.inl ⟨by rfl, ?_⟩) ?_ HS1.out ?_
                rotate_left 2
                · intro w hS; clear hS; go_simp; rfl
                · simp only [List.setIfInBounds_toArray, List.set_cons_succ, List.set_cons_zero]; rfl
                refine wpAnyK_takeL (i := 9) (d := 159) (v := ?_) (T' := ?_) (listed' := #[true, true, true, true, true, true, true, true, true, true, false, false, false, false, false, false, false, false]) rfl rfl (by kernel_rfl) (fun _ _ _ h => h) rfl (Or.inl ⟨by rfl, ?_⟩) ?_ HS1.out ?_
                rotate_left 2
                · intro w hS; clear hS; go_simp; rfl
                · simp only [List.setIfInBounds_toArray, List.set_cons_succ, List.set_cons_zero]; rfl
                refine wpAnyK_takeL (i := 10) (d := 160) (v := ?_) (T' := ?_) (listed' := #[true, true, true, true, true, true, true, true, true, true, true, false, false, false, false, false, false, false]) rfl rfl (by kernel_rfl) (fun _ _ _ h => h) rfl (Or.inl ⟨by rfl, ?_⟩) ?_ HS1.out ?_
                rotate_left 2
                · intro w hS; clear hS; go_simp; rfl
                · simp only [List.setIfInBounds_toArray, List.set_cons_succ, List.set_cons_zero]; rfl
                refine wpAnyK_takeL (i := 11) (d := 161) (v := ?_) (T' := ?_) (listed' := #[true, true, true, true, true, true, true, true, true, true, true, true, false, false, false, false, false, false]) rfl rfl (by kernel_rfl) (fun _ _ _ h => h) rfl (Or.inl ⟨by rfl, ?_⟩) ?_ HS1.out ?_
                rotate_left 2
                · intro w hS; clear hS; go_simp; rfl
                · simp only [List.setIfInBounds_toArray, List.set_cons_succ, List.set_cons_zero]; rfl
                refine wpAnyK_takeL (i := 13) (d := 163) (v := ?_) (T' := ?_) (listed' := #[true, true, true, true, true, true, true, true, true, true, true, true, false, true, false, false, false, false]) rfl rfl (by kernel_rfl) (fun _ _ _ h => h) rfl (Or.inl ⟨by rfl, ?_⟩) ?_ HS1.out ?_
                rotate_left 2
                · intro w hS; have t0 := hS.1; have t1 := hS.2; clear hS; go_simp; rfl
                · simp only [List.setIfInBounds_toArray, List.set_cons_succ, List.set_cons_zero]; rfl
                refine wpAnyK_oneL (i := 12) (listed' := #[true, true, true, true, true, true, true, true, true, true, true, true, true, true, false, false, false, false]) (by kernel_rfl) rfl (by rfl) rfl ?_
                intro K hK
                go_simp
                refine (encodeM_any HQ1.out.q.m HQ1.out.q.ok).mono ?_
                rintro e y2 ⟨x2, rfl, ho2, hg2⟩
                have HX2' := Lib.hid ho2
                have HQ2' := Lib.hid (HQ1.out.grown hg2)
                have HS2' := Lib.hid (row2 HQ2'.out.b)
                clear hg2 ho2
                refine hK _ _ (fun _ => HS2'.out) ?_
                clear hK K
                refine wpAnyK_oneL (i := 14) (listed' := #[true, true, true, true, true, true, true, true, true, true, true, true, true, true, true, false, false, false]) (by kernel_rfl) rfl (by rfl) rfl ?_
                intro K hK
                go_simp
                have hre := rencM_any n (.slice a2 rs2.length c2) rs2 y2 HQ2'.out.q.rd HOKR.out HQ2'.out.q.dt HN2.out.1 HN2.out.2
                unfold rM at hre
                refine hre.mono ?_
                rintro e y3 ⟨x3, rfl, ho3, hg3⟩
                rw [HQ1.out.q.eq] at ho3
                have HX3' := Lib.hid ho3
                have HY3' := Lib.hid (HX2'.out.grown hg3)
                have HQ3' := Lib.hid (HQ2'.out.grown hg3)
                have HS3' := Lib.hid (row2 HQ3'.out.b)
                clear hg3 ho3 hre
                refine hK _ _ (fun _ => HS3'.out) ?_
                clear hK K
                refine wpAnyK_oneL (i := 15) (listed' := #[true, true, true, true, true, true, true, true, true, true, true, true, true, true, true, true, false, false]) (by kernel_rfl) rfl (by rfl) rfl ?_
                intro K hK
                go_simp
                refine (same_gW x2 x3 y3 _ HY3'.out.rd.w HX3'.out.rd.w).mono ?_
                rintro e y4 ⟨rfl, hg4⟩
                have HQ4' := Lib.hid (HQ3'.out.grown hg4)
                have HS4' := Lib.hid (row2 HQ4'.out.b)
                clear hg4
                refine hK _ _ (fun _ => HS4'.out) ?_
                clear hK K
                refine wpAnyK_takeL (i := 16) (d := 166) (v := ?_) (T' := ?_) (listed' := #[true, true, true, true, true, true, true, true, true, true, true, true, true, true, true, true, true, false]) rfl rfl (by kernel_rfl) (fun _ _ _ h => h) rfl (Or.inl ⟨by rfl, ?_⟩) ?_ HS4'.out ?_
                rotate_left 2
                · intro w hS; clear hS; go_simp; rfl
                · simp only [List.setIfInBounds_toArray, List.set_cons_succ, List.set_cons_zero]; rfl
                refine wpAnyK_oneL (i := 17) (listed' := #[true, true, true, true, true, true, true, true, true, true, true, true, true, true, true, true, true, true]) (by kernel_rfl) rfl (by rfl) rfl ?_
                intro K hK
                go_simp
                refine hK _ _ (fun h => Bool.noConfusion (show true = false from h)) ?_
                clear hK K
                refine wpAnyK_done (by kernel_rfl) ?_ _
                go_wp2
                go_roundw
                case rel => exact ⟨k + 1, v2, qs2, a2, c2, rs2, by omega, by go_num, HQ4'⟩
                case measure => simp [intOf]; omega
            · obtain rfl : k = ps.length := by omega
              clear hlt
              go_wp2
              go_ret
              exact ⟨rfl, HQ.out.q.gr⟩
end Go.Proofs.Ytfldooljmjeaoaa
