/-
  slices.Clone of records, Log.Records: the walks.
-/
import Derived.Test.YtfdkmncjcehdkaaUWrite
namespace Go.Proofs.Ytfdkmncjcehdkaa
open Go.RowKit

def CloneRP (w : World) (ps : List RP) (e : Ending) (w' : World) : Prop := ∃ v', e = .returned v' ∧ RRow 65 w' w.heap.size v' ps ∧ w.grownBy w' none
theorem app_recs_step {ts te : TypeId} (hu : Try.prog.underlying ts = some (.slice te)) (hin : RInfo te) {ops : Array Oper} {rest : List Oper} {o : Oper} {a : Act} {w : World} {Q : Exit → Act → World → Prop} (hgd : o.guard = none) (s y : Operand)
    (ho : o.op = .call { callee := .builtin .append, args := #[s, y], argTypes := #[ts, ts] }) (B : Nat) (v sv : Value) (ps qs : List RP) (hs : a.eval s = v) (hy : a.eval y = sv) (h : RRow te w B v ps) (hr : RdRow w sv qs) (hq : ∀ p ∈ qs, p.2.oneCell' = true)
    (hn : ps.length + qs.length ≤ 1000000) (hB : B ≤ w.heap.size)
    (hK : ∀ v' w', RRow te w' B v' (ps ++ qs) → w.grownBy w' v.ownBlock → Fr w v v' → wpList Try.prog ops Q rest (a.put o.dst v') w') : wpList Try.prog ops Q (o :: rest) a w :=
  wpList_plain hgd fun _ hK2 => rec_app_op hu hin s y ho B v sv ps qs hs hy h hr hq hn hB (fun v' w' h1 h2 h3 => hK2 _ _ (hK v' w' h1 h2 h3))
theorem RRow.lit0 (te : TypeId) (w : World) : RRow te (w.alloc (.cells #[] te)) w.heap.size (.slice (some ⟨w.heap.size, 0, none⟩) 0 0) [] :=
  World.ownsRow_lit (e := te) (size := 3) w #[] 0 (Nat.le_refl _) (Nat.zero_le _) rfl
set_option maxRecDepth 100000 in
theorem cloneR_any (v : Value) (ps : List RP) (w : World) (hv : RdRow w v ps) (hq : ∀ p ∈ ps, p.2.oneCell' = true) (hn : ps.length ≤ 1000000) :
    Calls Try.prog 36 #[v] w (CloneRP w ps) := by
  have HV := Lib.hid hv
  have HQ := Lib.hid hq
  have q42 : ∀ (w : World) (a : Option Addr) (n c n' c' : Nat), (binOp .eql 42 (.slice a n c) (.slice none n' c')).run Try.prog w = .ok (.bool a.isNone) w := fun w a n c n' c' => Lib.run_eql_slice_nil w _ _ a n c n' c' Try.underlying42
  rcases hv with ⟨rfl, rfl⟩ | ⟨b, off, cap, rfl, h1, h2, _⟩
  · go_enter Try.func36, Try.ntmps36
    go_wp2
    go_ret
    exact ⟨_, rfl, RRow.nil _ _ _, gb_refl _ _⟩
  · have HO := Lib.hid (RRow.lit0 65 w)
    have HN := Lib.hid hn
    clear hq hn
    go_enter Try.func36, Try.ntmps36
    go_wp2_with (at_builtin; refine app_recs_step Try.underlying42 info_rec rfl _ _ rfl w.heap.size _ _ [] ps rfl rfl HO.out (RdRow.kept HV.out (gb_alloc _ _ none) (by simp)) HQ.out (by have := HN.out; simp; omega) (by simp) ?_; go_must (intro v2 w2 ho2 hg2 hf2; rw [List.nil_append] at ho2))
    go_ret
    exact ⟨_, rfl, ho2, gb_trans (gb_alloc _ _ none) hg2 (fun k hk => .inr (World.ownsRow.lt HO.out k hk).1)⟩

theorem cellsR_set (ds : List RP) (p : RP) (rest : List RP) (u : Value) : (cellsR (ds ++ p :: rest)).set (ds.length * 3 + 2) u = cellsR (ds ++ (p.1, u) :: rest) := by
  have e1 : cellsR (ds ++ p :: rest) = cellsR ds ++ (rowR p ++ cellsR rest) := by simp [cellsR]
  have e2 : cellsR (ds ++ (p.1, u) :: rest) = cellsR ds ++ (rowR (p.1, u) ++ cellsR rest) := by simp [cellsR]
  rw [e1, e2, List.set_append_right _ _ (by rw [cellsR_len]; omega), cellsR_len]
  congr 1
  rw [show ds.length * 3 + 2 - ds.length * 3 = 2 by omega]
  rfl
theorem RRow.setData {te : TypeId} {w : World} {B g n c : Nat} {ds : List RP} {p : RP} {rest : List RP} (h : RRow te w B (.slice (some ⟨g, 0, none⟩) n c) (ds ++ p :: rest)) (hn : (ds ++ p :: rest).length = n) (u : Value) :
    RRow te (w.setCell ⟨g, ds.length * 3 + 2, none⟩ u) B (.slice (some ⟨g, 0, none⟩) n c) (ds ++ (p.1, u) :: rest) := by
  unfold RRow at h ⊢
  rw [hn] at h
  have := (World.ownsRow.stored h (ds.length * 3 + 2) u).1
  rw [cellsR_set] at this
  have e : (ds ++ (p.1, u) :: rest).length = n := by rw [← hn]; simp
  rw [e]; exact this
theorem RRow.fz {te : TypeId} {w : World} {B g n c : Nat} {ps : List RP} (h : RRow te w B (.slice (some ⟨g, 0, none⟩) n c) ps) (hn : ps.length = n) (j : Nat) : w.frozen? ⟨g, j, none⟩ = false := by
  unfold RRow at h
  rw [hn] at h
  exact World.ownsRow.frozenAt h j

/-- records that the call made -/
def RecsP (w : World) (rs : List RT) (e : Ending) (w' : World) : Prop :=
  ∃ v' ps', e = .returned v' ∧ RdRs w' v' ps' ∧ ps'.map (·.1) = rs ∧ w.grownBy w' none ∧ (∀ k, v'.ownBlock = some k → w.heap.size ≤ k) ∧ ∀ p ∈ ps', ∀ k, p.2.ownBlock = some k → w.heap.size ≤ k
theorem records_nil (w : World) : Calls Try.prog 17 #[.pointer none] w fun e w' => e = .returned (.slice none 0 0) ∧ w = w' := by
  go_enter Try.func17, Try.ntmps17
  go_wp2
  go_ret
  exact ⟨rfl, rfl⟩
set_option maxRecDepth 100000 in
set_option maxHeartbeats 2000000 in
theorem records_any {w : World} {F : Nat → Prop} {g : Nat} {iv rv : Value} {img : List UInt8} {ps : List RP} {op : Bool} (h : LogF w F g iv rv img ps op) (hn : ps.length ≤ 1000000) (hd : ∀ p ∈ ps, p.1.2.2.length ≤ 140737488355328) :
    Calls Try.prog 17 #[.pointer (some ⟨g, 0, none⟩)] w (RecsP w (ps.map (·.1))) := by
  have q : w.cell? ⟨g, 1, none⟩ = some rv := cell_row h.blk
  have HC := Lib.hid (cloneR_any rv ps w h.row.rd (fun p hp => (h.data p hp).one) hn)
  have H := Lib.hid h
  have HD := Lib.hid hd
  obtain ⟨ar, cr, rfl⟩ := h.row.slice
  clear h hd
  go_enter Try.func17, Try.ntmps17
  go_wp2_with fail
  refine HC.out.mono ?_
  rintro e w1 ⟨v1, rfl, hr1, hg1⟩
  obtain ⟨a1, c1, rfl⟩ := hr1.slice
  have HR1 := Lib.hid hr1
  have HG1 := Lib.hid hg1
  clear hr1 hg1
  go_wp2_with fail
  go_loopw [14] (fun i wr => ∃ (k : Nat) (ds : List RP), k ≤ ps.length ∧ i = .int .i64 k ∧ Hid (ds.length = k ∧ ds.map (·.1) = (ps.take k).map (·.1)) ∧ Hid (RRow 65 wr w.heap.size (.slice a1 ps.length c1) (ds ++ ps.drop k)) ∧ Hid (∀ p ∈ ds, Own wr w.heap.size p.2 p.1.2.2 ∧ ∀ j, (Value.slice a1 ps.length c1).ownBlock = some j → p.2.ownBlock ≠ some j) ∧ Hid (w.grownBy wr none)) (fun i _ => ps.length - (intOf i).toNat)
  case atStart => exact ⟨0, [], Nat.zero_le _, rfl, Lib.hid ⟨rfl, rfl⟩, Lib.hid (by simpa using HR1.out), Lib.hid (by simp), HG1⟩
  case round =>
    obtain ⟨k, ds, hk, rfl, HDS, HR, HO, HG⟩ := hrel
    by_cases hlt : k < ps.length
    · obtain ⟨p, hp⟩ : ∃ p, ps[k]? = some p := ⟨ps[k], by simp [hlt]⟩
      have hdrop : ps.drop k = p :: ps.drop (k + 1) := by rw [List.drop_eq_getElem_cons hlt]; congr 1; simpa [hlt] using hp
      have hpm := List.mem_of_getElem? hp
      have hr := HR.out
      rw [hdrop] at hr
      have hlen : (ds ++ p :: ps.drop (k + 1)).length = ps.length := by rw [← hdrop, List.length_append, List.length_drop, HDS.out.1]; omega
      obtain ⟨gL, hgL⟩ : ∃ gL, a1 = some ⟨gL, 0, none⟩ := by
        rcases hr.2 with ⟨_, h0⟩ | ⟨gg, cap, cu, h0, _⟩
        · omega
        · simp only [Value.slice.injEq] at h0; exact ⟨gg, h0.1⟩
      subst hgL
      have hcell : wr.cell? ⟨gL, k * 3 + 2, none⟩ = some p.2 := by
        have h1 := hr
        unfold RRow at h1
        rw [hlen] at h1
        rw [World.ownsRow.cellAt h1 (k * 3 + 2) (by omega)]
        have h2 := cellsR_get 2 (by omega) (ds ++ p :: ps.drop (k + 1)) (i := k) (p := p) (by rw [List.getElem?_append_right (by rw [HDS.out.1]; exact Nat.le_refl _), HDS.out.1]; simp)
        rw [h2]; rfl
      have hod := (H.out.data p hpm).grown HG.out
      obtain ⟨ad, cd, hpd⟩ := hod.rd.len
      rw [hpd] at hcell hod
      have HCL := Lib.hid (clone_any _ _ wr hod.rd (HD.out p hpm))
      have HP := Lib.hid hp
      have HDR := Lib.hid hdrop
      have HR2 := Lib.hid hr
      have HLEN := Lib.hid hlen
      clear hp hdrop hpm hr hlen hod hpd
      go_wp2_with (go_at_call 32; (with_reducible refine HCL.out.mono ?_); go_must (rintro e w5 ⟨v5, rfl, ho5, hg5⟩; obtain ⟨a5, c5, hv5⟩ := ho5.rd.len; subst hv5; have HO5 := Lib.hid ho5; have HG5 := Lib.hid hg5; have e1 := hg5.cell hcell (by simp); have e2 : w5.frozen? ⟨gL, k * 3 + 2, none⟩ = false := (HR2.out.grown hg5).fz HLEN.out _; clear ho5 hg5))
      have hset := (HR2.out.grown HG5.out).setData HLEN.out (.slice a5 p.1.2.2.length c5)
      rw [HDS.out.1] at hset
      have hnl : ∀ j, (Value.slice (some ⟨gL, 0, none⟩) ps.length c1).ownBlock = some j → j < wr.heap.size ∧ w.heap.size ≤ j := fun j hj => ⟨(World.ownsRow.lt HR2.out j hj).2, (World.ownsRow.lt HR2.out j hj).1⟩
      refine ⟨⟨k + 1, ds ++ [(p.1, .slice a5 p.1.2.2.length c5)], by omega, by go_num, Lib.hid ⟨by rw [List.length_append, HDS.out.1]; rfl, ?_⟩, Lib.hid ?_, Lib.hid ?_, Lib.hid ?_⟩, by simp [intOf]; omega⟩
      · rw [List.map_append, HDS.out.2, List.take_add_one, HP.out, List.map_append]; rfl
      · rw [List.append_assoc]; exact hset
      · have key : ∀ v l, Own w5 w.heap.size v l → (∀ j, (Value.slice (some ⟨gL, 0, none⟩) ps.length c1).ownBlock = some j → v.ownBlock ≠ some j) → Own (w5.setCell ⟨gL, k * 3 + 2, none⟩ (.slice a5 p.1.2.2.length c5)) w.heap.size v l := fun v l ho hne => ho.kept (gb_setCell _ _ _) (fun j hj e => hne gL rfl (by rw [hj]; simpa using e.symm))
        intro q hq
        rcases List.mem_append.1 hq with h | h
        · exact ⟨key _ _ ((HO.out q h).1.grown HG5.out) (HO.out q h).2, (HO.out q h).2⟩
        · simp at h
          subst h
          have hne : ∀ j, (Value.slice (some ⟨gL, 0, none⟩) ps.length c1).ownBlock = some j → (Value.slice a5 p.1.2.2.length c5).ownBlock ≠ some j := fun j hj e => by have := (hnl j hj).1; have := (HO5.out.lt j e).1; omega
          exact ⟨key _ _ (HO5.out.mono HG.out.size) hne, hne⟩
      · exact gb_trans (gb_same HG.out HG5.out) (gb_setCell _ _ _) (fun j hj => .inr (by cases hj; exact (hnl gL rfl).2))
    · obtain rfl : k = ps.length := by omega
      go_wp2
      go_ret
      refine ⟨.slice a1 ps.length c1, ds, rfl, ⟨?_, fun q hq => .inl (HO.out q hq).1.rd⟩, ?_, HG.out, fun j hj => (World.ownsRow.lt HR.out j hj).1, fun q hq j hj => ((HO.out q hq).1.lt j hj).1⟩
      · have h := HR.out.rd
        rwa [List.drop_length, List.append_nil] at h
      · rw [HDS.out.2, List.take_of_length_le (Nat.le_refl _)]
end Go.Proofs.Ytfdkmncjcehdkaa
