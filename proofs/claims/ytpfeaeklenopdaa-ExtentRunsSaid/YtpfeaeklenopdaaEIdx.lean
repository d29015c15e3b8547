/-
  extent.Indices: the walk.
-/
import Derived.Test.YtpfeaeklenopdaaERuns
import Derived.Test.YtpfeaeklenopdaaETakeM
import Derived.OwnWalk
namespace Go.Proofs.Ytpfeaeklenopdaa
open Go.RowKit

def okRuns : Int → List ST → Bool
  | _, [] => true
  | least, p :: rs => decide (least ≤ p.1) && (decide (1 ≤ p.2) && (decide (p.2 ≤ 1073741825 - p.1) && okRuns (p.1 + p.2 + 1) rs))
def tot : List ST → Int
  | [] => 0
  | p :: rs => p.2 + tot rs
def oneR (p : ST) (j : Nat) : List Int := (List.range j).map (fun k : Nat => p.1 + (k : Int))
theorem oneR_snoc (p : ST) (j : Nat) : oneR p (j + 1) = oneR p j ++ [p.1 + (j : Int)] := by unfold oneR; rw [List.range_succ, List.map_append]; rfl
theorem oneR_len (p : ST) (j : Nat) : (oneR p j).length = j := by simp [oneR]
def expand : List ST → List Int
  | [] => []
  | p :: rs => oneR p p.2.toNat ++ expand rs
def idxS (rs : List ST) : Except Int (List Int) := if okRuns 0 rs then if 4096 < tot rs then .error 6 else .ok (expand rs) else .error 1
def IdxP (w : World) (o : Except Int (List Int)) (e : Ending) (w' : World) : Prop :=
  match o with
  | .error c => e = .returned (.tuple #[.slice none 0 0, .int .i64 c]) ∧ w.grownBy w' none
  | .ok zs => ∃ v', e = .returned (.tuple #[v', .int .i64 0]) ∧ OwnI w' w.heap.size v' zs ∧ w.grownBy w' none
theorem okRuns_mem : ∀ {rs : List ST} {least : Int}, 0 ≤ least → okRuns least rs = true → ∀ p ∈ rs, 0 ≤ p.1 ∧ 1 ≤ p.2 ∧ p.1 + p.2 ≤ 1073741825
  | [], _, _, _, p, hp => by cases hp
  | q :: rs, least, h0, h, p, hp => by
    rw [okRuns] at h
    simp only [Bool.and_eq_true, decide_eq_true_eq] at h
    rcases List.mem_cons.1 hp with rfl | hp
    · omega
    · exact okRuns_mem (least := q.1 + q.2 + 1) (by omega) h.2.2.2 p hp
theorem expand_len : ∀ {rs : List ST}, (∀ p ∈ rs, 0 ≤ p.1 ∧ 1 ≤ p.2 ∧ p.1 + p.2 ≤ 1073741825) → ((expand rs).length : Int) = tot rs
  | [], _ => rfl
  | q :: rs, h => by
    have h1 := h q (List.mem_cons_self ..)
    have h2 := expand_len (rs := rs) (fun p hp => h p (List.mem_cons_of_mem _ hp))
    rw [expand, tot, List.length_append, oneR_len]
    omega
theorem dropR {rs : List ST} {i : Nat} {p : ST} (h : rs[i]? = some p) : rs.drop i = p :: rs.drop (i + 1) := by
  obtain ⟨h1, h2⟩ := List.getElem?_eq_some_iff.1 h
  rw [List.drop_eq_getElem_cons h1, h2]
theorem mkI_step {ops : Array Oper} {rest : List Oper} {o : Oper} {a : Act} {w : World} {Q : Exit → Act → World → Prop} (hgd : o.guard = none) (l c : Operand) (ho : o.op = .makeSlice 40 l c)
    (m : Nat) (hl : a.eval l = .int .i64 0) (hc : a.eval c = .int .i64 m) (hm : m ≤ 5000)
    (h : ∀ w', OwnI w' w.heap.size (.slice (some ⟨w.heap.size, 0, none⟩) 0 m) [] → w.grownBy w' none → wpList Try.prog ops Q rest (a.put o.dst (.slice (some ⟨w.heap.size, 0, none⟩) 0 m)) w') : wpList Try.prog ops Q (o :: rest) a w := by
  obtain ⟨i0, hi, hz0, hz1, hz2⟩ := info_parts info_int
  obtain ⟨w', hr, h2, h3⟩ := run_make_own (P := Try.prog) w w.heap.size 40 3 i0 (.int .i64 0) 1 Try.underlying40 hi hz0 hz1 .i64 .i64 m (by rw [hz2]; omega) (by simp only [maxLen]; omega) (Nat.le_refl _)
  refine wpList_plain hgd fun _ hK => ?_
  unfold Oper.wp execOp
  simp only [ho, hl, hc, hr, Sem.run_bind, Sem.run_pure, Result.andThen_ok]
  exact hK _ _ (h w' h2 h3)
set_option maxRecDepth 100000 in
set_option maxHeartbeats 4000000 in
theorem indices_any (rv : Value) (rs : List ST) (w : World) (hr : RdT w rv rs) (hrl : rs.length ≤ 5000) (hok : ∀ p ∈ rs, OkT p) :
    Calls Try.prog 31 #[rv] w (IdxP w (idxS rs)) := by
  obtain ⟨ar, cr, rfl⟩ := hr.len
  have HR := Lib.hid hr
  have HOK := Lib.hid hok
  have hrI : (rs.length : Int) ≤ 5000 := by omega
  generalize hoo : idxS rs = oo
  have HOO := Lib.hid hoo
  clear hr hok hoo
  go_enter Try.func31, Try.ntmps31
  go_wp2
  go_loopw [4, 5, 14] (fun lv cv u wr => ∃ (i : Nat) (least cnt : Int), i ≤ rs.length ∧ u = .int .i64 (i : Int) ∧ lv = .int .i64 least ∧ cv = .int .i64 cnt ∧ 0 ≤ least ∧ least ≤ 1073741826 ∧ 0 ≤ cnt ∧ cnt ≤ (i : Int) * 1073741825 ∧ Hid (okRuns 0 rs = okRuns least (rs.drop i)) ∧ Hid (tot rs = cnt + tot (rs.drop i)) ∧ Hid (w.grownBy wr none)) (fun _ _ u _ => rs.length - (intOf u).toNat)
  case atStart => exact ⟨0, 0, 0, Nat.zero_le _, rfl, rfl, rfl, by omega, by omega, by omega, by omega, Lib.hid rfl, Lib.hid (by simp), Lib.hid (gb_refl _ _)⟩
  case round =>
    obtain ⟨i, least, cnt, hi, rfl, rfl, rfl, hl0, hl1, hc0, hc1, HF, HT, HG⟩ := hrel
    by_cases hlt : i < rs.length
    · obtain ⟨p, hp⟩ : ∃ p, rs[i]? = some p := ⟨rs[i], by simp [hlt]⟩
      obtain ⟨b, off, rfl, q0, q1⟩ := (HR.out.grown HG.out).at hp
      have hpo := HOK.out p (List.mem_of_getElem? hp)
      have hiI : (i : Int) < (rs.length : Int) := by omega
      have hF := HF.out
      have hT := HT.out
      rw [dropR hp] at hF hT
      rw [okRuns] at hF
      rw [tot] at hT
      obtain ⟨f, n⟩ := p
      simp only at q0 q1 hF hT
      unfold OkT OkI at hpo
      simp only at hpo
      have HG2 : Hid (∀ cs, w.grownBy (wr.alloc (.cells cs 49)) none) := Lib.hid (fun cs => gb_same HG.out (gb_alloc _ _ _))
      by_cases hgood : least ≤ f ∧ 1 ≤ n ∧ n ≤ 1073741825 - f
      · obtain ⟨g1, g2, g3⟩ := hgood
        have hF2 : okRuns 0 rs = okRuns (f + n + 1) (rs.drop (i + 1)) := by rw [hF]; simp [g1, g2, g3]
        have HF2 := Lib.hid hF2
        have HT2 : Hid (tot rs = (cnt + n) + tot (rs.drop (i + 1))) := Lib.hid (by rw [hT]; omega)
        have hb1 : ¬ f < least := by omega
        have hb2 : ¬ n < 1 := by omega
        have hb3 : ¬ n > 1073741825 - f := by omega
        have hb4 : f + n + 1 ≤ 1073741826 := by omega
        have hb5 : f ≤ 1073741824 := by omega
        have hb6 : cnt + n ≤ ((i + 1 : Nat) : Int) * 1073741825 := by rw [Int.natCast_add, Int.add_mul]; omega
        have hb7 : cnt + n ≤ 9000000000000 := by omega
        clear hF hT hF2 hp hpo
        go_wp2
        go_roundw
        case rel => exact ⟨i + 1, f + n + 1, cnt + n, by omega, by go_num, rfl, rfl, by omega, by omega, by omega, hb6, HF2, HT2, HG2.out _⟩
        case measure => simp [intOf]; omega
      · have HE : Hid (oo = .error 1) := Lib.hid (by
          rw [← HOO.out]
          unfold idxS
          rw [if_neg]
          rw [hF]
          simp only [Bool.and_eq_true, decide_eq_true_eq]
          intro h
          exact hgood ⟨h.1, h.2.1, h.2.2.1⟩)
        clear hF hT hp
        by_cases h1 : f < least
        · clear hgood
          go_wp2
          go_ret2
          rw [HE.out]
          exact ⟨rfl, HG2.out _⟩
        · have h4 : least ≤ f := by omega
          by_cases h2 : n < 1
          · clear hgood
            go_wp2
            go_ret2
            rw [HE.out]
            exact ⟨rfl, HG2.out _⟩
          · have h3 : n > 1073741825 - f := by
              rcases Int.lt_or_le (1073741825 - f) n with h | h
              · exact h
              · exact absurd ⟨h4, by omega, h⟩ hgood
            clear hgood
            go_wp2
            go_ret2
            rw [HE.out]
            exact ⟨rfl, HG2.out _⟩
    · obtain rfl : i = rs.length := by omega
      have hF := HF.out
      have hT := HT.out
      rw [List.drop_length, okRuns] at hF
      rw [List.drop_length, tot, Int.add_zero] at hT
      by_cases hbig : 4096 < cnt
      · have HE : Hid (oo = .error 6) := Lib.hid (by rw [← HOO.out]; unfold idxS; rw [if_pos hF, hT, if_pos hbig])
        clear hF hT
        go_wp2
        go_ret2
        rw [HE.out]
        exact ⟨rfl, HG.out⟩
      · have HE : Hid (oo = .ok (expand rs)) := Lib.hid (by rw [← HOO.out]; unfold idxS; rw [if_pos hF, hT, if_neg hbig])
        obtain ⟨m, hm⟩ := Int.eq_ofNat_of_zero_le hc0
        subst hm
        have HPM := Lib.hid (okRuns_mem (Int.le_refl 0) hF)
        have HEL : Hid ((expand rs).length = m) := Lib.hid (by have := expand_len HPM.out; rw [hT] at this; omega)
        have hmI : (m : Int) ≤ 4096 := by omega
        have HMN : Hid (m ≤ 5000) := Lib.hid (by omega)
        clear hF hT HF HT hbig
        go_wp2_with (at_make; (with_reducible refine mkI_step rfl _ _ rfl m rfl rfl HMN.out ?_); go_must (intro w2 ho2 hg2; have HO2 := Lib.hid ho2; have HG2 := Lib.hid (gb_same HG.out hg2); have HZ2 := Lib.hid HG.out.size; clear ho2 hg2))
        go_loopw [8, 52] (fun lv u wr => ∃ (i : Nat) (E : List Int), i ≤ rs.length ∧ u = .int .i64 (i : Int) ∧ Hid (expand rs = E ++ expand (rs.drop i)) ∧ Hid (OwnI wr w.heap.size lv E) ∧ Hid (w.grownBy wr none)) (fun _ u _ => rs.length - (intOf u).toNat)
        case atStart => exact ⟨0, [], Nat.zero_le _, rfl, Lib.hid rfl, Lib.hid (HO2.out.mono HZ2.out), HG2⟩
        case round =>
          obtain ⟨i, E, hi, rfl, HX, HO, HG3⟩ := hrel
          by_cases hlt : i < rs.length
          · obtain ⟨p, hp⟩ : ∃ p, rs[i]? = some p := ⟨rs[i], by simp [hlt]⟩
            obtain ⟨b, off, rfl, q0, q1⟩ := (HR.out.grown HG3.out).at hp
            have hpm := HPM.out p (List.mem_of_getElem? hp)
            have hiI : (i : Int) < (rs.length : Int) := by omega
            have hX := HX.out
            rw [dropR hp, expand] at hX
            obtain ⟨f, n⟩ := p
            simp only at q0 q1 hpm hX
            obtain ⟨N, rfl⟩ := Int.eq_ofNat_of_zero_le (show 0 ≤ n by omega)
            rw [Int.toNat_natCast] at hX
            have hlen : E.length + N ≤ m := by
              have h := congrArg List.length hX
              rw [HEL.out, List.length_append, List.length_append, oneR_len] at h
              omega
            obtain ⟨wo, rfl⟩ : ∃ x, x = wr := ⟨_, rfl⟩
            have hbx := heap_at_alloc wo (.cells #[.int .i64 f, .int .i64 (N : Int)] 49)
            have HBX := Lib.hid hbx
            have HOA := Lib.hid (HO.out.grown (gb_alloc wo (.cells #[.int .i64 f, .int .i64 (N : Int)] 49) none))
            have HNB : Hid (∀ j, u8.ownBlock = some j → j ≠ wo.heap.size) := Lib.hid (fun j hj => by have := (HO.out.lt j hj).2; omega)
            have HGA := Lib.hid (gb_same HG3.out (gb_alloc wo (.cells #[.int .i64 f, .int .i64 (N : Int)] 49) none))
            have HWO : Hid (w.heap.size ≤ wo.heap.size) := Lib.hid HG3.out.size
            have HX2 : Hid (expand rs = (E ++ oneR (f, (N : Int)) N) ++ expand (rs.drop (i + 1))) := Lib.hid (by rw [hX, List.append_assoc])
            have hf0 : 0 ≤ f := hpm.1
            have hfN : f + (N : Int) ≤ 1073741825 := hpm.2.2
            have HLN := Lib.hid hlen
            clear hp hpm hX hlen hbx HX
            go_wp2_with fail
            go_loopw [8, 58] (fun lv u wr => ∃ j : Nat, j ≤ N ∧ u = .int .i64 (j : Int) ∧ Hid (OwnI wr w.heap.size lv (E ++ oneR (f, (N : Int)) j)) ∧ Hid (w.grownBy wr none) ∧ Hid (wr.heap[wo.heap.size]? = some (.cells #[.int .i64 f, .int .i64 (N : Int)] 49 (0, 0))) ∧ Hid (∀ k, lv.ownBlock = some k → k ≠ wo.heap.size)) (fun _ u _ => N - (intOf u).toNat)
            case atStart => exact ⟨0, Nat.zero_le _, rfl, Lib.hid (by simpa [oneR] using HOA.out), HGA, HBX, HNB⟩
            case round =>
              obtain ⟨j, hj, rfl, HO4, HG4, HB4, HN4⟩ := hrel
              by_cases hjN : j < N
              · have hjI : (j : Int) < (N : Int) := by omega
                have c0 : wr.cell? ⟨wo.heap.size, 0, none⟩ = some (.int .i64 f) := cell_row HB4.out
                have hfj : f + (j : Int) ≤ 1073741825 := by omega
                have HLB : Hid ((E ++ oneR (f, (N : Int)) j).length ≤ 1000000) := Lib.hid (by have := HLN.out; rw [List.length_append, oneR_len]; omega)
                have HSN : Hid (E ++ oneR (f, (N : Int)) j ++ [f + (j : Int)] = E ++ oneR (f, (N : Int)) (j + 1)) := Lib.hid (by rw [oneR_snoc, List.append_assoc])
                have HLT4 : Hid (wo.heap.size < wr.heap.size) := Lib.hid (Array.getElem?_eq_some_iff.1 HB4.out).1
                go_wp2_with (at_builtin; refine app_int rfl _ _ rfl w.heap.size _ (E ++ oneR (f, (N : Int)) j) (f + (j : Int)) wr.heap.size rfl rfl (HO4.out.grown (gb_alloc _ _ none)) (cell_row (j := 0) (heap_at_alloc wr _)) (Nat.le_trans HG4.out.size (by simp)) HLB.out ?_; go_must (intro v5 w5 ho5 hg5 hf5; rw [HSN.out] at ho5; have HO5 := Lib.hid ho5; have HG5 : Hid (w.grownBy w5 none) := Lib.hid (gb_trans (gb_same HG4.out (gb_alloc wr _ none)) hg5 (fun k hk => .inr (HO4.out.lt k hk).1)); have HB5 : Hid (w5.heap[wo.heap.size]? = some (.cells #[.int .i64 f, .int .i64 (N : Int)] 49 (0, 0))) := Lib.hid (blk_kept' (blk_kept HB4.out (gb_alloc wr _ none)) hg5 (fun e => HN4.out _ e rfl)); have HN5 : Hid (∀ k, v5.ownBlock = some k → k ≠ wo.heap.size) := Lib.hid (fun k hk e => by rcases hf5 k hk with h | h; exact HN4.out k h e; have := HLT4.out; simp at h; omega); clear ho5 hg5 hf5))
                go_roundw
                case rel => exact ⟨j + 1, by omega, by go_num, HO5, HG5, HB5, HN5⟩
                case measure => simp [intOf]; omega
              · obtain rfl : j = N := by omega
                go_wp2
                go_roundw
                case rel => exact ⟨i + 1, E ++ oneR (f, (j : Int)) j, by omega, by go_num, HX2, HO4, HG4⟩
                case measure => simp [intOf]; omega
          · obtain rfl : i = rs.length := by omega
            have hX := HX.out
            rw [List.drop_length, expand, List.append_nil] at hX
            have HX2 := Lib.hid hX
            clear hX
            go_wp2
            go_ret2
            rw [HE.out]
            exact ⟨_, rfl, by rw [HX2.out]; exact HO.out, HG3.out⟩
end Go.Proofs.Ytpfeaeklenopdaa
