/-
  extent.Runs: the walk.
-/
import Derived.Test.YtpfeaeklenopdaaERow
namespace Go.Proofs.Ytpfeaeklenopdaa
open Go.RowKit

def stepR (rs : List ST) (least z : Int) : List ST := match rs.getLast? with | none => [(z, 1)] | some p => if z = least then rs.dropLast ++ [(p.1, p.2 + 1)] else rs ++ [(z, 1)]
theorem stepR_nil (least z : Int) : stepR [] least z = [(z, 1)] := rfl
theorem stepR_eq (rs : List ST) (f n z : Int) : stepR (rs ++ [(f, n)]) z z = rs ++ [(f, n + 1)] := by unfold stepR; simp
theorem stepR_ne (rs : List ST) (f n : Int) {least z : Int} (h : z ≠ least) : stepR (rs ++ [(f, n)]) least z = rs ++ [(f, n)] ++ [(z, 1)] := by unfold stepR; simp [h]
def runsGo : List ST → Int → List Int → Except Int (List ST)
  | rs, _, [] => .ok rs
  | rs, least, z :: zs => if z < least ∨ 1073741824 < z then .error 1 else runsGo (stepR rs least z) (z + 1) zs
def runsS (zs : List Int) : Except Int (List ST) := if 4096 < zs.length then .error 1 else runsGo [] 0 zs
/-- runs and a code -/
def RunsP (te : TypeId) (w : World) (o : Except Int (List ST)) (e : Ending) (w' : World) : Prop :=
  match o with
  | .error c => e = .returned (.tuple #[.slice none 0 0, .int .i64 c]) ∧ w.grownBy w' none
  | .ok rs => ∃ v', e = .returned (.tuple #[v', .int .i64 0]) ∧ OwnR te w' w.heap.size v' rs ∧ w.grownBy w' none
theorem dropZ {zs : List Int} {i : Nat} {z : Int} (h : zs[i]? = some z) : zs.drop i = z :: zs.drop (i + 1) := by
  obtain ⟨h1, h2⟩ := List.getElem?_eq_some_iff.1 h
  rw [List.drop_eq_getElem_cons h1, h2]
theorem snoc_of {rs : List ST} (h : rs ≠ []) : ∃ rs' f n, rs = rs' ++ [(f, n)] := ⟨rs.dropLast, (rs.getLast h).1, (rs.getLast h).2, (List.dropLast_concat_getLast h).symm⟩
set_option maxRecDepth 100000 in
set_option maxHeartbeats 4000000 in
theorem runs_any (zv : Value) (zs : List Int) (w : World) (hz : RdL w zv (ivs zs)) (hzl : zs.length ≤ 5000) :
    Calls Try.prog 29 #[zv] w (RunsP 49 w (runsS zs)) := by
  obtain ⟨az, cz, rfl⟩ := hz.len
  rw [ivs_len] at hz ⊢
  have HZ := Lib.hid hz
  have hzI : (zs.length : Int) ≤ 5000 := by omega
  clear hz
  by_cases hbig : 4096 < zs.length
  · have hb : (4096 : Int) < (zs.length : Int) := by omega
    unfold runsS
    rw [if_pos hbig]
    clear hbig
    go_enter Try.func29, Try.ntmps29
    go_wp2
    go_ret2
    exact ⟨rfl, gb_refl _ _⟩
  · have hb : ¬ (4096 : Int) < (zs.length : Int) := by omega
    have hoo : runsS zs = runsGo [] 0 zs := by unfold runsS; rw [if_neg hbig]
    generalize runsS zs = oo at *
    have HOO := Lib.hid hoo
    clear hbig hoo
    go_enter Try.func29, Try.ntmps29
    go_wp2
    go_loopw [4, 5, 14] (fun rv lv u wr => ∃ (i : Nat) (rs : List ST) (least : Int), i ≤ zs.length ∧ u = .int .i64 (i : Int) ∧ lv = .int .i64 least ∧ 0 ≤ least ∧ least ≤ 1073741825 ∧ Hid (rs.length ≤ i) ∧ Hid (∀ p ∈ rs, 0 ≤ p.2 ∧ p.2 ≤ (i : Int)) ∧ Hid (oo = runsGo rs least (zs.drop i)) ∧ Hid (OwnR 49 wr w.heap.size rv rs) ∧ Hid (w.grownBy wr none)) (fun _ _ u _ => zs.length - (intOf u).toNat)
    case atStart => exact ⟨0, [], 0, Nat.zero_le _, rfl, rfl, by omega, by omega, Lib.hid (Nat.le_refl _), Lib.hid (fun p hp => by cases hp), HOO, Lib.hid (OwnR.nil _ _ _), Lib.hid (gb_refl _ _)⟩
    case round =>
      obtain ⟨i, rs, least, hi, rfl, rfl, hl0, hl1, HLE, HPB, HF, HO, HG⟩ := hrel
      by_cases hlt : i < zs.length
      · obtain ⟨z, hzz⟩ : ∃ z, zs[i]? = some z := ⟨zs[i], by simp [hlt]⟩
        obtain ⟨zg, off, rfl, hcell⟩ := (HZ.out.grown HG.out).at (j := i) (x := .int .i64 z) (by simp [ivs, hzz])
        have hiI : (i : Int) < (zs.length : Int) := by omega
        have hF := HF.out
        rw [dropZ hzz, runsGo] at hF
        by_cases hbad : z < least ∨ 1073741824 < z
        · rw [if_pos hbad] at hF
          subst hF
          have hbi : z < least ∨ (¬ z < least ∧ (1073741824 : Int) < z) := by omega
          clear hzz hbad HF HOO
          obtain ⟨ar, nr, cr, hrv⟩ : ∃ a n c, u4 = .slice a n c := by obtain ⟨a, c, e⟩ := HO.out.rd.len; exact ⟨_, _, _, e⟩
          subst hrv
          rcases hbi with hbi | ⟨hbi, hbi2⟩
          · go_wp2
            go_ret2
            exact ⟨rfl, HG.out⟩
          · go_wp2
            go_ret2
            exact ⟨rfl, HG.out⟩
        · rw [if_neg hbad] at hF
          have hb1 : ¬ z < least := by omega
          have hb2 : ¬ (1073741824 : Int) < z := by omega
          by_cases hnil : rs = []
          · subst hnil
            rw [stepR_nil] at hF
            have hrv : u4 = .slice none 0 0 ∨ ∃ a c, u4 = .slice a 0 c := by obtain ⟨a, c, e⟩ := HO.out.rd.len; exact .inr ⟨a, c, e⟩
            obtain ⟨ar, cr, hrv⟩ : ∃ a c, u4 = .slice a 0 c := by obtain ⟨a, c, e⟩ := HO.out.rd.len; exact ⟨a, c, e⟩
            subst hrv
            have HF2 := Lib.hid hF
            clear hzz hbad HF HOO hF hrv
            go_wp2_with (at_builtin; refine app_runR Try.underlying47 info_er rfl _ _ rfl w.heap.size _ [] (z, 1) wr.heap.size _ rfl rfl (HO.out.grown (gb_alloc _ _ none)) (heap_at_alloc wr _) (Nat.le_trans HG.out.size (by simp)) (by simp) ?_; go_must (intro v5 w5 ho5 hg5 hf5; have HO5 := Lib.hid ho5; have HG5 : Hid (w.grownBy w5 none) := Lib.hid (gb_trans (gb_same HG.out (gb_alloc wr _ none)) hg5 (fun j hj => .inr (HO.out.lt j hj).1)); clear ho5 hg5 hf5))
            go_roundw
            case rel => exact ⟨i + 1, [(z, 1)], z + 1, by omega, by go_num, by go_num, by omega, by omega, Lib.hid (by simp), Lib.hid (fun p hp => by simp at hp; subst hp; simp; omega), HF2, HO5, HG5⟩
            case measure => simp [intOf]; omega
          · obtain ⟨rs', f, n, rfl⟩ := snoc_of hnil
            obtain ⟨g, cap, hrv, hgB, hgs⟩ := HO.out.at0 hnil
            have hnb := HPB.out (f, n) (by simp)
            have hlen : (rs' ++ [(f, n)]).length = rs'.length + 1 := by simp
            rw [hlen] at hrv
            subst hrv
            have hle := HLE.out
            rw [hlen] at hle
            have hqI : (rs'.length : Int) + 1 ≤ 5000 := by omega
            by_cases hzl2 : z = least
            · subst hzl2
              rw [stepR_eq] at hF
              obtain ⟨h1, h2, h3, h4⟩ := HO.out.last (n + 1)
              have HF2 := Lib.hid hF
              have HO5 := Lib.hid h4
              have hnI : n ≤ 5000 := by have := hnb.2; omega
              have hnI0 : 0 ≤ n := hnb.1
              have HG5 : Hid (w.grownBy (wr.setCell ⟨g, rs'.length * 2 + 1, none⟩ (.int .i64 (n + 1))) none) := Lib.hid (gb_trans HG.out (gb_setCell _ _ _) (fun j hj => .inr (by cases hj; exact hgB)))
              have HPB2 : Hid (∀ p ∈ rs' ++ [(f, n + 1)], 0 ≤ p.2 ∧ p.2 ≤ ((i + 1 : Nat) : Int)) := Lib.hid (fun p hp => by
                rcases List.mem_append.1 hp with hp | hp
                · have := HPB.out p (List.mem_append_left _ hp); omega
                · simp at hp; subst hp; have := hnb; simp; omega)
              have HLE2 : Hid ((rs' ++ [(f, n + 1)]).length ≤ i + 1) := Lib.hid (by simp; omega)
              clear hzz hbad HF HOO hF h4 hnil hnb hlen hle HPB HLE HO
              generalize rs'.length = q at *
              go_wp2
              go_roundw
              case rel => exact ⟨i + 1, rs' ++ [(f, n + 1)], z + 1, by omega, by go_num, by go_num, by omega, by omega, HLE2, HPB2, HF2, HO5, HG5⟩
              case measure => simp [intOf]; omega
            · rw [stepR_ne _ _ _ hzl2] at hF
              have HF2 := Lib.hid hF
              have HPB2 : Hid (∀ p ∈ rs' ++ [(f, n)] ++ [(z, 1)], 0 ≤ p.2 ∧ p.2 ≤ ((i + 1 : Nat) : Int)) := Lib.hid (fun p hp => by
                rcases List.mem_append.1 hp with hp | hp
                · have := HPB.out p hp; omega
                · simp at hp; subst hp; simp; omega)
              have HLE2 : Hid ((rs' ++ [(f, n)] ++ [(z, 1)]).length ≤ i + 1) := Lib.hid (by simp; omega)
              have HRL : Hid ((rs' ++ [(f, n)]).length ≤ 1000000) := Lib.hid (by rw [hlen]; omega)
              clear hzz hbad HF HOO hF hnil hnb hlen hle HPB HLE
              generalize rs'.length = q at *
              go_wp2_with (at_builtin; refine app_runR Try.underlying47 info_er rfl _ _ rfl w.heap.size _ (rs' ++ [(f, n)]) (z, 1) wr.heap.size _ rfl rfl (HO.out.grown (gb_alloc _ _ none)) (heap_at_alloc wr _) (Nat.le_trans HG.out.size (by simp)) HRL.out ?_; go_must (intro v5 w5 ho5 hg5 hf5; have HO5 := Lib.hid ho5; have HG5 : Hid (w.grownBy w5 none) := Lib.hid (gb_trans (gb_same HG.out (gb_alloc wr _ none)) hg5 (fun j hj => .inr (HO.out.lt j hj).1)); clear ho5 hg5 hf5))
              go_roundw
              case rel => exact ⟨i + 1, rs' ++ [(f, n)] ++ [(z, 1)], z + 1, by omega, by go_num, by go_num, by omega, by omega, HLE2, HPB2, HF2, HO5, HG5⟩
              case measure => simp [intOf]; omega
      · obtain rfl : i = zs.length := by omega
        have hF := HF.out
        rw [List.drop_length, runsGo] at hF
        have HF2 := Lib.hid hF
        clear hF
        go_wp2
        go_ret2
        rw [HF2.out]
        exact ⟨_, rfl, HO.out, HG.out⟩
end Go.Proofs.Ytpfeaeklenopdaa
