/-
  undo.Recover: the walk.
-/
import Derived.Test.YtfdkmncjcehdkaaUTake
namespace Go.Proofs.Ytfdkmncjcehdkaa
open Go.RowKit

theorem RdRow.blk {w : World} {v : Value} {ps : List RP} (h : RdRow w v ps) (hl : ps ≠ []) : ∀ k, v.ownBlock = some k → k < w.heap.size := by
  intro k hk
  rcases h with ⟨rfl, _⟩ | ⟨b, off, cap, rfl, h1, h2, h3⟩
  · simp [Value.ownBlock] at hk
  · simp only [Value.ownBlock, Option.some.injEq] at hk
    subst hk
    cases ps with
    | nil => exact absurd rfl hl
    | cons x xs => exact World.block_lt_of_cell? _ _ (h3 0 _ rfl)
/-- bytes that the call owns, or an error -/
def RecP (w : World) (ok : Bool) (l : List UInt8) (e : Ending) (w' : World) : Prop :=
  ∃ v er, e = .returned (.tuple #[v, .int .i64 er]) ∧ w.grownBy w' none ∧ (ok = true → er = 0 ∧ Own w' w.heap.size v l) ∧ (ok = false → er = 1 ∧ v = .slice none 0 0)
theorem Own.raise {w : World} {B B' : Nat} {v : Value} {l : List UInt8} (h : Own w B v l) (hb : ∀ k, v.ownBlock = some k → B' ≤ k) : Own w B' v l := by
  obtain ⟨h1, h2⟩ := h
  refine ⟨h1, ?_⟩
  rcases h2 with h2 | ⟨g, cap, cur, rfl, h3, h4⟩
  · exact .inl h2
  · exact .inr ⟨g, cap, cur, rfl, hb g rfl, h4⟩
def okAll (rs : List RT) : Bool := rs.all okR
theorem grownBy_fr {w w1 w2 : World} {v : Value} (h : w.grownBy w1 none) (k : w1.grownBy w2 v.ownBlock) (hb : ∀ j, v.ownBlock = some j → w.heap.size ≤ j) : w.grownBy w2 none :=
  gb_trans h k (fun j hj => .inr (hb j hj))

set_option maxRecDepth 100000 in
set_option maxHeartbeats 4000000 in
theorem recover_any (va lv : Value) (l : List UInt8) (ps : List RP) (w : World) (hv : Rd w va l) (hl : RdRs w lv ps) (hlen : l.length ≤ 140737488355328) (hn : ps.length ≤ 1000000) :
    Calls Try.prog 22 #[va, lv] w (RecP w (okAll (ps.map (·.1))) (recL l (ps.map (·.1)))) := by
  obtain ⟨a0, c0, rfl⟩ := hv.len
  obtain ⟨al, cl, rfl⟩ := hl.1.len
  have HV := Lib.hid hv
  have HL := Lib.hid hl
  clear hv hl
  go_enter Try.func22, Try.ntmps22
  go_wp2_with fail
  go_loopw [10] (fun i wr => ∃ k : Nat, k ≤ ps.length ∧ i = .int .i64 k ∧ Hid (∀ p ∈ ps.take k, okR p.1 = true) ∧ Hid (w.grownBy wr none)) (fun i _ => ps.length - (intOf i).toNat)
  case atStart => exact ⟨0, Nat.zero_le _, rfl, Lib.hid (by simp), Lib.hid (gb_refl _ _)⟩
  case round =>
    obtain ⟨k, hk, rfl, HOK, HG⟩ := hrel
    by_cases hlt : k < ps.length
    · obtain ⟨p, hp⟩ : ∃ p, ps[k]? = some p := ⟨ps[k], by simp [hlt]⟩
      have hpm := List.mem_of_getElem? hp
      obtain ⟨gb, off, rfl, q0, q1, q2⟩ := HL.out.1.at hp
      have r0 := HG.out.cell q0 (by simp)
      have r1 := HG.out.cell q1 (by simp)
      have r2 := HG.out.cell q2 (by simp)
      have hrd := (HL.out.2 p hpm).grown HG.out
      obtain ⟨ad, cd, hpd⟩ := hrd.len
      rw [hpd] at r2 hrd
      have HVA := Lib.hid (fun W (hW : wr.grownBy W none) => valid_any p.1 (.slice ad p.1.2.2.length cd) W (hrd.grown hW))
      have HSN : Hid (ps.take (k + 1) = ps.take k ++ [p]) := Lib.hid (by rw [List.take_add_one, hp]; rfl)
      have HPM := Lib.hid hpm
      clear q0 q1 q2 hp hpm hrd hpd
      cases hok : okR p.1
      · rw [hok] at HVA
        have HO := Lib.hid hok
        clear hok
        go_wp2_with (go_at_call 39; refine (HVA.out _ (gb_alloc _ _ _)).mono ?_; rintro e w1 ⟨rfl, hg1⟩)
        refine bodyPost_ret (v := .tuple #[.slice none 0 0, .int .i64 1]) (by simp [results, Try.results22, go_sem]) rfl ?_
        refine ⟨_, _, rfl, gb_same (gb_same HG.out (gb_alloc _ _ _)) hg1, (fun h => ?_), fun _ => ⟨rfl, rfl⟩⟩
        unfold okAll at h
        rw [List.all_eq_true] at h
        have := h p.1 (List.mem_map_of_mem HPM.out)
        rw [HO.out] at this
        cases this
      · rw [hok] at HVA
        have HO := Lib.hid hok
        clear hok
        go_wp2_with (go_at_call 39; refine (HVA.out _ (gb_alloc _ _ _)).mono ?_; rintro e w1 ⟨rfl, hg1⟩)
        go_roundw
        case rel => exact ⟨k + 1, by omega, by go_num, Lib.hid (by
          rw [HSN.out]
          intro q hq
          rcases List.mem_append.1 hq with h | h
          · exact HOK.out q h
          · simp at h; subst h; exact HO.out), Lib.hid (gb_same (gb_same HG.out (gb_alloc _ _ none)) hg1)⟩
        case measure => simp [intOf]; omega
    · obtain rfl : k = ps.length := by omega
      have HALL : Hid (∀ p ∈ ps, okR p.1 = true) := Lib.hid (by have h := HOK.out; rwa [List.take_of_length_le (Nat.le_refl _)] at h)
      have HC := Lib.hid (clone_any _ l wr (HV.out.grown HG.out) hlen)
      go_wp2_with (go_at_call 32; refine HC.out.mono ?_; go_must (rintro e w1 ⟨v1, rfl, ho1, hg1⟩; have HO1 := Lib.hid ho1; have HG1 := Lib.hid hg1; have HTB := Lib.hid (takeBack_any v1 (.slice al ps.length cl) l ps w1 (ho1.mono (Nat.zero_le _)) ((HL.out.grown HG.out).grown hg1) HALL.out hn (fun hne k hk e => by have h1 := HL.out.1.blk hne k hk; have h2 := (HO1.out.lt k e).1; have h3 := HG.out.size; omega) (fun p hp hne k hk e => by have h1 := (HL.out.2 p hp).blk hne k hk; have h2 := (HO1.out.lt k e).1; have h3 := HG.out.size; omega)); clear ho1 hg1))
      refine HTB.out.mono ?_
      rintro e w2 ⟨v2, rfl, ho2, hg2, hf2⟩
      go_wp2
      go_ret2
      refine ⟨_, _, rfl, grownBy_fr (gb_same HG.out HG1.out) hg2 (fun j hj => Nat.le_trans HG.out.size (HO1.out.lt j hj).1), (fun _ => ⟨rfl, ho2.raise (fun j hj => ?_)⟩), (fun h => ?_)⟩
      · rcases hf2 j hj with h | h
        · exact Nat.le_trans HG.out.size (HO1.out.lt j h).1
        · have h1 := HG.out.size; have h2 := HG1.out.size; omega
      · unfold okAll at h
        have : (ps.map (·.1)).all okR = true := by rw [List.all_eq_true]; intro r hr; obtain ⟨p, hp, rfl⟩ := List.mem_map.1 hr; exact HALL.out p hp
        rw [this] at h
        cases h
end Go.Proofs.Ytfdkmncjcehdkaa
