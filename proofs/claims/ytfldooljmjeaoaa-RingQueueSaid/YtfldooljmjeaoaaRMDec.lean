/-
  ring.DecodeQueue: the walk.
-/
import Derived.Test.YtfldooljmjeaoaaRMEnc
namespace Go.Proofs.Ytfldooljmjeaoaa
open Go.RowKit Go.Shelf

set_option maxRecDepth 100000 in
theorem read2_any (v : Value) (bs : List UInt8) (w : World) (h : Rd w v bs) (hb : bs.length ≤ 1099511627776) :
    Calls Try.prog 27 #[v] w fun e w' => ∃ b sl, e = .returned (.pointer (some ⟨b, 0, none⟩)) ∧ w.heap.size ≤ b ∧ IsR w' b sl bs 0 false ∧ w.grownBy w' none ∧ (∀ k, sl.ownBlock = some k → w.heap.size ≤ k ∧ k < w'.heap.size) := by
  have HC := Lib.hid (sclone_any v bs w h hb)
  have HB := Lib.hid hb
  clear h hb
  go_enter Try.func27, Try.ntmps27
  go_wp2_with (go_at_call 45; refine HC.out.mono ?_; rintro e w1 ⟨v1, rfl, ho1, hg1⟩; obtain ⟨a1, c1, rfl⟩ := ho1.rd.len)
  go_ret
  exact ⟨w1.heap.size, _, rfl, hg1.size, ⟨heap_alloc_new _ _, ho1.rd.grown (gb_alloc _ _ _), fun e => by have := (ho1.lt _ e).2; omega, Nat.zero_le _, HB.out⟩, gb_trans0 hg1 (gb_alloc _ _ _), fun k hk => ⟨(ho1.lt k hk).1, by have := (ho1.lt k hk).2; simp; omega⟩⟩

def HeldD (S : Nat) (ps : List GP) : Prop := ∀ p ∈ ps, p.1.z ≠ [] → ∀ k, p.2.ownBlock = some k → S ≤ k
/-- the queue with one more message that was just read -/
theorem IsM.push2 {w5 w6 : World} {B g n : Nat} {v v' dv : Value} {ps : List GP} {m : Mg} (h : IsM w5 B g n v ps) (hn : ps.length < n) (hd : Rd w5 dv m.z) (hdg : ∀ k, dv.ownBlock = some k → k ≠ g ∧ v.ownBlock ≠ some k ∧ k < w5.heap.size) (hg6 : w5.grownBy w6 v.ownBlock)
    (h6 : GRow w6 B v' (ps ++ [(m, dv)])) (hf : Fr w5 v v') : IsM (w6.setCell ⟨g, 1, none⟩ v') B g n v' (ps ++ [(m, dv)]) := by
  have hgl := h.lt
  have hs6 := hg6.size
  have hv'g : v'.ownBlock ≠ some g := fun e => by
    rcases hf g e with h1 | h1
    · exact h.ne h1
    · omega
  have hblk : w6.heap[g]? = some (.cells #[.int .i64 (n : Int), v] 61 (0, 0)) := by
    rw [hg6.block g (by omega) (fun e => h.ne e.symm)]; exact h.blk
  refine ⟨?_, ?_, ?_, hv'g, ?_, by simp; omega, h.le⟩
  · rw [blk_set hblk]; simp
  · exact h6.kept (gb_setCell _ _ _) (fun k hk e => hv'g (by simp at e; rw [hk, e]))
  · intro p hp
    rcases List.mem_append.1 hp with hp | hp
    · by_cases hz : p.1.z = []
      · have h1 := h.data p hp
        rw [hz] at h1 ⊢
        rcases h1 with h4 | ⟨b, off, cap, h4, h5, h7, h8⟩
        · exact .inl h4
        · exact .inr ⟨b, off, cap, h4, h5, h7, fun j x hj => by simp at hj⟩
      · have h1 := h.dne p hp hz
        exact ((h.data p hp).kept hg6 (fun k hk e => (h1 k hk).2 e)).kept (gb_setCell _ _ _) (fun k hk e => (h1 k hk).1 (by simp at e; exact e.symm))
    · simp at hp
      subst hp
      exact (hd.kept hg6 (fun k hk e => (hdg k hk).2.1 e)).kept (gb_setCell _ _ _) (fun k hk e => (hdg k hk).1 (by simp at e; exact e.symm))
  · intro p hp hz k hk
    rcases List.mem_append.1 hp with hp | hp
    · have h1 := h.dne p hp hz k hk
      refine ⟨h1.1, fun e => ?_⟩
      rcases hf k e with h2 | h2
      · exact h1.2 h2
      · have := (h.data p hp).blk hz k hk; omega
    · simp at hp
      subst hp
      have h1 := hdg k hk
      refine ⟨h1.1, fun e => ?_⟩
      rcases hf k e with h2 | h2
      · exact h1.2.1 h2
      · omega
def decE (bs : List UInt8) (n : Nat) : Option (List Mg × Nat) → Option (Nat × List Mg)
  | none => none
  | some r => if r.2 < bs.length then none else some (n, r.1)
def oV : Option (Int × Nat) → Int | some r => r.1 | none => 0
def oQ (p : Nat) : Option (Int × Nat) → Nat | some r => r.2 | none => p
/-- Bounded in one form -/
theorem boundG_any (b : Nat) (sl : Value) (bs : List UInt8) (p : Nat) (f : Bool) (w : World) (least most : Int) (h : IsR w b sl bs p f) :
    Calls Try.prog 28 #[.pointer (some ⟨b, 0, none⟩), .int .i64 least, .int .i64 most] w fun e w' => e = .returned (.int .i64 (oV (unl f (rdBounded least most bs p)))) ∧ IsR w' b sl bs (oQ p (unl f (rdBounded least most bs p))) (unl f (rdBounded least most bs p)).isNone ∧ w.grownBy w' (some b) := by
  refine (bounded_any b sl bs p f w least most h).mono ?_
  intro e w' hr
  unfold intO at hr
  rw [unl_map] at hr
  cases ho : unl f (rdBounded least most bs p) with
  | none => rw [ho] at hr; exact hr
  | some r => rw [ho] at hr; exact hr
/-- what the two numbers ahead of the messages say -/
theorem decM_two (bs : List UInt8) : ∃ (n K q0 : Nat) (f0 : Bool), oV (unl false (rdBounded 1 200 bs 0)) = (n : Int) ∧ n ≤ 200 ∧ K ≤ n ∧
    oV (unl (unl false (rdBounded 1 200 bs 0)).isNone (rdBounded 0 (n : Int) bs (oQ 0 (unl false (rdBounded 1 200 bs 0))))) = (K : Int) ∧
    oQ (oQ 0 (unl false (rdBounded 1 200 bs 0))) (unl (unl false (rdBounded 1 200 bs 0)).isNone (rdBounded 0 (n : Int) bs (oQ 0 (unl false (rdBounded 1 200 bs 0))))) = q0 ∧
    (unl (unl false (rdBounded 1 200 bs 0)).isNone (rdBounded 0 (n : Int) bs (oQ 0 (unl false (rdBounded 1 200 bs 0))))).isNone = f0 ∧
    (f0 = false → decM bs = decE bs n (rdGs bs q0 K)) ∧ (f0 = true → K = 0 ∧ decM bs = none) := by
  rw [unl_f]
  cases hr : rdBounded 1 200 bs 0 with
  | none =>
    refine ⟨0, 0, 0, true, rfl, by omega, by omega, rfl, rfl, rfl, (fun h => Bool.noConfusion h), fun _ => ⟨rfl, ?_⟩⟩
    unfold decM; rw [hr]
  | some r =>
    obtain ⟨z, p⟩ := r
    obtain ⟨b1, b2, _⟩ := rdBounded_enc hr
    obtain ⟨n, hn⟩ : ∃ n : Nat, z = (n : Int) := ⟨z.toNat, by omega⟩
    subst hn
    show ∃ (n' K q0 : Nat) (f0 : Bool), (n : Int) = (n' : Int) ∧ n' ≤ 200 ∧ K ≤ n' ∧ oV (rdBounded 0 (n' : Int) bs p) = (K : Int) ∧ oQ p (rdBounded 0 (n' : Int) bs p) = q0 ∧ (rdBounded 0 (n' : Int) bs p).isNone = f0 ∧ _ ∧ _
    cases hs : rdBounded 0 (n : Int) bs p with
    | none =>
      refine ⟨n, 0, p, true, rfl, by omega, by omega, by rw [hs]; rfl, by rw [hs]; rfl, by rw [hs]; rfl, (fun h => Bool.noConfusion h), fun _ => ⟨rfl, ?_⟩⟩
      unfold decM; rw [hr]; simp only; rw [hs]
    | some r2 =>
      obtain ⟨k, q⟩ := r2
      obtain ⟨d1, d2, _⟩ := rdBounded_enc hs
      obtain ⟨K, hK⟩ : ∃ K : Nat, k = (K : Int) := ⟨k.toNat, by omega⟩
      subst hK
      refine ⟨n, K, q, false, rfl, by omega, by omega, by rw [hs]; rfl, by rw [hs]; rfl, by rw [hs]; rfl, fun _ => ?_, (fun h => Bool.noConfusion h)⟩
      unfold decM; rw [hr]; simp only; rw [hs]; simp only [Int.toNat_natCast]
      cases rdGs bs q K with
      | none => rfl
      | some r3 => rfl
def DecMP (bs : List UInt8) (w : World) (e : Ending) (w' : World) : Prop :=
  match decM bs with
  | none => e = .returned (.tuple #[.pointer none, .int .i64 4]) ∧ w.grownBy w' none
  | some r => ∃ g B v ps, e = .returned (.tuple #[.pointer (some ⟨g, 0, none⟩), .int .i64 0]) ∧ w.heap.size ≤ g ∧ w.heap.size ≤ B ∧ B ≤ w'.heap.size ∧ w.grownBy w' none ∧ IsM w' B g r.1 v ps ∧ ps.map (·.1) = r.2
set_option maxRecDepth 100000 in
set_option maxHeartbeats 4000000 in
theorem decodeM_any (v : Value) (bs : List UInt8) (w : World) (h : Rd w v bs) (hb : bs.length ≤ 100000) : Calls Try.prog 8 #[v] w (DecMP bs w) := by
  have HRD := Lib.hid (read2_any v bs w h (by omega))
  clear h hb
  obtain ⟨n, K, q0, f0, hn, hn2, hKn, hK, hq0, hf0, hX, hY⟩ := decM_two bs
  have HXY := Lib.hid (And.intro hX hY)
  have HKN : Hid (K ≤ n ∧ n ≤ 200) := Lib.hid ⟨hKn, hn2⟩
  clear hX hY
  go_enter Try.func8, Try.ntmps8
  go_wp2_with fail
  refine HRD.out.mono ?_
  rintro e w1 ⟨b, sl, rfl, hb, hr1, hg1, hs1⟩
  have HG1 := Lib.hid hg1
  have HBB := Lib.hid (show w.heap.size ≤ b ∧ b < w1.heap.size from ⟨hb, hr1.lt⟩)
  have hslt : ∀ k, sl.ownBlock = some k → k < w1.heap.size := fun k hk => (hs1 k hk).2
  have HSL := Lib.hid hslt
  have HB1 := Lib.hid (boundG_any b sl bs 0 false w1 1 200 hr1)
  rw [hn] at HB1
  clear hg1 hr1 hb hs1 hslt
  go_wp2_with fail
  refine HB1.out.mono ?_
  rintro e w2 ⟨rfl, hr2, hg2⟩
  have HG2 := Lib.hid (gb_new HG1.out hg2 HBB.out.1)
  have HS2 : Hid (w1.heap.size ≤ w2.heap.size) := Lib.hid hg2.size
  have hgx := gb_alloc w2 (.cells #[.int .i64 (n : Int), .slice none 0 0] 61) none
  have hbx := heap_at_alloc w2 (.cells #[.int .i64 (n : Int), .slice none 0 0] 61)
  have HR3 := Lib.hid (hr2.grown hgx)
  have HG3 := Lib.hid (gb_same HG2.out hgx)
  have HBX := Lib.hid hbx
  have t0 := cell_row (j := 0) hbx
  have HB3 := Lib.hid (boundG_any b sl bs _ _ _ 0 (n : Int) HR3.out)
  rw [hK, hq0, hf0] at HB3
  have HGX := Lib.hid (show w1.heap.size ≤ w2.heap.size ∧ b < w2.heap.size from ⟨HS2.out, by have := HBB.out; have := HS2.out; omega⟩)
  clear hr2 hg2 hgx hbx HB1
  go_wp2_with fail
  refine HB3.out.mono ?_
  rintro e w4 ⟨rfl, hr4, hg4⟩
  have HR4 := Lib.hid hr4
  have HG4 := Lib.hid (gb_new HG3.out hg4 HBB.out.1)
  have HB4 := Lib.hid (blk_kept' HBX.out hg4 (by have := HGX.out; simp; omega))
  have HM4 : Hid (IsM w4 w1.heap.size w2.heap.size n (.slice none 0 0) []) := Lib.hid ⟨HB4.out, GRow.nil _ _, by simp, by simp [Value.ownBlock], by simp, Nat.zero_le _, HKN.out.2⟩
  clear hr4 hg4 t0 HB3
  generalize hgg : w2.heap.size = g at *
  have HGG := Lib.hid (show w1.heap.size ≤ g ∧ w.heap.size ≤ g ∧ b < g from ⟨HGX.out.1, by have := HG2.out.size; omega, HGX.out.2⟩)
  clear hgg
  go_wp2_with fail
  go_loopw [19] (fun i wr => ∃ (k q : Nat) (f : Bool) (v : Value) (ps : List GP), k ≤ K ∧ i = .int .i64 k ∧ ps.length = k ∧ Hid (IsR wr b sl bs q f) ∧ Hid (IsM wr w1.heap.size g n v ps) ∧ Hid (HeldD w1.heap.size ps) ∧ Hid (w.grownBy wr none) ∧ Hid (w1.heap.size ≤ wr.heap.size) ∧ Hid ((f = false ∧ f0 = false ∧ rdGs bs q0 k = some (ps.map (·.1), q)) ∨ (f = true ∧ (f0 = true ∨ rdGs bs q0 k = none)))) (fun i _ => K - (intOf i).toNat)
  case atStart => exact ⟨0, q0, f0, _, [], Nat.zero_le _, rfl, rfl, HR4, HM4, Lib.hid (by simp [HeldD]), HG4, Lib.hid (Nat.le_trans HGG.out.1 (Nat.le_of_lt HM4.out.lt)), Lib.hid (by
    cases f0 with
    | false => exact .inl ⟨rfl, rfl, rfl⟩
    | true => exact .inr ⟨rfl, .inl rfl⟩)⟩
  case round =>
    obtain ⟨k, q, f, vr, ps, hk, rfl, hps, HR, HM, HH, HG, HZ, HST⟩ := hrel
    by_cases hlt : k < K
    · obtain ⟨av, cv, hvr, _, _⟩ := HM.out.row.slice
      rw [hps] at hvr
      subst hvr
      have hm0 := HM.out.grown (gb_drew wr none)
      have HS0 : Hid (wr.drew.cell? ⟨g, 1, none⟩ = some (.slice av k cv)) := Lib.hid hm0.c1
      have HMG := Lib.hid (msgG_any b sl bs q f wr.drew (HR.out.grown (gb_drew _ _)))
      have HM0 := Lib.hid hm0
      have HG0 := Lib.hid (gb_same HG.out (gb_drew wr none))
      have HPS := Lib.hid hps
      have HKL : Hid (k < K) := Lib.hid hlt
      clear hm0 hps
      unfold GotM at HMG
      have HSTT : Hid ((unl f (rdG bs q)).isNone = false ∧ f0 = false ∧ rdGs bs q0 (k + 1) = some (ps.map (·.1) ++ [gMg (unl f (rdG bs q))], gPos q (unl f (rdG bs q))) ∨ (unl f (rdG bs q)).isNone = true ∧ (f0 = true ∨ rdGs bs q0 (k + 1) = none)) := Lib.hid (by
        rcases HST.out with ⟨rfl, h2, h3⟩ | ⟨rfl, h2⟩
        · rw [unl_f]
          cases hx : rdG bs q with
          | none => exact .inr ⟨rfl, .inr (by rw [rdGs, h3]; simp only; rw [hx])⟩
          | some r =>
            obtain ⟨m, q2⟩ := r
            exact .inl ⟨rfl, h2, by rw [rdGs, h3]; simp only; rw [hx]; rfl⟩
        · rw [unl_t]
          refine .inr ⟨rfl, ?_⟩
          rcases h2 with h2 | h2
          · exact .inl h2
          · exact .inr (by rw [rdGs, h2]))
      generalize gMg (unl f (rdG bs q)) = m at HMG HSTT
      generalize gPos q (unl f (rdG bs q)) = q2 at HMG HSTT
      generalize (unl f (rdG bs q)).isNone = f2 at HMG HSTT
      unfold Mg.row at HMG
      go_wp2_with fail
      refine region_KL (fuel := 12) (listed := #[false, false, false, false, false, false, false, false, false, false, false, false]) (fun X => X.cell? ⟨g, 1, none⟩ = some (.slice av k cv)) 11 (by kernel_rfl) rfl (by kernel_rfl) ?_
      refine wpAnyK_takeL (i := 0) (d := 21) (v := ?_) (T' := ?_) (listed' := #[true, false, false, false, false, false, false, false, false, false, false, false]) rfl rfl (by kernel_rfl) (fun _ _ _ h => h) rfl (Or.inl ⟨by rfl, ?_⟩) ?_ HS0.out ?_
      rotate_left 2
      · intro w hS; clear hS; go_simp; rfl
      · simp only [List.setIfInBounds_toArray, List.set_cons_succ, List.set_cons_zero]; rfl
      refine wpAnyK_takeL (i := 1) (d := 22) (v := ?_) (T' := ?_) (listed' := #[true, true, false, false, false, false, false, false, false, false, false, false]) rfl rfl (by kernel_rfl) (fun _ _ _ h => h) rfl (Or.inl ⟨by rfl, ?_⟩) ?_ HS0.out ?_
      rotate_left 2
      · intro w hS; clear hS; go_simp; rfl
      · simp only [List.setIfInBounds_toArray, List.set_cons_succ, List.set_cons_zero]; rfl
      refine wpAnyK_takeL (i := 2) (d := 23) (v := ?_) (T' := ?_) (listed' := #[true, true, true, false, false, false, false, false, false, false, false, false]) rfl rfl (by kernel_rfl) (fun _ _ _ h => h) rfl (Or.inl ⟨by rfl, ?_⟩) ?_ HS0.out ?_
      rotate_left 2
      · intro w hS; clear hS; go_simp; rfl
      · simp only [List.setIfInBounds_toArray, List.set_cons_succ, List.set_cons_zero]; rfl
      refine wpAnyK_takeL (i := 3) (d := 24) (v := ?_) (T' := ?_) (listed' := #[true, true, true, true, false, false, false, false, false, false, false, false]) rfl rfl (by kernel_rfl) (fun _ _ _ h => h) rfl (Or.inl ⟨by rfl, ?_⟩) ?_ HS0.out ?_
      rotate_left 2
      · intro w hS; clear hS; go_simp; rfl
      · simp only [List.setIfInBounds_toArray, List.set_cons_succ, List.set_cons_zero]; rfl
      refine wpAnyK_takeL (i := 4) (d := 25) (v := ?_) (T' := ?_) (listed' := #[true, true, true, true, true, false, false, false, false, false, false, false]) rfl rfl (by kernel_rfl) (fun _ _ _ h => h) rfl (Or.inl ⟨by rfl, ?_⟩) ?_ HS0.out ?_
      rotate_left 2
      · intro w hS; have t0 := hS; clear hS; go_simp; rfl
      · simp only [List.setIfInBounds_toArray, List.set_cons_succ, List.set_cons_zero]; rfl
      refine wpAnyK_takeL (i := 5) (d := 26) (v := ?_) (T' := ?_) (listed' := #[true, true, true, true, true, true, false, false, false, false, false, false]) rfl rfl (by kernel_rfl) (fun _ _ _ h => h) rfl (Or.inl ⟨by rfl, ?_⟩) ?_ HS0.out ?_
      rotate_left 2
      · intro w hS; clear hS; go_simp; rfl
      · simp only [List.setIfInBounds_toArray, List.set_cons_succ, List.set_cons_zero]; rfl
      refine wpAnyK_oneL (i := 6) (listed' := #[true, true, true, true, true, true, true, false, false, false, false, false]) (by kernel_rfl) rfl (by rfl) rfl ?_
      intro K' hK
      go_simp
      refine HMG.out.mono ?_
      rintro e w3 ⟨dv3, rfl, ho3, hr3, hg3⟩
      have HR3' := Lib.hid hr3
      have hvl := fun j hj => HM0.out.row.lt j hj
      have HM3 := Lib.hid (HM0.out.kept hg3 (by have := HGG.out; simp; omega) (fun j hj e => by have := (hvl j hj).1; have := HBB.out; simp at e; omega) (fun p hp hz j hj e => by have := HH.out p hp hz j hj; have := HBB.out; simp at e; omega))
      have HD3 := Lib.hid ho3.rd
      have HDL : Hid (∀ j, dv3.ownBlock = some j → wr.heap.size ≤ j ∧ j < w3.heap.size) := Lib.hid (fun j hj => ho3.lt j hj)
      have HD1 := Lib.hid ho3.one
      have HGA := Lib.hid (gb_new HG0.out hg3 HBB.out.1)
      have HS3 : Hid (w3.cell? ⟨g, 1, none⟩ = some (.slice av k cv)) := Lib.hid HM3.out.c1
      have HZ3 : Hid (wr.heap.size ≤ w3.heap.size) := Lib.hid hg3.size
      clear ho3 hr3 hg3 hvl
      refine hK _ _ (fun _ => HS3.out) ?_
      clear hK K'
      refine wpAnyK_oneL (i := 7) (listed' := #[true, true, true, true, true, true, true, true, false, false, false, false]) (by kernel_rfl) rfl (by rfl) rfl ?_
      intro K' hK
      go_simp
      have hg5 : w3.grownBy (w3.alloc (.cells #[.int .i64 m.s, .int .i64 m.d, .int .i64 m.k, .int .i64 m.q, .int .i64 m.a, .int .i64 m.b, .int .i64 m.c, .int .i64 m.e, dv3] 39)) none := gb_alloc _ _ _
      have hlit : RdG (w3.alloc (.cells #[.int .i64 m.s, .int .i64 m.d, .int .i64 m.k, .int .i64 m.q, .int .i64 m.a, .int .i64 m.b, .int .i64 m.c, .int .i64 m.e, dv3] 39)) (.slice (some ⟨w3.heap.size, 0, none⟩) 1 1) [(m, dv3)] := RdG.one (heap_at_alloc _ _)
      have hz5 : w3.heap.size < (w3.alloc (.cells #[.int .i64 m.s, .int .i64 m.d, .int .i64 m.k, .int .i64 m.q, .int .i64 m.a, .int .i64 m.b, .int .i64 m.c, .int .i64 m.e, dv3] 39)).heap.size := by simp
      generalize w3.alloc (.cells #[.int .i64 m.s, .int .i64 m.d, .int .i64 m.k, .int .i64 m.q, .int .i64 m.a, .int .i64 m.b, .int .i64 m.c, .int .i64 m.e, dv3] 39) = w5 at *
      have HL5 := Lib.hid hlit
      have HM5 := Lib.hid (HM3.out.grown hg5)
      have HR5 := Lib.hid (HR3'.out.grown hg5)
      have HD5 := Lib.hid (HD3.out.grown hg5)
      have HGB := Lib.hid (gb_same HGA.out hg5)
      have HZ5 := Lib.hid hz5
      have HS5 : Hid (w5.cell? ⟨g, 1, none⟩ = some (.slice av k cv)) := Lib.hid HM5.out.c1
      clear hg5 hlit hz5
      refine hK _ _ (fun _ => HS5.out) ?_
      clear hK K'
      refine wpAnyK_oneL (i := 8) (listed' := #[true, true, true, true, true, true, true, true, true, false, false, false]) (by kernel_rfl) rfl (by rfl) rfl ?_
      intro K' hK
      refine msg_app_op _ _ rfl w1.heap.size (.slice av k cv) (.slice (some ⟨w3.heap.size, 0, none⟩) 1 1) ps [(m, dv3)] rfl rfl HM5.out.row HL5.out (by simp; exact HD1.out) (by have := HPS.out; have := HKL.out; have := HKN.out; simp; omega) (by have := HZ.out; have := HZ3.out; have := HZ5.out; omega) ?_
      intro v6 w6 h6 hg6 hf6
      have hvl := fun j hj => HM5.out.row.lt j hj
      have hvl0 := fun j hj => HM0.out.row.lt j hj
      have HPU := Lib.hid (HM5.out.push2 (by have := HPS.out; have := HKL.out; have := HKN.out; omega) HD5.out (fun j hj => by
        have h1 := HDL.out j hj
        have h2 := HM.out.lt
        have h3 := HZ5.out
        refine ⟨by omega, fun e => ?_, by omega⟩
        have h4 := (hvl0 j e).2
        simp at h4
        omega) hg6 h6 hf6)
      have HS6 : Hid (w6.cell? ⟨g, 1, none⟩ = some (.slice av k cv)) := Lib.hid (cell_row (blk_kept' HM5.out.blk hg6 HM5.out.ne))
      have hfz : w6.frozen? ⟨g, 1, none⟩ = false := blk_frozen (blk_kept' HM5.out.blk hg6 HM5.out.ne)
      obtain ⟨a6, c6, e6, _, _⟩ := h6.slice
      rw [show (ps ++ [(m, dv3)]).length = k + 1 by have := HPS.out; simp; omega] at e6
      subst e6
      have HR6 := Lib.hid ((HR5.out.kept hg6 (fun e => by have := (hvl b e).1; have := HBB.out; omega) (fun j hj e => by have := (hvl j e).1; have := HSL.out j hj; omega)).kept (gb_setCell w6 ⟨g, 1, none⟩ (.slice a6 (k + 1) c6)) (by have := HGG.out; simp; omega) (fun j hj e => by have := HSL.out j hj; have := HGG.out; simp at e; omega))
      have HGC := Lib.hid (gb_new (gb_trans HGB.out hg6 (fun j hj => .inr (by have := (hvl j hj).1; have := HG1.out.size; omega))) (gb_setCell w6 ⟨g, 1, none⟩ (.slice a6 (k + 1) c6)) HGG.out.2.1)
      have HZ6 : Hid (w1.heap.size ≤ (w6.setCell ⟨g, 1, none⟩ (.slice a6 (k + 1) c6)).heap.size) := Lib.hid (by have := HZ.out; have := HZ3.out; have := HZ5.out; have := hg6.size; simp; omega)
      have HH6 : Hid (HeldD w1.heap.size (ps ++ [(m, dv3)])) := Lib.hid (fun p hp hz j hj => by
        rcases List.mem_append.1 hp with hp | hp
        · exact HH.out p hp hz j hj
        · simp at hp
          subst hp
          have := (HDL.out j hj).1
          have := HZ.out
          omega)
      have HMP : Hid ((ps ++ [(m, dv3)]).map (·.1) = ps.map (·.1) ++ [m] ∧ (ps ++ [(m, dv3)]).length = k + 1) := Lib.hid ⟨by simp, by have := HPS.out; simp; omega⟩
      clear h6 hg6 hf6 hvl hvl0
      refine hK _ _ (fun _ => HS6.out) ?_
      clear hK K'
      refine wpAnyK_takeL (i := 9) (d := 30) (v := ?_) (T' := ?_) (listed' := #[true, true, true, true, true, true, true, true, true, true, false, false]) rfl rfl (by kernel_rfl) (fun _ _ _ h => h) rfl (Or.inl ⟨by rfl, ?_⟩) ?_ HS6.out ?_
      rotate_left 2
      · intro w hS; clear hS; go_simp; rfl
      · simp only [List.setIfInBounds_toArray, List.set_cons_succ, List.set_cons_zero]; rfl
      refine wpAnyK_takeL (i := 10) (d := 31) (v := ?_) (T' := ?_) (listed' := #[true, true, true, true, true, true, true, true, true, true, true, false]) rfl rfl (by kernel_rfl) (fun _ _ _ h => h) rfl (Or.inl ⟨by rfl, ?_⟩) ?_ HS6.out ?_
      rotate_left 2
      · intro w hS; clear hS; go_simp; rfl
      · simp only [List.setIfInBounds_toArray, List.set_cons_succ, List.set_cons_zero]; rfl
      refine wpAnyK_oneL (i := 11) (listed' := #[true, true, true, true, true, true, true, true, true, true, true, true]) (by kernel_rfl) rfl (by rfl) rfl ?_
      intro K' hK
      have hcs := HS6.out
      go_simp
      refine hK _ _ (fun h => Bool.noConfusion (show true = false from h)) ?_
      clear hK K'
      refine wpAnyK_done (by kernel_rfl) ?_ _
      go_wp2
      go_roundw
      case rel => exact ⟨k + 1, q2, f2, _, ps ++ [(m, dv3)], by omega, by go_num, HMP.out.2, HR6, HPU, HH6, HGC, HZ6, Lib.hid (by rw [HMP.out.1]; exact HSTT.out)⟩
      case measure => simp [intOf]; omega
    · obtain rfl : k = K := by omega
      clear hlt
      have HEN := Lib.hid (end_any b sl bs q f wr HR.out)
      rcases HST.out with ⟨rfl, h2, h3⟩ | ⟨rfl, h2⟩
      · by_cases hq : q < bs.length
        · have hd : decM bs = none := by rw [HXY.out.1 h2, h3]; exact if_pos hq
          have HD := Lib.hid hd
          rw [end_no (.inr hq)] at HEN
          clear h3 hd hq h2
          go_wp2_with fail
          refine HEN.out.mono ?_
          rintro e w5 ⟨rfl, m5, rfl⟩
          go_wp2
          go_ret2
          unfold DecMP
          rw [HD.out]
          exact ⟨rfl, gb_same HG.out (gb_drewN _ _ _)⟩
        · have hd : decM bs = some (n, ps.map (·.1)) := by rw [HXY.out.1 h2, h3]; exact if_neg hq
          have HD := Lib.hid hd
          rw [end_yes (by simp; omega)] at HEN
          clear h3 hd hq h2
          go_wp2_with fail
          refine HEN.out.mono ?_
          rintro e w5 ⟨rfl, m5, hw5⟩
          have hg5 : wr.grownBy w5 none := by rw [hw5]; exact gb_drewN _ _ _
          have HM5 := Lib.hid (HM.out.grown hg5)
          have HG5 := Lib.hid (gb_same HG.out hg5)
          have HZ5 := Lib.hid (Nat.le_trans HZ.out hg5.size)
          clear hg5 hw5
          go_wp2
          go_ret2
          unfold DecMP
          rw [HD.out]
          exact ⟨g, w1.heap.size, _, ps, rfl, HGG.out.2.1, HG1.out.size, HZ5.out, HG5.out, HM5.out, rfl⟩
      · have hd : decM bs = none := by
          rcases h2 with h2 | h2
          · exact (HXY.out.2 h2).2
          · cases f0 with
            | true => exact (HXY.out.2 rfl).2
            | false => rw [HXY.out.1 rfl, h2]; rfl
        have HD := Lib.hid hd
        rw [end_no (.inl rfl)] at HEN
        clear h2 hd
        go_wp2_with fail
        refine HEN.out.mono ?_
        rintro e w5 ⟨rfl, m5, rfl⟩
        go_wp2
        go_ret2
        unfold DecMP
        rw [HD.out]
        exact ⟨rfl, gb_same HG.out (gb_drewN _ _ _)⟩
end Go.Proofs.Ytfldooljmjeaoaa
