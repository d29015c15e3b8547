/-
  Put of a byte queue: the walk.
-/
import Derived.Test.YtfldooljmjeaoaaRQNew
import Derived.Test.YtfldooljmjeaoaaRdW
import Derived.Test.YtfldooljmjeaoaaHeld
import Derived.Deep.RegionHeld
namespace Go.Proofs.Ytfldooljmjeaoaa
open Go.RowKit Go.Shelf

theorem blk_frozen {w : World} {g j : Nat} {cs : Array Value} {t : TypeId} (h : w.heap[g]? = some (.cells cs t (0, 0))) : w.frozen? ⟨g, j, none⟩ = false := by simp [World.frozen?, h]
def putN (n : Nat) (l b : List UInt8) : Nat := min b.length (n - l.length)
def PutP (w : World) (g s n f : Nat) (l b : List UInt8) (e : Ending) (w' : World) : Prop :=
  e = .returned (.int .i64 (putN n l b : Nat)) ∧ K2 w w' g s ∧ ∃ cs', IsB w' g s n f cs' (l ++ b.take (putN n l b))
theorem take_snoc {l : List UInt8} {k : Nat} {c : UInt8} (h : l[k]? = some c) : l.take (k + 1) = l.take k ++ [c] := by
  rw [List.take_add_one, h]; rfl
set_option maxRecDepth 100000 in
set_option maxHeartbeats 4000000 in
theorem put_any {w : World} {g s n f : Nat} {cs l : List UInt8} (h : IsB w g s n f cs l) (v : Value) (b : List UInt8) (hv : RdW w v b) (hne : b ≠ [] → ∀ k, v.ownBlock = some k → k ≠ g ∧ k ≠ s) :
    Calls Try.prog 24 #[.pointer (some ⟨g, 0, none⟩), v] w (PutP w g s n f l b) := by
  have hsm := hv.small
  have HF := Lib.hid (freeB_any h)
  have HLE := Lib.hid h.le
  have HCN := Lib.hid h.cnt
  have HFS := Lib.hid h.fst
  obtain ⟨a, c, rfl, hcap⟩ := hv.form
  have HNE := Lib.hid hne
  have HV := Lib.hid hv
  have H := Lib.hid h
  clear h hv hne
  unfold PutP
  by_cases hm0 : n - l.length < b.length
  · have e0 : putN n l b = n - l.length := by unfold putN; omega
    rw [e0]
    generalize hp : n - l.length = m at *
    have HM2 : Hid (m ≤ n - l.length) := Lib.hid (by omega)
    have hm : IntKind.i64.wrap (m : Int) = m := by rw [IntKind.wrap_i64] <;> omega
    have hmb : m ≤ b.length := by omega
    have hmi : (m : Int) < (b.length : Int) := by omega
    clear hp hm0 e0
    go_enter Try.func24, Try.ntmps24
    go_wp2_with fail
    refine HF.out.mono ?_
    rintro e w1 ⟨rfl, hg1⟩
    have HG1 := Lib.hid (K2.of (g := g) (s := s) hg1 (.inl rfl))
    have HB1 := Lib.hid (H.out.grown hg1)
    clear hg1
    go_wp2
    go_loopw [17] (fun i wr => ∃ k : Nat, k ≤ m ∧ i = .int .i64 k ∧ Hid (K2 w wr g s) ∧ Hid (∃ cs', IsB wr g s n f cs' (l ++ b.take k))) (fun i _ => m - (intOf i).toNat)
    case atStart => exact ⟨0, Nat.zero_le _, rfl, HG1, Lib.hid ⟨cs, by simpa using HB1.out⟩⟩
    case round =>
      obtain ⟨k, hk, rfl, HK, HQ⟩ := hrel
      by_cases hlt : k < m
      · obtain ⟨cs', hq⟩ := HQ.out
        obtain ⟨x, hx⟩ : ∃ x, b[k]? = some x := ⟨b[k]'(by omega), by simp⟩
        have hb0 : b ≠ [] := by rintro rfl; simp at hx
        have HVR := Lib.hid (K2.rdw HV.out HK.out HNE.out)
        obtain ⟨bb, off, rfl, hcl⟩ := HVR.out.at hx
        have hl2 : (l ++ b.take k).length = l.length + k := by rw [List.length_append, List.length_take]; omega
        have HLT : Hid (l.length + k < n) := Lib.hid (by have := HM2.out; have := HCN.out; omega)
        have HPL := Lib.hid (place_any (hq.grown (gb_drew _ none)) (i := l.length + k) (by have := HLT.out; omega))
        have HL2 := Lib.hid hl2
        have hrn : (f + (l.length + k)) % n < n := Nat.mod_lt _ (by have := HFS.out; omega)
        have HSN : Hid ((f + (l.length + k)) % n < n) := Lib.hid hrn
        have HQ0 := Lib.hid hq
        have HTS := Lib.hid (take_snoc hx)
        have hc2 := hq.c2
        rw [hl2] at hc2
        have HS0 : Hid (wr.drew.cell? ⟨g, 0, none⟩ = some (.slice (some ⟨s, 0, none⟩) n n) ∧ wr.drew.cell? ⟨g, 2, none⟩ = some (.int .i64 ((l.length + k : Nat) : Int))) := Lib.hid ⟨hq.c0, hc2⟩
        have HC2 : Hid (∀ X, wr.grownBy X none → X.cell? ⟨g, 2, none⟩ = some (.int .i64 ((l.length + k : Nat) : Int))) := Lib.hid (fun X hX => by have := (hq.grown hX).c2; rwa [hl2] at this)
        clear hq hx hl2 hc2
        generalize hr : (f + (l.length + k)) % n = r at *
        have HR := Lib.hid hr
        clear hr
        generalize hL : l.length + k = L at *
        go_wp2_with fail
        refine region_KL (fuel := 13) (listed := #[false, false, false, false, false, false, false, false, false, false, false, false, false]) (fun X => X.cell? ⟨g, 0, none⟩ = some (.slice (some ⟨s, 0, none⟩) n n) ∧ X.cell? ⟨g, 2, none⟩ = some (.int .i64 (L : Int))) 12 (by kernel_rfl) rfl (by kernel_rfl) ?_
        refine wpAnyK_takeL (i := 0) (d := 21) (v := ?_) (T' := ?_) (listed' := #[true, false, false, false, false, false, false, false, false, false, false, false, false]) rfl rfl (by kernel_rfl) (fun _ _ _ h => h) rfl (Or.inl ⟨by rfl, ?_⟩) ?_ HS0.out ?_
        rotate_left 2
        · intro w hS; clear hS; go_simp; rfl
        · simp only [List.setIfInBounds_toArray, List.set_cons_succ, List.set_cons_zero]; rfl
        refine wpAnyK_takeL (i := 1) (d := 22) (v := ?_) (T' := ?_) (listed' := #[true, true, false, false, false, false, false, false, false, false, false, false, false]) rfl rfl (by kernel_rfl) (fun _ _ _ h => h) rfl (Or.inl ⟨by rfl, ?_⟩) ?_ HS0.out ?_
        rotate_left 2
        · intro w hS; clear hS; go_simp; rfl
        · simp only [List.setIfInBounds_toArray, List.set_cons_succ, List.set_cons_zero]; rfl
        refine wpAnyK_takeL (i := 2) (d := 23) (v := ?_) (T' := ?_) (listed' := #[true, true, true, false, false, false, false, false, false, false, false, false, false]) rfl rfl (by kernel_rfl) (fun _ _ _ h => h) rfl (Or.inl ⟨by rfl, ?_⟩) ?_ HS0.out ?_
        rotate_left 2
        · intro w hS; clear hS; go_simp; rfl
        · simp only [List.setIfInBounds_toArray, List.set_cons_succ, List.set_cons_zero]; rfl
        refine wpAnyK_takeL (i := 3) (d := 24) (v := ?_) (T' := ?_) (listed' := #[true, true, true, true, false, false, false, false, false, false, false, false, false]) rfl rfl (by kernel_rfl) (fun _ _ _ h => h) rfl (Or.inl ⟨by rfl, ?_⟩) ?_ HS0.out ?_
        rotate_left 2
        · intro w hS; have t0 := hS.1; clear hS; go_simp; rfl
        · simp only [List.setIfInBounds_toArray, List.set_cons_succ, List.set_cons_zero]; rfl
        refine wpAnyK_takeL (i := 4) (d := 25) (v := ?_) (T' := ?_) (listed' := #[true, true, true, true, true, false, false, false, false, false, false, false, false]) rfl rfl (by kernel_rfl) (fun _ _ _ h => h) rfl (Or.inl ⟨by rfl, ?_⟩) ?_ HS0.out ?_
        rotate_left 2
        · intro w hS; clear hS; go_simp; rfl
        · simp only [List.setIfInBounds_toArray, List.set_cons_succ, List.set_cons_zero]; rfl
        refine wpAnyK_takeL (i := 5) (d := 26) (v := ?_) (T' := ?_) (listed' := #[true, true, true, true, true, true, false, false, false, false, false, false, false]) rfl rfl (by kernel_rfl) (fun _ _ _ h => h) rfl (Or.inl ⟨by rfl, ?_⟩) ?_ HS0.out ?_
        rotate_left 2
        · intro w hS; clear hS; go_simp; rfl
        · simp only [List.setIfInBounds_toArray, List.set_cons_succ, List.set_cons_zero]; rfl
        refine wpAnyK_takeL (i := 6) (d := 27) (v := ?_) (T' := ?_) (listed' := #[true, true, true, true, true, true, true, false, false, false, false, false, false]) rfl rfl (by kernel_rfl) (fun _ _ _ h => h) rfl (Or.inl ⟨by rfl, ?_⟩) ?_ HS0.out ?_
        rotate_left 2
        · intro w hS; clear hS; go_simp; rfl
        · simp only [List.setIfInBounds_toArray, List.set_cons_succ, List.set_cons_zero]; rfl
        refine wpAnyK_takeL (i := 7) (d := 28) (v := ?_) (T' := ?_) (listed' := #[true, true, true, true, true, true, true, true, false, false, false, false, false]) rfl rfl (by kernel_rfl) (fun _ _ _ h => h) rfl (Or.inl ⟨by rfl, ?_⟩) ?_ HS0.out ?_
        rotate_left 2
        · intro w hS; clear hS; go_simp; rfl
        · simp only [List.setIfInBounds_toArray, List.set_cons_succ, List.set_cons_zero]; rfl
        refine wpAnyK_takeL (i := 8) (d := 29) (v := ?_) (T' := ?_) (listed' := #[true, true, true, true, true, true, true, true, true, false, false, false, false]) rfl rfl (by kernel_rfl) (fun _ _ _ h => h) rfl (Or.inl ⟨by rfl, ?_⟩) ?_ HS0.out ?_
        rotate_left 2
        · intro w hS; have t0 := hS.2; clear hS; go_simp; rfl
        · simp only [List.setIfInBounds_toArray, List.set_cons_succ, List.set_cons_zero]; rfl
        refine wpAnyK_takeL (i := 10) (d := 31) (v := ?_) (T' := ?_) (listed' := #[true, true, true, true, true, true, true, true, true, false, true, false, false]) rfl rfl (by kernel_rfl) (fun _ _ _ h => h) rfl (Or.inl ⟨by rfl, ?_⟩) ?_ HS0.out ?_
        rotate_left 2
        · intro w hS; clear hS; go_simp; rfl
        · simp only [List.setIfInBounds_toArray, List.set_cons_succ, List.set_cons_zero]; rfl
        refine wpAnyK_oneL (i := 9) (listed' := #[true, true, true, true, true, true, true, true, true, true, true, false, false]) (by kernel_rfl) rfl (by rfl) rfl ?_
        intro K hK
        go_simp
        refine HPL.out.mono ?_
        rintro e w3 ⟨rfl, hg3⟩
        have HG3 := Lib.hid hg3
        have HS3 : Hid (w3.cell? ⟨g, 0, none⟩ = some (.slice (some ⟨s, 0, none⟩) n n) ∧ w3.cell? ⟨g, 2, none⟩ = some (.int .i64 (L : Int))) := Lib.hid ⟨(HQ0.out.grown (gb_same (gb_drew _ none) hg3)).c0, HC2.out _ (gb_same (gb_drew _ none) hg3)⟩
        have hq3 := HQ0.out.grown (gb_same (gb_drew _ none) hg3)
        have hpu := hq3.push x (by rw [HL2.out]; exact HLT.out)
        rw [HL2.out, HR.out] at hpu
        have HPU := Lib.hid hpu
        have hfz := hq3.frozen r
        obtain ⟨y, hy⟩ : ∃ y, cs'[r]? = some y := ⟨cs'[r]'(by have := hq3.clen; omega), by simp⟩
        have hold := hq3.row.cellAt hq3.clen r y hy
        clear hy
        have hc4 : (w3.setCell ⟨s, r, none⟩ (.int .u8 (x.toNat : Int))).cell? ⟨g, 2, none⟩ = some (.int .i64 (L : Int)) := (World.cell?_setCell_far w3 ⟨s, r, none⟩ ⟨g, 2, none⟩ _ (by have := hq3.ne; simp; omega)).trans HS3.out.2
        have hfz4 : (w3.setCell ⟨s, r, none⟩ (.int .u8 (x.toNat : Int))).frozen? ⟨g, 2, none⟩ = false := (blk_frozen (blk_kept' hq3.blk (gb_setCell w3 ⟨s, r, none⟩ (.int .u8 (x.toNat : Int))) (by have := hq3.ne; simp; omega)))
        have HKW : Hid (K2 w ((w3.setCell ⟨s, r, none⟩ (.int .u8 (x.toNat : Int))).setCell ⟨g, 2, none⟩ (.int .i64 ((L : Int) + 1))) g s) := Lib.hid (HK.out.trans ((K2.of (gb_same (gb_drew _ none) hg3) (.inl rfl)).trans ((K2.of (gb_setCell _ _ _) (.inr (.inr rfl))).trans (K2.of (gb_setCell _ _ _) (.inr (.inl rfl))))))
        clear hg3 hq3 hpu
        refine hK _ _ (fun _ => HS3.out) ?_
        clear hK K
        refine wpAnyK_takeL (i := 11) (d := 32) (v := ?_) (T' := ?_) (listed' := #[true, true, true, true, true, true, true, true, true, true, true, true, false]) rfl rfl (by kernel_rfl) (fun _ _ _ h => h) rfl (Or.inl ⟨by rfl, ?_⟩) ?_ HS3.out ?_
        rotate_left 2
        · intro w hS; clear hS; go_simp; rfl
        · simp only [List.setIfInBounds_toArray, List.set_cons_succ, List.set_cons_zero]; rfl
        refine wpAnyK_oneL (i := 12) (listed' := #[true, true, true, true, true, true, true, true, true, true, true, true, true]) (by kernel_rfl) rfl (by rfl) rfl ?_
        intro K hK
        go_simp
        refine hK _ _ (fun h => Bool.noConfusion (show true = false from h)) ?_
        clear hK K
        refine wpAnyK_done (by kernel_rfl) ?_ _
        have hLs : L < 5000 := by have := HLT.out; have := HLE.out; omega
        go_wp2
        go_roundw
        case rel => exact ⟨k + 1, by omega, by go_num, HKW, Lib.hid ⟨_, by rw [HTS.out, ← List.append_assoc]; exact HPU.out⟩⟩
        case measure => simp [intOf]; omega
      · obtain rfl : k = m := by omega
        clear hlt
        go_wp2
        go_ret
        exact ⟨rfl, HK.out, HQ.out⟩
  · have e0 : putN n l b = b.length := by unfold putN; omega
    rw [e0]
    have HM2 : Hid (b.length ≤ n - l.length) := Lib.hid (by omega)
    have hmi : ¬ ((n - l.length : Nat) : Int) < (b.length : Int) := by omega
    have hfs : n - l.length ≤ 4096 := by have := HLE.out; omega
    clear hm0 e0
    go_enter Try.func24, Try.ntmps24
    go_wp2_with fail
    refine HF.out.mono ?_
    rintro e w1 ⟨rfl, hg1⟩
    have HG1 := Lib.hid (K2.of (g := g) (s := s) hg1 (.inl rfl))
    have HB1 := Lib.hid (H.out.grown hg1)
    clear hg1
    go_wp2
    go_loopw [17] (fun i wr => ∃ k : Nat, k ≤ b.length ∧ i = .int .i64 k ∧ Hid (K2 w wr g s) ∧ Hid (∃ cs', IsB wr g s n f cs' (l ++ b.take k))) (fun i _ => b.length - (intOf i).toNat)
    case atStart => exact ⟨0, Nat.zero_le _, rfl, HG1, Lib.hid ⟨cs, by simpa using HB1.out⟩⟩
    case round =>
      obtain ⟨k, hk, rfl, HK, HQ⟩ := hrel
      by_cases hlt : k < b.length
      · obtain ⟨cs', hq⟩ := HQ.out
        obtain ⟨x, hx⟩ : ∃ x, b[k]? = some x := ⟨b[k]'(by omega), by simp⟩
        have hb0 : b ≠ [] := by rintro rfl; simp at hx
        have HVR := Lib.hid (K2.rdw HV.out HK.out HNE.out)
        obtain ⟨bb, off, rfl, hcl⟩ := HVR.out.at hx
        have hl2 : (l ++ b.take k).length = l.length + k := by rw [List.length_append, List.length_take]; omega
        have HLT : Hid (l.length + k < n) := Lib.hid (by have := HM2.out; have := HCN.out; omega)
        have HPL := Lib.hid (place_any (hq.grown (gb_drew _ none)) (i := l.length + k) (by have := HLT.out; omega))
        have HL2 := Lib.hid hl2
        have hrn : (f + (l.length + k)) % n < n := Nat.mod_lt _ (by have := HFS.out; omega)
        have HSN : Hid ((f + (l.length + k)) % n < n) := Lib.hid hrn
        have HQ0 := Lib.hid hq
        have HTS := Lib.hid (take_snoc hx)
        have hc2 := hq.c2
        rw [hl2] at hc2
        have HS0 : Hid (wr.drew.cell? ⟨g, 0, none⟩ = some (.slice (some ⟨s, 0, none⟩) n n) ∧ wr.drew.cell? ⟨g, 2, none⟩ = some (.int .i64 ((l.length + k : Nat) : Int))) := Lib.hid ⟨hq.c0, hc2⟩
        have HC2 : Hid (∀ X, wr.grownBy X none → X.cell? ⟨g, 2, none⟩ = some (.int .i64 ((l.length + k : Nat) : Int))) := Lib.hid (fun X hX => by have := (hq.grown hX).c2; rwa [hl2] at this)
        clear hq hx hl2 hc2
        generalize hr : (f + (l.length + k)) % n = r at *
        have HR := Lib.hid hr
        clear hr
        generalize hL : l.length + k = L at *
        go_wp2_with fail
        refine region_KL (fuel := 13) (listed := #[false, false, false, false, false, false, false, false, false, false, false, false, false]) (fun X => X.cell? ⟨g, 0, none⟩ = some (.slice (some ⟨s, 0, none⟩) n n) ∧ X.cell? ⟨g, 2, none⟩ = some (.int .i64 (L : Int))) 12 (by kernel_rfl) rfl (by kernel_rfl) ?_
        refine wpAnyK_takeL (i := 0) (d := 21) (v := ?_) (T' := ?_) (listed' := #[true, false, false, false, false, false, false, false, false, false, false, false, false]) rfl rfl (by kernel_rfl) (fun _ _ _ h => h) rfl (Or.inl ⟨by rfl, ?_⟩) ?_ HS0.out ?_
        rotate_left 2
        · intro w hS; clear hS; go_simp; rfl
        · simp only [List.setIfInBounds_toArray, List.set_cons_succ, List.set_cons_zero]; rfl
        refine wpAnyK_takeL (i := 1) (d := 22) (v := ?_) (T' := ?_) (listed' := #[true, true, false, false, false, false, false, false, false, false, false, false, false]) rfl rfl (by kernel_rfl) (fun _ _ _ h => h) rfl (Or.inl ⟨by rfl, ?_⟩) ?_ HS0.out ?_
        rotate_left 2
        · intro w hS; clear hS; go_simp; rfl
        · simp only [List.setIfInBounds_toArray, List.set_cons_succ, List.set_cons_zero]; rfl
        refine wpAnyK_takeL (i := 2) (d := 23) (v := ?_) (T' := ?_) (listed' := #[true, true, true, false, false, false, false, false, false, false, false, false, false]) rfl rfl (by kernel_rfl) (fun _ _ _ h => h) rfl (Or.inl ⟨by rfl, ?_⟩) ?_ HS0.out ?_
        rotate_left 2
        · intro w hS; clear hS; go_simp; rfl
        · simp only [List.setIfInBounds_toArray, List.set_cons_succ, List.set_cons_zero]; rfl
        refine wpAnyK_takeL (i := 3) (d := 24) (v := ?_) (T' := ?_) (listed' := #[true, true, true, true, false, false, false, false, false, false, false, false, false]) rfl rfl (by kernel_rfl) (fun _ _ _ h => h) rfl (Or.inl ⟨by rfl, ?_⟩) ?_ HS0.out ?_
        rotate_left 2
        · intro w hS; have t0 := hS.1; clear hS; go_simp; rfl
        · simp only [List.setIfInBounds_toArray, List.set_cons_succ, List.set_cons_zero]; rfl
        refine wpAnyK_takeL (i := 4) (d := 25) (v := ?_) (T' := ?_) (listed' := #[true, true, true, true, true, false, false, false, false, false, false, false, false]) rfl rfl (by kernel_rfl) (fun _ _ _ h => h) rfl (Or.inl ⟨by rfl, ?_⟩) ?_ HS0.out ?_
        rotate_left 2
        · intro w hS; clear hS; go_simp; rfl
        · simp only [List.setIfInBounds_toArray, List.set_cons_succ, List.set_cons_zero]; rfl
        refine wpAnyK_takeL (i := 5) (d := 26) (v := ?_) (T' := ?_) (listed' := #[true, true, true, true, true, true, false, false, false, false, false, false, false]) rfl rfl (by kernel_rfl) (fun _ _ _ h => h) rfl (Or.inl ⟨by rfl, ?_⟩) ?_ HS0.out ?_
        rotate_left 2
        · intro w hS; clear hS; go_simp; rfl
        · simp only [List.setIfInBounds_toArray, List.set_cons_succ, List.set_cons_zero]; rfl
        refine wpAnyK_takeL (i := 6) (d := 27) (v := ?_) (T' := ?_) (listed' := #[true, true, true, true, true, true, true, false, false, false, false, false, false]) rfl rfl (by kernel_rfl) (fun _ _ _ h => h) rfl (Or.inl ⟨by rfl, ?_⟩) ?_ HS0.out ?_
        rotate_left 2
        · intro w hS; clear hS; go_simp; rfl
        · simp only [List.setIfInBounds_toArray, List.set_cons_succ, List.set_cons_zero]; rfl
        refine wpAnyK_takeL (i := 7) (d := 28) (v := ?_) (T' := ?_) (listed' := #[true, true, true, true, true, true, true, true, false, false, false, false, false]) rfl rfl (by kernel_rfl) (fun _ _ _ h => h) rfl (Or.inl ⟨by rfl, ?_⟩) ?_ HS0.out ?_
        rotate_left 2
        · intro w hS; clear hS; go_simp; rfl
        · simp only [List.setIfInBounds_toArray, List.set_cons_succ, List.set_cons_zero]; rfl
        refine wpAnyK_takeL (i := 8) (d := 29) (v := ?_) (T' := ?_) (listed' := #[true, true, true, true, true, true, true, true, true, false, false, false, false]) rfl rfl (by kernel_rfl) (fun _ _ _ h => h) rfl (Or.inl ⟨by rfl, ?_⟩) ?_ HS0.out ?_
        rotate_left 2
        · intro w hS; have t0 := hS.2; clear hS; go_simp; rfl
        · simp only [List.setIfInBounds_toArray, List.set_cons_succ, List.set_cons_zero]; rfl
        refine wpAnyK_takeL (i := 10) (d := 31) (v := ?_) (T' := ?_) (listed' := #[true, true, true, true, true, true, true, true, true, false, true, false, false]) rfl rfl (by kernel_rfl) (fun _ _ _ h => h) rfl (Or.inl ⟨by rfl, ?_⟩) ?_ HS0.out ?_
        rotate_left 2
        · intro w hS; clear hS; go_simp; rfl
        · simp only [List.setIfInBounds_toArray, List.set_cons_succ, List.set_cons_zero]; rfl
        refine wpAnyK_oneL (i := 9) (listed' := #[true, true, true, true, true, true, true, true, true, true, true, false, false]) (by kernel_rfl) rfl (by rfl) rfl ?_
        intro K hK
        go_simp
        refine HPL.out.mono ?_
        rintro e w3 ⟨rfl, hg3⟩
        have HG3 := Lib.hid hg3
        have HS3 : Hid (w3.cell? ⟨g, 0, none⟩ = some (.slice (some ⟨s, 0, none⟩) n n) ∧ w3.cell? ⟨g, 2, none⟩ = some (.int .i64 (L : Int))) := Lib.hid ⟨(HQ0.out.grown (gb_same (gb_drew _ none) hg3)).c0, HC2.out _ (gb_same (gb_drew _ none) hg3)⟩
        have hq3 := HQ0.out.grown (gb_same (gb_drew _ none) hg3)
        have hpu := hq3.push x (by rw [HL2.out]; exact HLT.out)
        rw [HL2.out, HR.out] at hpu
        have HPU := Lib.hid hpu
        have hfz := hq3.frozen r
        obtain ⟨y, hy⟩ : ∃ y, cs'[r]? = some y := ⟨cs'[r]'(by have := hq3.clen; omega), by simp⟩
        have hold := hq3.row.cellAt hq3.clen r y hy
        clear hy
        have hc4 : (w3.setCell ⟨s, r, none⟩ (.int .u8 (x.toNat : Int))).cell? ⟨g, 2, none⟩ = some (.int .i64 (L : Int)) := (World.cell?_setCell_far w3 ⟨s, r, none⟩ ⟨g, 2, none⟩ _ (by have := hq3.ne; simp; omega)).trans HS3.out.2
        have hfz4 : (w3.setCell ⟨s, r, none⟩ (.int .u8 (x.toNat : Int))).frozen? ⟨g, 2, none⟩ = false := (blk_frozen (blk_kept' hq3.blk (gb_setCell w3 ⟨s, r, none⟩ (.int .u8 (x.toNat : Int))) (by have := hq3.ne; simp; omega)))
        have HKW : Hid (K2 w ((w3.setCell ⟨s, r, none⟩ (.int .u8 (x.toNat : Int))).setCell ⟨g, 2, none⟩ (.int .i64 ((L : Int) + 1))) g s) := Lib.hid (HK.out.trans ((K2.of (gb_same (gb_drew _ none) hg3) (.inl rfl)).trans ((K2.of (gb_setCell _ _ _) (.inr (.inr rfl))).trans (K2.of (gb_setCell _ _ _) (.inr (.inl rfl))))))
        clear hg3 hq3 hpu
        refine hK _ _ (fun _ => HS3.out) ?_
        clear hK K
        refine wpAnyK_takeL (i := 11) (d := 32) (v := ?_) (T' := ?_) (listed' := #[true, true, true, true, true, true, true, true, true, true, true, true, false]) rfl rfl (by kernel_rfl) (fun _ _ _ h => h) rfl (Or.inl ⟨by rfl, ?_⟩) ?_ HS3.out ?_
        rotate_left 2
        · intro w hS; clear hS; go_simp; rfl
        · simp only [List.setIfInBounds_toArray, List.set_cons_succ, List.set_cons_zero]; rfl
        refine wpAnyK_oneL (i := 12) (listed' := #[true, true, true, true, true, true, true, true, true, true, true, true, true]) (by kernel_rfl) rfl (by rfl) rfl ?_
        intro K hK
        go_simp
        refine hK _ _ (fun h => Bool.noConfusion (show true = false from h)) ?_
        clear hK K
        refine wpAnyK_done (by kernel_rfl) ?_ _
        have hLs : L < 5000 := by have := HLT.out; have := HLE.out; omega
        go_wp2
        go_roundw
        case rel => exact ⟨k + 1, by omega, by go_num, HKW, Lib.hid ⟨_, by rw [HTS.out, ← List.append_assoc]; exact HPU.out⟩⟩
        case measure => simp [intOf]; omega
      · obtain rfl : k = b.length := by omega
        clear hlt
        go_wp2
        go_ret
        exact ⟨rfl, HK.out, HQ.out⟩
end Go.Proofs.Ytfldooljmjeaoaa
