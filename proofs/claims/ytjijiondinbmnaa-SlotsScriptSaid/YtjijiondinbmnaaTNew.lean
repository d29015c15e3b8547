/-
  slots.New, handle, free: the walks.
-/
import Derived.Test.YtjijiondinbmnaaTab
import Derived.BigQuiet
namespace Go.Proofs.Ytjijiondinbmnaa
open Go.RowKit

def NewT (n : Nat) (w : World) (e : Ending) (w' : World) : Prop :=
  ∃ g s, e = .returned (.tuple #[.pointer (some ⟨g, 0, none⟩), .int .i64 0]) ∧ w.heap.size ≤ g ∧ w.heap.size ≤ s ∧ w.grownBy w' none ∧ IsT w' g s (newS n)
theorem newT_box {w w' : World} {n : Nat} (hn : 0 < n) (hn2 : n ≤ 200) (h : w'.ownsRow w.heap.size 69 3 (.slice (some ⟨w.heap.size, 0, none⟩) n n) n (cellsS (newS n))) (_ : w.grownBy w' none) :
    IsT (w'.alloc (.cells #[.slice (some ⟨w.heap.size, 0, none⟩) n n] 63)) w'.heap.size w.heap.size (newS n) := by
  have hl : (newS n).length = n := by simp [newS]
  have hlt := (World.ownsRow.lt h w.heap.size rfl).2
  refine ⟨?_, ?_, by omega, by omega, by omega, newS_ok n⟩
  · rw [hl]; exact heap_at_alloc _ _
  · rw [hl]; exact ownsRow0 (World.ownsRow.kept h (gb_alloc _ _ none) (.inr (by simp [Value.ownBlock])))
set_option maxRecDepth 100000 in
theorem new_any (n : Nat) (w : World) (hn : 0 < n) (hn2 : n ≤ 200) : Calls Try.prog 11 #[.int .i64 n] w (NewT n w) := by
  have h1 : ¬ (n : Int) < 1 := by omega
  have h2 : ¬ (200 : Int) < n := by omega
  go_enter Try.func11, Try.ntmps11
  go_wp2_with ((with_reducible refine mk_slots rfl _ _ rfl n rfl rfl (by omega) ?_); go_must (intro w1 ho1 hg1; have HO := Lib.hid ho1; have HG := Lib.hid hg1; clear ho1 hg1))
  go_ret2
  have := HG.out.size
  exact ⟨_, _, rfl, by omega, by omega, gb_same HG.out (gb_alloc _ _ _), newT_box hn hn2 HO.out HG.out⟩
def NoT (n : Int) (w : World) (e : Ending) (w' : World) : Prop := e = .returned (.tuple #[.pointer none, .int .i64 n]) ∧ w = w'
set_option maxRecDepth 100000 in
theorem new_no (n : Int) (w : World) (hn : n < 1 ∨ 200 < n) : Calls Try.prog 11 #[.int .i64 n] w (NoT 2 w) := by
  by_cases h1 : n < 1
  · clear hn
    go_enter Try.func11, Try.ntmps11
    go_wp2
    go_ret2
    exact ⟨rfl, rfl⟩
  · have h2 : 200 < n := by omega
    clear hn
    go_enter Try.func11, Try.ntmps11
    go_wp2
    go_ret2
    exact ⟨rfl, rfl⟩

def hnd (l : List SS) (i : Nat) : Nat := (l.getD i (0, false, 0)).1 * l.length + i
theorem hnd_at {l : List SS} {i : Nat} {p : SS} (h : l[i]? = some p) : hnd l i = p.1 * l.length + i := by unfold hnd; rw [List.getD_eq_getElem?_getD, h]; rfl
def NumS (n : Int) (w : World) (e : Ending) (w' : World) : Prop := e = .returned (.int .i64 n) ∧ w = w'
theorem hnd_small {l : List SS} (hl : l.length ≤ 200) {i : Nat} {p : SS} (h : l[i]? = some p) (hp : p.1 ≤ 1000) : p.1 * l.length ≤ 200000 ∧ hnd l i < 200200 := by
  have hi : i < l.length := (List.getElem?_eq_some_iff.1 h).1
  have : p.1 * l.length ≤ 1000 * 200 := Nat.mul_le_mul hp hl
  rw [hnd_at h]
  omega
set_option maxRecDepth 100000 in
theorem handle_any {w : World} {g s : Nat} {l : List SS} (h : IsT w g s l) {i : Nat} (hi : i < l.length) : Calls Try.prog 40 #[.pointer (some ⟨g, 0, none⟩), .int .i64 i] w (NumG (hnd l i) w) := by
  obtain ⟨p, hp⟩ : ∃ p, l[i]? = some p := ⟨l[i], by simp [hi]⟩
  obtain ⟨q0, _, _⟩ := h.at hp
  have hc := h.cell
  have hok := h.ok p (List.mem_of_getElem? hp)
  obtain ⟨hb1, hb2⟩ := hnd_small h.len hp hok.1
  rw [hnd_at hp] at hb2 ⊢
  have hx : IntKind.i64.wrap ((p.1 : Int) * (l.length : Int)) = ((p.1 * l.length : Nat) : Int) := by
    rw [← Int.natCast_mul]; rw [IntKind.wrap_i64]; omega
  have hlen := h.len
  clear h hok
  generalize p.1 * l.length = m at *
  go_enter Try.func40, Try.ntmps40
  go_wp2
  go_quiet (fail)
  go_wp2
  go_ret
  refine ⟨?_, gb_drewN _ _ _⟩
  show Ending.returned (.int .i64 ((m : Int) + (i : Int))) = _
  rw [← Int.natCast_add]

/-- the slot that is filled next, of the first k -/
def bestN (l : List SS) : Nat → Option Nat
  | 0 => none
  | k + 1 =>
    match l[k]? with
    | none => bestN l k
    | some p => if p.2.1 || p.1 == 1000 then bestN l k else
      match bestN l k with
      | none => some k
      | some b => if p.1 < (l.getD b (0, false, 0)).1 then some k else some b
def bI : Option Nat → Int
  | none => -1
  | some b => b
theorem bestN_spec {l : List SS} : ∀ {k b : Nat}, bestN l k = some b → b < k ∧ ∃ p, l[b]? = some p ∧ p.2.1 = false ∧ p.1 ≠ 1000
  | 0, b, h => by cases h
  | k + 1, b, h => by
    unfold bestN at h
    cases hp : l[k]? with
    | none => rw [hp] at h; obtain ⟨h1, h2⟩ := bestN_spec h; exact ⟨by omega, h2⟩
    | some p =>
      rw [hp] at h
      simp only at h
      split at h
      · obtain ⟨h1, h2⟩ := bestN_spec h; exact ⟨by omega, h2⟩
      · rename_i hx
        simp only [Bool.or_eq_true, beq_iff_eq, not_or, Bool.not_eq_true] at hx
        split at h
        · cases h; exact ⟨by omega, p, hp, hx⟩
        · rename_i b' hb
          split at h
          · cases h; exact ⟨by omega, p, hp, hx⟩
          · cases h; obtain ⟨h1, h2⟩ := bestN_spec hb; exact ⟨by omega, h2⟩
theorem bestN_skip {l : List SS} {k : Nat} {p : SS} (hp : l[k]? = some p) (h : p.2.1 = true ∨ p.1 = 1000) : bestN l (k + 1) = bestN l k := by
  rw [bestN, hp]
  simp only
  rw [if_pos (by rcases h with h | h <;> simp [h])]
theorem bestN_first {l : List SS} {k : Nat} {p : SS} (hp : l[k]? = some p) (h1 : p.2.1 = false) (h2 : p.1 ≠ 1000) (hb : bestN l k = none) : bestN l (k + 1) = some k := by
  rw [bestN, hp]
  simp only
  rw [if_neg (by simp [h1, h2]), hb]
theorem bestN_next {l : List SS} {k b : Nat} {p q : SS} (hp : l[k]? = some p) (h1 : p.2.1 = false) (h2 : p.1 ≠ 1000) (hb : bestN l k = some b) (hq : l[b]? = some q) : bestN l (k + 1) = if p.1 < q.1 then some k else some b := by
  rw [bestN, hp]
  simp only
  rw [if_neg (by simp [h1, h2]), hb]
  simp only
  rw [List.getD_eq_getElem?_getD, hq]
  rfl
set_option maxRecDepth 100000 in
set_option maxHeartbeats 2000000 in
theorem free_any {w : World} {g s : Nat} {l : List SS} (h : IsT w g s l) : Calls Try.prog 45 #[.pointer (some ⟨g, 0, none⟩)] w (NumG (bI (bestN l l.length)) w) := by
  have hc := h.cell
  have hlen := h.len
  have H := Lib.hid h
  clear h
  go_enter Try.func45, Try.ntmps45
  go_wp2_with fail
  go_loopw [3, 11] (fun b i wr => ∃ k : Nat, k ≤ l.length ∧ i = .int .i64 k ∧ b = .int .i64 (bI (bestN l k)) ∧ Hid (w.grownBy wr none)) (fun _ i _ => l.length - (intOf i).toNat)
  case atStart => exact ⟨0, Nat.zero_le _, rfl, rfl, Lib.hid (gb_refl _ _)⟩
  case round =>
    obtain ⟨k, hk, rfl, rfl, HG⟩ := hrel
    have HT := Lib.hid (H.out.grown HG.out)
    clear hc
    by_cases hlt : k < l.length
    · obtain ⟨p, hp⟩ : ∃ p, l[k]? = some p := ⟨l[k], by simp [hlt]⟩
      obtain ⟨q0, q1, q2⟩ := HT.out.at hp
      have HP := Lib.hid hp
      have HOK := Lib.hid (HT.out.ok p (List.mem_of_getElem? hp))
      clear hp
      obtain ⟨gen, full, val⟩ := p
      simp only at q0 q1 q2 HP HOK
      have hgb : w.grownBy (wr.alloc (.cells #[.int .i64 (gen : Int), .bool full, .int .i64 val] 69)) none := gb_same HG.out (gb_alloc _ _ _)
      have HG2 := Lib.hid hgb
      have HT2 := Lib.hid (H.out.grown hgb)
      clear hgb
      by_cases hs : full = true ∨ gen = 1000
      · have HE := Lib.hid (bestN_skip HP.out hs)
        by_cases hf : full = true
        · subst hf
          clear hs
          go_wp2
          go_roundw
          case rel => exact ⟨k + 1, by omega, by go_num, by rw [HE.out], HG2⟩
          case measure => simp [intOf]; omega
        · obtain rfl : full = false := by simpa using hf
          obtain rfl : gen = 1000 := by simpa using hs
          clear hs hf
          go_wp2
          go_roundw
          case rel => exact ⟨k + 1, by omega, by go_num, by rw [HE.out], HG2⟩
          case measure => simp [intOf]; omega
      · obtain ⟨hf, hg0⟩ := not_or.1 hs
        obtain rfl : full = false := by simpa using hf
        have hg1 : ((gen : Int) == 1000) = false := by simp; omega
        clear hs hf
        cases hb : bestN l k with
        | none =>
          have HE := Lib.hid (bestN_first HP.out rfl hg0 hb)
          simp only [bI]
          clear hb
          go_wp2
          go_quiet (fail)
          go_wp2
          go_roundw
          case rel => exact ⟨k + 1, by omega, by go_num, by rw [HE.out], Lib.hid (gb_same HG2.out (gb_drewN _ _ _))⟩
          case measure => simp [intOf]; omega
        | some b =>
          obtain ⟨hbk, ⟨g2, f2, v2⟩, hq, _⟩ := bestN_spec hb
          have HE := Lib.hid (bestN_next HP.out rfl hg0 hb hq)
          obtain ⟨r0, _, _⟩ := HT2.out.at hq
          have hc2 := HT2.out.cell
          simp only [bI]
          simp only at r0
          have hb0 : ((b : Int) < 0) = False := by simp
          clear hb hq
          by_cases hgt : gen < g2
          · have hgt' : (gen : Int) < (g2 : Int) := by omega
            rw [if_pos hgt] at HE
            clear hgt
            go_wp2
            go_quiet (fail)
            go_wp2
            go_roundw
            case rel => exact ⟨k + 1, by omega, by go_num, by rw [HE.out], Lib.hid (gb_same HG2.out (gb_drewN _ _ _))⟩
            case measure => simp [intOf]; omega
          · have hgt' : ¬ (gen : Int) < (g2 : Int) := by omega
            rw [if_neg hgt] at HE
            clear hgt
            go_wp2
            go_quiet (fail)
            go_wp2
            go_roundw
            case rel => exact ⟨k + 1, by omega, by go_num, by rw [HE.out], Lib.hid (gb_same HG2.out (gb_drewN _ _ _))⟩
            case measure => simp [intOf]; omega
    · obtain rfl : k = l.length := by omega
      clear hlt
      go_wp2
      go_ret
      exact ⟨rfl, HG.out⟩
end Go.Proofs.Ytjijiondinbmnaa
