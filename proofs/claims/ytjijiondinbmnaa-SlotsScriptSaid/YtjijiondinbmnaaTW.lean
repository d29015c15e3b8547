/-
  The reference's table: New, copied, find, Get: the walks.
-/
import Derived.Test.YtjijiondinbmnaaTRHan
import Derived.Test.YtjijiondinbmnaaTRoom
namespace Go.Proofs.Ytjijiondinbmnaa
open Go.RowKit

/-- a table of the reference, with room behind it or not -/
structure IsW (w : World) (s c : Nat) (l : List SS) : Prop where
  row : w.ownsRow 0 76 3 (.slice (some ⟨s, 0, none⟩) l.length c) l.length (cellsS l)
  len : l.length ≤ 200
  ok : ∀ p ∈ l, SOk p
theorem IsV.toW {w : World} {s : Nat} {l : List SS} (h : IsV w s l) (hok : ∀ p ∈ l, SOk p) : IsW w s l.length l := ⟨h.row, h.len, hok⟩
theorem IsW.kept {w w' : World} {s c : Nat} {l : List SS} {row : Option Nat} (h : IsW w s c l) (hg : w.grownBy w' row) (h2 : row ≠ some s) : IsW w' s c l :=
  ⟨World.ownsRow.kept h.row hg (.inr (fun e => h2 e.symm)), h.len, h.ok⟩
theorem IsW.grown {w w' : World} {s c : Nat} {l : List SS} (h : IsW w s c l) (hg : w.grownBy w' none) : IsW w' s c l := h.kept hg (by simp)
theorem IsW.at {w : World} {s c : Nat} {l : List SS} (h : IsW w s c l) {i : Nat} {p : SS} (hi : l[i]? = some p) :
    w.cell? ⟨s, i * 3, none⟩ = some (.int .i64 (p.1 : Int)) ∧ w.cell? ⟨s, i * 3 + 1, none⟩ = some (.bool p.2.1) ∧ w.cell? ⟨s, i * 3 + 2, none⟩ = some (.int .i64 p.2.2) := by
  have hlt : i < l.length := (List.getElem?_eq_some_iff.1 hi).1
  refine ⟨?_, ?_, ?_⟩
  · rw [World.ownsRow.cellAt h.row _ (by omega)]; exact cellsS_get 0 (by omega) l hi
  · rw [World.ownsRow.cellAt h.row _ (by omega)]; exact cellsS_get 1 (by omega) l hi
  · rw [World.ownsRow.cellAt h.row _ (by omega)]; exact cellsS_get 2 (by omega) l hi
theorem IsW.frozen {w : World} {s c : Nat} {l : List SS} (h : IsW w s c l) (j : Nat) : w.frozen? ⟨s, j, none⟩ = false := World.ownsRow.frozenAt h.row j
theorem IsW.lt {w : World} {s c : Nat} {l : List SS} (h : IsW w s c l) : s < w.heap.size := (World.ownsRow.lt h.row s rfl).2
set_option maxRecDepth 100000 in
theorem rnew_no (n : Int) (w : World) (hn : n < 1 ∨ 200 < n) : Calls Try.prog 12 #[.int .i64 n] w (RetS (.tuple #[.slice none 0 0, .int .i64 2]) w) := by
  by_cases h1 : n < 1
  · clear hn
    go_enter Try.func12, Try.ntmps12
    go_wp2
    go_ret2
    exact ⟨rfl, rfl⟩
  · have h2 : 200 < n := by omega
    clear hn
    go_enter Try.func12, Try.ntmps12
    go_wp2
    go_ret2
    exact ⟨rfl, rfl⟩
def RNewP (n : Nat) (w : World) (e : Ending) (w' : World) : Prop := ∃ s, e = .returned (.tuple #[.slice (some ⟨s, 0, none⟩) n n, .int .i64 0]) ∧ w.heap.size ≤ s ∧ w.grownBy w' none ∧ IsW w' s n (newS n)
set_option maxRecDepth 100000 in
theorem rnew_any (n : Nat) (w : World) (hn : 0 < n) (hn2 : n ≤ 200) : Calls Try.prog 12 #[.int .i64 n] w (RNewP n w) := by
  have h1 : ¬ (n : Int) < 1 := by omega
  have h2 : ¬ (200 : Int) < n := by omega
  go_enter Try.func12, Try.ntmps12
  go_wp2_with ((with_reducible refine mk_rslots rfl _ _ rfl n rfl rfl (by omega) ?_); go_must (intro w1 ho1 hg1; have HO := Lib.hid ho1; have HG := Lib.hid hg1; clear ho1 hg1))
  go_ret2
  have hw := HO.out.toW (newS_ok n)
  rw [newS_len] at hw
  exact ⟨_, rfl, Nat.le_refl _, HG.out, hw⟩
def CopP (l : List SS) (w : World) (e : Ending) (w' : World) : Prop := ∃ s c, e = .returned (.slice (some ⟨s, 0, none⟩) l.length c) ∧ w.heap.size ≤ s ∧ w.grownBy w' none ∧ IsW w' s c l
theorem app_slots {ops : Array Oper} {rest : List Oper} {o : Oper} {a : Act} {w : World} {Q : Exit → Act → World → Prop} (hgd : o.guard = none) (sx x : Operand)
    (ho : o.op = .call { callee := .builtin .append, args := #[sx, x], argTypes := #[30, 30] })
    (B : Nat) (v : Value) (s c : Nat) (l : List SS) (hs : a.eval sx = v) (hx : a.eval x = .slice (some ⟨s, 0, none⟩) l.length c) (hown : w.ownsRow B 76 3 v 0 []) (h : IsW w s c l) (hB : B ≤ w.heap.size)
    (hK : ∀ v' w', w'.ownsRow B 76 3 v' l.length (cellsS l) → w.grownBy w' v.ownBlock → wpList Try.prog ops Q rest (a.put o.dst v') w') : wpList Try.prog ops Q (o :: rest) a w := by
  obtain ⟨i0, hi, hz0, hz1, hz2⟩ := info_parts info_rslot
  have hlen := h.len
  have hsrc := World.ownsRow.cells h.row (g := s) rfl
  obtain ⟨v', w', hr, ho', hg, hf⟩ := run_append_own2 (P := Try.prog) w B 30 o.type 76 i0 _ 3 24 Try.underlying30 hi hz0 hz1 hz2 rfl (by decide) v 0 [] hown
      ⟨s, 0, none⟩ l.length c (cellsS l) (cellsS_len l) hsrc (cellsS_one l) (by simp only [maxLen]; omega) (by omega) hB
  rw [Nat.zero_add, List.nil_append] at ho'
  refine wpList_plain hgd fun _ hK2 => ?_
  unfold Oper.wp execOp
  simp only [ho, resolve, invoke, builtin, Sem.run_bind, Sem.run_pure, Result.andThen_ok, List.map_toArray, List.map_cons, List.map_nil, hs, hx, hr]
  exact hK2 _ _ (hK v' w' ho' hg)
set_option maxRecDepth 100000 in
theorem copied_any {w : World} {s c : Nat} {l : List SS} (h : IsW w s c l) (hl : 0 < l.length) : Calls Try.prog 57 #[.slice (some ⟨s, 0, none⟩) l.length c] w (CopP l w) := by
  have H := Lib.hid h
  have HLIT : Hid ((w.alloc (.cells #[] 76)).ownsRow w.heap.size 76 3 (.slice (some ⟨w.heap.size, 0, none⟩) 0 0) 0 []) := Lib.hid (World.ownsRow_lit (e := 76) (size := 3) w #[] 0 (Nat.le_refl _) (by simp) rfl)
  have HSRC := Lib.hid (h.grown (gb_alloc w (.cells #[] 76) none))
  clear h
  go_enter Try.func57, Try.ntmps57
  go_wp2_with (at_builtin; refine app_slots rfl _ _ rfl w.heap.size _ s c l rfl rfl HLIT.out HSRC.out (gb_alloc w _ none).size ?_)
  intro v' w' ho hg
  have HO := Lib.hid ho
  have HG := Lib.hid hg
  clear ho hg
  go_wp2
  go_ret
  rcases HO.out.2 with ⟨_, h0⟩ | ⟨g, cap, cur, hv, hB, _⟩
  · omega
  · refine ⟨g, cap, by rw [hv]; rfl, hB, gb_trans (gb_alloc _ _ _) HG.out (fun k e => .inr (by cases e; exact Nat.le_refl _)), ?_, H.out.len, H.out.ok⟩
    have := ownsRow0 HO.out
    rwa [hv] at this
/-- find goes through the slots -/
def fndN (l : List SS) (x : Int) : Nat → Option Nat
  | 0 => none
  | k + 1 => match fndN l x k with
    | some i => some i
    | none => match l[k]? with
      | none => none
      | some p => if p.2.1 = true ∧ ((p.1 * l.length + k : Nat) : Int) = x then some k else none
theorem fndN_find (l : List SS) (x : Int) : fndN l x l.length = findI l x := by
  have key : ∀ k, k ≤ l.length → fndN l x k = match findI l x with | none => none | some i => if i < k then some i else none := by
    intro k
    induction k with
    | zero => intro _; cases findI l x <;> rfl
    | succ k ih =>
      intro hk
      have ih := ih (by omega)
      unfold fndN
      rw [ih]
      obtain ⟨p, hp⟩ : ∃ p, l[k]? = some p := ⟨_, List.getElem?_eq_getElem (by omega)⟩
      cases hf : findI l x with
      | none =>
        simp only [hp]
        rw [if_neg]
        rintro ⟨h1, h2⟩
        rw [findI_some hp h1 h2.symm] at hf
        cases hf
      | some i =>
        obtain ⟨q, hq, h1, h2, h3⟩ := findI_spec hf
        simp only
        by_cases hik : i < k
        · rw [if_pos hik, if_pos (by omega)]
        · rw [if_neg hik]
          simp only [hp]
          by_cases he : i = k
          · subst he
            rw [hq] at hp
            cases hp
            rw [if_pos ⟨h1, h2⟩, if_pos (by omega)]
          · have e1 : ¬ i < k + 1 := by omega
            have e2 : ¬ (p.2.1 = true ∧ ((p.1 * l.length + k : Nat) : Int) = x) := by
              rintro ⟨h4, h5⟩
              rw [findI_some hp h4 h5.symm] at hf
              cases hf
              exact he rfl
            rw [if_neg e2, if_neg e1]
  rw [key _ (Nat.le_refl _)]
  cases hf : findI l x with
  | none => rfl
  | some i =>
    obtain ⟨q, hq, h1, h2, h3⟩ := findI_spec hf
    simp only
    rw [if_pos h3]
def fI : Option Nat → Int
  | none => -1
  | some i => i
set_option maxRecDepth 100000 in
set_option maxHeartbeats 2000000 in
theorem rfind_any {w : World} {s c : Nat} {l : List SS} (h : IsW w s c l) (x : Int) : Calls Try.prog 58 #[.slice (some ⟨s, 0, none⟩) l.length c, .int .i64 x] w (NumG (fI (findI l x)) w) := by
  have hlen := h.len
  have H := Lib.hid h
  clear h
  rw [← fndN_find]
  go_enter Try.func58, Try.ntmps58
  go_wp2_with fail
  go_loopw [5] (fun i wr => ∃ k : Nat, k ≤ l.length ∧ i = .int .i64 k ∧ Hid (fndN l x k = none) ∧ Hid (w.grownBy wr none)) (fun i _ => l.length - (intOf i).toNat)
  case atStart => exact ⟨0, Nat.zero_le _, rfl, Lib.hid rfl, Lib.hid (gb_refl _ _)⟩
  case round =>
    obtain ⟨k, hk, rfl, HF, HG⟩ := hrel
    by_cases hlt : k < l.length
    · obtain ⟨p, hp⟩ : ∃ p, l[k]? = some p := ⟨l[k], by simp [hlt]⟩
      obtain ⟨q0, q1, _⟩ := (H.out.grown HG.out).at hp
      have hhs := hnd_small hlen hp (H.out.ok p (List.mem_of_getElem? hp)).1
      rw [hnd_at hp] at hhs
      have HP := Lib.hid hp
      clear hp
      obtain ⟨gen, full, val⟩ := p
      simp only at q0 q1 HP hhs
      have hstep : fndN l x (k + 1) = if full = true ∧ ((gen * l.length + k : Nat) : Int) = x then some k else none := by
        rw [fndN, HF.out, HP.out]
      have HS := Lib.hid hstep
      obtain ⟨m, hm⟩ : ∃ m, gen * l.length = m := ⟨_, rfl⟩
      have hx : IntKind.i64.wrap ((gen : Int) * (l.length : Int)) = (m : Int) := by
        rw [← Int.natCast_mul, hm, IntKind.wrap_i64]; omega
      rw [hm] at hhs HS
      have hmk := hhs.2
      have hml := hhs.1
      clear hstep hhs hm
      cases full with
      | false =>
        go_wp2
        go_roundw
        case rel => exact ⟨k + 1, by omega, by go_num, Lib.hid (by rw [HS.out]; simp), HG⟩
        case measure => simp [intOf]; omega
      | true =>
        by_cases he : ((m + k : Nat) : Int) = x
        · have hee : ((m : Int) + (k : Int) == x) = true := by rw [beq_iff_eq]; omega
          have HN : Hid (fndN l x l.length = some k) := Lib.hid (by
            have h1 : fndN l x (k + 1) = some k := by rw [HS.out, if_pos ⟨rfl, he⟩]
            have key : ∀ j, k + 1 ≤ j → fndN l x j = some k := by
              intro j hj
              induction j with
              | zero => omega
              | succ j ih =>
                by_cases hjk : j = k
                · subst hjk; exact h1
                · unfold fndN; rw [ih (by omega)]
            exact key _ hlt)
          clear he
          go_wp2
          go_ret
          exact ⟨by rw [HN.out]; rfl, HG.out⟩
        · have hee : ((m : Int) + (k : Int) == x) = false := by rw [beq_eq_false_iff_ne]; omega
          go_wp2
          go_roundw
          case rel => exact ⟨k + 1, by omega, by go_num, Lib.hid (by rw [HS.out, if_neg (fun h => he h.2)]), HG⟩
          case measure => simp [intOf]; omega
    · obtain rfl : k = l.length := by omega
      clear hlt
      go_wp2
      go_ret
      exact ⟨by rw [HF.out]; rfl, HG.out⟩
end Go.Proofs.Ytjijiondinbmnaa
