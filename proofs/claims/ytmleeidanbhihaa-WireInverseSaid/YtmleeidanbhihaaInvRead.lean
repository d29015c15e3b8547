/-
  A reader stands at a position of bytes that were encoded: what each of its methods returns, and where it stands then; all against an older world w, in which the reader is not yet.
-/
import Derived.Test.YtmleeidanbhihaaInvMath
import Derived.Test.YtmleeidanbhihaaSmall
namespace Go.Proofs.Ytmleeidanbhihaa
open Go.RowKit

/-- a returned value, the reader at q, and nothing older than the reader changed -/
def AtQ (w : World) (b : Nat) (sl : Value) (bs : List UInt8) (q : Nat) (v : Value) (e : Ending) (w' : World) : Prop :=
  e = .returned v ∧ IsR w' b sl bs q false ∧ w.grownBy w' none
def AtG (w : World) (b : Nat) (sl : Value) (bs : List UInt8) (q : Nat) (G : Value → World → Prop) (e : Ending) (w' : World) : Prop :=
  ∃ v, e = .returned v ∧ G v w' ∧ IsR w' b sl bs q false ∧ w.grownBy w' none

theorem rdl_own {w : World} {B : Nat} {e : TypeId} {v : Value} {vs : List Value} (h : w.ownsRow B e 1 v vs.length vs) : RdL w v vs := by
  rcases h.2 with ⟨rfl, h2⟩ | ⟨g, cap, cur, rfl, _, _, h3, h4, _, _⟩
  · exact .inl ⟨rfl, List.length_eq_zero_iff.1 h2⟩
  · exact .inr ⟨g, 0, cap, rfl, h3, h4, fun j x hj => by have := World.ownsRow.cells h rfl j x hj; cases j <;> simpa [Addr.add] using this⟩

variable (w W : World) (b : Nat) (sl : Value) (bs t : List UInt8) (p : Nat)
theorem bounded_at (z : Int) (hb : w.heap.size ≤ b) (h : IsR W b sl bs p false) (hg : w.grownBy W none) (h1 : -9223372036854775808 ≤ z) (h2 : z ≤ 9223372036854775807) (hd : bs.drop p = enc z ++ t) :
    Calls Try.prog 28 #[.pointer (some ⟨b, 0, none⟩), .int .i64 z, .int .i64 z] W (AtQ w b sl bs (p + (enc z).length) (.int .i64 z)) := by
  have HC := bounded_any b sl bs p false W z z h
  rw [unl_f, rdBounded_at h1 h2 (Int.le_refl _) (Int.le_refl _) hd] at HC
  refine HC.mono ?_
  rintro e w' ⟨rfl, hr, hk⟩
  exact ⟨rfl, hr, gb_new hg hk hb⟩
theorem bool_at (v : Bool) (hb : w.heap.size ≤ b) (h : IsR W b sl bs p false) (hg : w.grownBy W none) (hd : bs.drop p = encB v ++ t) :
    Calls Try.prog 29 #[.pointer (some ⟨b, 0, none⟩)] W (AtQ w b sl bs (p + 1) (.bool v)) := by
  have HC := bool_any b sl bs p false W h
  rw [unl_f, rdBool_at hd] at HC
  refine HC.mono ?_
  rintro e w' ⟨rfl, hr, hk⟩
  exact ⟨rfl, hr, gb_new hg hk hb⟩
theorem str_at (s : ByteArray) (hb : w.heap.size ≤ b) (h : IsR W b sl bs p false) (hg : w.grownBy W none) (hs : s.size ≤ 1099511627776) (hd : bs.drop p = encS (bl s) ++ t) :
    Calls Try.prog 30 #[.pointer (some ⟨b, 0, none⟩), .int .i64 (s.size : Int)] W (AtQ w b sl bs (p + (encS (bl s)).length) (.string s)) := by
  have HC := str_any b sl bs p false W s.size h (by omega)
  rw [unl_f, rdBytes_at (by rw [bl_len]; exact hs) (by rw [bl_len]; omega) hd] at HC
  simp only [strO, Option.map_some, str_bl] at HC
  refine HC.mono ?_
  rintro e w' ⟨rfl, hr, hk⟩
  exact ⟨rfl, hr, gb_new hg hk hb⟩
theorem bytes_at (s : ByteArray) (hb : w.heap.size ≤ b) (h : IsR W b sl bs p false) (hg : w.grownBy W none) (hs : s.size ≤ 1099511627776) (hd : bs.drop p = encS (bl s) ++ t) :
    Calls Try.prog 31 #[.pointer (some ⟨b, 0, none⟩), .int .i64 (s.size : Int)] W (AtG w b sl bs (p + (encS (bl s)).length) (fun v w' => (convert 22 9 v).run Try.prog w' = .ok (.string s) w')) := by
  have HC := bytes_any b sl bs p false W s.size W.heap.size h (Nat.le_refl _) (by omega)
  rw [unl_f, rdBytes_at (by rw [bl_len]; exact hs) (by rw [bl_len]; omega) hd] at HC
  refine HC.mono ?_
  rintro e w' ⟨v, rfl, ho, hr, hk⟩
  have := run_toString w' v (bl s) ho.rd
  rw [str_bl] at this
  exact ⟨v, rfl, this, hr, gb_new hg hk hb⟩
theorem ints_at (zs : List Int) (hb : w.heap.size ≤ b) (h : IsR W b sl bs p false) (hg : w.grownBy W none) (hz : ∀ z ∈ zs, -9223372036854775808 ≤ z ∧ z ≤ 9223372036854775807) (hl : zs.length ≤ 1099511627776) (hd : bs.drop p = encIs zs ++ t) :
    Calls Try.prog 25 #[.pointer (some ⟨b, 0, none⟩), .int .i64 (zs.length : Int)] W (AtG w b sl bs (p + (encIs zs).length) (fun v w' => RdL w' v (ivs zs))) := by
  have HC := mInts_any b sl bs p false W zs.length W.heap.size h (Nat.le_refl _) (by omega)
  rw [unl_f, rdList_ints hz hl hd] at HC
  refine HC.mono ?_
  rintro e w' ⟨v, rfl, ho, hr, hk⟩
  exact ⟨v, rfl, rdl_own ho, hr, gb_new hg hk hb⟩
theorem strs_at (ss : List ByteArray) (hb : w.heap.size ≤ b) (h : IsR W b sl bs p false) (hg : w.grownBy W none) (hz : ∀ s ∈ ss, s.size ≤ 1099511627776) (hl : ss.length ≤ 1099511627776) (hd : bs.drop p = encSs ss ++ t) :
    Calls Try.prog 27 #[.pointer (some ⟨b, 0, none⟩), .int .i64 (ss.length : Int)] W (AtG w b sl bs (p + (encSs ss).length) (fun v w' => RdL w' v (svs ss))) := by
  have HC := mStrings_any b sl bs p false W ss.length W.heap.size h (Nat.le_refl _) (by omega)
  rw [unl_f, rdList_strs hz hl hd] at HC
  refine HC.mono ?_
  rintro e w' ⟨v, rfl, ho, hr, hk⟩
  exact ⟨v, rfl, rdl_own ho, hr, gb_new hg hk hb⟩
theorem left_at (h : IsR W b sl bs p false) (hg : w.grownBy W none) (hd : bs.drop p = t) :
    Calls Try.prog 13 #[.pointer (some ⟨b, 0, none⟩)] W (AtQ w b sl bs p (.int .i64 (t.length : Int))) := by
  refine (left_any b sl bs p false W h).mono ?_
  rintro e w' ⟨rfl, n, rfl⟩
  refine ⟨?_, h.grown (gb_drewN _ _ _), gb_same hg (gb_drewN _ _ _)⟩
  rw [← hd, List.length_drop]
theorem end_at (h : IsR W b sl bs p false) (hg : w.grownBy W none) (hd : bs.drop p = t) :
    Calls Try.prog 14 #[.pointer (some ⟨b, 0, none⟩)] W (AtQ w b sl bs p (.int .i64 (if 0 < t.length then 4 else 0))) := by
  refine (end_any b sl bs p false W h).mono ?_
  rintro e w' ⟨rfl, n, rfl⟩
  refine ⟨?_, h.grown (gb_drewN _ _ _), gb_same hg (gb_drewN _ _ _)⟩
  have hle := h.le
  rw [← hd, List.length_drop]
  unfold endOf
  by_cases hp : p < bs.length
  · rw [if_pos (.inr hp), if_pos (by omega)]
  · rw [if_neg (by simp [hp]), if_neg (by omega)]
theorem joined_bs (a c : Value) (x y : List UInt8) (ha : Rd W a x) (hb : Rd W c y) (hx : x.length ≤ 1099511627776) (hy : y.length ≤ 1099511627776) (he : x ++ y = bs) (hg : w.grownBy W none) :
    Calls Try.prog 23 #[a, c] W (fun e w' => ∃ v, e = .returned v ∧ Rd w' v bs ∧ w.grownBy w' none) := by
  refine (joined_any a c W x y ha hb hx hy).mono ?_
  rintro e w' ⟨v, rfl, ho, hk⟩
  exact ⟨v, rfl, he ▸ ho.rd, gb_same hg hk⟩
theorem read_bs (v : Value) (h : Rd W v bs) (hbs : bs.length ≤ 1099511627776) (hg : w.grownBy W none) :
    Calls Try.prog 11 #[v] W (fun e w' => ∃ b sl, e = .returned (.pointer (some ⟨b, 0, none⟩)) ∧ w.heap.size ≤ b ∧ IsR w' b sl bs 0 false ∧ w.grownBy w' none) := by
  refine (read_any v bs W h hbs).mono ?_
  rintro e w' ⟨b, sl, rfl, h1, h2, h3, _⟩
  exact ⟨b, sl, rfl, Nat.le_trans hg.size h1, h2, gb_same hg h3⟩
def RInv (w : World) (b : Nat) (sl : Value) (bs : List UInt8) (n : Nat) (f : Nat → List UInt8) (k : Value) (wr : World) : Prop :=
  ∃ i p : Nat, k = .int .i64 (i : Int) ∧ i ≤ n ∧ IsR wr b sl bs p false ∧ bs.drop p = f i ∧ w.grownBy wr none
end Go.Proofs.Ytmleeidanbhihaa
