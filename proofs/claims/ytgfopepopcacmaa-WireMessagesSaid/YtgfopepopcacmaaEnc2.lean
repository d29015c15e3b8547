/-
  Ints, Strings, Bool (the encoders), few, joined: the walks.
-/
import Derived.Test.YtgfopepopcacmaaEnc
namespace Go.Proofs.Ytgfopepopcacmaa
open Go.RowKit

def encIs (zs : List Int) : List UInt8 := enc zs.length ++ encL zs
def svs (ss : List ByteArray) : List Value := ss.map .string
def bl (s : ByteArray) : List UInt8 := s.data.toList
theorem bl_len (s : ByteArray) : (bl s).length = s.size := by unfold bl; rw [Array.length_toList]; rfl
def encSL (ss : List ByteArray) : List UInt8 := ss.flatMap fun s => encS (bl s)
def encSs (ss : List ByteArray) : List UInt8 := enc ss.length ++ encSL ss
def encB (v : Bool) : List UInt8 := if v then [1] else [0]

theorem encS_len (l : List UInt8) : (encS l).length ≤ l.length + 10 := by unfold encS; have := (enc_len (l.length : Int)).2; simp only [List.length_append]; omega

set_option maxRecDepth 100000 in
set_option maxHeartbeats 400000 in
theorem ints_any (v lv : Value) (w : World) (B : Nat) (x : List UInt8) (zs : List Int) (hz : ∀ z ∈ zs, -9223372036854775808 ≤ z ∧ z ≤ 9223372036854775807) (hown : Own w B v x) (hl : RdL w lv (ivs zs)) (hB : B ≤ w.heap.size)
    (hne : zs ≠ [] → ∀ k, lv.ownBlock = some k → v.ownBlock ≠ some k) (hlen : x.length + 10 * zs.length + 10 ≤ 1099511627776) :
    Calls Try.prog 18 #[v, lv] w (IntPost w B v (x ++ encIs zs)) := by
  obtain ⟨a0, c0, rfl⟩ := hl.len
  have hivl : (ivs zs).length = zs.length := by simp [ivs]
  rw [hivl] at hl ⊢
  have hel := (enc_len (zs.length : Int)).2
  have HC := Lib.hid (int_any v (zs.length : Int) w B x (by omega) (by omega) hown hB (by omega))
  have HN : Hid (∀ v1 w1, Own w1 B v1 (x ++ enc zs.length) → w.grownBy w1 v.ownBlock → Fr w v v1 → Calls Try.prog 61 #[v1, .slice a0 zs.length c0] w1 (IntPost w1 B v1 ((x ++ enc zs.length) ++ encL zs))) := Lib.hid (fun v1 w1 h1 h2 h3 => by
    refine numbers_any v1 _ w1 B _ zs hz h1 (hl.kept h2 ?_) (Nat.le_trans hB h2.size) ?_ (by simp only [List.length_append]; omega)
    · intro h k hk
      exact hne (by rintro rfl; exact h rfl) k (by rw [hivl] at *; exact hk)
    · intro h k hk e
      rcases h3 k e with h4 | h4
      · exact hne h k (by rw [hivl]; exact hk) h4
      · have := RdL.blk hl (by simpa [ivs] using h) k hk
        omega)
  clear hz hl hne hlen hel hown
  go_enter Try.func18, Try.ntmps18
  go_wp2_with (first | (go_at_call 20; refine HC.out.mono ?_; rintro e w1 ⟨v1, rfl, ho1, hg1, hf1⟩) | (go_at_call 61; refine (HN.out v1 w1 ho1 hg1 hf1).mono ?_; rintro e w2 ⟨v2, rfl, ho2, hg2, hf2⟩))
  go_ret
  refine ⟨v2, rfl, ?_, gb_fr hg1 hf1 hg2, hf1.trans hg1.size hf2⟩
  unfold encIs
  rw [← List.append_assoc]
  exact ho2

theorem encSL_snoc (ss : List ByteArray) (i : Nat) (s : ByteArray) (h : ss[i]? = some s) : encSL (ss.take (i + 1)) = encSL (ss.take i) ++ encS (bl s) := by
  unfold encSL
  rw [List.take_add_one, h, List.flatMap_append]
  simp
theorem encSL_len (ss : List ByteArray) (N : Nat) (h : ∀ s ∈ ss, s.size ≤ N) : (encSL ss).length ≤ (N + 10) * ss.length := by
  induction ss with
  | nil => simp [encSL]
  | cons s ss ih =>
    have h1 := encS_len (bl s)
    rw [bl_len] at h1
    have h2 := h s (by simp)
    have h3 := ih (fun t ht => h t (by simp [ht]))
    simp only [encSL, List.flatMap_cons, List.length_append, List.length_cons] at *
    rw [Nat.mul_add]
    omega

def SInv (w : World) (B : Nat) (v : Value) (x : List UInt8) (ss : List ByteArray) (l k : Value) (wr : World) : Prop :=
  ∃ (i : Nat), k = .int .i64 (i : Int) ∧ i ≤ ss.length ∧ Own wr B l ((x ++ enc ss.length) ++ encSL (ss.take i)) ∧ w.grownBy wr v.ownBlock ∧ Fr w v l

set_option maxRecDepth 100000 in
set_option maxHeartbeats 1000000 in
theorem strings_any (v lv : Value) (w : World) (B : Nat) (x : List UInt8) (ss : List ByteArray) (N : Nat) (hs : ∀ s ∈ ss, s.size ≤ N) (hown : Own w B v x) (hl : RdL w lv (svs ss)) (hB : B ≤ w.heap.size)
    (hne : ss ≠ [] → ∀ k, lv.ownBlock = some k → v.ownBlock ≠ some k) (hlen : x.length + (N + 10) * ss.length + N + 20 ≤ 1099511627776) (hls : ss.length ≤ 1099511627776) :
    Calls Try.prog 17 #[v, lv] w (IntPost w B v (x ++ encSs ss)) := by
  obtain ⟨a0, c0, rfl⟩ := hl.len
  have hivl : (svs ss).length = ss.length := by simp [svs]
  rw [hivl] at hl ⊢
  have hel := (enc_len (ss.length : Int)).2
  have HC := Lib.hid (int_any v (ss.length : Int) w B x (by omega) (by omega) hown hB (by omega))
  have HL := Lib.hid hl
  have HN := Lib.hid hne
  have HS := Lib.hid hs
  have HLEN := Lib.hid hlen
  have HEL := Lib.hid hel
  have hlz : (ss.length : Int) ≤ 9223372036854775807 := by omega
  rw [hivl] at HN
  clear hl hne hs hlen hown hel hls
  go_enter Try.func17, Try.ntmps17
  go_wp2_with (go_at_call 20; refine HC.out.mono ?_; rintro e w1 ⟨v1, rfl, ho1, hg1, hf1⟩)
  go_loopw [0, 13] (fun l k wr => SInv w B v x ss l k wr) (fun _ k _ => ss.length - (intOf k).toNat)
  case atStart => exact ⟨0, rfl, Nat.zero_le _, by simpa [encSL] using ho1, hg1, hf1⟩
  case round =>
    obtain ⟨i, rfl, hi, ho, hg, hf⟩ := hrel
    by_cases hlt : i < ss.length
    · have hzi : ss[i]? = some ss[i] := by simp [hlt]
      obtain ⟨b, off, rfl, hcell0⟩ := HL.out.at (j := i) (x := .string ss[i]) (by simp [svs, hlt])
      have hcell : wr.cell? ⟨b, off + i, none⟩ = some (.string ss[i]) := hg.cell hcell0 (fun e => HN.out (by rintro h; simp [h] at hlt) b rfl e.symm)
      have hrg := HS.out ss[i] (by simp)
      have hel := encSL_len (ss.take i) N (fun s h => HS.out s (List.mem_of_mem_take h))
      have hel2 : (N + 10) * (ss.take i).length ≤ (N + 10) * ss.length := Nat.mul_le_mul_left _ (by simp; omega)
      have HC2 := Lib.hid (string_any u0 ss[i] wr B ((x ++ enc ss.length) ++ encSL (ss.take i)) (by have := HLEN.out; omega) ho (Nat.le_trans hB hg.size) (by have h1 := HLEN.out; have h2 := HEL.out; simp only [List.length_append]; omega))
      have HSN := Lib.hid (encSL_snoc ss i ss[i] hzi)
      have HG := Lib.hid hg
      have HF := Lib.hid hf
      clear hzi hcell0 hrg hel hel2 ho hg hf
      generalize ss[i] = z at *
      go_wp2_with (go_at_call 22; refine HC2.out.mono ?_; rintro e w2 ⟨v2, rfl, ho2, hg2, hf2⟩)
      refine ⟨⟨i + 1, by go_num, by omega, by rw [HSN.out, ← List.append_assoc]; exact ho2, gb_fr HG.out HF.out hg2, HF.out.trans HG.out.size hf2⟩, by simp [intOf]; omega⟩
    · have hiz : i = ss.length := by omega
      have HO : Hid (Own wr B u0 (x ++ encSs ss)) := Lib.hid (by rw [hiz, List.take_length, List.append_assoc] at ho; exact ho)
      have HG := Lib.hid hg
      have HF := Lib.hid hf
      clear ho hg hf hiz
      go_wp2
      go_ret
      exact ⟨_, rfl, HO.out, HG.out, HF.out⟩

set_option maxRecDepth 100000 in
set_option maxHeartbeats 400000 in
theorem wbool_any (v : Value) (t : Bool) (w : World) (B : Nat) (x : List UInt8) (hown : Own w B v x) (hB : B ≤ w.heap.size) (hlen : x.length ≤ 1099511627776) :
    Calls Try.prog 19 #[v, .bool t] w (IntPost w B v (x ++ encB t)) := by
  have HO := Lib.hid hown
  clear hown
  cases t with
  | true =>
    go_enter Try.func19, Try.ntmps19
    go_wp2_with (at_builtin; refine app_bytes rfl _ _ rfl B v _ x [1] rfl rfl (HO.out.grown (gb_alloc _ _ _)) (Rd.litv _ _ _ _ rfl) (by simp; omega) (by simp; omega) ?_; intro v' w1 ho1 hg1 hf1)
    go_ret
    exact ⟨v', rfl, ho1, gb_fr (gb_alloc _ _ _) (Fr.refl _ _) hg1, (Fr.refl _ _).trans (by simp) hf1⟩
  | false =>
    go_enter Try.func19, Try.ntmps19
    go_wp2_with (at_builtin; refine app_bytes rfl _ _ rfl B v _ x [0] rfl rfl (HO.out.grown (gb_alloc _ _ _)) (Rd.litv _ _ _ _ rfl) (by simp; omega) (by simp; omega) ?_; intro v' w1 ho1 hg1 hf1)
    go_ret
    exact ⟨v', rfl, ho1, gb_fr (gb_alloc _ _ _) (Fr.refl _ _) hg1, (Fr.refl _ _).trans (by simp) hf1⟩
end Go.Proofs.Ytgfopepopcacmaa
