/-
  What was encoded is read again: plain mathematics, no walk.
-/
import Derived.Test.YtmleeidanbhihaaList
import Derived.Test.YtmleeidanbhihaaEnc2
import Derived.Lib.ConvBytes
namespace Go.Proofs.Ytmleeidanbhihaa
open Go.RowKit

theorem drop_next {bs a t : List UInt8} {p : Nat} (h : bs.drop p = a ++ t) : bs.drop (p + a.length) = t := by
  rw [← List.drop_drop, h, List.drop_left]
theorem drop_len {bs a t : List UInt8} {p : Nat} (h : bs.drop p = a ++ t) (ha : 0 < a.length) : p + a.length ≤ bs.length := by
  have := congrArg List.length h
  rw [List.length_drop, List.length_append] at this
  omega

theorem rdInt_at {bs t : List UInt8} {p : Nat} {z : Int} (h1 : -9223372036854775808 ≤ z) (h2 : z ≤ 9223372036854775807) (h : bs.drop p = enc z ++ t) : rdInt bs p = some (z, p + (enc z).length) := by
  unfold rdInt
  have e : num (bs.drop p) = (zz z, (encU (zz z)).length) := by rw [h]; exact num_enc (zz_lt h1 h2) t
  have hl := (encU_len (zz z)).1
  rw [e]
  simp only
  rw [if_neg (by omega), unzz_zz]
  rfl
theorem rdBounded_at {bs t : List UInt8} {p : Nat} {z least most : Int} (h1 : -9223372036854775808 ≤ z) (h2 : z ≤ 9223372036854775807) (hl : least ≤ z) (hm : z ≤ most) (h : bs.drop p = enc z ++ t) : rdBounded least most bs p = some (z, p + (enc z).length) := by
  unfold rdBounded
  rw [rdInt_at h1 h2 h]
  simp only
  rw [if_neg (by omega)]
theorem rdBool_at {bs t : List UInt8} {p : Nat} {v : Bool} (h : bs.drop p = encB v ++ t) : rdBool bs p = some (v, p + 1) := by
  have hx : bs[p]? = some (if v then 1 else 0) := by
    have := congrArg (fun l => l[0]?) h
    simp only [List.getElem?_drop, Nat.add_zero] at this
    rw [this]
    cases v <;> rfl
  unfold rdBool
  rw [hx]
  cases v <;> rfl
theorem rdBytes_at {bs t l : List UInt8} {p : Nat} {most : Int} (hl : l.length ≤ 1099511627776) (hm : (l.length : Int) ≤ most) (h : bs.drop p = encS l ++ t) : rdBytes most bs p = some (l, p + (encS l).length) := by
  have h0 : bs.drop p = enc l.length ++ (l ++ t) := by rw [h]; unfold encS; rw [List.append_assoc]
  unfold rdBytes
  rw [rdBounded_at (by omega) (by omega) (by omega) hm h0]
  have hd := drop_next h0
  simp only [Int.toNat_natCast]
  have hlen := congrArg List.length hd
  rw [List.length_drop, List.length_append] at hlen
  rw [if_neg (by omega), hd, List.take_left]
  unfold encS
  rw [List.length_append, Nat.add_assoc]

theorem rdN_ints {bs : List UInt8} : ∀ (zs : List Int) (p : Nat) (t : List UInt8), (∀ z ∈ zs, -9223372036854775808 ≤ z ∧ z ≤ 9223372036854775807) → bs.drop p = encL zs ++ t → rdN (oneInt bs) zs.length p = some (ivs zs, p + (encL zs).length) := by
  intro zs
  induction zs with
  | nil => intro p t _ _; rfl
  | cons z zs ih =>
    intro p t hz h
    have hz0 := hz z (by simp)
    have h0 : bs.drop p = enc z ++ (encL zs ++ t) := by rw [h]; simp [encL]
    have e1 : oneInt bs p = some (.int .i64 z, p + (enc z).length) := by unfold oneInt intO; rw [rdInt_at hz0.1 hz0.2 h0]; rfl
    have e2 := ih (p + (enc z).length) t (fun y hy => hz y (by simp [hy])) (drop_next h0)
    show (match oneInt bs p with | none => none | some (x, q') => (rdN (oneInt bs) zs.length q').map fun (r : List Value × Nat) => (x :: r.1, r.2)) = _
    rw [e1]
    simp only [e2, Option.map_some]
    congr 2
    simp [encL]; omega
theorem rdList_ints {bs t : List UInt8} {zs : List Int} {p : Nat} (hz : ∀ z ∈ zs, -9223372036854775808 ≤ z ∧ z ≤ 9223372036854775807) (hl : zs.length ≤ 1099511627776) (h : bs.drop p = encIs zs ++ t) :
    rdList (oneInt bs) zs.length bs p = some (ivs zs, p + (encIs zs).length) := by
  have h0 : bs.drop p = enc zs.length ++ (encL zs ++ t) := by rw [h]; unfold encIs; rw [List.append_assoc]
  unfold rdList
  rw [rdBounded_at (by omega) (by omega) (by omega) (by omega) h0]
  simp only [Int.toNat_natCast]
  rw [rdN_ints zs _ t hz (drop_next h0)]
  unfold encIs
  rw [List.length_append, Nat.add_assoc]

theorem str_bl (s : ByteArray) : str (bl s) = s := by
  unfold str bl
  cases s
  simp
theorem rdN_strs {bs : List UInt8} : ∀ (ss : List ByteArray) (p : Nat) (t : List UInt8), (∀ s ∈ ss, s.size ≤ 1099511627776) → bs.drop p = encSL ss ++ t → rdN (oneStr bs) ss.length p = some (svs ss, p + (encSL ss).length) := by
  intro ss
  induction ss with
  | nil => intro p t _ _; rfl
  | cons s ss ih =>
    intro p t hz h
    have hz0 := hz s (by simp)
    have h0 : bs.drop p = encS (bl s) ++ (encSL ss ++ t) := by rw [h]; simp [encSL]
    have e1 : oneStr bs p = some (.string s, p + (encS (bl s)).length) := by
      unfold oneStr strO
      rw [rdBytes_at (by rw [bl_len]; exact hz0) (by rw [bl_len]; omega) h0]
      simp only [Option.map_some, str_bl]
    have e2 := ih (p + (encS (bl s)).length) t (fun y hy => hz y (by simp [hy])) (drop_next h0)
    show (match oneStr bs p with | none => none | some (x, q') => (rdN (oneStr bs) ss.length q').map fun (r : List Value × Nat) => (x :: r.1, r.2)) = _
    rw [e1]
    simp only [e2, Option.map_some]
    congr 2
    simp [encSL]; omega
theorem rdList_strs {bs t : List UInt8} {ss : List ByteArray} {p : Nat} (hz : ∀ s ∈ ss, s.size ≤ 1099511627776) (hl : ss.length ≤ 1099511627776) (h : bs.drop p = encSs ss ++ t) :
    rdList (oneStr bs) ss.length bs p = some (svs ss, p + (encSs ss).length) := by
  have h0 : bs.drop p = enc ss.length ++ (encSL ss ++ t) := by rw [h]; unfold encSs; rw [List.append_assoc]
  unfold rdList
  rw [rdBounded_at (by omega) (by omega) (by omega) (by omega) h0]
  simp only [Int.toNat_natCast]
  rw [rdN_strs ss _ t hz (drop_next h0)]
  unfold encSs
  rw [List.length_append, Nat.add_assoc]

/-- the two loops of the law -/
def lawI (zs : List Int) : List UInt8 := zs.flatMap fun z => enc z ++ encB (decide (z < 0))
def lawS (ss : List ByteArray) : List UInt8 := ss.flatMap fun s => encS (bl s) ++ encS (bl s)
theorem lawI_snoc {zs : List Int} {i : Nat} {z : Int} (h : zs[i]? = some z) : lawI (zs.take (i + 1)) = lawI (zs.take i) ++ enc z ++ encB (decide (z < 0)) := by
  unfold lawI
  rw [List.take_add_one, h, List.flatMap_append]
  simp
theorem lawS_snoc {ss : List ByteArray} {i : Nat} {s : ByteArray} (h : ss[i]? = some s) : lawS (ss.take (i + 1)) = lawS (ss.take i) ++ encS (bl s) ++ encS (bl s) := by
  unfold lawS
  rw [List.take_add_one, h, List.flatMap_append]
  simp
theorem lawI_cons {zs : List Int} {i : Nat} {z : Int} (h : zs[i]? = some z) : lawI (zs.drop i) = enc z ++ (encB (decide (z < 0)) ++ lawI (zs.drop (i + 1))) := by
  obtain ⟨h1, h2⟩ := List.getElem?_eq_some_iff.1 h
  rw [List.drop_eq_getElem_cons h1, h2]
  simp [lawI]
theorem lawS_cons {ss : List ByteArray} {i : Nat} {s : ByteArray} (h : ss[i]? = some s) : lawS (ss.drop i) = encS (bl s) ++ (encS (bl s) ++ lawS (ss.drop (i + 1))) := by
  obtain ⟨h1, h2⟩ := List.getElem?_eq_some_iff.1 h
  rw [List.drop_eq_getElem_cons h1, h2]
  simp [lawS]
theorem lawI_len (zs : List Int) : (lawI zs).length ≤ 11 * zs.length := by
  induction zs with
  | nil => simp [lawI]
  | cons z zs ih =>
    have := (enc_len z).2
    have h2 : (encB (decide (z < 0))).length = 1 := by unfold encB; split <;> rfl
    simp only [lawI, List.flatMap_cons, List.length_append, List.length_cons] at *
    omega
theorem lawS_len (ss : List ByteArray) (h : ∀ s ∈ ss, s.size ≤ 200) : (lawS ss).length ≤ 420 * ss.length := by
  induction ss with
  | nil => simp [lawS]
  | cons s ss ih =>
    have h1 := encS_len (bl s)
    rw [bl_len] at h1
    have h2 := h s (by simp)
    have h3 := ih (fun t ht => h t (by simp [ht]))
    simp only [lawS, List.flatMap_cons, List.length_append, List.length_cons] at *
    omega

theorem gb_drew_alloc0 (w : World) (o : Obj) : w.grownBy (w.drew.alloc o) none := gb_same (gb_drew _ _) (gb_alloc _ _ _)
theorem gb_freeze (w : World) (a : Addr) (n : Nat) : w.grownBy (w.freeze a n) (some a.block) := by
  unfold World.freeze
  split
  · exact gb_refl _ _
  · exact ⟨rfl, rfl, rfl, by simp, fun k _ hk => by
      have : a.block ≠ k := fun e => hk (by rw [e])
      simp [Array.getElem?_modify, this]⟩
theorem gb_bytesW (w : World) (e : TypeId) (s : ByteArray) : w.grownBy (Lib.bytesWorld w e s) none := by
  unfold Lib.bytesWorld
  exact gb_new (gb_drew_alloc0 w _) (gb_freeze _ _ _) (Nat.le_refl _)
theorem rd_bytesW (w : World) (s : ByteArray) (hs : s.size ≤ maxLen) : Rd (Lib.bytesWorld w 5 s) (.slice (some ⟨w.heap.size, 0, none⟩) s.size (grownCap w s.size 0 5)) (bl s) := by
  refine .inr ⟨w.heap.size, 0, _, by rw [bl_len], by rw [bl_len]; exact grownCap_ge w s.size 0 _, grownCap_le_maxLen w s.size 0 _ hs, fun j x hj => ?_⟩
  obtain ⟨h1, h2⟩ := List.getElem?_eq_some_iff.1 hj
  rw [bl_len] at h1
  rw [Nat.zero_add, Lib.bytesWorld_cell w _ s j h1]
  have h3 : s.data.toList[j]? = some x := hj
  simp only [bv, List.getD, h3, Option.getD_some]
theorem run_toBytes (w : World) (s : ByteArray) : (convert 9 22 (.string s)).run Try.prog w = .ok (.slice (some ⟨w.heap.size, 0, none⟩) s.size (grownCap w s.size 0 5)) (Lib.bytesWorld w 5 s) :=
  Lib.run_convert_string_bytes w _ _ _ s Try.underlying9 Try.underlying22 Try.underlying5
end Go.Proofs.Ytmleeidanbhihaa
