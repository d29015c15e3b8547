/-
  The reference's Int, Bytes and plain, and its reader: End.
-/
import Derived.Test.YtfldooljmjeaoaaVI
namespace Go.Proofs.Ytfldooljmjeaoaa
open Go.RowKit Go.Shelf
def EncPost (w : World) (l : List UInt8) (e : Ending) (w' : World) : Prop := ∃ v, e = .returned v ∧ Own w' w.heap.size v l ∧ w.grownBy w' none

theorem end_no {g : Bool} {bs : List UInt8} {q : Nat} (h : g = true ∨ q < bs.length) : endOf g bs q = 4 := by unfold endOf; rw [if_pos h]
theorem end_yes {g : Bool} {bs : List UInt8} {q : Nat} (h : ¬ (g = true ∨ q < bs.length)) : endOf g bs q = 0 := by unfold endOf; rw [if_neg h]


theorem own_byte (w : World) (u : Value) (x : UInt8) (hu : u = bv x) : Own (w.alloc (.cells #[u] 5)) w.heap.size (.slice (some ⟨w.heap.size, 0, none⟩) 1 1) [x] := by
  subst hu
  exact Own.lit w #[bv x] [x] 1 w.heap.size rfl rfl (Nat.le_refl _) (by unfold maxLen; omega)
theorem hi_byte (u : Nat) : Value.int .u8 (128 + (u : Int) % 128) = bv (UInt8.ofNat (u % 128 + 128)) := by
  unfold bv
  congr 1
  simp only [UInt8.toNat_ofNat']
  omega

set_option maxRecDepth 100000 in
set_option maxHeartbeats 4000000 in
theorem groups_any : ∀ (f u : Nat) (w : World), u < 128 ^ (f + 1) → u < 18446744073709551616 → Calls Try.prog 62 #[.int .u64 (u : Int)] w (EncPost w (encU u)) := by
  intro f
  induction f with
  | zero =>
    intro u w hu h64
    have hlo : u < 128 := by simpa using hu
    rw [encU_lo hlo]
    go_enter Try.func62, Try.ntmps62
    go_wp2
    go_ret
    exact ⟨_, rfl, own_byte _ _ _ (bv_lo' hlo), gb_alloc _ _ _⟩
  | succ f ih =>
    intro u w hu h64
    by_cases hlo : u < 128
    · rw [encU_lo hlo]
      clear ih
      go_enter Try.func62, Try.ntmps62
      go_wp2
      go_ret
      exact ⟨_, rfl, own_byte _ _ _ (bv_lo' hlo), gb_alloc _ _ _⟩
    · rw [encU_hi hlo h64]
      have hdiv : u / 128 < 128 ^ (f + 1) := by rw [Nat.pow_succ] at hu; exact Nat.div_lt_of_lt_mul (by omega)
      have HC : Hid (∀ W, Calls Try.prog 62 #[.int .u64 ((u : Int) / 128)] W (EncPost W (encU (u / 128)))) := Lib.hid (fun W => by
        have := ih (u / 128) W hdiv (by omega)
        rw [show ((u / 128 : Nat) : Int) = (u : Int) / 128 by omega] at this
        exact this)
      have hle := (encU_len (u / 128)).2
      have hb := hi_byte u
      generalize UInt8.ofNat (u % 128 + 128) = ch at *
      have HB := Lib.hid hb
      clear ih hu hdiv hb
      generalize encU (u / 128) = E at *
      go_enter Try.func62, Try.ntmps62
      go_wp2_with fail
      refine (HC.out _).mono ?_
      rintro e w1 ⟨v1, rfl, ho1, hg1⟩
      have HO := Lib.hid ((own_byte w _ _ HB.out).grown hg1)
      have HG := Lib.hid (gb_same (gb_alloc w _ _) hg1)
      have HR := Lib.hid ho1.rd
      clear ho1 hg1 HC HB
      go_wp2_with (at_builtin; refine app_bytes rfl _ _ rfl w.heap.size _ _ _ _ rfl rfl HO.out HR.out HG.out.size (by simp only [List.length_cons, List.length_nil]; omega) ?_; go_must (intro v8 w8 ho8 hg8 hf8))
      go_ret
      exact ⟨_, rfl, ho8, gb_new HG.out hg8 (Nat.le_refl _)⟩
theorem rInt_any (z : Int) (w : World) (hz : OkI z) : Calls Try.prog 40 #[.int .i64 z] w (EncPost w (enc z)) := by
  have hzl := zz_lt hz.1 hz.2
  have HC : Hid (∀ W, Calls Try.prog 62 #[.int .u64 (zz z : Int)] W (EncPost W (enc z))) := Lib.hid (fun W => groups_any 9 (zz z) W (by omega) hzl)
  obtain ⟨h1, h2⟩ := hz
  by_cases h0 : z < 0
  · rw [show ((zz z : Nat) : Int) = 2 * -(z + 1) + 1 by unfold zz; rw [if_neg (by omega)]; omega] at HC
    go_enter Try.func40, Try.ntmps40
    go_wp2_with fail
    refine (HC.out _).mono ?_
    rintro e w1 ⟨v1, rfl, ho1, hg1⟩
    go_wp2
    go_ret
    exact ⟨_, rfl, ho1, hg1⟩
  · rw [show ((zz z : Nat) : Int) = 2 * z by unfold zz; rw [if_pos (by omega)]; omega] at HC
    go_enter Try.func40, Try.ntmps40
    go_wp2_with fail
    refine (HC.out _).mono ?_
    rintro e w1 ⟨v1, rfl, ho1, hg1⟩
    go_wp2
    go_ret
    exact ⟨_, rfl, ho1, hg1⟩


set_option maxRecDepth 100000 in
set_option maxHeartbeats 4000000 in
theorem rBytes_any (v : Value) (l : List UInt8) (w : World) (hv : RdW w v l) (hl : l.length ≤ 1099511627776) : Calls Try.prog 64 #[v] w (EncPost w (encS l)) := by
  obtain ⟨a, c, rfl⟩ := hv.len
  have HI := Lib.hid (rInt_any (l.length : Int) w ⟨by omega, by omega⟩)
  have hel := (enc_len (l.length : Int)).2
  have HV := Lib.hid hv
  clear hv
  go_enter Try.func64, Try.ntmps64
  go_wp2_with fail
  refine HI.out.mono ?_
  rintro e w1 ⟨v1, rfl, ho1, hg1⟩
  have HO := Lib.hid ho1
  have HG := Lib.hid hg1
  have HR := Lib.hid (HV.out.grown hg1)
  clear ho1 HI
  have HB := Lib.hid (fun k hk => (HO.out.lt k hk).1)
  have hos := Lib.hid hg1.size
  clear hg1
  go_wp2_with (at_builtin; refine app_bytesW rfl _ _ rfl w.heap.size _ _ _ _ rfl rfl HO.out HR.out HG.out.size (by omega) ?_; go_must (intro v8 w8 ho8 hg8 hf8))
  go_ret
  exact ⟨_, rfl, ho8, gb_trans HG.out hg8 (fun j hj => .inr (HB.out j hj))⟩

def PInv (w : World) (zs : List Int) (l k : Value) (wr : World) : Prop :=
  ∃ (i : Nat), k = .int .i64 (i : Int) ∧ i ≤ zs.length ∧ Own wr w.heap.size l (encL (zs.take i)) ∧ w.grownBy wr none
set_option maxRecDepth 100000 in
set_option maxHeartbeats 4000000 in
theorem rplain_any (lv : Value) (zs : List Int) (w : World) (hl : RdL w lv (ivs zs)) (hz : ∀ z ∈ zs, OkI z) (hlen : zs.length ≤ 1000) : Calls Try.prog 63 #[lv] w (EncPost w (encL zs)) := by
  obtain ⟨a0, c0, rfl⟩ := hl.len
  have hivl : (ivs zs).length = zs.length := by simp [ivs]
  rw [hivl] at hl ⊢
  have HL := Lib.hid hl
  have HZ := Lib.hid hz
  clear hl hz
  go_enter Try.func63, Try.ntmps63
  go_wp2
  go_loopw [3, 4] (fun l k wr => PInv w zs l k wr) (fun _ k _ => zs.length - (intOf k).toNat)
  case atStart => exact ⟨0, rfl, Nat.zero_le _, Own.nil _ _, gb_refl _ _⟩
  case round =>
    obtain ⟨i, rfl, hi, ho, hg⟩ := hrel
    by_cases hlt : i < zs.length
    · have hzi : zs[i]? = some zs[i] := by simp [hlt]
      obtain ⟨b, off, rfl, hcell0⟩ := HL.out.at (j := i) (x := .int .i64 zs[i]) (by simp [ivs, hlt])
      have hcell : wr.cell? ⟨b, off + i, none⟩ = some (.int .i64 zs[i]) := hg.cell hcell0 (by simp)
      have HC := Lib.hid (rInt_any zs[i] wr (HZ.out zs[i] (by simp)))
      have hel := encL_len (zs.take i)
      have hel2 : (zs.take i).length ≤ i := by simp; omega
      have hel3 := (enc_len zs[i]).2
      have HSN := Lib.hid (encL_snoc zs i zs[i] hzi)
      have HG := Lib.hid hg
      have HO := Lib.hid ho
      clear hzi hcell0 ho hg
      generalize zs[i] = z at *
      go_wp2_with (first | (go_at_call 40; refine HC.out.mono ?_; go_must (rintro e w1 ⟨v1, rfl, ho1, hg1⟩; have HR1 := Lib.hid ho1.rd; have HO1 := Lib.hid (HO.out.grown hg1); have HG1 : Hid (w.grownBy w1 none) := Lib.hid (gb_same HG.out hg1); clear ho1 hg1)) | (at_builtin; refine app_bytes rfl _ _ rfl w.heap.size _ _ _ _ rfl rfl HO1.out HR1.out HG1.out.size (by omega) ?_; go_must (intro v8 w8 ho8 hg8 hf8)))
      refine ⟨⟨i + 1, by go_num, by omega, by rw [HSN.out]; exact ho8, gb_trans HG1.out hg8 (fun j hj => .inr (HO1.out.lt j hj).1)⟩, by simp [intOf]; omega⟩
    · have hiz : i = zs.length := by omega
      have HO : Hid (Own wr w.heap.size u3 (encL zs)) := Lib.hid (by rw [hiz, List.take_length] at ho; exact ho)
      have HG := Lib.hid hg
      clear ho hg hiz
      go_wp2
      go_ret
      exact ⟨_, rfl, HO.out, HG.out⟩


/-- the reference's reader in memory: bytes, position, failed -/
structure IsQ (w : World) (b : Nat) (sl : Value) (bs : List UInt8) (p : Nat) (f : Bool) : Prop where
  blk : w.heap[b]? = some (.cells #[sl, .int .i64 (p : Int), .bool f] 69 (0, 0))
  rd : Rd w sl bs
  ne : sl.ownBlock ≠ some b
  le : p ≤ bs.length
  sm : bs.length ≤ 1099511627776

theorem IsQ.lt {w : World} {b : Nat} {sl : Value} {bs : List UInt8} {p : Nat} {f : Bool} (h : IsQ w b sl bs p f) : b < w.heap.size := lt_of_block h.blk
theorem IsQ.c0 {w : World} {b : Nat} {sl : Value} {bs : List UInt8} {p : Nat} {f : Bool} (h : IsQ w b sl bs p f) : w.cell? ⟨b, 0, none⟩ = some sl := by simp [World.cell?, h.blk]
theorem IsQ.c1 {w : World} {b : Nat} {sl : Value} {bs : List UInt8} {p : Nat} {f : Bool} (h : IsQ w b sl bs p f) : w.cell? ⟨b, 1, none⟩ = some (.int .i64 (p : Int)) := by simp [World.cell?, h.blk]
theorem IsQ.c2 {w : World} {b : Nat} {sl : Value} {bs : List UInt8} {p : Nat} {f : Bool} (h : IsQ w b sl bs p f) : w.cell? ⟨b, 2, none⟩ = some (.bool f) := by simp [World.cell?, h.blk]
theorem IsQ.fr {w : World} {b : Nat} {sl : Value} {bs : List UInt8} {p : Nat} {f : Bool} (h : IsQ w b sl bs p f) (j : Nat) : w.frozen? ⟨b, j, none⟩ = false := frozen_of_row w b j _ _ h.blk
theorem IsQ.kept {w w' : World} {b : Nat} {sl : Value} {bs : List UInt8} {p : Nat} {f : Bool} {row : Option Nat} (h : IsQ w b sl bs p f) (hg : w.grownBy w' row) (h1 : row ≠ some b) (h2 : ∀ k, sl.ownBlock = some k → row ≠ some k) : IsQ w' b sl bs p f :=
  ⟨by rw [hg.block b h.lt (fun e => h1 e.symm)]; exact h.blk, h.rd.kept hg h2, h.ne, h.le, h.sm⟩
theorem IsQ.grown {w w' : World} {b : Nat} {sl : Value} {bs : List UInt8} {p : Nat} {f : Bool} (h : IsQ w b sl bs p f) (hg : w.grownBy w' none) : IsQ w' b sl bs p f := h.kept hg (by simp) (by simp)
theorem IsQ.setP {w : World} {b : Nat} {sl : Value} {bs : List UInt8} {p : Nat} {f : Bool} (h : IsQ w b sl bs p f) (q : Nat) (hq : q ≤ bs.length) : IsQ (w.setCell ⟨b, 1, none⟩ (.int .i64 (q : Int))) b sl bs q f :=
  ⟨by rw [heap_setCell_same w b 1 _ _ _ h.blk]; rfl, h.rd.kept (gb_setCell _ _ _) (fun k hk e => h.ne (by rw [hk]; simpa using e.symm)), h.ne, hq, h.sm⟩
theorem IsQ.setF {w : World} {b : Nat} {sl : Value} {bs : List UInt8} {p : Nat} {f : Bool} (h : IsQ w b sl bs p f) (g : Bool) : IsQ (w.setCell ⟨b, 2, none⟩ (.bool g)) b sl bs p g :=
  ⟨by rw [heap_setCell_same w b 2 _ _ _ h.blk]; rfl, h.rd.kept (gb_setCell _ _ _) (fun k hk e => h.ne (by rw [hk]; simpa using e.symm)), h.ne, h.le, h.sm⟩

set_option maxHeartbeats 400000 in
theorem qEnd_any (b : Nat) (sl : Value) (bs : List UInt8) (p : Nat) (f : Bool) (w : World) (h : IsQ w b sl bs p f) :
    Calls Try.prog 33 #[.pointer (some ⟨b, 0, none⟩)] w (Quiet (.int .i64 (endOf f bs p)) w) := by
  obtain ⟨a, c, rfl⟩ := h.rd.len
  have c0 := h.c0
  have c1 := h.c1
  have c2 := h.c2
  have hle := h.le
  have hsm := h.sm
  clear h
  cases f with
  | true =>
    rw [end_no (.inl rfl)]
    go_enter Try.func33, Try.ntmps33
    go_wp2
    go_quiet (fail)
    go_wp2
    go_ret
    exact ⟨rfl, nq, rfl⟩
  | false =>
    by_cases hp : p < bs.length
    · rw [end_no (.inr hp)]
      go_enter Try.func33, Try.ntmps33
      have hne : decide ((p : Int) = (bs.length : Int)) = false := by simp; omega
      go_wp2
      go_quiet (fail)
      go_wp2
      go_ret
      exact ⟨rfl, nq, rfl⟩
    · rw [end_yes (by simp; omega)]
      obtain rfl : p = bs.length := by omega
      go_enter Try.func33, Try.ntmps33
      go_wp2
      go_quiet (fail)
      go_wp2
      go_ret
      exact ⟨rfl, nq, rfl⟩
end Go.Proofs.Ytfldooljmjeaoaa
