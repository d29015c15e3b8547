/-
  wire.Int, wire.String, the reader: what a reader is, Left, End, Fail, Read.
-/
import Derived.Test.YtfldooljmjeaoaaRAw
import Derived.Deep.QuietTactic
import Derived.BigQuiet
namespace Go.Proofs.Ytfldooljmjeaoaa
open Go.RowKit Go.Shelf

def zz (n : Int) : Nat := if 0 ≤ n then (2 * n).toNat else (-2 * n - 1).toNat
def grp : Nat → Nat → List UInt8
  | 0, u => [UInt8.ofNat u]
  | f + 1, u => if u < 128 then [UInt8.ofNat u] else UInt8.ofNat (u % 128 + 128) :: grp f (u / 128)
def encU (u : Nat) : List UInt8 := grp 9 u
def enc (n : Int) : List UInt8 := encU (zz n)

theorem grp_more : ∀ (f u : Nat), u < 128 ^ (f + 1) → grp (f + 1) u = grp f u := by
  intro f
  induction f with
  | zero => intro u hu; simp [grp]; omega
  | succ f ih =>
    intro u hu
    unfold grp
    split
    · rfl
    · rw [ih (u / 128) (by rw [Nat.div_lt_iff_lt_mul (by omega)]; rw [Nat.pow_succ] at hu; exact hu)]

theorem encU_lo {u : Nat} (h : u < 128) : encU u = [UInt8.ofNat u] := by unfold encU grp; rw [if_pos h]
theorem encU_hi {u : Nat} (h : ¬ u < 128) (hu : u < 18446744073709551616) : encU u = UInt8.ofNat (u % 128 + 128) :: encU (u / 128) := by
  unfold encU
  rw [show grp 9 u = UInt8.ofNat (u % 128 + 128) :: grp 8 (u / 128) from by
    show (if u < 128 then _ else _) = _
    rw [if_neg h]]
  rw [grp_more 8 (u / 128) (by omega)]

theorem grp_len : ∀ (f u : Nat), 1 ≤ (grp f u).length ∧ (grp f u).length ≤ f + 1 := by
  intro f
  induction f with
  | zero => intro u; simp [grp]
  | succ f ih =>
    intro u
    unfold grp
    split
    · simp
    · have := ih (u / 128); simp; omega
theorem encU_len (u : Nat) : 1 ≤ (encU u).length ∧ (encU u).length ≤ 10 := grp_len 9 u
theorem enc_len (n : Int) : 1 ≤ (enc n).length ∧ (enc n).length ≤ 10 := encU_len _

theorem zz_lt {n : Int} (h1 : -9223372036854775808 ≤ n) (h2 : n ≤ 9223372036854775807) : zz n < 18446744073709551616 := by
  unfold zz; split <;> omega

/-- what the walk has computed is the number -/
theorem zz_walk {n : Int} (h1 : -9223372036854775808 ≤ n) (h2 : n ≤ 9223372036854775807) :
    bits .xor .u64 (IntKind.u64.wrap (IntKind.u64.wrap n * 2)) (IntKind.u64.wrap (n / 9223372036854775808)) = (zz n : Int) := by
  by_cases h : 0 ≤ n
  · have e1 : n / 9223372036854775808 = 0 := by omega
    rw [e1]
    have e2 : IntKind.u64.wrap (IntKind.u64.wrap n * 2) = ((2 * n).toNat : Int) := by rw [IntKind.wrap_u64, IntKind.wrap_u64]; omega
    have e3 : IntKind.u64.wrap 0 = ((0 : Nat) : Int) := by rw [IntKind.wrap_u64]; rfl
    rw [e2, e3, u64_xor_nat _ _ (by omega) (by omega)]
    simp [zz, h]
  · have e1 : n / 9223372036854775808 = -1 := by omega
    rw [e1]
    have e2 : IntKind.u64.wrap (IntKind.u64.wrap n * 2) = ((18446744073709551616 + 2 * n).toNat : Int) := by rw [IntKind.wrap_u64, IntKind.wrap_u64]; omega
    have e3 : IntKind.u64.wrap (-1) = ((18446744073709551615 : Nat) : Int) := by rw [IntKind.wrap_u64]; rfl
    rw [e2, e3, u64_xor_nat _ _ (by omega) (by omega)]
    have : (18446744073709551616 + 2 * n).toNat ^^^ 18446744073709551615 = (-2 * n - 1).toNat := by
      have hx : (18446744073709551616 + 2 * n).toNat < 2 ^ 64 := by omega
      have key : ∀ a : Nat, a < 2 ^ 64 → a ^^^ (2 ^ 64 - 1) = 2 ^ 64 - 1 - a := by
        intro a ha
        have := BitVec.toNat_not (x := BitVec.ofNat 64 a)
        have h2 : (BitVec.ofNat 64 a ^^^ BitVec.allOnes 64).toNat = a ^^^ (2 ^ 64 - 1) := by
          rw [BitVec.toNat_xor, BitVec.toNat_ofNat, BitVec.toNat_allOnes, Nat.mod_eq_of_lt ha]
        rw [← h2, BitVec.xor_allOnes, this, BitVec.toNat_ofNat, Nat.mod_eq_of_lt ha]
      have := key _ hx
      rw [show (18446744073709551615 : Nat) = 2 ^ 64 - 1 from rfl, this]
      omega
    rw [this]
    simp [zz, h]

/-- the byte of the loop -/
theorem byte_or {u : Nat} : bits .or .u8 (IntKind.u8.wrap (u : Int)) 128 = ((UInt8.ofNat (u % 128 + 128)).toNat : Int) := by
  have e1 : IntKind.u8.wrap (u : Int) = ((u % 256 : Nat) : Int) := by rw [IntKind.wrap_u8]; omega
  rw [e1, show (128 : Int) = ((128 : Nat) : Int) from rfl, u8_or_nat _ _ (by omega) (by omega)]
  rw [UInt8.toNat_ofNat']
  congr 1
  have : u % 256 ||| 128 = u % 128 + 128 := by
    have h : ∀ a : Fin 256, a.val ||| 128 = a.val % 128 + 128 := by decide +kernel
    have := h ⟨u % 256, by omega⟩
    simp only at this
    rw [this]; omega
  rw [this]; omega
theorem byte_lo {u : Nat} (h : u < 128) : IntKind.u8.wrap (u : Int) = ((UInt8.ofNat u).toNat : Int) := by
  rw [IntKind.wrap_u8, UInt8.toNat_ofNat']; omega

theorem bv_or {u : Nat} : Value.int .u8 (bits .or .u8 ((u : Int) % 256) 128) = bv (UInt8.ofNat (u % 128 + 128)) := by
  have := @byte_or u
  rw [IntKind.wrap_u8] at this
  rw [this]; rfl
theorem bv_lo {u : Nat} (h : u < 128) : Value.int .u8 ((u : Int) % 256) = bv (UInt8.ofNat u) := by
  have := byte_lo h
  rw [IntKind.wrap_u8] at this
  rw [this]; rfl
theorem bv_lo' {u : Nat} (h : u < 128) : Value.int .u8 (u : Int) = bv (UInt8.ofNat u) := by
  rw [← bv_lo h]; congr 1; omega



def IntPost (w : World) (B : Nat) (v : Value) (l : List UInt8) (e : Ending) (w' : World) : Prop :=
  ∃ v', e = .returned v' ∧ Own w' B v' l ∧ w.grownBy w' v.ownBlock ∧ Fr w v v'

def IntInv (w : World) (B : Nat) (v : Value) (l : List UInt8) (U : Nat) (b u : Value) (wr : World) : Prop :=
  ∃ (k : Nat) (x : List UInt8), u = .int .u64 (k : Int) ∧ k ≤ U ∧ k < 18446744073709551616 ∧ Own wr B b x ∧ x ++ encU k = l ++ encU U ∧ w.grownBy wr v.ownBlock ∧ Fr w v b

set_option maxRecDepth 100000 in
set_option maxHeartbeats 400000 in
theorem int_any (v : Value) (n : Int) (w : World) (B : Nat) (l : List UInt8) (hn1 : -9223372036854775808 ≤ n) (hn2 : n ≤ 9223372036854775807) (hown : Own w B v l) (hB : B ≤ w.heap.size) (hl : l.length ≤ 1099511627776) :
    Calls Try.prog 38 #[v, .int .i64 n] w (IntPost w B v (l ++ enc n)) := by
  have hzz := zz_walk hn1 hn2
  have hzl := zz_lt hn1 hn2
  have hen : enc n = encU (zz n) := rfl
  rw [hen]
  generalize zz n = U at *
  clear hen
  go_enter Try.func38, Try.ntmps38
  go_wp2
  go_loopw [0, 5] (fun b u wr => IntInv w B v l U b u wr) (fun _ u _ => (intOf u).toNat)
  case atStart => exact ⟨U, l, rfl, Nat.le_refl _, hzl, hown, rfl, gb_refl _ _, Fr.refl _ _⟩
  case round =>
    obtain ⟨k, x, rfl, hku, hk, ho, hx, hg, hf⟩ := hrel
    have hxl : x.length + 1 ≤ l.length + 10 := by
      have h1 := congrArg List.length hx
      simp only [List.length_append] at h1
      have h2 := encU_len k
      have h3 := encU_len U
      omega
    have hB2 : B ≤ wr.heap.size := Nat.le_trans hB hg.size
    have H := Lib.hid hx
    have Hk := Lib.hid hk
    clear hx hzz hk hzl hn1 hn2
    by_cases hlt : k < 128
    · go_wp2_with (at_builtin; refine app_bytes rfl _ _ rfl B u0 _ x [UInt8.ofNat k] rfl rfl (ho.grown (gb_alloc _ _ _)) (Rd.litv _ _ _ _ (by first | exact bv_lo hlt | exact bv_lo' hlt)) (by simp; omega) (by simp; omega) ?_; intro v' w1 ho1 hg1 hf1)
      go_ret
      refine ⟨v', rfl, ?_, gb_fr (gb_trans0 hg (gb_alloc _ _ _)) (hf) hg1, hf.trans (by have := hg.size; simp; omega) hf1⟩
      rw [← H.out, encU_lo hlt]; exact ho1
    · go_wp2_with (at_builtin; refine app_bytes rfl _ _ rfl B u0 _ x [UInt8.ofNat (k % 128 + 128)] rfl rfl (ho.grown (gb_alloc _ _ _)) (Rd.litv _ _ _ _ bv_or) (by simp; omega) (by simp; omega) ?_; intro v' w1 ho1 hg1 hf1)
      refine ⟨⟨k / 128, x ++ [UInt8.ofNat (k % 128 + 128)], by go_num, by omega, by have := Hk.out; omega, ho1, ?_, gb_fr (gb_trans0 hg (gb_alloc _ _ _)) hf hg1, hf.trans (by have := hg.size; simp; omega) hf1⟩, by simp [intOf]; omega⟩
      rw [← H.out, encU_hi hlt Hk.out]
      simp

set_option maxRecDepth 100000 in
set_option maxHeartbeats 400000 in
theorem same_true (a b : Value) (w : World) (l : List UInt8) (ha : Rd w a l) (hb : Rd w b l) :
    Calls Try.prog 20 #[a, b] w fun e w' => e = .returned (.bool true) ∧ w = w' := by
  have r1 := run_toString w a l ha
  have r2 := run_toString w b l hb
  clear ha hb
  go_enter Try.func20, Try.ntmps20
  go_wp2
  go_ret
  exact ⟨rfl, rfl⟩


theorem run_app_str (w : World) (B : Nat) (v : Value) (l : List UInt8) (s : ByteArray) (ty : TypeId) (hown : Own w B v l) (hB : B ≤ w.heap.size) (hb : l.length + s.size ≤ 140737488355328) :
    ∃ v' w', (Builtin.append_ #[22, 9] ty #[v, .string s]).run Try.prog w = .ok v' w' ∧ Own w' B v' (l ++ s.data.toList) ∧ w.grownBy w' v.ownBlock ∧ Fr w v v' := by
  obtain ⟨i0, hi, hz0, hz1, hz2⟩ := info_parts info5
  obtain ⟨v', w', hr, ho, hg, _⟩ := Lib.run_append_own_string (P := Try.prog) w B 22 9 ty 5 i0 Try.underlying22 Try.underlying9 hi hz0 hz1 hz2 v l.length (bvs l) hown s (by simp only [maxLen]; omega) hb hB
  have hsz : s.data.toList.length = s.size := by rw [Array.length_toList]; rfl
  refine ⟨v', w', hr, ?_, hg, ?_⟩
  · unfold Own
    rw [bvs_append, List.length_append, hsz]
    exact ho
  · have h0 := hown
    rcases hown.2 with ⟨rfl, hn⟩ | ⟨g, cap, cur, rfl, hbg, hgg, hnc, hcm, hcs, htake⟩
    · have hl : l = [] := List.eq_nil_of_length_eq_zero hn
      subst hl
      obtain ⟨v2, w2, hr2, ho2, _⟩ := Lib.run_append_own_string (P := Try.prog) w w.heap.size 22 9 ty 5 i0 Try.underlying22 Try.underlying9 hi hz0 hz1 hz2 (.slice none 0 0) 0 [] (World.ownsRow_nil w _ _ 1) s (by simp only [maxLen]; omega) (by simpa using hb) (Nat.le_refl _)
      rw [hr] at hr2
      cases hr2
      intro k hk
      exact .inr (ho2.lt k hk).1
    · by_cases hroom : l.length + s.size ≤ cap
      · have hr2 := Lib.run_append_room_string (P := Try.prog) w 22 9 ty 5 i0 Try.underlying22 Try.underlying9 hi hz1 g l.length cap cur hgg s hroom (by omega)
        rw [hr] at hr2
        cases hr2
        intro k hk
        exact .inl hk
      · have holds : ∀ j u, (bvs l)[j]? = some u → w.cell? ((⟨g, 0, none⟩ : Addr).add j) = some u := World.ownsRow.cells h0 (g := g) rfl
        have hr2 := Lib.run_append_grow_string (P := Try.prog) w 22 9 ty 5 i0 (.int .u8 0) Try.underlying22 Try.underlying9 hi hz0 ⟨g, 0, none⟩ l.length cap (bvs l) (by rw [hz1, bvs_length]; omega) holds s (by omega) (by omega) (by rw [hz2]; exact growslice_fits (by omega) (by omega))
        rw [hr] at hr2
        cases hr2
        intro k hk
        simp only [Value.ownBlock, Option.some.injEq] at hk
        exact .inr (by omega)

theorem app_str {ops : Array Oper} {rest : List Oper} {o : Oper} {a : Act} {w : World} {Q : Exit → Act → World → Prop} (hgd : o.guard = none) (s x : Operand)
    (ho : o.op = .call { callee := .builtin .append, args := #[s, x], argTypes := #[22, 9] })
    (B : Nat) (v : Value) (l : List UInt8) (m : ByteArray) (hs : a.eval s = v) (hx : a.eval x = .string m) (hown : Own w B v l) (hB : B ≤ w.heap.size) (hb : l.length + m.size ≤ 140737488355328)
    (h : ∀ v' w', Own w' B v' (l ++ m.data.toList) → w.grownBy w' v.ownBlock → Fr w v v' → wpList Try.prog ops Q rest (a.put o.dst v') w') : wpList Try.prog ops Q (o :: rest) a w := by
  obtain ⟨v', w', hr, h2, h3, h4⟩ := run_app_str w B v l m o.type hown hB hb
  refine wpList_plain hgd fun _ hK => ?_
  unfold Oper.wp execOp
  simp only [ho, resolve, invoke, builtin, Sem.run_bind, Sem.run_pure, Result.andThen_ok, List.map_toArray, List.map_cons, List.map_nil, hs, hx, hr]
  exact hK _ _ (h v' w' h2 h3 h4)

def encS (l : List UInt8) : List UInt8 := enc l.length ++ l


/-- a reader in memory: bytes, position, failed -/
structure IsR (w : World) (b : Nat) (sl : Value) (bs : List UInt8) (p : Nat) (f : Bool) : Prop where
  blk : w.heap[b]? = some (.cells #[sl, .int .i64 (p : Int), .bool f] 81 (0, 0))
  rd : Rd w sl bs
  ne : sl.ownBlock ≠ some b
  le : p ≤ bs.length
  sm : bs.length ≤ 1099511627776

theorem IsR.lt {w : World} {b : Nat} {sl : Value} {bs : List UInt8} {p : Nat} {f : Bool} (h : IsR w b sl bs p f) : b < w.heap.size := lt_of_block h.blk
theorem IsR.c0 {w : World} {b : Nat} {sl : Value} {bs : List UInt8} {p : Nat} {f : Bool} (h : IsR w b sl bs p f) : w.cell? ⟨b, 0, none⟩ = some sl := by simp [World.cell?, h.blk]
theorem IsR.c1 {w : World} {b : Nat} {sl : Value} {bs : List UInt8} {p : Nat} {f : Bool} (h : IsR w b sl bs p f) : w.cell? ⟨b, 1, none⟩ = some (.int .i64 (p : Int)) := by simp [World.cell?, h.blk]
theorem IsR.c2 {w : World} {b : Nat} {sl : Value} {bs : List UInt8} {p : Nat} {f : Bool} (h : IsR w b sl bs p f) : w.cell? ⟨b, 2, none⟩ = some (.bool f) := by simp [World.cell?, h.blk]
theorem IsR.fr {w : World} {b : Nat} {sl : Value} {bs : List UInt8} {p : Nat} {f : Bool} (h : IsR w b sl bs p f) (j : Nat) : w.frozen? ⟨b, j, none⟩ = false := frozen_of_row w b j _ _ h.blk
theorem IsR.kept {w w' : World} {b : Nat} {sl : Value} {bs : List UInt8} {p : Nat} {f : Bool} {row : Option Nat} (h : IsR w b sl bs p f) (hg : w.grownBy w' row) (h1 : row ≠ some b) (h2 : ∀ k, sl.ownBlock = some k → row ≠ some k) : IsR w' b sl bs p f :=
  ⟨by rw [hg.block b h.lt (fun e => h1 e.symm)]; exact h.blk, h.rd.kept hg h2, h.ne, h.le, h.sm⟩
theorem IsR.grown {w w' : World} {b : Nat} {sl : Value} {bs : List UInt8} {p : Nat} {f : Bool} (h : IsR w b sl bs p f) (hg : w.grownBy w' none) : IsR w' b sl bs p f := h.kept hg (by simp) (by simp)
theorem IsR.setP {w : World} {b : Nat} {sl : Value} {bs : List UInt8} {p : Nat} {f : Bool} (h : IsR w b sl bs p f) (q : Nat) (hq : q ≤ bs.length) : IsR (w.setCell ⟨b, 1, none⟩ (.int .i64 (q : Int))) b sl bs q f :=
  ⟨by rw [heap_setCell_same w b 1 _ _ _ h.blk]; rfl, h.rd.kept (gb_setCell _ _ _) (fun k hk e => h.ne (by rw [hk]; simpa using e.symm)), h.ne, hq, h.sm⟩
theorem IsR.setF {w : World} {b : Nat} {sl : Value} {bs : List UInt8} {p : Nat} {f : Bool} (h : IsR w b sl bs p f) (g : Bool) : IsR (w.setCell ⟨b, 2, none⟩ (.bool g)) b sl bs p g :=
  ⟨by rw [heap_setCell_same w b 2 _ _ _ h.blk]; rfl, h.rd.kept (gb_setCell _ _ _) (fun k hk e => h.ne (by rw [hk]; simpa using e.symm)), h.ne, h.le, h.sm⟩

def Quiet (v : Value) (w : World) (e : Ending) (w' : World) : Prop := e = .returned v ∧ ∃ n, w' = w.drewN n
def lenOf (v : Value) : Int := match v with | .slice _ n _ => n | _ => 0
set_option maxHeartbeats 400000 in
theorem left_any (b : Nat) (sl : Value) (bs : List UInt8) (p : Nat) (f : Bool) (w : World) (h : IsR w b sl bs p f) :
    Calls Try.prog 54 #[.pointer (some ⟨b, 0, none⟩)] w (Quiet (.int .i64 ((bs.length - p : Nat) : Int)) w) := by
  obtain ⟨a, c, rfl⟩ := h.rd.len
  have c0 := h.c0
  have c1 := h.c1
  have hle := h.le
  have hsm := h.sm
  clear h
  go_enter Try.func54, Try.ntmps54
  go_wp2
  go_quiet (fail)
  go_wp2
  go_ret
  exact ⟨by show Ending.returned (Value.int .i64 _) = _; congr 2; omega, nq, rfl⟩

def endOf (f : Bool) (bs : List UInt8) (p : Nat) : Int := if f = true ∨ p < bs.length then 4 else 0

set_option maxHeartbeats 400000 in
theorem end_any (b : Nat) (sl : Value) (bs : List UInt8) (p : Nat) (f : Bool) (w : World) (h : IsR w b sl bs p f) :
    Calls Try.prog 30 #[.pointer (some ⟨b, 0, none⟩)] w (Quiet (.int .i64 (endOf f bs p)) w) := by
  have HL := Lib.hid (left_any b sl bs p f w h)
  have c2 := h.c2
  cases f with
  | true =>
    have e1 : endOf true bs p = 4 := by simp [endOf]
    rw [e1]
    clear h e1
    go_enter Try.func30, Try.ntmps30
    go_wp2
    go_ret
    exact ⟨rfl, 0, rfl⟩
  | false =>
    by_cases hp : p < bs.length
    · have e1 : endOf false bs p = 4 := by simp [endOf, hp]
      have e2 : decide ((0 : Int) < ((bs.length - p : Nat) : Int)) = true := by simp; omega
      rw [e1]
      clear h e1
      go_enter Try.func30, Try.ntmps30
      go_wp2_with (go_at_call 54; refine HL.out.mono ?_; rintro e w1 ⟨rfl, nq, rfl⟩)
      go_ret
      exact ⟨rfl, nq, rfl⟩
    · have e1 : endOf false bs p = 0 := by simp [endOf, hp]
      have e2 : (bs.length - p : Nat) = 0 := by omega
      rw [e1]
      rw [e2] at HL
      clear h e1 e2
      go_enter Try.func30, Try.ntmps30
      go_wp2_with (go_at_call 54; refine HL.out.mono ?_; rintro e w1 ⟨rfl, nq, rfl⟩)
      go_ret
      exact ⟨rfl, nq, rfl⟩

set_option maxHeartbeats 400000 in
theorem fail_any (b : Nat) (sl : Value) (bs : List UInt8) (p : Nat) (f : Bool) (w : World) (h : IsR w b sl bs p f) :
    Calls Try.prog 49 #[.pointer (some ⟨b, 0, none⟩)] w fun e w' => e = .returned (.tuple #[]) ∧ w' = w.setCell ⟨b, 2, none⟩ (.bool true) := by
  have c2 := h.c2
  have f2 := h.fr 2
  clear h
  go_enter Try.func49, Try.ntmps49
  go_wp2
  go_returns
  exact ⟨rfl, rfl⟩

set_option maxHeartbeats 400000 in
theorem left_nil (w : World) : Calls Try.prog 54 #[.pointer none] w fun e w' => e = .returned (.int .i64 0) ∧ w = w' := by
  go_enter Try.func54, Try.ntmps54
  go_wp2
  go_ret
  exact ⟨rfl, rfl⟩
set_option maxHeartbeats 400000 in
theorem end_nil (w : World) : Calls Try.prog 30 #[.pointer none] w fun e w' => e = .returned (.int .i64 7) ∧ w = w' := by
  go_enter Try.func30, Try.ntmps30
  go_wp2
  go_ret
  exact ⟨rfl, rfl⟩
set_option maxHeartbeats 400000 in
theorem fail_nil (w : World) : Calls Try.prog 49 #[.pointer none] w fun e w' => e = .returned (.tuple #[]) ∧ w = w' := by
  go_enter Try.func49, Try.ntmps49
  go_wp2
  go_returns
  exact ⟨rfl, rfl⟩
set_option maxHeartbeats 400000 in
theorem rint_nil (w : World) : Calls Try.prog 48 #[.pointer none] w fun e w' => e = .returned (.int .i64 0) ∧ w = w' := by
  go_enter Try.func48, Try.ntmps48
  go_wp2
  go_ret
  exact ⟨rfl, rfl⟩


set_option maxRecDepth 100000 in
set_option maxHeartbeats 400000 in
theorem sclone_any (v : Value) (bs : List UInt8) (w : World) (h : Rd w v bs) (hb : bs.length ≤ 1099511627776) :
    Calls Try.prog 45 #[v] w fun e w' => ∃ v', e = .returned v' ∧ Own w' w.heap.size v' bs ∧ w.grownBy w' none := by
  have hnil := @Lib.run_eql_slice_nil Try.prog
  rcases h with ⟨rfl, rfl⟩ | ⟨b, off, cap, rfl, h1, h2, h3⟩
  · go_enter Try.func45, Try.ntmps45
    go_wp2
    go_ret
    exact ⟨_, rfl, Own.nil _ _, gb_refl _ _⟩
  · have HR := Lib.hid (show Rd w (.slice (some ⟨b, off, none⟩) bs.length cap) bs from .inr ⟨b, off, cap, rfl, h1, h2, h3⟩)
    have HB := Lib.hid hb
    clear h1 h2 h3 hb
    go_enter Try.func45, Try.ntmps45
    go_wp2_with (at_builtin; refine app_bytes rfl _ _ rfl w.heap.size (.slice (some ⟨w.heap.size, 0, none⟩) 0 0) _ [] bs rfl rfl (World.ownsRow_made w #[] 0 (Nat.le_refl _) (by simp) rfl) (HR.out.grown (gb_alloc _ _ _)) (by simp) (by have := HB.out; simp; omega) ?_; intro v' w1 ho1 hg1 hf1)
    go_ret
    exact ⟨v', rfl, ho1, gb_new (gb_alloc _ _ _) hg1 (Nat.le_refl _)⟩

set_option maxHeartbeats 400000 in
theorem read_any (v : Value) (bs : List UInt8) (w : World) (h : Rd w v bs) (hb : bs.length ≤ 1099511627776) :
    Calls Try.prog 27 #[v] w fun e w' => ∃ b sl, e = .returned (.pointer (some ⟨b, 0, none⟩)) ∧ w.heap.size ≤ b ∧ IsR w' b sl bs 0 false ∧ w.grownBy w' none ∧ (∀ k, sl.ownBlock = some k → w.heap.size ≤ k) := by
  have HC := Lib.hid (sclone_any v bs w h hb)
  have HB := Lib.hid hb
  clear h hb
  go_enter Try.func27, Try.ntmps27
  go_wp2_with (go_at_call 45; refine HC.out.mono ?_; rintro e w1 ⟨v1, rfl, ho1, hg1⟩; obtain ⟨a1, c1, rfl⟩ := ho1.rd.len)
  go_ret
  exact ⟨w1.heap.size, _, rfl, hg1.size, ⟨heap_alloc_new _ _, ho1.rd.grown (gb_alloc _ _ _), fun e => by have := (ho1.lt _ e).2; omega, Nat.zero_le _, HB.out⟩, gb_trans0 hg1 (gb_alloc _ _ _), fun k hk => (ho1.lt k hk).1⟩
end Go.Proofs.Ytfldooljmjeaoaa
