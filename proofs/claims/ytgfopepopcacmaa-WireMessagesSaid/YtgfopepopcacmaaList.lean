/-
  list at int and string: the closures.
-/
import Derived.Test.YtgfopepopcacmaaBytesS
import Derived.Test.YtgfopepopcacmaaSameS
namespace Go.Proofs.Ytgfopepopcacmaa
open Go.RowKit

def rdN (one : Nat → Option (Value × Nat)) : Nat → Nat → Option (List Value × Nat)
  | 0, q => some ([], q)
  | n + 1, q => match one q with
    | none => none
    | some (x, q') => (rdN one n q').map fun r => (x :: r.1, r.2)
def rdList (one : Nat → Option (Value × Nat)) (most : Int) (bs : List UInt8) (p : Nat) : Option (List Value × Nat) :=
  match rdBounded 0 most bs p with
  | none => none
  | some (n, q) => rdN one n.toNat q

/-- append of one element of one cell to an owned row -/
theorem app_one {ops : Array Oper} {rest : List Oper} {o : Oper} {a : Act} {w : World} {Q : Exit → Act → World → Prop} (hgd : o.guard = none) (s x : Operand) (t e : TypeId)
    (ho : o.op = .call { callee := .builtin .append, args := #[s, x], argTypes := #[t, t] })
    (i : TypeInfo) (z : Value) (bytes : Nat) (ht : Try.prog.underlying t = some (.slice e)) (hi : Try.prog.info? e = some i) (hz : i.zero = some z) (hsize : i.size = 1) (hby : i.bytes = bytes) (hzs : z.cells.size = 1)
    (B : Nat) (v : Value) (xs : List Value) (g : Nat) (u : Value) (hs : a.eval s = v) (hx : a.eval x = .slice (some ⟨g, 0, none⟩) 1 1) (hown : w.ownsRow B e 1 v xs.length xs) (hu : w.cell? ⟨g, 0, none⟩ = some u) (h1 : u.oneCell' = true)
    (hB : B ≤ w.heap.size) (hm : xs.length + 1 ≤ maxLen) (hb : (xs.length + 1) * bytes ≤ 140737488355328)
    (h : ∀ v' w', w'.ownsRow B e 1 v' (xs ++ [u]).length (xs ++ [u]) → w.grownBy w' v.ownBlock → Fr w v v' → wpList Try.prog ops Q rest (a.put o.dst v') w') : wpList Try.prog ops Q (o :: rest) a w := by
  obtain ⟨v', w', hr, h2, h3, h4⟩ := run_append_own2 (P := Try.prog) w B t o.type e i z 1 bytes ht hi hz hsize hby hzs (by decide) v xs.length xs hown ⟨g, 0, none⟩ 1 1 [u] rfl (fun j y hj => by
    cases j with
    | zero => simp at hj; subst hj; rw [addr_add]; exact hu
    | succ j => simp at hj) (fun y hy => by simp at hy; subst hy; exact h1) hm hb hB
  refine wpList_plain hgd fun _ hK => ?_
  unfold Oper.wp execOp
  simp only [ho, resolve, invoke, builtin, Sem.run_bind, Sem.run_pure, Result.andThen_ok, List.map_toArray, List.map_cons, List.map_nil, hs, hx, hr]
  exact hK _ _ (h v' w' (by simpa using h2) h3 h4)

theorem info9 : (Try.prog.info? 9).map (fun i => (i.zero, i.size, i.bytes)) = some (some (.string ⟨#[]⟩), 1, 16) := by kernel_rfl

def LInv (w : World) (b : Nat) (sl : Value) (bs : List UInt8) (e : TypeId) (one : Nat → Option (Value × Nat)) (n : Nat) (R : Option (List Value × Nat)) (l k : Value) (wr : World) : Prop :=
  ∃ (i : Nat) (xs : List Value) (q : Nat) (a : Option Addr) (c : Nat), k = .int .i64 (i : Int) ∧ l = .slice a i c ∧ i ≤ n ∧ i ≤ q ∧ xs.length = i ∧ wr.ownsRow w.heap.size e 1 l xs.length xs ∧ IsR wr b sl bs q false ∧ w.grownBy wr (some b) ∧
    R = (rdN one (n - i) q).map fun r => (xs ++ r.1, r.2)

theorem rdN_step {one : Nat → Option (Value × Nat)} {n i q : Nat} (h : i < n) : rdN one (n - i) q = match one q with
    | none => none
    | some (x, q') => (rdN one (n - (i + 1)) q').map fun r => (x :: r.1, r.2) := by
  rw [show n - i = (n - (i + 1)) + 1 by omega]
  rfl

theorem own_kept {w w' : World} {base : Nat} {e : TypeId} {v : Value} {n b : Nat} {xs : List Value} (h : w.ownsRow base e 1 v n xs) (hg : w.grownBy w' (some b)) (hb : b < base) : w'.ownsRow base e 1 v n xs :=
  h.kept hg (by cases hv : v.ownBlock with
    | none => exact .inl rfl
    | some k => exact .inr (fun e => by have := (h.lt k hv).1; simp at e; omega))
theorem own_mono {w : World} {B B' : Nat} {e : TypeId} {v : Value} {n : Nat} {xs : List Value} (h : w.ownsRow B e 1 v n xs) (hb : B' ≤ B) : w.ownsRow B' e 1 v n xs := by
  obtain ⟨h1, h2⟩ := h
  refine ⟨h1, ?_⟩
  rcases h2 with h2 | ⟨g, cap, cur, e, h3, h4⟩
  · exact .inl h2
  · exact .inr ⟨g, cap, cur, e, by omega, h4⟩
theorem gb_row {w w1 w2 : World} {b base : Nat} {e : TypeId} {v : Value} {n : Nat} {xs : List Value} (h : w.grownBy w1 (some b)) (ho : w1.ownsRow base e 1 v n xs) (k : w1.grownBy w2 v.ownBlock) (hb : w.heap.size ≤ base) : w.grownBy w2 (some b) :=
  gb_trans h k (fun j hj => .inr (by have := (ho.lt j hj).1; omega))

theorem IsR.far {w w' : World} {b : Nat} {sl : Value} {bs : List UInt8} {p : Nat} {f : Bool} {row : Option Nat} {N : Nat} (h : IsR w b sl bs p f) (h0 : b < N) (hs : bs ≠ [] → ∀ k, sl.ownBlock = some k → k < N)
    (hg : w.grownBy w' row) (hr : ∀ k, row = some k → N ≤ k) : IsR w' b sl bs p f := by
  refine ⟨?_, ?_, h.ne, h.le, h.sm⟩
  · rw [hg.block b h.lt (fun e => by have := hr b e.symm; omega)]; exact h.blk
  · rcases h.rd with h1 | ⟨g, off, cap, rfl, h1, h2, h3⟩
    · exact .inl h1
    · refine .inr ⟨g, off, cap, rfl, h1, h2, fun j x hj => ?_⟩
      refine hg.cell (h3 j x hj) (fun e => ?_)
      have h5 := hs (by rintro rfl; simp at hj) g rfl
      have h6 := hr g e.symm
      omega

theorem own_slice {w : World} {B : Nat} {e : TypeId} {v : Value} {n : Nat} {xs : List Value} (h : w.ownsRow B e 1 v n xs) : ∃ a c, v = .slice a n c := by
  rcases h.2 with ⟨rfl, rfl⟩ | ⟨g, cap, cur, rfl, _⟩
  · exact ⟨none, 0, rfl⟩
  · exact ⟨_, _, rfl⟩

set_option maxRecDepth 100000 in
set_option maxHeartbeats 1000000 in
theorem list1_int (b : Nat) (sl : Value) (bs : List UInt8) (p : Nat) (w : World) (most : Int) (B k0 k1 k2 : Nat) (KO : FuncId) (one : Nat → Option (Value × Nat)) (h : IsR w b sl bs p false) (hB : B ≤ w.heap.size) (hmo : most ≤ 9223372036854775807)
    (b0 : w.heap[k0]? = some (.cells #[.pointer (some ⟨b, 0, none⟩)] 25 (0, 0))) (b1 : w.heap[k1]? = some (.cells #[.int .i64 most] 3 (0, 0)))
    (b2 : w.heap[k2]? = some (.cells #[.func (.func KO) #[.pointer (some ⟨b, 0, none⟩)] #[]] 33 (0, 0)))
    (n0 : k0 ≠ b) (n1 : k1 ≠ b) (n2 : k2 ≠ b)
    (hK : ∀ (args : Array Value) (w : World), (callFunc KO args).run Try.prog w = .ok (.enter KO args) w)
    (HO : ∀ W q, IsR W b sl bs q false → Calls Try.prog KO #[.pointer (some ⟨b, 0, none⟩)] W (ROut W b sl bs q (.int .i64 0) (one q)))
    (Hq : ∀ q x q', q ≤ bs.length → one q = some (x, q') → q < q' ∧ ∃ y, x = .int .i64 y) :
    Calls Try.prog 94 #[.pointer (some ⟨k0, 0, none⟩), .pointer (some ⟨k1, 0, none⟩), .pointer (some ⟨k2, 0, none⟩)] w
      (PartsE w b sl bs G_s_int (fun vs v w' => w'.ownsRow B 3 1 v vs.length vs) (rdList one most bs p)) := by
  obtain ⟨i0, hi, hz0, hz1, hz2⟩ := info_parts info3
  have c0 := cell_of_one b0
  have c1 := cell_of_one b1
  have HB := Lib.hid (bounded_any b sl bs p false w 0 most h)
  have B0 := Lib.hid b0
  have B1 := Lib.hid b1
  have B2 := Lib.hid b2
  have HO' := Lib.hid HO
  have Hq' := Lib.hid Hq
  have hpl := Lib.hid h.le
  have hbl := Lib.hid h.lt
  have hsl := Lib.hid (fun hne => Rd.blk h.rd hne)
  have hI := Lib.hid (And.intro hi (And.intro hz0 (And.intro hz1 hz2)))
  clear b0 b1 b2 h hi hz0 hz1 hz2 HO Hq
  unfold rdList
  rw [unl_f] at HB
  have hrng : ∀ n q, rdBounded 0 most bs p = some (n, q) → 0 ≤ n ∧ n ≤ 9223372036854775807 := fun n q hh => ⟨(rdBounded_range hh).1, Int.le_trans (rdBounded_range hh).2 hmo⟩
  generalize rdBounded 0 most bs p = r at *
  cases r with
  | none =>
    clear hrng hmo
    go_enter Try.func94, Try.ntmps94
    go_wp2_with fail
    refine HB.out.mono ?_
    rintro e w1 ⟨rfl, hR, hg⟩
    have HR := Lib.hid hR
    clear hR
    go_wp2
    refine wp_loop_rounds 1 ?_
    rw [rounds_succ]
    go_wp2
    go_ret
    exact ⟨_, p, rfl, ⟨_, _, _, rfl⟩, HR.out, hg⟩
  | some r =>
    obtain ⟨n, q0⟩ := r
    obtain ⟨hn0, hn1⟩ := hrng n q0 rfl
    obtain ⟨n, rfl⟩ := Int.eq_ofNat_of_zero_le hn0
    clear hrng hmo hn0
    simp only [Int.toNat_natCast]
    go_enter Try.func94, Try.ntmps94
    go_wp2_with fail
    refine HB.out.mono ?_
    rintro e w1 ⟨rfl, hR1, hg1⟩
    have HR1 := Lib.hid hR1
    clear hR1
    have HR : Hid (rdN one n q0 = rdN one n q0) := Lib.hid rfl
    go_wp2
    go_loopw [4, 8] (fun l k wr => LInv w b sl bs 3 one n (rdN one n q0) l k wr) (fun _ k _ => n - (intOf k).toNat)
    case atStart => exact ⟨0, [], q0, none, 0, rfl, rfl, Nat.zero_le _, Nat.zero_le _, rfl, World.ownsRow_nil _ _ _ _, HR1.out, hg1, by simp⟩
    case round =>
      obtain ⟨i, xs, q, la, lc, rfl, rfl, hin, hiq, hxl, hown, hR, hg, hspec⟩ := hrel
      have hql := Lib.hid hR.le
      have hqs := Lib.hid hR.sm
      have d0 := cell_of_one (box_kept B0.out hg n0)
      have d2 := cell_of_one (box_kept B2.out hg n2)
      have HW := Lib.hid hown
      have HG := Lib.hid hg
      have HX := Lib.hid hxl
      have HS := Lib.hid hspec
      have HC := Lib.hid (HO'.out wr q hR)
      have HRq := Lib.hid hR
      clear hown hg hxl hspec hR
      by_cases hlt : i < n
      · have hst := @rdN_step one n i q hlt
        cases hone : one q with
        | none =>
          rw [hone] at HC hst
          have hRn : Hid (rdN one n q0 = none) := Lib.hid (by rw [HS.out, hst]; rfl)
          clear hst hone
          go_wp2_with fail
          refine HC.out.mono ?_
          rintro e w2 ⟨rfl, hR2, hg2⟩
          have hg2' : w.grownBy w2 (some b) := gb_same HG.out hg2
          have e0 := cell_of_one (box_kept B0.out hg2' n0)
          have f2 := hR2.c2
          have HR2 := Lib.hid hR2
          have HO2 := Lib.hid (own_kept HW.out hg2 hbl.out)
          clear hR2
          go_wp2_with (at_builtin; refine app_one rfl _ _ 37 3 rfl i0 (.int .i64 0) 8 Try.underlying37 hI.out.1 hI.out.2.1 hI.out.2.2.1 hI.out.2.2.2 rfl w.heap.size _ xs w2.heap.size (.int .i64 0) rfl rfl (HO2.out.alloc _) (World.cell?_alloc_at _ _ _ _ rfl) rfl (by have := HG.out.size; have := hg2.size; simp; omega) (by rw [HX.out]; have := hqs.out; have := hql.out; simp only [maxLen]; omega) (by rw [HX.out]; have := hqs.out; have := hql.out; omega) ?_; intro v3 w3 ho3 hg3 hf3; have hR3 := (HR2.out.grown (gb_alloc _ _ _)).far hbl.out hsl.out hg3 (fun k hk => (HO2.out.lt k hk).1); have f3 := hR3.c2; have hg3' : w.grownBy w3 (some b) := gb_row (gb_trans0 hg2' (gb_alloc _ _ _)) (HO2.out.alloc _) hg3 (Nat.le_refl _); have e3 := cell_of_one (box_kept B0.out hg3' n0); obtain ⟨a3, c3, rfl⟩ := own_slice ho3; have HO3 := Lib.hid ho3; have HR3 := Lib.hid hR3; clear hg3 ho3 hR3)
          go_ret
          rw [hRn.out]
          exact ⟨_, q, rfl, ⟨_, _, _, rfl⟩, HR3.out, hg3'⟩
        | some r =>
          obtain ⟨x, q'⟩ := r
          obtain ⟨hqq, y, rfl⟩ := Hq'.out q x q' hql.out hone
          rw [hone] at HC hst
          have HS2 : Hid (rdN one n q0 = (rdN one (n - (i + 1)) q').map fun r => ((xs ++ [.int .i64 y]) ++ r.1, r.2)) := Lib.hid (by
            rw [HS.out, hst]
            simp only [Option.map_map]
            congr 1
            funext r
            simp)
          clear hst hone
          go_wp2_with fail
          refine HC.out.mono ?_
          rintro e w2 ⟨rfl, hR2, hg2⟩
          have hg2' : w.grownBy w2 (some b) := gb_same HG.out hg2
          have e0 := cell_of_one (box_kept B0.out hg2' n0)
          have f2 := hR2.c2
          have HR2 := Lib.hid hR2
          have HO2 := Lib.hid (own_kept HW.out hg2 hbl.out)
          clear hR2
          go_wp2_with (at_builtin; refine app_one rfl _ _ 37 3 rfl i0 (.int .i64 0) 8 Try.underlying37 hI.out.1 hI.out.2.1 hI.out.2.2.1 hI.out.2.2.2 rfl w.heap.size _ xs w2.heap.size (.int .i64 y) rfl rfl (HO2.out.alloc _) (World.cell?_alloc_at _ _ _ _ rfl) rfl (by have := HG.out.size; have := hg2.size; simp; omega) (by rw [HX.out]; have := hqs.out; have := hql.out; simp only [maxLen]; omega) (by rw [HX.out]; have := hqs.out; have := hql.out; omega) ?_; intro v3 w3 ho3 hg3 hf3; have hR3 := (HR2.out.grown (gb_alloc _ _ _)).far hbl.out hsl.out hg3 (fun k hk => (HO2.out.lt k hk).1); have f3 := hR3.c2; have hg3' : w.grownBy w3 (some b) := gb_row (gb_trans0 hg2' (gb_alloc _ _ _)) (HO2.out.alloc _) hg3 (Nat.le_refl _); have e3 := cell_of_one (box_kept B0.out hg3' n0); obtain ⟨a3, c3, rfl⟩ := own_slice ho3; have HO3 := Lib.hid ho3; have HR3 := Lib.hid hR3; clear hg3 ho3 hR3)
          refine ⟨⟨i + 1, xs ++ [.int .i64 y], q', a3, c3, by go_num, by rw [← HX.out], by omega, by omega, by simp [HX.out], by simpa using HO3.out, HR3.out, hg3', HS2.out⟩, by simp [intOf]; omega⟩
      · have hni : n - i = 0 := by omega
        have HS3 : Hid (rdN one n q0 = some (xs, q)) := Lib.hid (by rw [HS.out, hni]; simp [rdN])
        go_wp2
        go_ret
        rw [HS3.out]
        exact ⟨_, rfl, ⟨_, _, _, rfl⟩, own_mono (by have := HW.out; rw [HX.out] at this ⊢; exact this) hB, HRq.out, HG.out⟩

set_option maxRecDepth 100000 in
set_option maxHeartbeats 1000000 in
theorem list1_string (b : Nat) (sl : Value) (bs : List UInt8) (p : Nat) (w : World) (most : Int) (B k0 k1 k2 : Nat) (KO : FuncId) (one : Nat → Option (Value × Nat)) (h : IsR w b sl bs p false) (hB : B ≤ w.heap.size) (hmo : most ≤ 9223372036854775807)
    (b0 : w.heap[k0]? = some (.cells #[.pointer (some ⟨b, 0, none⟩)] 25 (0, 0))) (b1 : w.heap[k1]? = some (.cells #[.int .i64 most] 3 (0, 0)))
    (b2 : w.heap[k2]? = some (.cells #[.func (.func KO) #[.pointer (some ⟨b, 0, none⟩)] #[]] 97 (0, 0)))
    (n0 : k0 ≠ b) (n1 : k1 ≠ b) (n2 : k2 ≠ b)
    (hK : ∀ (args : Array Value) (w : World), (callFunc KO args).run Try.prog w = .ok (.enter KO args) w)
    (HO : ∀ W q, IsR W b sl bs q false → Calls Try.prog KO #[.pointer (some ⟨b, 0, none⟩)] W (ROut W b sl bs q (.string ⟨#[]⟩) (one q)))
    (Hq : ∀ q x q', q ≤ bs.length → one q = some (x, q') → q < q' ∧ ∃ y, x = .string y) :
    Calls Try.prog 96 #[.pointer (some ⟨k0, 0, none⟩), .pointer (some ⟨k1, 0, none⟩), .pointer (some ⟨k2, 0, none⟩)] w
      (PartsE w b sl bs G_s_string (fun vs v w' => w'.ownsRow B 9 1 v vs.length vs) (rdList one most bs p)) := by
  obtain ⟨i0, hi, hz0, hz1, hz2⟩ := info_parts info9
  have c0 := cell_of_one b0
  have c1 := cell_of_one b1
  have HB := Lib.hid (bounded_any b sl bs p false w 0 most h)
  have B0 := Lib.hid b0
  have B1 := Lib.hid b1
  have B2 := Lib.hid b2
  have HO' := Lib.hid HO
  have Hq' := Lib.hid Hq
  have hpl := Lib.hid h.le
  have hbl := Lib.hid h.lt
  have hsl := Lib.hid (fun hne => Rd.blk h.rd hne)
  have hI := Lib.hid (And.intro hi (And.intro hz0 (And.intro hz1 hz2)))
  clear b0 b1 b2 h hi hz0 hz1 hz2 HO Hq
  unfold rdList
  rw [unl_f] at HB
  have hrng : ∀ n q, rdBounded 0 most bs p = some (n, q) → 0 ≤ n ∧ n ≤ 9223372036854775807 := fun n q hh => ⟨(rdBounded_range hh).1, Int.le_trans (rdBounded_range hh).2 hmo⟩
  generalize rdBounded 0 most bs p = r at *
  cases r with
  | none =>
    clear hrng hmo
    go_enter Try.func96, Try.ntmps96
    go_wp2_with fail
    refine HB.out.mono ?_
    rintro e w1 ⟨rfl, hR, hg⟩
    have HR := Lib.hid hR
    clear hR
    go_wp2
    refine wp_loop_rounds 1 ?_
    rw [rounds_succ]
    go_wp2
    go_ret
    exact ⟨_, p, rfl, ⟨_, _, _, rfl⟩, HR.out, hg⟩
  | some r =>
    obtain ⟨n, q0⟩ := r
    obtain ⟨hn0, hn1⟩ := hrng n q0 rfl
    obtain ⟨n, rfl⟩ := Int.eq_ofNat_of_zero_le hn0
    clear hrng hmo hn0
    simp only [Int.toNat_natCast]
    go_enter Try.func96, Try.ntmps96
    go_wp2_with fail
    refine HB.out.mono ?_
    rintro e w1 ⟨rfl, hR1, hg1⟩
    have HR1 := Lib.hid hR1
    clear hR1
    have HR : Hid (rdN one n q0 = rdN one n q0) := Lib.hid rfl
    go_wp2
    go_loopw [4, 8] (fun l k wr => LInv w b sl bs 9 one n (rdN one n q0) l k wr) (fun _ k _ => n - (intOf k).toNat)
    case atStart => exact ⟨0, [], q0, none, 0, rfl, rfl, Nat.zero_le _, Nat.zero_le _, rfl, World.ownsRow_nil _ _ _ _, HR1.out, hg1, by simp⟩
    case round =>
      obtain ⟨i, xs, q, la, lc, rfl, rfl, hin, hiq, hxl, hown, hR, hg, hspec⟩ := hrel
      have hql := Lib.hid hR.le
      have hqs := Lib.hid hR.sm
      have d0 := cell_of_one (box_kept B0.out hg n0)
      have d2 := cell_of_one (box_kept B2.out hg n2)
      have HW := Lib.hid hown
      have HG := Lib.hid hg
      have HX := Lib.hid hxl
      have HS := Lib.hid hspec
      have HC := Lib.hid (HO'.out wr q hR)
      have HRq := Lib.hid hR
      clear hown hg hxl hspec hR
      by_cases hlt : i < n
      · have hst := @rdN_step one n i q hlt
        cases hone : one q with
        | none =>
          rw [hone] at HC hst
          have hRn : Hid (rdN one n q0 = none) := Lib.hid (by rw [HS.out, hst]; rfl)
          clear hst hone
          go_wp2_with fail
          refine HC.out.mono ?_
          rintro e w2 ⟨rfl, hR2, hg2⟩
          have hg2' : w.grownBy w2 (some b) := gb_same HG.out hg2
          have e0 := cell_of_one (box_kept B0.out hg2' n0)
          have f2 := hR2.c2
          have HR2 := Lib.hid hR2
          have HO2 := Lib.hid (own_kept HW.out hg2 hbl.out)
          clear hR2
          go_wp2_with (at_builtin; refine app_one rfl _ _ 38 9 rfl i0 (.string ⟨#[]⟩) 16 Try.underlying38 hI.out.1 hI.out.2.1 hI.out.2.2.1 hI.out.2.2.2 rfl w.heap.size _ xs w2.heap.size (.string ⟨#[]⟩) rfl rfl (HO2.out.alloc _) (World.cell?_alloc_at _ _ _ _ rfl) rfl (by have := HG.out.size; have := hg2.size; simp; omega) (by rw [HX.out]; have := hqs.out; have := hql.out; simp only [maxLen]; omega) (by rw [HX.out]; have := hqs.out; have := hql.out; omega) ?_; intro v3 w3 ho3 hg3 hf3; have hR3 := (HR2.out.grown (gb_alloc _ _ _)).far hbl.out hsl.out hg3 (fun k hk => (HO2.out.lt k hk).1); have f3 := hR3.c2; have hg3' : w.grownBy w3 (some b) := gb_row (gb_trans0 hg2' (gb_alloc _ _ _)) (HO2.out.alloc _) hg3 (Nat.le_refl _); have e3 := cell_of_one (box_kept B0.out hg3' n0); obtain ⟨a3, c3, rfl⟩ := own_slice ho3; have HO3 := Lib.hid ho3; have HR3 := Lib.hid hR3; clear hg3 ho3 hR3)
          go_ret
          rw [hRn.out]
          exact ⟨_, q, rfl, ⟨_, _, _, rfl⟩, HR3.out, hg3'⟩
        | some r =>
          obtain ⟨x, q'⟩ := r
          obtain ⟨hqq, y, rfl⟩ := Hq'.out q x q' hql.out hone
          rw [hone] at HC hst
          have HS2 : Hid (rdN one n q0 = (rdN one (n - (i + 1)) q').map fun r => ((xs ++ [.string y]) ++ r.1, r.2)) := Lib.hid (by
            rw [HS.out, hst]
            simp only [Option.map_map]
            congr 1
            funext r
            simp)
          clear hst hone
          go_wp2_with fail
          refine HC.out.mono ?_
          rintro e w2 ⟨rfl, hR2, hg2⟩
          have hg2' : w.grownBy w2 (some b) := gb_same HG.out hg2
          have e0 := cell_of_one (box_kept B0.out hg2' n0)
          have f2 := hR2.c2
          have HR2 := Lib.hid hR2
          have HO2 := Lib.hid (own_kept HW.out hg2 hbl.out)
          clear hR2
          go_wp2_with (at_builtin; refine app_one rfl _ _ 38 9 rfl i0 (.string ⟨#[]⟩) 16 Try.underlying38 hI.out.1 hI.out.2.1 hI.out.2.2.1 hI.out.2.2.2 rfl w.heap.size _ xs w2.heap.size (.string y) rfl rfl (HO2.out.alloc _) (World.cell?_alloc_at _ _ _ _ rfl) rfl (by have := HG.out.size; have := hg2.size; simp; omega) (by rw [HX.out]; have := hqs.out; have := hql.out; simp only [maxLen]; omega) (by rw [HX.out]; have := hqs.out; have := hql.out; omega) ?_; intro v3 w3 ho3 hg3 hf3; have hR3 := (HR2.out.grown (gb_alloc _ _ _)).far hbl.out hsl.out hg3 (fun k hk => (HO2.out.lt k hk).1); have f3 := hR3.c2; have hg3' : w.grownBy w3 (some b) := gb_row (gb_trans0 hg2' (gb_alloc _ _ _)) (HO2.out.alloc _) hg3 (Nat.le_refl _); have e3 := cell_of_one (box_kept B0.out hg3' n0); obtain ⟨a3, c3, rfl⟩ := own_slice ho3; have HO3 := Lib.hid ho3; have HR3 := Lib.hid hR3; clear hg3 ho3 hR3)
          refine ⟨⟨i + 1, xs ++ [.string y], q', a3, c3, by go_num, by rw [← HX.out], by omega, by omega, by simp [HX.out], by simpa using HO3.out, HR3.out, hg3', HS2.out⟩, by simp [intOf]; omega⟩
      · have hni : n - i = 0 := by omega
        have HS3 : Hid (rdN one n q0 = some (xs, q)) := Lib.hid (by rw [HS.out, hni]; simp [rdN])
        go_wp2
        go_ret
        rw [HS3.out]
        exact ⟨_, rfl, ⟨_, _, _, rfl⟩, own_mono (by have := HW.out; rw [HX.out] at this ⊢; exact this) hB, HRq.out, HG.out⟩


theorem rdBounded_le {least most : Int} {bs : List UInt8} {p : Nat} {n : Int} {q : Nat} (hp : p ≤ bs.length) (h : rdBounded least most bs p = some (n, q)) : p < q ∧ q ≤ bs.length := by
  unfold rdBounded at h
  split at h
  · cases h
  · rename_i n' q' hr
    split at h
    · cases h
    · simp only [Option.some.injEq, Prod.mk.injEq] at h
      have := rdInt_le hp hr
      omega
theorem rdBytes_le {most : Int} {bs : List UInt8} {p : Nat} {l : List UInt8} {q : Nat} (hp : p ≤ bs.length) (h : rdBytes most bs p = some (l, q)) : p < q ∧ q ≤ bs.length := by
  unfold rdBytes at h
  split at h
  · cases h
  · rename_i n' q' hr
    have := rdBounded_le hp hr
    split at h
    · cases h
    · simp only [Option.some.injEq, Prod.mk.injEq] at h
      omega

set_option maxHeartbeats 400000 in
theorem anyString_any (b : Nat) (sl : Value) (bs : List UInt8) (p : Nat) (f : Bool) (w : World) (h : IsR w b sl bs p f) :
    Calls Try.prog 65 #[.pointer (some ⟨b, 0, none⟩)] w (ROut w b sl bs p (.string ⟨#[]⟩) (unl f (strO (rdBytes 9223372036854775807 bs p)))) := by
  have HC := Lib.hid (str_any b sl bs p f w 9223372036854775807 h (by omega))
  clear h
  go_enter Try.func65, Try.ntmps65
  go_wp2_with fail
  refine HC.out.mono ?_
  rintro e w' hr
  obtain ⟨v, rfl, hr⟩ := hr.ret
  have HR := Lib.hid hr
  clear hr
  go_wp2
  go_ret
  exact HR.out

def oneInt (bs : List UInt8) (q : Nat) : Option (Value × Nat) := intO (rdInt bs q)
def oneStr (bs : List UInt8) (q : Nat) : Option (Value × Nat) := strO (rdBytes 9223372036854775807 bs q)
theorem oneInt_q (bs : List UInt8) : ∀ q x q', q ≤ bs.length → oneInt bs q = some (x, q') → q < q' ∧ ∃ y, x = .int .i64 y := by
  intro q x q' hq h
  unfold oneInt intO at h
  cases hr : rdInt bs q with
  | none => simp [hr] at h
  | some r =>
    simp only [hr, Option.map_some, Option.some.injEq, Prod.mk.injEq] at h
    obtain ⟨rfl, rfl⟩ := h
    exact ⟨(rdInt_le (v := r.1) (q := r.2) hq hr).1, _, rfl⟩
theorem oneStr_q (bs : List UInt8) : ∀ q x q', q ≤ bs.length → oneStr bs q = some (x, q') → q < q' ∧ ∃ y, x = .string y := by
  intro q x q' hq h
  unfold oneStr strO at h
  cases hr : rdBytes 9223372036854775807 bs q with
  | none => simp [hr] at h
  | some r =>
    simp only [hr, Option.map_some, Option.some.injEq, Prod.mk.injEq] at h
    obtain ⟨rfl, rfl⟩ := h
    exact ⟨(rdBytes_le (l := r.1) (q := r.2) hq hr).1, _, rfl⟩

set_option maxRecDepth 100000 in
set_option maxHeartbeats 400000 in
theorem list_int (b : Nat) (sl : Value) (bs : List UInt8) (p : Nat) (f : Bool) (w : World) (most : Int) (B : Nat) (h : IsR w b sl bs p f) (hB : B ≤ w.heap.size) (hmo : most ≤ 9223372036854775807) :
    Calls Try.prog 63 #[.pointer (some ⟨b, 0, none⟩), .int .i64 most, .func (.func 40) #[.pointer (some ⟨b, 0, none⟩)] #[]] w
      (ROutE w b sl bs p (.slice none 0 0) (fun vs v w' => w'.ownsRow B 3 1 v vs.length vs) (unl f (rdList (oneInt bs) most bs p))) := by
  have hm := hmf
  have hlt := h.lt
  have H := Lib.hid h
  clear h
  go_enter Try.func63, Try.ntmps63
  go_wp2_with fail
  have hg3 : w.grownBy (((w.alloc (.cells #[.pointer (some ⟨b, 0, none⟩)] 25)).alloc (.cells #[.int .i64 most] 3)).alloc (.cells #[.func (.func 40) #[.pointer (some ⟨b, 0, none⟩)] #[]] 33)) none := gb_of_below (by go_grown)
  refine (valueE_s_int b sl bs p f _ _ _ (fun vs v w' => w'.ownsRow B 3 1 v vs.length vs) (rdList (oneInt bs) most bs p) (H.out.grown hg3) (fun _ _ => rfl) ?_).mono ?_
  · rintro rfl W rfl
    exact list1_int b sl bs p _ most B _ _ _ 40 (oneInt bs) (H.out.grown hg3) (Nat.le_trans hB hg3.size) hmo (blk3_0 _ _ _ _) (blk3_1 _ _ _ _) (blk3_2 _ _ _ _) (by omega) (by omega) (by omega)
      (fun _ _ => rfl) (fun W q hW => rint_f b sl bs q false W hW) (oneInt_q bs)
  · rintro e w' hr
    obtain ⟨v, rfl, hr⟩ := hr.ret
    have HR := Lib.hid (hr.from hg3)
    clear hr
    go_wp2
    go_ret
    exact HR.out

set_option maxRecDepth 100000 in
set_option maxHeartbeats 400000 in
theorem mInts_any (b : Nat) (sl : Value) (bs : List UInt8) (p : Nat) (f : Bool) (w : World) (most : Int) (B : Nat) (h : IsR w b sl bs p f) (hB : B ≤ w.heap.size) (hmo : most ≤ 9223372036854775807) :
    Calls Try.prog 25 #[.pointer (some ⟨b, 0, none⟩), .int .i64 most] w
      (ROutE w b sl bs p (.slice none 0 0) (fun vs v w' => w'.ownsRow B 3 1 v vs.length vs) (unl f (rdList (oneInt bs) most bs p))) := by
  have hm := hmf
  have HC := Lib.hid (list_int b sl bs p f w most B h hB hmo)
  clear h
  go_enter Try.func25, Try.ntmps25
  go_wp2_with fail
  refine HC.out.mono ?_
  rintro e w' hr
  obtain ⟨v, rfl, hr⟩ := hr.ret
  have HR := Lib.hid hr
  clear hr
  go_wp2
  go_ret
  exact HR.out

set_option maxRecDepth 100000 in
set_option maxHeartbeats 400000 in
theorem list_string (b : Nat) (sl : Value) (bs : List UInt8) (p : Nat) (f : Bool) (w : World) (most : Int) (B : Nat) (h : IsR w b sl bs p f) (hB : B ≤ w.heap.size) (hmo : most ≤ 9223372036854775807) :
    Calls Try.prog 64 #[.pointer (some ⟨b, 0, none⟩), .int .i64 most, .func (.func 65) #[.pointer (some ⟨b, 0, none⟩)] #[]] w
      (ROutE w b sl bs p (.slice none 0 0) (fun vs v w' => w'.ownsRow B 9 1 v vs.length vs) (unl f (rdList (oneStr bs) most bs p))) := by
  have hm := hmf
  have hlt := h.lt
  have H := Lib.hid h
  clear h
  go_enter Try.func64, Try.ntmps64
  go_wp2_with fail
  have hg3 : w.grownBy (((w.alloc (.cells #[.pointer (some ⟨b, 0, none⟩)] 25)).alloc (.cells #[.int .i64 most] 3)).alloc (.cells #[.func (.func 65) #[.pointer (some ⟨b, 0, none⟩)] #[]] 97)) none := gb_of_below (by go_grown)
  refine (valueE_s_string b sl bs p f _ _ _ (fun vs v w' => w'.ownsRow B 9 1 v vs.length vs) (rdList (oneStr bs) most bs p) (H.out.grown hg3) (fun _ _ => rfl) ?_).mono ?_
  · rintro rfl W rfl
    exact list1_string b sl bs p _ most B _ _ _ 65 (oneStr bs) (H.out.grown hg3) (Nat.le_trans hB hg3.size) hmo (blk3_0 _ _ _ _) (blk3_1 _ _ _ _) (blk3_2 _ _ _ _) (by omega) (by omega) (by omega)
      (fun _ _ => rfl) (fun W q hW => anyString_any b sl bs q false W hW) (oneStr_q bs)
  · rintro e w' hr
    obtain ⟨v, rfl, hr⟩ := hr.ret
    have HR := Lib.hid (hr.from hg3)
    clear hr
    go_wp2
    go_ret
    exact HR.out

set_option maxRecDepth 100000 in
set_option maxHeartbeats 400000 in
theorem mStrings_any (b : Nat) (sl : Value) (bs : List UInt8) (p : Nat) (f : Bool) (w : World) (most : Int) (B : Nat) (h : IsR w b sl bs p f) (hB : B ≤ w.heap.size) (hmo : most ≤ 9223372036854775807) :
    Calls Try.prog 27 #[.pointer (some ⟨b, 0, none⟩), .int .i64 most] w
      (ROutE w b sl bs p (.slice none 0 0) (fun vs v w' => w'.ownsRow B 9 1 v vs.length vs) (unl f (rdList (oneStr bs) most bs p))) := by
  have hm := hmf
  have HC := Lib.hid (list_string b sl bs p f w most B h hB hmo)
  clear h
  go_enter Try.func27, Try.ntmps27
  go_wp2_with fail
  refine HC.out.mono ?_
  rintro e w' hr
  obtain ⟨v, rfl, hr⟩ := hr.ret
  have HR := Lib.hid hr
  clear hr
  go_wp2
  go_ret
  exact HR.out
end Go.Proofs.Ytgfopepopcacmaa
