/-
  list at effects, (*wire.Reader).Effects: the walks.
-/
import Derived.Test.YtgfopepopcacmaaEffL
namespace Go.Proofs.Ytgfopepopcacmaa
open Go.RowKit

def LEInv (w : World) (b : Nat) (sl : Value) (bs : List UInt8) (n : Nat) (R : Option (List EffT × Nat)) (l k : Value) (wr : World) : Prop :=
  ∃ (i : Nat) (ps : List EffP) (q : Nat) (a : Option Addr) (c : Nat), k = .int .i64 (i : Int) ∧ l = .slice a i c ∧ i ≤ n ∧ ps.length = i ∧ ELp wr w.heap.size l ps ∧ IsR wr b sl bs q false ∧ w.grownBy wr (some b) ∧
    R = (rdNE bs (n - i) q).map fun r => (ps.map (·.1) ++ r.1, r.2)

set_option maxRecDepth 100000 in
set_option maxHeartbeats 4000000 in
theorem list1_Effect (b : Nat) (sl : Value) (bs : List UInt8) (p : Nat) (w : World) (B k0 k1 k2 : Nat) (h : IsR w b sl bs p false) (hB : B ≤ w.heap.size)
    (b0 : w.heap[k0]? = some (.cells #[.pointer (some ⟨b, 0, none⟩)] 25 (0, 0))) (b1 : w.heap[k1]? = some (.cells #[.int .i64 160] 3 (0, 0)))
    (b2 : w.heap[k2]? = some (.cells #[.func (.func 88) #[.pointer (some ⟨b, 0, none⟩)] #[]] 113 (0, 0)))
    (n0 : k0 ≠ b) (n2 : k2 ≠ b) :
    Calls Try.prog 99 #[.pointer (some ⟨k0, 0, none⟩), .pointer (some ⟨k1, 0, none⟩), .pointer (some ⟨k2, 0, none⟩)] w
      (PartsE w b sl bs G_s_Effect (ELs B) (rdLE 160 bs p)) := by
  have c0 := cell_of_one b0
  have c1 := cell_of_one b1
  have HB := Lib.hid (bounded_any b sl bs p false w 0 160 h)
  have B0 := Lib.hid b0
  have B2 := Lib.hid b2
  have hbl := h.lt
  have HSL := Lib.hid (fun hne => Rd.blk h.rd hne)
  have hK : ∀ (args : Array Value) (w : World), (callFunc 88 args).run Try.prog w = .ok (.enter 88 args) w := fun _ _ => rfl
  clear b0 b1 b2 h
  unfold rdLE
  rw [unl_f] at HB
  have hrng : ∀ n q, rdBounded 0 160 bs p = some (n, q) → 0 ≤ n ∧ n ≤ 160 := fun n q hh => rdBounded_range hh
  generalize rdBounded 0 160 bs p = r at *
  cases r with
  | none =>
    clear hrng
    go_enter Try.func99, Try.ntmps99
    go_wp2_with fail
    refine HB.out.mono ?_
    rintro e w1 ⟨rfl, hR, hg⟩
    have HR := Lib.hid hR
    clear hR
    go_wp2
    refine wp_loop_rounds 1 ?_
    rw [rounds_succ]
    go_wp2
    go_ret
    exact ⟨_, p, rfl, ⟨_, _, _, rfl⟩, HR.out, hg⟩
  | some r =>
    obtain ⟨n, q0⟩ := r
    obtain ⟨hn0, hn1⟩ := hrng n q0 rfl
    obtain ⟨n, rfl⟩ := Int.eq_ofNat_of_zero_le hn0
    clear hrng hn0
    simp only [Int.toNat_natCast]
    go_enter Try.func99, Try.ntmps99
    go_wp2_with fail
    refine HB.out.mono ?_
    rintro e w1 ⟨rfl, hR1, hg1⟩
    have HR1 := Lib.hid hR1
    clear hR1
    go_wp2
    go_loopw [4, 8] (fun l k wr => LEInv w b sl bs n (rdNE bs n q0) l k wr) (fun _ k _ => n - (intOf k).toNat)
    case atStart => exact ⟨0, [], q0, none, 0, rfl, rfl, Nat.zero_le _, rfl, ELp.nil _ _, HR1.out, hg1, by simp⟩
    case round =>
      obtain ⟨i, ps, q, la, lc, rfl, rfl, hin, hpl, hel, hR, hg, hspec⟩ := hrel
      have d0 := cell_of_one (box_kept B0.out hg n0)
      have d2 := cell_of_one (box_kept B2.out hg n2)
      have HEL := Lib.hid hel
      have HG := Lib.hid hg
      have HPL := Lib.hid hpl
      have HS := Lib.hid hspec
      have HC := Lib.hid (reff_u b sl bs q false wr hR)
      have HRq := Lib.hid hR
      clear hel hg hpl hspec hR
      by_cases hlt : i < n
      · have HST := Lib.hid (@rdNE_step bs n i q hlt)
        go_wp2_with fail
        refine HC.out.mono ?_
        rintro e w2 ⟨x, mv, dv, q2, g2, rfl, hx13, hms, hds, hom, hod, hR2, hg2, t1, t2⟩
        have hg2' : w.grownBy w2 (some b) := gb_same HG.out hg2
        have e0 := cell_of_one (box_kept B0.out hg2' n0)
        have HR2 := Lib.hid hR2
        have HEL2 := Lib.hid (HEL.out.kept hg2 (fun k hk => .inl (by have e := Option.some.inj hk; omega)))
        have HX13 := Lib.hid hx13
        have HMS := Lib.hid hms
        have HDS := Lib.hid hds
        have HOM := Lib.hid hom
        have HOD := Lib.hid hod
        have HT1 := Lib.hid t1
        have HT2 := Lib.hid t2
        have hsw : w.heap.size ≤ wr.heap.size := HG.out.size
        have hsw2 : wr.heap.size ≤ w2.heap.size := hg2.size
        have HNE : Hid (∀ k, (Value.slice la i lc).ownBlock = some k → mv.ownBlock ≠ some k ∧ dv.ownBlock ≠ some k) := Lib.hid (fun k hk => by
          have h1 := (HEL.out.1.lt k hk).2
          exact ⟨fun e => by have := (HOM.out.lt k e).1; omega, fun e => by have := (HOD.out.lt k e).1; omega⟩)
        have HELA : Hid (∀ o, ELp (w2.alloc o) w.heap.size (.slice la i lc) ps) := Lib.hid (fun o => HEL2.out.kept (gb_alloc w2 o none) (by simp))
        have HOMA : Hid (∀ o, Own (w2.alloc o) w.heap.size mv x.2.1.2) := Lib.hid (fun o => (HOM.out.mono hsw).grown (gb_alloc w2 o none))
        have HODA : Hid (∀ o, Own (w2.alloc o) w.heap.size dv x.2.2) := Lib.hid (fun o => (HOD.out.mono hsw).grown (gb_alloc w2 o none))
        have HBA : Hid (∀ o, w.heap.size ≤ (w2.alloc o).heap.size) := Lib.hid (fun o => by simp; omega)
        have HPS : Hid (ps.length ≤ 1000) := Lib.hid (by have := HPL.out; omega)
        have HRA : Hid (∀ o, IsR (w2.alloc o) b sl bs q2 g2) := Lib.hid (fun o => HR2.out.grown (gb_alloc w2 o none))
        have HGA : Hid (∀ o, w.grownBy (w2.alloc o) (some b)) := Lib.hid (fun o => gb_trans0 hg2' (gb_alloc w2 o none))
        have HLT : Hid (∀ k, (Value.slice la i lc).ownBlock = some k → w.heap.size ≤ k) := Lib.hid (fun k hk => (HEL2.out.1.lt k hk).1)
        have h15 : (rowE (x.1 ++ x.2.1.1) mv dv).length = 15 := by rw [rowE_len, HX13.out]
        have HFO := Lib.hid (@fold_rowE (x.1 ++ x.2.1.1) mv dv hx13)
        clear hR2 hx13 hms hds hom hod t1 t2
        go_wp2_with (at_builtin; rw [HFO.out]; refine app_eff rfl (.tmp 10) (.tmp 13) rfl w.heap.size (.slice la i lc) ps x mv dv w2.heap.size 75 rfl rfl (HELA.out _) HX13.out HMS.out HDS.out (HOMA.out _) (HODA.out _) HNE.out (heap_at_alloc _ _) HPS.out (HBA.out _) ?_; go_must (intro v3 w3 hel3 hg3 hf3; obtain ⟨a3, c3, rfl⟩ := hel3.slice; have hR3 := (HRA.out _).far hbl HSL.out hg3 HLT.out; have f3 := hR3.c2; have hg3' : w.grownBy w3 (some b) := gb_trans (HGA.out _) hg3 (fun k hk => .inr (HLT.out k hk)); have e3 := cell_of_one (box_kept B0.out hg3' n0); have HEL3 := Lib.hid hel3; have HR3 := Lib.hid hR3; clear hel3 hg3 hf3 hR3))
        · have hgt : g2 = true := by assumption
          have hn : rdE bs q = none := by have := HT2.out hgt; rwa [unl_f] at this
          have hRn : rdNE bs n q0 = none := by rw [HS.out, HST.out, hn]; rfl
          have HRN := Lib.hid hRn
          have HGT := Lib.hid hgt
          clear hn hRn hgt
          go_ret
          rw [HRN.out]
          exact ⟨_, q2, rfl, ⟨_, _, _, rfl⟩, by have := HR3.out; rw [HGT.out] at this; exact this, hg3'⟩
        · have hgf : g2 = false := by assumption
          have hsome : rdE bs q = some (x, q2) := (HT1.out hgf).2
          have hspec2 : rdNE bs n q0 = (rdNE bs (n - (i + 1)) q2).map fun r => ((ps ++ [(x, mv, dv)]).map (·.1) ++ r.1, r.2) := by
            rw [HS.out, HST.out, hsome]
            simp only [Option.map_map]
            congr 1
            funext r
            simp
          refine ⟨⟨i + 1, ps ++ [(x, mv, dv)], q2, a3, c3, by go_num, by rw [← HPL.out], by omega, by rw [List.length_append, HPL.out]; rfl, (by have h9 := HEL3.out; rw [List.length_append] at h9; exact h9), by have := HR3.out; rw [hgf] at this; exact this, hg3', hspec2⟩, by simp [intOf]; omega⟩
      · have hni : n - i = 0 := by omega
        have HS3 : Hid (rdNE bs n q0 = some (ps.map (·.1), q)) := Lib.hid (by rw [HS.out, hni]; simp [rdNE])
        go_wp2
        go_ret
        rw [HS3.out]
        exact ⟨_, rfl, ⟨_, _, _, rfl⟩, ⟨ps, rfl, HEL.out.mono hB⟩, HRq.out, HG.out⟩

set_option maxRecDepth 100000 in
set_option maxHeartbeats 400000 in
theorem list_Effect (b : Nat) (sl : Value) (bs : List UInt8) (p : Nat) (f : Bool) (w : World) (B : Nat) (h : IsR w b sl bs p f) (hB : B ≤ w.heap.size) :
    Calls Try.prog 87 #[.pointer (some ⟨b, 0, none⟩), .int .i64 160, .func (.func 88) #[.pointer (some ⟨b, 0, none⟩)] #[]] w
      (ROutE w b sl bs p (.slice none 0 0) (ELs B) (unl f (rdLE 160 bs p))) := by
  have hm := hmf
  have hlt := h.lt
  have H := Lib.hid h
  clear h
  go_enter Try.func87, Try.ntmps87
  go_wp2_with fail
  have hg3 : w.grownBy (((w.alloc (.cells #[.pointer (some ⟨b, 0, none⟩)] 25)).alloc (.cells #[.int .i64 160] 3)).alloc (.cells #[.func (.func 88) #[.pointer (some ⟨b, 0, none⟩)] #[]] 113)) none := gb_of_below (by go_grown)
  refine (valueE_s_Effect b sl bs p f _ _ _ (ELs B) (rdLE 160 bs p) (H.out.grown hg3) (fun _ _ => rfl) ?_).mono ?_
  · rintro rfl W rfl
    exact list1_Effect b sl bs p _ B _ _ _ (H.out.grown hg3) (Nat.le_trans hB hg3.size) (blk3_0 _ _ _ _) (blk3_1 _ _ _ _) (blk3_2 _ _ _ _) (by omega) (by omega)
  · rintro e w' hr
    obtain ⟨v, rfl, hr⟩ := hr.ret
    have HR := Lib.hid (hr.from hg3)
    clear hr
    go_wp2
    go_ret
    exact HR.out

set_option maxRecDepth 100000 in
set_option maxHeartbeats 400000 in
theorem mEffects_any (b : Nat) (sl : Value) (bs : List UInt8) (p : Nat) (f : Bool) (w : World) (B : Nat) (h : IsR w b sl bs p f) (hB : B ≤ w.heap.size) :
    Calls Try.prog 52 #[.pointer (some ⟨b, 0, none⟩)] w
      (ROutE w b sl bs p (.slice none 0 0) (ELs B) (unl f (rdLE 160 bs p))) := by
  have hm := hmf
  have HC := Lib.hid (list_Effect b sl bs p f w B h hB)
  clear h
  go_enter Try.func52, Try.ntmps52
  go_wp2_with fail
  refine HC.out.mono ?_
  rintro e w' hr
  obtain ⟨v, rfl, hr⟩ := hr.ret
  have HR := Lib.hid hr
  clear hr
  go_wp2
  go_ret
  exact HR.out
end Go.Proofs.Ytgfopepopcacmaa
