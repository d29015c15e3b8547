/-
  The reference's reader: Int and Bounded.
-/
import Derived.Test.YtfldooljmjeaoaaVPk
namespace Go.Proofs.Ytfldooljmjeaoaa
open Go.RowKit Go.Shelf

def GotQ (v : Value) (b : Nat) (sl : Value) (bs : List UInt8) (q : Nat) (f : Bool) (w : World) (e : Ending) (w' : World) : Prop := e = .returned v ∧ IsQ w' b sl bs q f ∧ w.grownBy w' (some b)
def iV : Option (Int × Nat) → Int | some r => r.1 | none => 0
def iQ (p : Nat) : Option (Int × Nat) → Nat | some r => r.2 | none => p
theorem IsQ.fromTo {w w' : World} {b : Nat} {sl : Value} {bs : List UInt8} {p : Nat} {f : Bool} (h : IsQ w b sl bs p f) (hg : w.grownBy w' none) : IsQ w' b sl bs p f := h.grown hg
set_option maxRecDepth 100000 in
set_option maxHeartbeats 4000000 in
theorem qInt_any (b : Nat) (sl : Value) (bs : List UInt8) (p : Nat) (f : Bool) (w : World) (h : IsQ w b sl bs p f) :
    Calls Try.prog 56 #[.pointer (some ⟨b, 0, none⟩)] w (GotQ (.int .i64 (iV (unl f (rdInt bs p)))) b sl bs (iQ p (unl f (rdInt bs p))) (unl f (rdInt bs p)).isNone w) := by
  have HP := Lib.hid (rpeek_any b sl bs p f w h)
  have H := Lib.hid h
  have HBL := Lib.hid h.lt
  clear h
  go_enter Try.func56, Try.ntmps56
  go_wp2_with fail
  refine HP.out.mono ?_
  rintro e w1 ⟨v, ok, rfl, hok, hg1, h1, h2⟩
  have H1 := Lib.hid (H.out.grown hg1)
  have c2 := H1.out.c2
  have f2 := H1.out.fr 2
  have HG1 := Lib.hid hg1
  have HSF := Lib.hid (H1.out.setF true)
  clear hg1
  by_cases hbad : f = true ∨ ok = false
  · have hr : unl f (rdInt bs p) = none := by
      rcases hbad with rfl | rfl
      · rfl
      · rw [h2 rfl]; cases f <;> rfl
    have HR := Lib.hid hr
    clear h1 h2 hr
    by_cases hf : f = true
    · subst hf
      clear hbad
      go_wp2
      go_ret
      exact ⟨by rw [HR.out]; rfl, by rw [HR.out]; exact HSF.out, gb_trans (gb_none (some b) HG1.out) (gb_setCell _ _ _) (fun _ e => .inl e)⟩
    · have hok2 : ok = false := by rcases hbad with h | h; exact absurd h hf; exact h
      have hff : f = false := by simpa using hf
      subst hok2 hff
      clear hbad hf
      go_wp2
      go_ret
      exact ⟨by rw [HR.out]; rfl, by rw [HR.out]; exact HSF.out, gb_trans (gb_none (some b) HG1.out) (gb_setCell _ _ _) (fun _ e => .inl e)⟩
  · obtain ⟨hf, hok2⟩ := not_or.1 hbad
    have hff : f = false := by simpa using hf
    have hoo : ok = true := by simpa using hok2
    subst hff hoo
    have HR := Lib.hid (h1 rfl)
    obtain ⟨_, _, _, hqb, _⟩ := rdInt_enc (h1 rfl)
    have HQB := Lib.hid hqb
    have HLE := Lib.hid H.out.le
    have HSM := Lib.hid H.out.sm
    have HS0 := (H1.out.grown (gb_drew _ none)).c1
    have HI1 := Lib.hid (rInt_any v w1.drew hok)
    clear h1 h2 hbad hf hok2 hqb hok
    go_wp2_with fail
    refine region_KL (fuel := 11) (listed := #[false, false, false, false, false, false, false, false, false, false, false]) (fun X => X.cell? ⟨b, 1, none⟩ = some (.int .i64 (p : Int))) 10 (by kernel_rfl) rfl (by kernel_rfl) ?_
    refine wpAnyK_takeL (i := 0) (d := 21) (v := ?_) (T' := ?_) (listed' := #[true, false, false, false, false, false, false, false, false, false, false]) rfl rfl (by kernel_rfl) (fun _ _ _ h => h) rfl (Or.inl ⟨by rfl, ?_⟩) ?_ HS0 ?_
    rotate_left 2
    · intro w hS; clear hS; go_simp; rfl
    · simp only [List.setIfInBounds_toArray, List.set_cons_succ, List.set_cons_zero]; rfl
    refine wpAnyK_takeL (i := 1) (d := 22) (v := ?_) (T' := ?_) (listed' := #[true, true, false, false, false, false, false, false, false, false, false]) rfl rfl (by kernel_rfl) (fun _ _ _ h => h) rfl (Or.inl ⟨by rfl, ?_⟩) ?_ HS0 ?_
    rotate_left 2
    · intro w hS; clear hS; go_simp; rfl
    · simp only [List.setIfInBounds_toArray, List.set_cons_succ, List.set_cons_zero]; rfl
    refine wpAnyK_takeL (i := 2) (d := 23) (v := ?_) (T' := ?_) (listed' := #[true, true, true, false, false, false, false, false, false, false, false]) rfl rfl (by kernel_rfl) (fun _ _ _ h => h) rfl (Or.inl ⟨by rfl, ?_⟩) ?_ HS0 ?_
    rotate_left 2
    · intro w hS; clear hS; go_simp; rfl
    · simp only [List.setIfInBounds_toArray, List.set_cons_succ, List.set_cons_zero]; rfl
    refine wpAnyK_takeL (i := 3) (d := 24) (v := ?_) (T' := ?_) (listed' := #[true, true, true, true, false, false, false, false, false, false, false]) rfl rfl (by kernel_rfl) (fun _ _ _ h => h) rfl (Or.inl ⟨by rfl, ?_⟩) ?_ HS0 ?_
    rotate_left 2
    · intro w hS; have t0 := hS; clear hS; go_simp; rfl
    · simp only [List.setIfInBounds_toArray, List.set_cons_succ, List.set_cons_zero]; rfl
    refine wpAnyK_takeL (i := 4) (d := 25) (v := ?_) (T' := ?_) (listed' := #[true, true, true, true, true, false, false, false, false, false, false]) rfl rfl (by kernel_rfl) (fun _ _ _ h => h) rfl (Or.inl ⟨by rfl, ?_⟩) ?_ HS0 ?_
    rotate_left 2
    · intro w hS; clear hS; go_simp; rfl
    · simp only [List.setIfInBounds_toArray, List.set_cons_succ, List.set_cons_zero]; rfl
    refine wpAnyK_oneL (i := 5) (listed' := #[true, true, true, true, true, true, false, false, false, false, false]) (by kernel_rfl) rfl (by rfl) rfl ?_
    intro K hK
    go_simp
    refine HI1.out.mono ?_
    rintro e w3 ⟨v3, rfl, ho3, hg3⟩
    obtain ⟨a3, c3, rfl⟩ := ho3.rd.len
    have H3 := Lib.hid ((H1.out.grown (gb_drew _ none)).grown hg3)
    have HG3 := Lib.hid (gb_same HG1.out (gb_same (gb_drew _ _) hg3))
    have s1 := H3.out.c1
    have fr1 := H3.out.fr 1
    have hlen := (enc_len v).2
    have hps : (p : Int) ≤ 1099511627776 := by have := HLE.out; have := HSM.out; omega
    have hwr : IntKind.i64.wrap ((p : Int) + ((enc v).length : Int)) = ((p + (enc v).length : Nat) : Int) := by rw [IntKind.wrap_i64]; omega
    clear ho3 hg3 c2 f2
    refine hK _ _ (fun _ => s1) ?_
    clear hK K
    refine wpAnyK_oneL (i := 6) (listed' := #[true, true, true, true, true, true, true, false, false, false, false]) (by kernel_rfl) rfl (by rfl) rfl ?_
    intro K hK
    go_simp
    refine hK _ _ (fun _ => s1) ?_
    clear hK K
    refine wpAnyK_oneL (i := 7) (listed' := #[true, true, true, true, true, true, true, true, false, false, false]) (by kernel_rfl) rfl (by rfl) rfl ?_
    intro K hK
    go_simp
    refine hK _ _ (fun _ => s1) ?_
    clear hK K
    refine wpAnyK_oneL (i := 8) (listed' := #[true, true, true, true, true, true, true, true, true, false, false]) (by kernel_rfl) rfl (by rfl) rfl ?_
    intro K hK
    go_simp
    refine hK _ _ (fun _ => s1) ?_
    clear hK K
    refine wpAnyK_oneL (i := 9) (listed' := #[true, true, true, true, true, true, true, true, true, true, false]) (by kernel_rfl) rfl (by rfl) rfl ?_
    intro K hK
    go_simp
    refine hK _ _ (fun _ => s1) ?_
    clear hK K
    refine wpAnyK_oneL (i := 10) (listed' := #[true, true, true, true, true, true, true, true, true, true, true]) (by kernel_rfl) rfl (by rfl) rfl ?_
    intro K hK
    go_simp
    refine hK _ _ (fun h => Bool.noConfusion (show true = false from h)) ?_
    clear hK K
    refine wpAnyK_done (by kernel_rfl) ?_ _
    have HSP := Lib.hid (H3.out.setP (p + (enc v).length) HQB.out)
    go_wp2
    go_ret
    refine ⟨by rw [unl_f, HR.out]; rfl, ?_, gb_trans (gb_none (some b) HG3.out) (gb_setCell _ ⟨b, 1, none⟩ _) (fun _ e => .inl e)⟩
    rw [unl_f, HR.out]
    simpa [iQ] using HSP.out
theorem setF_c0 {w : World} {b : Nat} {sl : Value} {bs : List UInt8} {p : Nat} {f : Bool} (h : IsQ w b sl bs p f) : IsQ (w.setCell ⟨b, 2, none⟩ (.bool true)) b sl bs p true ∧ w.grownBy (w.setCell ⟨b, 2, none⟩ (.bool true)) (some b) := ⟨h.setF true, gb_setCell _ _ _⟩
set_option maxRecDepth 100000 in
set_option maxHeartbeats 4000000 in
theorem qBounded_any (b : Nat) (sl : Value) (bs : List UInt8) (p : Nat) (f : Bool) (least most : Int) (w : World) (h : IsQ w b sl bs p f) :
    Calls Try.prog 31 #[.pointer (some ⟨b, 0, none⟩), .int .i64 least, .int .i64 most] w (GotQ (.int .i64 (iV (unl f (rdBounded least most bs p)))) b sl bs (iQ p (unl f (rdBounded least most bs p))) (unl f (rdBounded least most bs p)).isNone w) := by
  have HP := Lib.hid (rpeek_any b sl bs p f w h)
  have H := Lib.hid h
  have HBL := Lib.hid h.lt
  clear h
  go_enter Try.func31, Try.ntmps31
  go_wp2_with fail
  refine HP.out.mono ?_
  rintro e w1 ⟨v, ok, rfl, hok, hg1, h1, h2⟩
  have H1 := Lib.hid (H.out.grown hg1)
  have c2 := H1.out.c2
  have f2 := H1.out.fr 2
  have HG1 := Lib.hid hg1
  obtain ⟨hsf, hgf⟩ := setF_c0 H1.out
  have HQ2 := Lib.hid (qInt_any b sl bs p true _ hsf)
  have HGF := Lib.hid hgf
  clear hg1 hsf hgf
  have hfin : ∀ (e : Ending) (w' : World), rdBounded least most bs p = none → GotQ (.int .i64 (iV (unl true (rdInt bs p)))) b sl bs (iQ p (unl true (rdInt bs p))) (unl true (rdInt bs p)).isNone (w1.setCell ⟨b, 2, none⟩ (.bool true)) e w' → GotQ (.int .i64 (iV (unl f (rdBounded least most bs p)))) b sl bs (iQ p (unl f (rdBounded least most bs p))) (unl f (rdBounded least most bs p)).isNone w e w' := fun e w' hn hg => by
    have e1 : unl f (rdBounded least most bs p) = none := by rw [hn]; cases f <;> rfl
    rw [e1]
    exact ⟨hg.1, hg.2.1, gb_trans (gb_trans (gb_none (some b) HG1.out) HGF.out (fun _ e => .inl e)) hg.2.2 (fun _ e => .inl e)⟩
  have HFIN := Lib.hid hfin
  clear hfin
  cases ok with
  | false =>
    have hn : rdBounded least most bs p = none := by unfold rdBounded; rw [h2 rfl]
    have HN := Lib.hid hn
    clear h1 h2 hn
    go_wp2_with fail
    refine HQ2.out.mono ?_
    rintro e w2 hq2
    have hr := HFIN.out e w2 HN.out hq2
    obtain ⟨rfl, hb2, hg2⟩ := hq2
    have HRR := Lib.hid hr
    clear hb2 hg2 hr
    go_wp2
    go_ret
    exact HRR.out
  | true =>
    have HR := Lib.hid (h1 rfl)
    clear h1 h2
    by_cases hlo : v < least
    · have hn : rdBounded least most bs p = none := by unfold rdBounded; rw [HR.out]; simp only; rw [if_pos (.inl hlo)]
      have HN := Lib.hid hn
      clear hn
      go_wp2_with fail
      refine HQ2.out.mono ?_
      rintro e w2 hq2
      have hr := HFIN.out e w2 HN.out hq2
      obtain ⟨rfl, hb2, hg2⟩ := hq2
      have HRR := Lib.hid hr
      clear hb2 hg2 hr
      go_wp2
      go_ret
      exact HRR.out
    · by_cases hhi : most < v
      · have hn : rdBounded least most bs p = none := by unfold rdBounded; rw [HR.out]; simp only; rw [if_pos (.inr hhi)]
        have HN := Lib.hid hn
        clear hn
        go_wp2_with fail
        refine HQ2.out.mono ?_
        rintro e w2 hq2
        have hr := HFIN.out e w2 HN.out hq2
        obtain ⟨rfl, hb2, hg2⟩ := hq2
        have HRR := Lib.hid hr
        clear hb2 hg2 hr
        go_wp2
        go_ret
        exact HRR.out
      · have hn : rdBounded least most bs p = rdInt bs p := by unfold rdBounded; rw [HR.out]; simp only; rw [if_neg (by omega)]
        have HN := Lib.hid hn
        have HQ3 := Lib.hid (qInt_any b sl bs p f w1 H1.out)
        clear hn HQ2
        go_wp2_with fail
        refine HQ3.out.mono ?_
        rintro e w2 hq2
        obtain ⟨rfl, hb2, hg2⟩ := hq2
        have HB2 := Lib.hid hb2
        have HG2 := Lib.hid (gb_trans (gb_none (some b) HG1.out) hg2 (fun _ e => .inl e))
        clear hb2 hg2
        go_wp2
        go_ret
        refine ⟨by rw [HN.out]; rfl, by rw [HN.out]; exact HB2.out, HG2.out⟩
end Go.Proofs.Ytfldooljmjeaoaa
