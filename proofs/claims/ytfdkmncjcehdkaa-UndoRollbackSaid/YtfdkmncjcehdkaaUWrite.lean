/-
  Log.Begin, Log.Write, Log.Image: the walks.
-/
import Derived.Test.YtfdkmncjcehdkaaUKeep
namespace Go.Proofs.Ytfdkmncjcehdkaa
open Go.RowKit

/-- a call that answers a number and leaves a log -/
def NumP (n : Int) (w : World) (e : Ending) (w' : World) : Prop := e = .returned (.int .i64 n) ∧ w = w'
def LogP (n : Int) (w : World) (F : Nat → Prop) (g : Nat) (img : List UInt8) (rs : List RT) (op : Bool) (e : Ending) (w' : World) : Prop :=
  e = .returned (.int .i64 n) ∧ ∃ F' iv' rv' ps', LogF w' F' g iv' rv' img ps' op ∧ ps'.map (·.1) = rs ∧ Foot w w' F F'
theorem begin_nil (w : World) : Calls Try.prog 19 #[.pointer none] w (NumP 7 w) := by
  go_enter Try.func19, Try.ntmps19
  go_wp2
  go_ret
  exact ⟨rfl, rfl⟩
theorem begin_no {w : World} {F : Nat → Prop} {g : Nat} {iv rv : Value} {img : List UInt8} {ps : List RP} (h : LogF w F g iv rv img ps true) : Calls Try.prog 19 #[.pointer (some ⟨g, 0, none⟩)] w (NumP 7 w) := by
  have q : w.cell? ⟨g, 2, none⟩ = some (.bool true) := cell_row h.blk
  clear h
  go_enter Try.func19, Try.ntmps19
  go_wp2
  go_ret
  exact ⟨rfl, rfl⟩
theorem LogF.setOpen {w : World} {F : Nat → Prop} {g : Nat} {iv rv : Value} {img : List UInt8} {ps : List RP} {op : Bool} (h : LogF w F g iv rv img ps op) (b : Bool) : LogF (w.setCell ⟨g, 2, none⟩ (.bool b)) F g iv rv img ps b :=
  ⟨heap_setCell_same _ _ 2 _ _ (.bool b) h.blk, h.image.kept (gb_setCell _ _ _) (fun k hk e => (h.fi k hk).2 (by simpa using e.symm)), h.row.kept (gb_setCell _ _ _) (fun k hk e => (h.fr k hk).2.1 (by simpa using e.symm)),
    fun p hp => (h.data p hp).kept (gb_setCell _ _ _) (fun k hk e => (h.fd p hp k hk).2.1 (by simpa using e.symm)), h.fg, h.fi, h.fr, h.fd, fun k hk => by have := h.lt k hk; simpa using this⟩
theorem begin_any {w : World} {F : Nat → Prop} {g : Nat} {iv rv : Value} {img : List UInt8} {ps : List RP} (h : LogF w F g iv rv img ps false) : Calls Try.prog 19 #[.pointer (some ⟨g, 0, none⟩)] w (LogP 0 w F g img (ps.map (·.1)) true) := by
  have q : w.cell? ⟨g, 2, none⟩ = some (.bool false) := cell_row h.blk
  have q2 : w.frozen? ⟨g, 2, none⟩ = false := frozen_row h.blk
  have H := Lib.hid h
  clear h
  go_enter Try.func19, Try.ntmps19
  go_wp2
  go_ret
  exact ⟨rfl, F, iv, rv, ps, H.out.setOpen true, rfl, Foot.of_gb (gb_setCell _ _ _) (fun k hk => by cases hk; exact H.out.fg)⟩
theorem LogF.setImage {w w' : World} {F : Nat → Prop} {g : Nat} {iv rv : Value} {img img' : List UInt8} {ps : List RP} {op : Bool} (h : LogF w F g iv rv img ps op) (hg : w.grownBy w' iv.ownBlock) (ho : Own w' 0 iv img') : LogF w' F g iv rv img' ps op :=
  ⟨blk_kept' h.blk hg (fun e => (h.fi g e).2 rfl), ho, h.row.kept hg (fun k hk e => (h.fr k hk).2.2 e), fun p hp => (h.data p hp).kept hg (fun k hk e => (h.fd p hp k hk).2.2.1 e), h.fg, h.fi, h.fr, h.fd, fun k hk => Nat.lt_of_lt_of_le (h.lt k hk) hg.size⟩
theorem RdW.foot {w w' : World} {F F' : Nat → Prop} {v : Value} {l : List UInt8} (h : RdW w v l) (hf : Foot w w' F F') (hn : l ≠ [] → ∀ k, v.ownBlock = some k → ¬ F k) : RdW w' v l := by
  by_cases hl : l = []
  · subst hl
    rcases h with h | h
    · rcases h with h | ⟨b, off, cap, h1, h2, h3, h4⟩
      · exact .inl (.inl h)
      · exact .inl (.inr ⟨b, off, cap, h1, h2, h3, fun j x hj => by simp at hj⟩)
    · exact .inr h
  · refine .inl ?_
    have hlt := h.blk hl
    rcases h.ne hl with h | ⟨b, off, cap, rfl, h1, h2, h3⟩
    · exact .inl h
    · refine .inr ⟨b, off, cap, rfl, h1, h2, fun j x hj => ?_⟩
      have h4 := h3 j x hj
      unfold World.cell? at h4 ⊢
      rw [hf.block b (hlt b rfl) (hn hl b rfl)]
      exact h4
set_option maxRecDepth 100000 in
theorem image_any {w : World} {F : Nat → Prop} {g : Nat} {iv rv : Value} {img : List UInt8} {ps : List RP} {op : Bool} (h : LogF w F g iv rv img ps op) (hi : img.length ≤ 140737488355328) : Calls Try.prog 14 #[.pointer (some ⟨g, 0, none⟩)] w (OwnP w img) := by
  have q : w.cell? ⟨g, 0, none⟩ = some iv := cell_row h.blk
  have HC := Lib.hid (clone_any iv img w h.image.rd hi)
  obtain ⟨a, c, rfl⟩ := h.image.rd.len
  clear h
  go_enter Try.func14, Try.ntmps14
  go_wp2_with (go_at_call 32; refine HC.out.mono ?_; rintro e w1 ⟨v1, rfl, ho, hg⟩)
  go_ret
  exact ⟨_, rfl, ho, hg⟩
theorem image_nil (w : World) : Calls Try.prog 14 #[.pointer none] w fun e w' => e = .returned (.slice none 0 0) ∧ w = w' := by
  go_enter Try.func14, Try.ntmps14
  go_wp2
  go_ret
  exact ⟨rfl, rfl⟩
theorem write_nil (w : World) (o : Int) (v : Value) : Calls Try.prog 31 #[.pointer none, .int .i64 o, v] w (NumP 7 w) := by
  have HO := Lib.hid (open_nil w)
  go_enter Try.func31, Try.ntmps31
  go_wp2_with (go_at_call 18; refine HO.out.mono ?_; rintro e w' ⟨rfl, rfl⟩)
  go_ret
  exact ⟨rfl, rfl⟩
theorem write_shut {w : World} {F : Nat → Prop} {g : Nat} {iv rv : Value} {img : List UInt8} {ps : List RP} (h : LogF w F g iv rv img ps false) (o : Int) (v : Value) : Calls Try.prog 31 #[.pointer (some ⟨g, 0, none⟩), .int .i64 o, v] w (NumP 7 w) := by
  have HO := Lib.hid (open_any h)
  clear h
  go_enter Try.func31, Try.ntmps31
  go_wp2_with (go_at_call 18; refine HO.out.mono ?_; rintro e w' ⟨rfl, rfl⟩)
  go_ret
  exact ⟨rfl, rfl⟩
set_option maxRecDepth 100000 in
theorem write_range {w : World} {F : Nat → Prop} {g : Nat} {iv rv bv : Value} {img b : List UInt8} {ps : List RP} (h : LogF w F g iv rv img ps true) (o : Int) (hb : RdW w bv b) (hr : o < 0 ∨ (img.length : Int) - b.length < o) : Calls Try.prog 31 #[.pointer (some ⟨g, 0, none⟩), .int .i64 o, bv] w (NumP 2 w) := by
  have HO := Lib.hid (open_any h)
  have q : w.cell? ⟨g, 0, none⟩ = some iv := cell_row h.blk
  have hs1 := h.image.rd.small
  have hs2 := hb.small
  obtain ⟨a, c, rfl⟩ := h.image.rd.len
  obtain ⟨ab, cb, rfl⟩ := hb.len
  clear h hb
  by_cases h0 : o < 0
  · clear hr
    go_enter Try.func31, Try.ntmps31
    go_wp2_with (go_at_call 18; refine HO.out.mono ?_; rintro e w' ⟨rfl, rfl⟩)
    go_ret
    exact ⟨rfl, rfl⟩
  · have h1 : (img.length : Int) - b.length < o := by omega
    clear hr
    go_enter Try.func31, Try.ntmps31
    go_wp2_with (go_at_call 18; refine HO.out.mono ?_; rintro e w' ⟨rfl, rfl⟩)
    go_ret
    exact ⟨rfl, rfl⟩
set_option maxRecDepth 100000 in
set_option maxHeartbeats 2000000 in
theorem write_any {w : World} {F : Nat → Prop} {g : Nat} {iv rv bv : Value} {img b : List UInt8} {ps : List RP} (h : LogF w F g iv rv img ps true) (o : Nat) (hb : RdW w bv b) (hr : o + b.length ≤ img.length) (hnb : b ≠ [] → ∀ k, bv.ownBlock = some k → ¬ F k) (hi : img.length ≤ 140737488355328) (hn : ps.length + 1 ≤ 1000000) :
    Calls Try.prog 31 #[.pointer (some ⟨g, 0, none⟩), .int .i64 (o : Int), bv] w (LogP 0 w F g (putAt img o b) (ps.map (·.1) ++ [((o : Int), (img.length : Int), sub img o (o + b.length))]) true) := by
  have HO := Lib.hid (open_any h)
  have q : w.cell? ⟨g, 0, none⟩ = some iv := cell_row h.blk
  have hs1 := h.image.rd.small
  have hs2 := hb.small
  have HK := Lib.hid (keep_any h o (o + b.length) (by omega) hr hi hn)
  have hcase : (img.length = 0 ∧ iv = .slice none 0 0) ∨ (∃ g1 ci, iv = .slice (some ⟨g1, 0, none⟩) img.length ci ∧ img.length ≤ ci ∧ (ci : Int) ≤ 9223372036854775807) := by
    rcases h.image.2 with ⟨h0, hn0⟩ | ⟨g1, cap, cu, h0, _, _, hnc, hcm, _⟩
    · exact .inl ⟨hn0, h0⟩
    · simp only [maxLen] at hcm
      exact .inr ⟨g1, cap, h0, by omega, by omega⟩
  obtain ⟨ab, cb, rfl⟩ := hb.len
  have HB := Lib.hid hb
  have HNB := Lib.hid hnb
  have hob : IntKind.i64.wrap ((o : Int) + b.length) = (o : Int) + b.length := IntWalk.i64_in _ (by omega)
  have hlen : (o : Int) ≤ (img.length : Int) - b.length := by omega
  have hro : ((o + b.length : Nat) : Int) = (o : Int) + b.length := by omega
  have HR : Hid (o + b.length ≤ img.length) := Lib.hid hr
  rw [hro] at HK
  clear h hb hnb hro
  rcases hcase with ⟨hz, rfl⟩ | ⟨g1, ci, rfl, hLc, hcm⟩
  · obtain rfl : o = 0 := by omega
    have hob0 : b = [] := List.eq_nil_of_length_eq_zero (by omega)
    have HZ := Lib.hid hob0
    rw [hz] at hs1 hlen
    have HZI := Lib.hid hz
    have hk0 := HK.out
    rw [show ((0 : Nat) : Int) = 0 from rfl, Int.zero_add] at hk0
    have HK := Lib.hid hk0
    clear hz hob0 hr hk0
    go_enter Try.func31, Try.ntmps31
    go_wp2_with (go_at_call 18; refine HO.out.mono ?_; rintro e w' ⟨rfl, rfl⟩)
    (with_reducible refine HK.out.mono ?_)
    rintro e w1 ⟨⟨v1, rfl⟩, F1, rv1, dv1, hl1, hf1⟩
    have HL1 := Lib.hid hl1
    have HF1 := Lib.hid hf1
    have q1 : w1.cell? ⟨g, 0, none⟩ = some (.slice none 0 0) := cell_row hl1.blk
    clear hl1 hf1
    go_wp2_with (refine copy_put_step rfl (.tmp 36) (.tmp 37) rfl 0 (.slice none 0 0) img b 0 none ab 0 0 b.length cb rfl rfl HL1.out.image (HB.out.foot HF1.out HNB.out) HR.out (by rw [HZI.out]) (fun h => absurd HZ.out h) ?_; go_must (intro w2 ho2 hg2; have HO2 := Lib.hid ho2; have HG2 := Lib.hid hg2; clear ho2 hg2))
    go_ret
    exact ⟨rfl, F1, _, rv1, _, HL1.out.setImage HG2.out HO2.out, by simp, HF1.out.trans (Foot.of_gb HG2.out (fun k hk => (HL1.out.fi k hk).1))⟩
  · by_cases hco : ci = o
    · have HZ : Hid (b = []) := Lib.hid (List.eq_nil_of_length_eq_zero (by omega))
      subst hco
      go_enter Try.func31, Try.ntmps31
      go_wp2_with (go_at_call 18; refine HO.out.mono ?_; rintro e w' ⟨rfl, rfl⟩)
      (with_reducible refine HK.out.mono ?_)
      rintro e w1 ⟨⟨v1, rfl⟩, F1, rv1, dv1, hl1, hf1⟩
      have HL1 := Lib.hid hl1
      have HF1 := Lib.hid hf1
      have q1 : w1.cell? ⟨g, 0, none⟩ = some (.slice (some ⟨g1, 0, none⟩) img.length ci) := cell_row hl1.blk
      clear hl1 hf1
      go_wp2_with (refine copy_put_step rfl (.tmp 36) (.tmp 37) rfl 0 (.slice (some ⟨g1, 0, none⟩) img.length ci) img b ci (some ⟨g1, 0, none⟩) ab 0 0 b.length cb rfl rfl HL1.out.image (HB.out.foot HF1.out HNB.out) HR.out (by first | rfl | omega) (fun h => absurd HZ.out h) ?_; go_must (intro w2 ho2 hg2; have HO2 := Lib.hid ho2; have HG2 := Lib.hid hg2; clear ho2 hg2))
      go_ret
      exact ⟨rfl, F1, _, rv1, _, HL1.out.setImage HG2.out HO2.out, by simp, HF1.out.trans (Foot.of_gb HG2.out (fun k hk => (HL1.out.fi k hk).1))⟩
    · have hco2 : o < ci := by omega
      go_enter Try.func31, Try.ntmps31
      go_wp2_with (go_at_call 18; refine HO.out.mono ?_; rintro e w' ⟨rfl, rfl⟩)
      (with_reducible refine HK.out.mono ?_)
      rintro e w1 ⟨⟨v1, rfl⟩, F1, rv1, dv1, hl1, hf1⟩
      have HL1 := Lib.hid hl1
      have HF1 := Lib.hid hf1
      have q1 : w1.cell? ⟨g, 0, none⟩ = some (.slice (some ⟨g1, 0, none⟩) img.length ci) := cell_row hl1.blk
      clear hl1 hf1
      go_wp2_with (refine copy_put_step rfl (.tmp 36) (.tmp 37) rfl 0 (.slice (some ⟨g1, 0, none⟩) img.length ci) img b o (some ⟨g1, o, none⟩) ab (img.length - o) (ci - o) b.length cb rfl rfl HL1.out.image (HB.out.foot HF1.out HNB.out) HR.out (by first | rfl | omega) (fun _ => ⟨g1, ci, rfl, rfl⟩) ?_; go_must (intro w2 ho2 hg2; have HO2 := Lib.hid ho2; have HG2 := Lib.hid hg2; clear ho2 hg2))
      go_ret
      exact ⟨rfl, F1, _, rv1, _, HL1.out.setImage HG2.out HO2.out, by simp, HF1.out.trans (Foot.of_gb HG2.out (fun k hk => (HL1.out.fi k hk).1))⟩
end Go.Proofs.Ytfdkmncjcehdkaa
