/-
  Reader.Bytes.
-/
import Derived.Test.YtfldooljmjeaoaaVC
import Derived.Deep.DeepMust
import Derived.Deep.RegionWith
namespace Go.Proofs.Ytfldooljmjeaoaa
open Go.RowKit Go.Shelf

def PartsE {α : Type} (w : World) (b : Nat) (sl : Value) (bs : List UInt8) (good : Value → Prop) (G : α → Value → World → Prop) (r : Option (α × Nat)) (e : Ending) (w' : World) : Prop :=
  match r with
  | some (x, q) => ∃ v, e = .returned v ∧ good v ∧ G x v w' ∧ IsR w' b sl bs q false ∧ w.grownBy w' (some b)
  | none => ∃ v q, e = .returned v ∧ good v ∧ IsR w' b sl bs q true ∧ w.grownBy w' (some b)
def ROutE {α : Type} (w : World) (b : Nat) (sl : Value) (bs : List UInt8) (p : Nat) (zero : Value) (G : α → Value → World → Prop) (r : Option (α × Nat)) (e : Ending) (w' : World) : Prop :=
  match r with
  | some (x, q) => ∃ v, e = .returned v ∧ G x v w' ∧ IsR w' b sl bs q false ∧ w.grownBy w' (some b)
  | none => e = .returned zero ∧ IsR w' b sl bs p true ∧ w.grownBy w' (some b)

theorem ROutE.from {α : Type} {w w1 w' : World} {b : Nat} {sl : Value} {bs : List UInt8} {p : Nat} {z : Value} {G : α → Value → World → Prop} {r : Option (α × Nat)} {e : Ending} (h : ROutE w1 b sl bs p z G r e w') (hg : w.grownBy w1 none) : ROutE w b sl bs p z G r e w' := by
  cases r with
  | none => exact ⟨h.1, h.2.1, gb_same (gb_none _ hg) h.2.2⟩
  | some r => obtain ⟨v, h1, h2, h3, h4⟩ := h; exact ⟨v, h1, h2, h3, gb_same (gb_none _ hg) h4⟩
theorem ROutE.ret {α : Type} {w w' : World} {b : Nat} {sl : Value} {bs : List UInt8} {p : Nat} {z : Value} {G : α → Value → World → Prop} {r : Option (α × Nat)} {e : Ending} (h : ROutE w b sl bs p z G r e w') : ∃ v, e = .returned v ∧ ROutE w b sl bs p z G r (.returned v) w' := by
  cases r with
  | none => exact ⟨z, h.1, rfl, h.2⟩
  | some r => obtain ⟨v, h1, h2⟩ := h; exact ⟨v, h1, v, rfl, h2⟩

set_option maxRecDepth 100000 in
set_option maxHeartbeats 400000 in
theorem valueE_s_byte {α : Type} (b : Nat) (sl : Value) (bs : List UInt8) (p : Nat) (f : Bool) (w : World) (K : FuncId) (caps : Array Value) (G : α → Value → World → Prop) (r : Option (α × Nat)) (h : IsR w b sl bs p f)
    (hK : ∀ (args : Array Value) (w : World), (callFunc K args).run Try.prog w = .ok (.enter K args) w)
    (HP : f = false → ∀ W, W = w → Calls Try.prog K caps W (PartsE W b sl bs G_s_byte G r)) :
    Calls Try.prog 66 #[.pointer (some ⟨b, 0, none⟩), .func (.func K) #[] caps] w (ROutE w b sl bs p (.slice none 0 0) G (unl f r)) := by
  have c1 := h.c1
  have c2 := h.c2
  have H := Lib.hid h
  cases f with
  | true =>
    clear h c1 HP hK
    go_enter Try.func66, Try.ntmps66
    go_wp2
    go_ret
    exact ⟨rfl, H.out, gb_refl _ _⟩
  | false =>
    have HQ := Lib.hid (HP rfl w rfl)
    rw [unl_f]
    clear h HP
    cases r with
    | none =>
      go_enter Try.func66, Try.ntmps66
      go_wp2_with fail
      refine HQ.out.mono ?_
      rintro e w1 ⟨v, q, rfl, ⟨a, n, c, rfl⟩, hR, hg⟩
      have d1 := hR.c1
      have d2 := hR.c2
      have f1 := hR.fr 1
      go_wp2
      go_ret
      exact ⟨rfl, hR.back p H.out.le, gb_same hg (gb_setCell _ _ _)⟩
    | some r =>
      obtain ⟨x0, q⟩ := r
      go_enter Try.func66, Try.ntmps66
      go_wp2_with fail
      refine HQ.out.mono ?_
      rintro e w1 ⟨v, rfl, ⟨a, n, c, rfl⟩, hG, hR, hg⟩
      have d1 := hR.c1
      have d2 := hR.c2
      have f1 := hR.fr 1
      have HG := Lib.hid hG
      clear hG
      go_wp2
      go_ret
      exact ⟨_, rfl, HG.out, hR, hg⟩


def rdBytes (most : Int) (bs : List UInt8) (p : Nat) : Option (List UInt8 × Nat) :=
  match rdBounded 0 most bs p with
  | none => none
  | some (n, q) => if bs.length - q < n.toNat then none else some ((bs.drop q).take n.toNat, q + n.toNat)

theorem step_app {ops : Array Oper} {o : Oper} {a : Act} {w : World} {K : Act → World → Prop} {Q : Exit → Act → World → Prop} {E : Prop} (hgd : o.guard = none) (s x : Operand)
    (ho : o.op = .call { callee := .builtin .append, args := #[s, x], argTypes := #[22, 22] })
    (B : Nat) (v src : Value) (l m : List UInt8) (hs : a.eval s = v) (hx : a.eval x = src) (hown : Own w B v l) (hsrc : Rd w src m) (hB : B ≤ w.heap.size) (hb : l.length + m.length ≤ 140737488355328)
    (h : ∀ v' w', Own w' B v' (l ++ m) → w.grownBy w' v.ownBlock → Fr w v v' → K (a.put o.dst v') w') :
    if Region.wanted o (yielded ops a.tmps) = true then Oper.wp Try.prog o a w K Q else E := by
  have hw : Region.wanted o (yielded ops a.tmps) = true := by simp [Region.wanted, hgd]
  rw [if_pos hw]
  obtain ⟨v', w', hr, h2, h3, h4⟩ := run_app w B v src l m o.type hown hsrc hB hb
  unfold Oper.wp execOp
  simp only [ho, resolve, invoke, builtin, Sem.run_bind, Sem.run_pure, Result.andThen_ok, List.map_toArray, List.map_cons, List.map_nil, hs, hx, hr]
  exact h v' w' h2 h3 h4

theorem nx_bad {w : World} {b : Nat} {sl : Value} {bs : List UInt8} {p n : Nat} {f : Bool} (h : IsR w b sl bs p f) (hn : n ≤ 9223372036854775807) (hc : f = true ∨ bs.length - p < n) :
    Calls Try.prog 68 #[.pointer (some ⟨b, 0, none⟩), .int .i64 (n : Int)] w (NextBad w b sl bs p) := by
  have := next_any b sl bs p f n w h hn
  unfold NextPost at this
  rwa [if_pos hc] at this
theorem nx_good {w : World} {b : Nat} {sl : Value} {bs : List UInt8} {p n : Nat} (h : IsR w b sl bs p false) (hn : n ≤ 9223372036854775807) (hc : ¬ bs.length - p < n) :
    Calls Try.prog 68 #[.pointer (some ⟨b, 0, none⟩), .int .i64 (n : Int)] w (NextGood w b sl bs p n) := by
  have := next_any b sl bs p false n w h hn
  unfold NextPost at this
  rwa [if_neg (by simpa using hc)] at this

theorem rdBounded_range {least most : Int} {bs : List UInt8} {p : Nat} {n : Int} {q : Nat} (h : rdBounded least most bs p = some (n, q)) : least ≤ n ∧ n ≤ most := by
  unfold rdBounded at h
  split at h
  · cases h
  · split at h
    · cases h
    · simp only [Option.some.injEq, Prod.mk.injEq] at h
      omega

theorem drew_box {w w1 : World} {k b : Nat} {o : Obj} (h : w.heap[k]? = some o) (hg : w.drew.grownBy w1 (some b)) (hne : k ≠ b) : w1.heap[k]? = some o := box_kept (w := w.drew) h hg hne

theorem Rd.lenN {w : World} {v : Value} {l : List UInt8} {n : Nat} (h : Rd w v l) (hn : l.length = n) : ∃ a c, v = .slice a n c := by
  subst hn; exact h.len
theorem sub_len2 {bs : List UInt8} {q m : Nat} (h : ¬ bs.length - q < m) : ((bs.drop q).take m).length = m := by
  rw [List.length_take, List.length_drop]; omega
theorem sub_len {bs : List UInt8} {q m : Nat} (h : bs.length ≤ 1099511627776) : ([] : List UInt8).length + ((bs.drop q).take m).length ≤ 140737488355328 := by
  rw [List.length_take, List.length_drop, List.length_nil]; omega
set_option maxRecDepth 100000 in
set_option maxHeartbeats 1000000 in
theorem bytes1 (b : Nat) (sl : Value) (bs : List UInt8) (p : Nat) (w : World) (most : Int) (B k0 k1 : Nat) (h : IsR w b sl bs p false) (hB : B ≤ w.heap.size) (hm : most ≤ 9223372036854775807)
    (b0 : w.heap[k0]? = some (.cells #[.pointer (some ⟨b, 0, none⟩)] 62 (0, 0))) (b1 : w.heap[k1]? = some (.cells #[.int .i64 most] 3 (0, 0)))
    (n0 : k0 ≠ b) (n1 : k1 ≠ b) :
    Calls Try.prog 67 #[.pointer (some ⟨k0, 0, none⟩), .pointer (some ⟨k1, 0, none⟩)] w (PartsE w b sl bs G_s_byte (fun l v w' => Own w' B v l) (rdBytes most bs p)) := by
  have c0 := cell_of_one b0
  have c1 := cell_of_one b1
  have HB := Lib.hid (fun W (hg : w.grownBy W none) => bounded_any b sl bs p false W 0 most (h.grown hg))
  have B0 := Lib.hid b0
  have B1 := Lib.hid b1
  have hsm := Lib.hid h.sm
  have r0 := h.rd.grown (gb_drew w none)
  clear b0 b1 h
  unfold rdBytes
  rw [unl_f] at HB
  have hrng : ∀ n q, rdBounded 0 most bs p = some (n, q) → 0 ≤ n := fun n q hh => (rdBounded_range hh).1
  have hrle : ∀ n q, rdBounded 0 most bs p = some (n, q) → n ≤ 9223372036854775807 := fun n q hh => Int.le_trans (rdBounded_range hh).2 hm
  generalize rdBounded 0 most bs p = r at *
  cases r with
  | none =>
    clear hrng hm hrle
    go_enter Try.func67, Try.ntmps67
    go_wp2_with fail
    go_region_held3 (fun w' => w'.cell? ⟨k0, 0, none⟩ = some (.pointer (some ⟨b, 0, none⟩)) ∧ w'.cell? ⟨k1, 0, none⟩ = some (.int .i64 most) ∧ Rd w' sl bs) (go_keep) (first | (go_at_call 28; go_must (refine (HB.out _ (gb_drew _ _)).mono ?_; rintro e w1 ⟨rfl, hR, hg⟩; have d0 := cell_of_one (drew_box B0.out hg n0); have d1 := cell_of_one (drew_box B1.out hg n1); have r1 := hR.rd; have HR := Lib.hid hR; clear hR)) | (go_at_call 68; go_must (refine (nx_bad (n := 0) HR.out (by omega) (.inl rfl)).mono ?_; rintro e w2 ⟨rfl, hR2, hg2⟩; have r2 := hR2.rd; have HR2 := Lib.hid hR2; clear hR2; have e0 := cell_of_one (box_kept (drew_box B0.out hg n0) hg2 n0); have e1 := cell_of_one (box_kept (drew_box B1.out hg n1) hg2 n1))))
    all_goals go_wp2
    all_goals go_ret
    all_goals exact ⟨_, p, rfl, ⟨_, _, _, rfl⟩, HR2.out, gb_same (gb_same (gb_drew _ _) hg) hg2⟩
  | some r =>
    obtain ⟨n, q⟩ := r
    have hn := hrng n q rfl
    have hn2 := Lib.hid (hrle n q rfl)
    clear hrng hm hrle
    obtain ⟨m, rfl⟩ := Int.eq_ofNat_of_zero_le hn
    simp only [Int.toNat_natCast]
    by_cases hc : bs.length - q < m
    · rw [if_pos hc]
      go_enter Try.func67, Try.ntmps67
      go_wp2_with fail
      go_region_held3 (fun w' => w'.cell? ⟨k0, 0, none⟩ = some (.pointer (some ⟨b, 0, none⟩)) ∧ w'.cell? ⟨k1, 0, none⟩ = some (.int .i64 most) ∧ Rd w' sl bs) (go_keep) (first | (go_at_call 28; go_must (refine (HB.out _ (gb_drew _ _)).mono ?_; rintro e w1 ⟨rfl, hR, hg⟩; have d0 := cell_of_one (drew_box B0.out hg n0); have d1 := cell_of_one (drew_box B1.out hg n1); have r1 := hR.rd; have HR := Lib.hid hR; clear hR)) | (go_at_call 68; go_must (refine (nx_bad (n := m) HR.out (by have := hn2.out; omega) (.inr hc)).mono ?_; rintro e w2 ⟨rfl, hR2, hg2⟩; have r2 := hR2.rd; have HR2 := Lib.hid hR2; clear hR2; have e0 := cell_of_one (box_kept (drew_box B0.out hg n0) hg2 n0); have e1 := cell_of_one (box_kept (drew_box B1.out hg n1) hg2 n1))))
      all_goals go_wp2
      all_goals go_ret
      all_goals exact ⟨_, q, rfl, ⟨_, _, _, rfl⟩, HR2.out, gb_same (gb_same (gb_drew _ _) hg) hg2⟩
    · rw [if_neg hc]
      go_enter Try.func67, Try.ntmps67
      go_wp2_with fail
      go_region_held3 (fun w' => w'.cell? ⟨k0, 0, none⟩ = some (.pointer (some ⟨b, 0, none⟩)) ∧ w'.cell? ⟨k1, 0, none⟩ = some (.int .i64 most) ∧ Rd w' sl bs) (go_keep) (first | (go_at_call 28; go_must (refine (HB.out _ (gb_drew _ _)).mono ?_; rintro e w1 ⟨rfl, hR, hg⟩; have d0 := cell_of_one (drew_box B0.out hg n0); have d1 := cell_of_one (drew_box B1.out hg n1); have r1 := hR.rd; have HR := Lib.hid hR; clear hR)) | (go_at_call 68; go_must (refine (nx_good (n := m) HR.out (by have := hn2.out; omega) hc).mono ?_; rintro e w2 ⟨a2, c2, rfl, hrd, hrw, hab, hR2, hg2⟩; have r2 := hR2.rd; have HR2 := Lib.hid hR2; clear hR2; have e0 := cell_of_one (box_kept (drew_box B0.out hg n0) hg2 n0); have e1 := cell_of_one (box_kept (drew_box B1.out hg n1) hg2 n1); have HRD := Lib.hid hrd; clear hrd hrw; have HAB := Lib.hid hab; clear hab)) | (refine step_app rfl (.const (.slice none 0 0)) (.tmp 7) rfl B (.slice none 0 0) (.slice a2 m c2) [] ((bs.drop q).take m) rfl rfl (Own.nil _ _) HRD.out (Nat.le_trans hB (Nat.le_trans hg.size hg2.size)) (sub_len hsm.out) ?_; intro v3 w3 ho3' hg3 hf3; have ho3 : Own w3 B v3 ((bs.drop q).take m) := ho3'; clear ho3'; obtain ⟨a3, c3, rfl⟩ := ho3.rd.lenN (sub_len2 hc); have g3 : w2.grownBy w3 none := hg3; have e2 := (g3.cell e0 (by simp)); have e3 := (g3.cell e1 (by simp)); have r3 := r2.grown g3; clear hg3; have HO3 := Lib.hid ho3; clear ho3))
      all_goals go_wp2
      all_goals go_ret
      all_goals exact ⟨_, rfl, ⟨_, _, _, rfl⟩, HO3.out, (HR2.out.grown g3), gb_trans0 (gb_same (gb_same (gb_drew _ _) hg) hg2) g3⟩
def strO (r : Option (List UInt8 × Nat)) : Option (Value × Nat) := r.map fun r => (.string (str r.1), r.2)

set_option maxRecDepth 100000 in
set_option maxHeartbeats 400000 in
theorem bytes_any (b : Nat) (sl : Value) (bs : List UInt8) (p : Nat) (f : Bool) (w : World) (most : Int) (B : Nat) (h : IsR w b sl bs p f) (hB : B ≤ w.heap.size) (hmo : most ≤ 9223372036854775807) :
    Calls Try.prog 53 #[.pointer (some ⟨b, 0, none⟩), .int .i64 most] w (ROutE w b sl bs p (.slice none 0 0) (fun l v w' => Own w' B v l) (unl f (rdBytes most bs p))) := by
  have hm := hmf
  have hlt := h.lt
  have H := Lib.hid h
  clear h
  go_enter Try.func53, Try.ntmps53
  go_wp2_with fail
  have hg3 : w.grownBy ((w.alloc (.cells #[.pointer (some ⟨b, 0, none⟩)] 62)).alloc (.cells #[.int .i64 most] 3)) none := gb_of_below (by go_grown)
  refine (valueE_s_byte b sl bs p f _ _ _ (fun l v w' => Own w' B v l) (rdBytes most bs p) (H.out.grown hg3) (fun _ _ => rfl) ?_).mono ?_
  · rintro rfl W rfl
    exact bytes1 b sl bs p _ most B _ _ (H.out.grown hg3) (Nat.le_trans hB hg3.size) hmo (blk2_0 _ _ _) (blk2_1 _ _ _) (by omega) (by omega)
  · rintro e w' hr
    obtain ⟨v, rfl, hr⟩ := hr.ret
    have HR := Lib.hid (hr.from hg3)
    clear hr
    go_wp2
    go_ret
    exact HR.out
end Go.Proofs.Ytfldooljmjeaoaa
