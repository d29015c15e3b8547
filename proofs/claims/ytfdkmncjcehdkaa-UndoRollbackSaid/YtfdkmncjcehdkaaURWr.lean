/-
  The reference's Written and Taken: the walks.
-/
import Derived.Test.YtfdkmncjcehdkaaURSmall
namespace Go.Proofs.Ytfdkmncjcehdkaa
open Go.RowKit

theorem Rd.drop {w : World} {b off n c : Nat} {l : List UInt8} (h : Rd w (.slice (some ⟨b, off, none⟩) n c) l) {k : Nat} (hk : k ≤ l.length) :
    Rd w (.slice (some ⟨b, off + k, none⟩) (l.length - k) (c - k)) (l.drop k) ∧ (c = k → Rd w (.slice (some ⟨b, off, none⟩) (l.length - k) (c - k)) (l.drop k)) := by
  rcases h with ⟨h0, _⟩ | ⟨b', off', cap, h0, h1, h2, h3⟩
  · cases h0
  · simp only [Value.slice.injEq, Option.some.injEq, Addr.mk.injEq, and_true] at h0
    obtain ⟨⟨rfl, rfl⟩, rfl, rfl⟩ := h0
    refine ⟨.inr ⟨b, off + k, c - k, by rw [List.length_drop], by rw [List.length_drop]; omega, by omega, fun j x hj => ?_⟩, fun e => .inr ⟨b, off, c - k, by rw [List.length_drop], by rw [List.length_drop]; omega, by omega, fun j x hj => ?_⟩⟩
    · rw [List.getElem?_drop] at hj
      rw [Nat.add_assoc]
      exact h3 _ _ hj
    · rw [List.getElem?_drop, List.getElem?_eq_none (by omega)] at hj
      cases hj
theorem app_bytes_op {o : Oper} {a : Act} {w : World} {K : Act → World → Prop} {Q : Exit → Act → World → Prop} (s x : Operand)
    (ho : o.op = .call { callee := .builtin .append, args := #[s, x], argTypes := #[22, 22] })
    (B : Nat) (v src : Value) (l m : List UInt8) (hs : a.eval s = v) (hx : a.eval x = src) (hown : Own w B v l) (hsrc : RdW w src m) (hB : B ≤ w.heap.size) (hb : l.length + m.length ≤ 140737488355328)
    (hK : ∀ v' w', Own w' B v' (l ++ m) → w.grownBy w' v.ownBlock → Fr w v v' → K (a.put o.dst v') w') : Oper.wp Try.prog o a w K Q := by
  obtain ⟨v', w', hr, h2, h3, h4⟩ := run_appW w B v src l m o.type hown hsrc hB hb
  unfold Oper.wp execOp
  simp only [ho, resolve, invoke, builtin, Sem.run_bind, Sem.run_pure, Result.andThen_ok, List.map_toArray, List.map_cons, List.map_nil, hs, hx, hr]
  exact hK _ _ h2 h3 h4
theorem RdW.kept' {w w' : World} {v : Value} {l : List UInt8} {row : Option Nat} (h : RdW w v l) (hg : w.grownBy w' row) (hr : ∀ k, row = some k → w.heap.size ≤ k) : RdW w' v l :=
  h.kept hg (fun hl k hk e => by have h1 := h.blk hl k hk; have h2 := hr k e; omega)
theorem Rd.kept' {w w' : World} {v : Value} {l : List UInt8} {row : Option Nat} (h : Rd w v l) (hg : w.grownBy w' row) (hr : ∀ k, row = some k → w.heap.size ≤ k) : RdW w' v l := (Rd.w h).kept' hg hr
set_option maxRecDepth 100000 in
set_option maxHeartbeats 4000000 in
theorem rwritten_any (v vx : Value) (l x : List UInt8) (o : Nat) (w : World) (hv : Rd w v l) (hx : RdW w vx x) (ho : o + x.length ≤ l.length) (hl : l.length ≤ 1099511627776) :
    Calls Try.prog 59 #[v, .int .i64 (o : Int), vx] w (OwnP w (putAt l o x)) := by
  obtain ⟨ax, cx, rfl⟩ := hx.len
  have HX := Lib.hid hx
  have HO := Lib.hid (Own.lit w #[] [] 0 w.heap.size rfl rfl (Nat.le_refl _) (Nat.zero_le _))
  have hob : IntKind.i64.wrap ((o : Int) + x.length) = (o : Int) + x.length := IntWalk.i64_in _ (by omega)
  have htn : ((o : Int) + (x.length : Int)).toNat = o + x.length := by omega
  have hnn : 0 ≤ (o : Int) + (x.length : Int) := by omega
  have hle : o + x.length ≤ l.length := ho
  have hli : (o : Int) + (x.length : Int) ≤ l.length := by omega
  have hol : o ≤ l.length := by omega
  have HTL : Hid ((l.take o).length = o) := Lib.hid (by rw [List.length_take]; omega)
  have HLE := Lib.hid (And.intro ho hl)
  have HPE : Hid (putAt l o x = l.take o ++ x ++ l.drop (o + x.length)) := Lib.hid rfl
  have hcase : (v = .slice none 0 0 ∧ l.length = 0) ∨ (∃ b off c, v = .slice (some ⟨b, off, none⟩) l.length c ∧ l.length ≤ c ∧ (c : Int) ≤ 9223372036854775807) := by
    rcases hv with ⟨rfl, rfl⟩ | ⟨b, off, cap, h0, h1, h2, _⟩
    · exact .inl ⟨rfl, rfl⟩
    · simp only [maxLen] at h2; exact .inr ⟨b, off, cap, h0, h1, by omega⟩
  have HV := Lib.hid hv
  clear hv hx ho
  rcases hcase with ⟨rfl, hl0⟩ | ⟨b, off, c, rfl, hlc, hcm⟩
  · obtain rfl : o = 0 := by omega
    have hx0 : x = [] := List.eq_nil_of_length_eq_zero (by omega)
    have hln : l = [] := List.eq_nil_of_length_eq_zero hl0
    subst hx0 hln
    clear hob htn hnn hli
    go_enter Try.func59, Try.ntmps59
    go_wp2_with (at_builtin; refine app_bytes rfl _ _ rfl w.heap.size _ (.slice none 0 0) [] ([]) rfl rfl HO.out (.inl ⟨rfl, rfl⟩) (by simp) (by simp) ?_; go_must (intro v2 w2 ho2 hg2 hf2; rw [List.nil_append] at ho2; have HO2 := Lib.hid ho2; have HG2 : Hid (w.grownBy w2 none) := Lib.hid (gb_trans (gb_alloc _ _ none) hg2 (fun k hk => .inr (HO.out.lt k hk).1)); clear ho2 hg2 hf2))
    refine region_KL (fuel := 11) (listed := #[false, false, false, false, false, false, false, false, false, false, false]) (fun _ => True) 10 (by kernel_rfl) rfl (by kernel_rfl) ?_
    refine wpAnyK_takeL (i := 0) (d := 13) (v := ?_) (T' := ?_) (listed' := #[true, false, false, false, false, false, false, false, false, false, false]) rfl rfl (by kernel_rfl) (fun _ _ _ h => h) rfl (Or.inl ⟨by rfl, ?_⟩) ?_ trivial ?_
    rotate_left 2
    · intro w hS; clear hS; go_simp; rfl
    · simp only [List.setIfInBounds_toArray, List.set_cons_succ, List.set_cons_zero]; rfl
    refine wpAnyK_takeL (i := 1) (d := 14) (v := ?_) (T' := ?_) (listed' := #[true, true, false, false, false, false, false, false, false, false, false]) rfl rfl (by kernel_rfl) (fun _ _ _ h => h) rfl (Or.inl ⟨by rfl, ?_⟩) ?_ trivial ?_
    rotate_left 2
    · intro w hS; clear hS; go_simp; rfl
    · simp only [List.setIfInBounds_toArray, List.set_cons_succ, List.set_cons_zero]; rfl
    refine wpAnyK_takeL (i := 3) (d := 16) (v := ?_) (T' := ?_) (listed' := #[true, true, false, true, false, false, false, false, false, false, false]) rfl rfl (by kernel_rfl) (fun _ _ _ h => h) rfl (Or.inl ⟨by rfl, ?_⟩) ?_ trivial ?_
    rotate_left 2
    · intro w hS; clear hS; go_simp; rfl
    · simp only [List.setIfInBounds_toArray, List.set_cons_succ, List.set_cons_zero]; rfl
    refine wpAnyK_takeL (i := 4) (d := 17) (v := ?_) (T' := ?_) (listed' := #[true, true, false, true, true, false, false, false, false, false, false]) rfl rfl (by kernel_rfl) (fun _ _ _ h => h) rfl (Or.inl ⟨by rfl, ?_⟩) ?_ trivial ?_
    rotate_left 2
    · intro w hS; clear hS; go_simp; rfl
    · simp only [List.setIfInBounds_toArray, List.set_cons_succ, List.set_cons_zero]; rfl
    refine wpAnyK_takeL (i := 5) (d := 18) (v := ?_) (T' := ?_) (listed' := #[true, true, false, true, true, true, false, false, false, false, false]) rfl rfl (by kernel_rfl) (fun _ _ _ h => h) rfl (Or.inl ⟨by rfl, ?_⟩) ?_ trivial ?_
    rotate_left 2
    · intro w hS; clear hS; go_simp; rfl
    · simp only [List.setIfInBounds_toArray, List.set_cons_succ, List.set_cons_zero]; rfl
    refine wpAnyK_takeL (i := 6) (d := 19) (v := ?_) (T' := ?_) (listed' := #[true, true, false, true, true, true, true, false, false, false, false]) rfl rfl (by kernel_rfl) (fun _ _ _ h => h) rfl (Or.inl ⟨by rfl, ?_⟩) ?_ trivial ?_
    rotate_left 2
    · intro w hS; clear hS; go_simp; rfl
    · simp only [List.setIfInBounds_toArray, List.set_cons_succ, List.set_cons_zero]; rfl
    refine wpAnyK_takeL (i := 7) (d := 20) (v := ?_) (T' := ?_) (listed' := #[true, true, false, true, true, true, true, true, false, false, false]) rfl rfl (by kernel_rfl) (fun _ _ _ h => h) rfl (Or.inl ⟨by rfl, ?_⟩) ?_ trivial ?_
    rotate_left 2
    · intro w hS; clear hS; go_simp; rfl
    · simp only [List.setIfInBounds_toArray, List.set_cons_succ, List.set_cons_zero]; rfl
    refine wpAnyK_takeL (i := 8) (d := 21) (v := ?_) (T' := ?_) (listed' := #[true, true, false, true, true, true, true, true, true, false, false]) rfl rfl (by kernel_rfl) (fun _ _ _ h => h) rfl (Or.inl ⟨by rfl, ?_⟩) ?_ trivial ?_
    rotate_left 2
    · intro w hS; clear hS; go_simp; rfl
    · simp only [List.setIfInBounds_toArray, List.set_cons_succ, List.set_cons_zero]; rfl
    refine wpAnyK_oneL (i := 2) (listed' := #[true, true, true, true, true, true, true, true, true, false, false]) (by kernel_rfl) rfl (by rfl) rfl ?_
    intro K hK
    refine app_bytes_op _ _ rfl w.heap.size _ _ ([]) [] rfl rfl (HO2.out.grown (gb_drew _ _)) ((HX.out.grown HG2.out).grown (gb_drew _ _)) (by have := HG2.out.size; simpa using this) (by simp) ?_
    intro v3 w3 h3 hg3 hf3
    have HG3 : Hid (w.grownBy w3 none) := Lib.hid (gb_trans (gb_same HG2.out (gb_drew _ none)) hg3 (fun k hk => .inr (HO2.out.lt k hk).1))
    have HO3 := Lib.hid h3
    clear h3 hg3 hf3
    refine hK _ _ (fun _ => trivial) ?_
    clear hK K
    refine wpAnyK_oneL (i := 9) (listed' := #[true, true, true, true, true, true, true, true, true, true, false]) (by kernel_rfl) rfl (by rfl) rfl ?_
    intro K hK
    refine app_bytes_op _ _ rfl w.heap.size _ (.slice none 0 0) ([] ++ []) ([]) rfl rfl HO3.out (.inl (.inl ⟨rfl, rfl⟩)) (by have := HG3.out.size; exact this) (by simp) ?_
    intro v4 w4 h4 hg4 hf4
    have HG4 : Hid (w.grownBy w4 none) := Lib.hid (gb_trans HG3.out hg4 (fun k hk => .inr (HO3.out.lt k hk).1))
    have HO4 := Lib.hid h4
    clear h4 hg4 hf4
    refine hK _ _ (fun _ => trivial) ?_
    clear hK K
    refine wpAnyK_oneL (i := 10) (listed' := #[true, true, true, true, true, true, true, true, true, true, true]) (by kernel_rfl) rfl (by rfl) rfl ?_
    intro K hK
    go_simp
    refine hK _ _ (fun _ => trivial) ?_
    clear hK K
    refine wpAnyK_done (by kernel_rfl) ?_ _
    go_wp2
    go_ret
    exact ⟨_, rfl, by rw [HPE.out]; exact HO4.out, HG4.out⟩
  · have HT := Lib.hid (HV.out.take (m := o) hol)
    by_cases hco : c = o + x.length
    · have HD := Lib.hid ((HV.out.drop hle).2 hco)
      have HC := Lib.hid hco
      have hdz : l.length - (o + x.length) = 0 := by omega
      have hcz : c - (o + x.length) = 0 := by omega
      rw [hdz, hcz] at HD
      subst hco
      clear hdz hcz
      go_enter Try.func59, Try.ntmps59
      go_wp2_with (at_builtin; refine app_bytes rfl _ _ rfl w.heap.size _ (.slice (some ⟨b, off, none⟩) o (o + x.length)) [] (l.take o) rfl rfl HO.out (HT.out.grown (gb_alloc _ _ _)) (by simp) (by rw [HTL.out]; simp; have := HLE.out; omega) ?_; go_must (intro v2 w2 ho2 hg2 hf2; rw [List.nil_append] at ho2; have HO2 := Lib.hid ho2; have HG2 : Hid (w.grownBy w2 none) := Lib.hid (gb_trans (gb_alloc _ _ none) hg2 (fun k hk => .inr (HO.out.lt k hk).1)); clear ho2 hg2 hf2))
      refine region_KL (fuel := 11) (listed := #[false, false, false, false, false, false, false, false, false, false, false]) (fun _ => True) 10 (by kernel_rfl) rfl (by kernel_rfl) ?_
      refine wpAnyK_takeL (i := 0) (d := 13) (v := ?_) (T' := ?_) (listed' := #[true, false, false, false, false, false, false, false, false, false, false]) rfl rfl (by kernel_rfl) (fun _ _ _ h => h) rfl (Or.inl ⟨by rfl, ?_⟩) ?_ trivial ?_
      rotate_left 2
      · intro w hS; clear hS; go_simp; rfl
      · simp only [List.setIfInBounds_toArray, List.set_cons_succ, List.set_cons_zero]; rfl
      refine wpAnyK_takeL (i := 1) (d := 14) (v := ?_) (T' := ?_) (listed' := #[true, true, false, false, false, false, false, false, false, false, false]) rfl rfl (by kernel_rfl) (fun _ _ _ h => h) rfl (Or.inl ⟨by rfl, ?_⟩) ?_ trivial ?_
      rotate_left 2
      · intro w hS; clear hS; go_simp; rfl
      · simp only [List.setIfInBounds_toArray, List.set_cons_succ, List.set_cons_zero]; rfl
      refine wpAnyK_takeL (i := 3) (d := 16) (v := ?_) (T' := ?_) (listed' := #[true, true, false, true, false, false, false, false, false, false, false]) rfl rfl (by kernel_rfl) (fun _ _ _ h => h) rfl (Or.inl ⟨by rfl, ?_⟩) ?_ trivial ?_
      rotate_left 2
      · intro w hS; clear hS; go_simp; rfl
      · simp only [List.setIfInBounds_toArray, List.set_cons_succ, List.set_cons_zero]; rfl
      refine wpAnyK_takeL (i := 4) (d := 17) (v := ?_) (T' := ?_) (listed' := #[true, true, false, true, true, false, false, false, false, false, false]) rfl rfl (by kernel_rfl) (fun _ _ _ h => h) rfl (Or.inl ⟨by rfl, ?_⟩) ?_ trivial ?_
      rotate_left 2
      · intro w hS; clear hS; go_simp; rfl
      · simp only [List.setIfInBounds_toArray, List.set_cons_succ, List.set_cons_zero]; rfl
      refine wpAnyK_takeL (i := 5) (d := 18) (v := ?_) (T' := ?_) (listed' := #[true, true, false, true, true, true, false, false, false, false, false]) rfl rfl (by kernel_rfl) (fun _ _ _ h => h) rfl (Or.inl ⟨by rfl, ?_⟩) ?_ trivial ?_
      rotate_left 2
      · intro w hS; clear hS; go_simp; rfl
      · simp only [List.setIfInBounds_toArray, List.set_cons_succ, List.set_cons_zero]; rfl
      refine wpAnyK_takeL (i := 6) (d := 19) (v := ?_) (T' := ?_) (listed' := #[true, true, false, true, true, true, true, false, false, false, false]) rfl rfl (by kernel_rfl) (fun _ _ _ h => h) rfl (Or.inl ⟨by rfl, ?_⟩) ?_ trivial ?_
      rotate_left 2
      · intro w hS; clear hS; go_simp; rfl
      · simp only [List.setIfInBounds_toArray, List.set_cons_succ, List.set_cons_zero]; rfl
      refine wpAnyK_takeL (i := 7) (d := 20) (v := ?_) (T' := ?_) (listed' := #[true, true, false, true, true, true, true, true, false, false, false]) rfl rfl (by kernel_rfl) (fun _ _ _ h => h) rfl (Or.inl ⟨by rfl, ?_⟩) ?_ trivial ?_
      rotate_left 2
      · intro w hS; clear hS; go_simp; rfl
      · simp only [List.setIfInBounds_toArray, List.set_cons_succ, List.set_cons_zero]; rfl
      refine wpAnyK_takeL (i := 8) (d := 21) (v := ?_) (T' := ?_) (listed' := #[true, true, false, true, true, true, true, true, true, false, false]) rfl rfl (by kernel_rfl) (fun _ _ _ h => h) rfl (Or.inl ⟨by rfl, ?_⟩) ?_ trivial ?_
      rotate_left 2
      · intro w hS; clear hS; go_simp; rfl
      · simp only [List.setIfInBounds_toArray, List.set_cons_succ, List.set_cons_zero]; rfl
      refine wpAnyK_oneL (i := 2) (listed' := #[true, true, true, true, true, true, true, true, true, false, false]) (by kernel_rfl) rfl (by rfl) rfl ?_
      intro K hK
      refine app_bytes_op _ _ rfl w.heap.size _ _ (l.take o) x rfl rfl (HO2.out.grown (gb_drew _ _)) ((HX.out.grown HG2.out).grown (gb_drew _ _)) (by have := HG2.out.size; simpa using this) (by rw [HTL.out]; have := HLE.out; omega) ?_
      intro v3 w3 h3 hg3 hf3
      have HG3 : Hid (w.grownBy w3 none) := Lib.hid (gb_trans (gb_same HG2.out (gb_drew _ none)) hg3 (fun k hk => .inr (HO2.out.lt k hk).1))
      have HO3 := Lib.hid h3
      clear h3 hg3 hf3
      refine hK _ _ (fun _ => trivial) ?_
      clear hK K
      refine wpAnyK_oneL (i := 9) (listed' := #[true, true, true, true, true, true, true, true, true, true, false]) (by kernel_rfl) rfl (by rfl) rfl ?_
      intro K hK
      refine app_bytes_op _ _ rfl w.heap.size _ (.slice (some ⟨b, off, none⟩) 0 0) (l.take o ++ x) (l.drop (o + x.length)) rfl rfl HO3.out ((HD.out.grown HG3.out).w) (by have := HG3.out.size; exact this) (by rw [List.length_append, HTL.out, List.length_drop]; have := HLE.out; omega) ?_
      intro v4 w4 h4 hg4 hf4
      have HG4 : Hid (w.grownBy w4 none) := Lib.hid (gb_trans HG3.out hg4 (fun k hk => .inr (HO3.out.lt k hk).1))
      have HO4 := Lib.hid h4
      clear h4 hg4 hf4
      refine hK _ _ (fun _ => trivial) ?_
      clear hK K
      refine wpAnyK_oneL (i := 10) (listed' := #[true, true, true, true, true, true, true, true, true, true, true]) (by kernel_rfl) rfl (by rfl) rfl ?_
      intro K hK
      go_simp
      refine hK _ _ (fun _ => trivial) ?_
      clear hK K
      refine wpAnyK_done (by kernel_rfl) ?_ _
      go_wp2
      go_ret
      exact ⟨_, rfl, by rw [HPE.out]; exact HO4.out, HG4.out⟩
    · have hco2 : o + x.length < c := by omega
      have HD := Lib.hid ((HV.out.drop hle).1)
      go_enter Try.func59, Try.ntmps59
      go_wp2_with (at_builtin; refine app_bytes rfl _ _ rfl w.heap.size _ (.slice (some ⟨b, off, none⟩) o c) [] (l.take o) rfl rfl HO.out (HT.out.grown (gb_alloc _ _ _)) (by simp) (by rw [HTL.out]; simp; have := HLE.out; omega) ?_; go_must (intro v2 w2 ho2 hg2 hf2; rw [List.nil_append] at ho2; have HO2 := Lib.hid ho2; have HG2 : Hid (w.grownBy w2 none) := Lib.hid (gb_trans (gb_alloc _ _ none) hg2 (fun k hk => .inr (HO.out.lt k hk).1)); clear ho2 hg2 hf2))
      refine region_KL (fuel := 11) (listed := #[false, false, false, false, false, false, false, false, false, false, false]) (fun _ => True) 10 (by kernel_rfl) rfl (by kernel_rfl) ?_
      refine wpAnyK_takeL (i := 0) (d := 13) (v := ?_) (T' := ?_) (listed' := #[true, false, false, false, false, false, false, false, false, false, false]) rfl rfl (by kernel_rfl) (fun _ _ _ h => h) rfl (Or.inl ⟨by rfl, ?_⟩) ?_ trivial ?_
      rotate_left 2
      · intro w hS; clear hS; go_simp; rfl
      · simp only [List.setIfInBounds_toArray, List.set_cons_succ, List.set_cons_zero]; rfl
      refine wpAnyK_takeL (i := 1) (d := 14) (v := ?_) (T' := ?_) (listed' := #[true, true, false, false, false, false, false, false, false, false, false]) rfl rfl (by kernel_rfl) (fun _ _ _ h => h) rfl (Or.inl ⟨by rfl, ?_⟩) ?_ trivial ?_
      rotate_left 2
      · intro w hS; clear hS; go_simp; rfl
      · simp only [List.setIfInBounds_toArray, List.set_cons_succ, List.set_cons_zero]; rfl
      refine wpAnyK_takeL (i := 3) (d := 16) (v := ?_) (T' := ?_) (listed' := #[true, true, false, true, false, false, false, false, false, false, false]) rfl rfl (by kernel_rfl) (fun _ _ _ h => h) rfl (Or.inl ⟨by rfl, ?_⟩) ?_ trivial ?_
      rotate_left 2
      · intro w hS; clear hS; go_simp; rfl
      · simp only [List.setIfInBounds_toArray, List.set_cons_succ, List.set_cons_zero]; rfl
      refine wpAnyK_takeL (i := 4) (d := 17) (v := ?_) (T' := ?_) (listed' := #[true, true, false, true, true, false, false, false, false, false, false]) rfl rfl (by kernel_rfl) (fun _ _ _ h => h) rfl (Or.inl ⟨by rfl, ?_⟩) ?_ trivial ?_
      rotate_left 2
      · intro w hS; clear hS; go_simp; rfl
      · simp only [List.setIfInBounds_toArray, List.set_cons_succ, List.set_cons_zero]; rfl
      refine wpAnyK_takeL (i := 5) (d := 18) (v := ?_) (T' := ?_) (listed' := #[true, true, false, true, true, true, false, false, false, false, false]) rfl rfl (by kernel_rfl) (fun _ _ _ h => h) rfl (Or.inl ⟨by rfl, ?_⟩) ?_ trivial ?_
      rotate_left 2
      · intro w hS; clear hS; go_simp; rfl
      · simp only [List.setIfInBounds_toArray, List.set_cons_succ, List.set_cons_zero]; rfl
      refine wpAnyK_takeL (i := 6) (d := 19) (v := ?_) (T' := ?_) (listed' := #[true, true, false, true, true, true, true, false, false, false, false]) rfl rfl (by kernel_rfl) (fun _ _ _ h => h) rfl (Or.inl ⟨by rfl, ?_⟩) ?_ trivial ?_
      rotate_left 2
      · intro w hS; clear hS; go_simp; rfl
      · simp only [List.setIfInBounds_toArray, List.set_cons_succ, List.set_cons_zero]; rfl
      refine wpAnyK_takeL (i := 7) (d := 20) (v := ?_) (T' := ?_) (listed' := #[true, true, false, true, true, true, true, true, false, false, false]) rfl rfl (by kernel_rfl) (fun _ _ _ h => h) rfl (Or.inl ⟨by rfl, ?_⟩) ?_ trivial ?_
      rotate_left 2
      · intro w hS; clear hS; go_simp; rfl
      · simp only [List.setIfInBounds_toArray, List.set_cons_succ, List.set_cons_zero]; rfl
      refine wpAnyK_takeL (i := 8) (d := 21) (v := ?_) (T' := ?_) (listed' := #[true, true, false, true, true, true, true, true, true, false, false]) rfl rfl (by kernel_rfl) (fun _ _ _ h => h) rfl (Or.inl ⟨by rfl, ?_⟩) ?_ trivial ?_
      rotate_left 2
      · intro w hS; clear hS; go_simp; rfl
      · simp only [List.setIfInBounds_toArray, List.set_cons_succ, List.set_cons_zero]; rfl
      refine wpAnyK_oneL (i := 2) (listed' := #[true, true, true, true, true, true, true, true, true, false, false]) (by kernel_rfl) rfl (by rfl) rfl ?_
      intro K hK
      refine app_bytes_op _ _ rfl w.heap.size _ _ (l.take o) x rfl rfl (HO2.out.grown (gb_drew _ _)) ((HX.out.grown HG2.out).grown (gb_drew _ _)) (by have := HG2.out.size; simpa using this) (by rw [HTL.out]; have := HLE.out; omega) ?_
      intro v3 w3 h3 hg3 hf3
      have HG3 : Hid (w.grownBy w3 none) := Lib.hid (gb_trans (gb_same HG2.out (gb_drew _ none)) hg3 (fun k hk => .inr (HO2.out.lt k hk).1))
      have HO3 := Lib.hid h3
      clear h3 hg3 hf3
      refine hK _ _ (fun _ => trivial) ?_
      clear hK K
      refine wpAnyK_oneL (i := 9) (listed' := #[true, true, true, true, true, true, true, true, true, true, false]) (by kernel_rfl) rfl (by rfl) rfl ?_
      intro K hK
      refine app_bytes_op _ _ rfl w.heap.size _ (.slice (some ⟨b, off + (o + x.length), none⟩) (l.length - (o + x.length)) (c - (o + x.length))) (l.take o ++ x) (l.drop (o + x.length)) rfl rfl HO3.out ((HD.out.grown HG3.out).w) (by have := HG3.out.size; exact this) (by rw [List.length_append, HTL.out, List.length_drop]; have := HLE.out; omega) ?_
      intro v4 w4 h4 hg4 hf4
      have HG4 : Hid (w.grownBy w4 none) := Lib.hid (gb_trans HG3.out hg4 (fun k hk => .inr (HO3.out.lt k hk).1))
      have HO4 := Lib.hid h4
      clear h4 hg4 hf4
      refine hK _ _ (fun _ => trivial) ?_
      clear hK K
      refine wpAnyK_oneL (i := 10) (listed' := #[true, true, true, true, true, true, true, true, true, true, true]) (by kernel_rfl) rfl (by rfl) rfl ?_
      intro K hK
      go_simp
      refine hK _ _ (fun _ => trivial) ?_
      clear hK K
      refine wpAnyK_done (by kernel_rfl) ?_ _
      go_wp2
      go_ret
      exact ⟨_, rfl, by rw [HPE.out]; exact HO4.out, HG4.out⟩
end Go.Proofs.Ytfdkmncjcehdkaa
