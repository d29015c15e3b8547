/-
  A table is decoded from its encoding; law.call: the walk.
-/
import Derived.Test.YtjijiondinbmnaaWI
import Derived.Test.YtjijiondinbmnaaTDec
import Derived.Test.YtjijiondinbmnaaTArg
namespace Go.Proofs.Ytjijiondinbmnaa
open Go.RowKit

theorem rdSlot_at {bs t : List UInt8} {p : Nat} {s : SS} (hs : SOk s) (h : bs.drop p = encSl s ++ t) : rdSlot bs p = some (s, p + (encSl s).length) := by
  obtain ⟨g, fl, v⟩ := s
  obtain ⟨h1, h2, h3, h4⟩ := hs
  simp only at h1 h2 h3 h4
  unfold encSl at h ⊢
  simp only at h ⊢
  rw [List.append_assoc, List.append_assoc] at h
  have hb := rdBounded_at (least := 0) (most := 1000) (by omega) (by omega) (by omega) (by omega) h
  have hd := drop_next h
  have hbo := rdBool_at hd
  have hel : (encB fl).length = 1 := by unfold encB; split <;> rfl
  have hd2 := drop_next hd
  rw [hel] at hd2
  unfold rdSlot
  rw [hb]
  simp only [hbo]
  cases fl with
  | false =>
    have hv := h3 rfl
    subst hv
    simp only [Bool.false_eq_true, if_false, List.append_nil, Int.toNat_natCast, List.length_append]
    rw [hel, ← Nat.add_assoc]
  | true =>
    simp only [if_true] at hd2 ⊢
    rw [rdInt_at h4.1 h4.2 hd2]
    simp only
    rw [if_neg (by have := h2 rfl; omega)]
    simp only [Int.toNat_natCast, List.length_append]
    rw [hel]
    congr 2
    omega
theorem rdSlots_at {bs t : List UInt8} {p : Nat} {l : List SS} (hl : ∀ s ∈ l, SOk s) (h : bs.drop p = l.flatMap encSl ++ t) : ∀ k, k ≤ l.length → rdSlots bs p k = some (l.take k, p + ((l.take k).flatMap encSl).length)
  | 0, _ => by simp [rdSlots]
  | k + 1, hk => by
    have ih := rdSlots_at hl h k (by omega)
    obtain ⟨s, hs⟩ : ∃ s, l[k]? = some s := ⟨_, List.getElem?_eq_getElem (by omega)⟩
    have hsp : l = l.take k ++ s :: l.drop (k + 1) := by
      obtain ⟨h1, h2⟩ := List.getElem?_eq_some_iff.1 hs
      rw [← h2, List.getElem_cons_drop, List.take_append_drop]
    have hd : bs.drop (p + ((l.take k).flatMap encSl).length) = encSl s ++ ((l.drop (k + 1)).flatMap encSl ++ t) := by
      have h2 := h
      rw [hsp, List.flatMap_append, List.flatMap_cons, List.append_assoc, List.append_assoc] at h2
      exact drop_next h2
    unfold rdSlots
    rw [ih]
    simp only [rdSlot_at (hl s (List.mem_of_getElem? hs)) hd]
    rw [List.take_add_one, hs, List.flatMap_append, List.length_append]
    simp only [Option.toList_some, List.flatMap_cons, List.flatMap_nil, List.append_nil]
    rw [Nat.add_assoc]
theorem decT_at {l : List SS} (h1 : 0 < l.length) (h2 : l.length ≤ 200) (hl : ∀ s ∈ l, SOk s) : decT (encN l l.length) = some l := by
  have hf := encN_flat l l.length (Nat.le_refl _)
  rw [List.take_of_length_le (Nat.le_refl _)] at hf
  have hb := rdBounded_at (bs := encN l l.length) (p := 0) (z := (l.length : Int)) (least := 1) (most := 200) (t := l.flatMap encSl) (by omega) (by omega) (by omega) (by omega) (by rw [List.drop_zero]; exact hf)
  unfold decT
  rw [hb]
  simp only [Int.toNat_natCast]
  have hd : (encN l l.length).drop (0 + (enc (l.length : Int)).length) = l.flatMap encSl ++ [] := by
    rw [hf, Nat.zero_add, List.drop_left, List.append_nil]
  rw [rdSlots_at hl hd l.length (Nat.le_refl _), List.take_of_length_le (Nat.le_refl _)]
  simp only
  rw [if_neg]
  have := congrArg List.length hf
  rw [List.length_append] at this
  omega
theorem encN_small {l : List SS} (h2 : l.length ≤ 200) : (encN l l.length).length ≤ 100000 := by have := encN_len l l.length; omega

/-- a call's results and the table behind it -/
def callL (l : List SS) (x : ST) : List SS := if x.1 = 0 then putL l x.2.2 else if x.1 = 1 then l else if x.1 = 2 then setL l x.2.1 x.2.2 else dropL l x.2.1
def callA (l : List SS) (x : ST) : Int := if x.1 = 0 then putH l else if x.1 = 1 then getN l x.2.1 else 0
def callB (l : List SS) (x : ST) : Int := if x.1 = 0 then putE l else if x.1 = 1 then (if getB l x.2.1 = true then 1 else 0) else errF l x.2.1
def CallP (l : List SS) (x : ST) (g s : Nat) (w : World) (e : Ending) (w' : World) : Prop :=
  e = .returned (.agg #[.int .i64 (callA l x), .int .i64 (callB l x)]) ∧ w.grownBy w' (some s) ∧ IsT w' g s (callL l x)
theorem sz_pair : (Try.prog.info? 51).map (·.size) = some 2 := by kernel_rfl
theorem ret_arr {fn : Func} {R : Ending → World → Prop} {p : Tmp} {ty : TypeId} {tmps : Array Value} {w : World} {len : Nat} {elem : TypeId} (hr : fn.results = #[.cell p ty]) (g : Nat) (t : TypeId) (cs : Array Value)
    (hp : tmps.getD p undef = .pointer (some ⟨g, 0, none⟩)) (hg : w.heap[g]? = some (.cells cs t (0, 0))) (hu : Try.prog.underlying ty = some (.array len elem)) (hi : (Try.prog.info? ty).map (·.size) = some cs.size)
    (h : R (.returned (.agg cs)) w) : bodyPost Try.prog fn R .ret { tmps := tmps, defers := [] } w :=
  bodyPost_ret (results_cell_row hr tmps w g t cs (0, 0) _ hp hg hu rfl hi) rfl h
set_option maxRecDepth 100000 in
set_option maxHeartbeats 4000000 in
theorem call_any {w : World} {g s : Nat} {l : List SS} (h : IsT w g s l) (x : ST) (hx : OkT x) : Calls Try.prog 26 #[.pointer (some ⟨g, 0, none⟩), .agg #[.int .i64 x.1, .int .i64 x.2.1, .int .i64 x.2.2]] w (CallP l x g s w) := by
  obtain ⟨kind, hd, val⟩ := x
  obtain ⟨w1, hw1⟩ : ∃ w1, (w.alloc (.cells #[.int .i64 kind, .int .i64 hd, .int .i64 val] 38)).alloc (.cells #[.int .i64 0, .int .i64 0] 51) = w1 := ⟨_, rfl⟩
  have hg1 : w.grownBy w1 none := by rw [← hw1]; exact gb_same (gb_alloc _ _ _) (gb_alloc _ _ _)
  have hb0 : w1.heap[w.heap.size]? = some (.cells #[.int .i64 kind, .int .i64 hd, .int .i64 val] 38 (0, 0)) := by
    rw [← hw1]; exact blk_kept (heap_at_alloc _ _) (gb_alloc _ _ _)
  have hb1 : w1.heap[w.heap.size + 1]? = some (.cells #[.int .i64 0, .int .i64 0] 51 (0, 0)) := by
    have h2 := heap_at_alloc (w.alloc (.cells #[.int .i64 kind, .int .i64 hd, .int .i64 val] 38)) (.cells #[.int .i64 0, .int .i64 0] 51)
    rw [hw1] at h2
    simpa using h2
  have c0 : w1.cell? ⟨w.heap.size, 0, none⟩ = some (.int .i64 kind) := cell_row hb0
  have c1 : w1.cell? ⟨w.heap.size, 1, none⟩ = some (.int .i64 hd) := cell_row hb0
  have c2 : w1.cell? ⟨w.heap.size, 2, none⟩ = some (.int .i64 val) := cell_row hb0
  have H1 := Lib.hid (h.grown hg1)
  have HLT := Lib.hid h.lt
  have HW1 := Lib.hid hw1
  have HG1 := Lib.hid hg1
  have HB1 := Lib.hid hb1
  have HX := Lib.hid hx
  have hend : ∀ (w3 : World) (L : List SS) (a b : Int), w1.grownBy w3 (some s) → IsT w3 g s L → w3.heap[w.heap.size + 1]? = some (.cells #[.int .i64 0, .int .i64 0] 51 (0, 0)) := fun w3 L a b hg _ => blk_kept' hb1 hg (by have := h.lt.2; simp; omega)
  have HEND := Lib.hid (fun (w3 : World) (hg : w1.grownBy w3 (some s)) => hend w3 l 0 0 hg)
  have HFIN : Hid (∀ (w3 w9 : World) (L : List SS), w1.grownBy w3 (some s) → IsT w3 g s L → w3.grownBy w9 (some (w.heap.size + 1)) → w.grownBy w9 (some s) ∧ IsT w9 g s L) := Lib.hid (fun w3 w9 L h3 ht h9 =>
    ⟨gb_trans (gb_trans (gb_none (some s) hg1) h3 (fun _ e => .inl e)) h9 (fun k e => .inr (by cases e; omega)), ht.kept h9 (by have := h.lt.1; simp; omega) (by have := h.lt.2; simp; omega)⟩)
  have HBK : Hid (∀ (w3 : World), w1.grownBy w3 (some s) → w3.heap[w.heap.size + 1]? = some (.cells #[.int .i64 0, .int .i64 0] 51 (0, 0))) := Lib.hid (fun w3 hg => blk_kept' hb1 hg (by have := h.lt.2; simp; omega))
  clear h hw1 hg1 hb0 hb1 hx hend HEND
  by_cases h0 : kind = 0
  · subst h0
    have hpu := put_any H1.out val HX.out.2.2
    unfold PutP at hpu
    have HPU := Lib.hid hpu
    clear hpu
    unfold CallP callA callB callL
    simp only [if_true]
    generalize putH l = rh at *
    generalize putE l = re at *
    go_enter Try.func26, Try.ntmps26
    go_wp2_with fail
    rw [HW1.out]
    go_wp2_with fail
    refine HPU.out.mono ?_
    rintro e w3 ⟨rfl, hg3, ht3⟩
    have HB3 := Lib.hid (HBK.out w3 hg3)
    have HG3 := Lib.hid hg3
    have HT3 := Lib.hid ht3
    clear hg3 ht3 c0 c1 c2
    go_wp2_with ((with_reducible refine is_store 51 4 22 ?_); go_must (refine st_row 51 4 22 (w.heap.size + 1) #[.int .i64 0, .int .i64 0] #[.int .i64 rh, .int .i64 re] _ rfl rfl HB3.out sz_pair rfl rfl ?_; intro w9 hb9 hg9))
    refine ret_arr rfl (w.heap.size + 1) _ _ rfl hb9 Try.underlying51 sz_pair ?_
    obtain ⟨k1, k2⟩ := HFIN.out w3 w9 _ HG3.out HT3.out hg9
    exact ⟨rfl, k1, k2⟩
  have h0' : (kind == 0) = false := by simpa using h0
  by_cases h1 : kind = 1
  · subst h1
    have HGE := Lib.hid (get_any H1.out hd HX.out.2.1)
    unfold CallP callA callB callL
    simp only [if_neg h0, if_true]
    generalize getN l hd = rn at *
    clear h0 h0'
    cases hgb : getB l hd with
    | true =>
      rw [hgb] at HGE
      simp only [if_true]
      clear hgb
      go_enter Try.func26, Try.ntmps26
      go_wp2_with fail
      rw [HW1.out]
      go_wp2_with fail
      refine HGE.out.mono ?_
      rintro e w3 ⟨rfl, hg3'⟩
      have hg3 := gb_none (some s) hg3'
      have ht3 := H1.out.grown hg3'
      clear hg3'
      have HB3 := Lib.hid (HBK.out w3 hg3)
      have HG3 := Lib.hid hg3
      have HT3 := Lib.hid ht3
      clear hg3 ht3 c0 c1 c2
      go_wp2_with ((with_reducible refine is_store 51 4 34 ?_); go_must (refine st_row 51 4 34 (w.heap.size + 1) #[.int .i64 0, .int .i64 0] #[.int .i64 rn, .int .i64 1] _ rfl rfl HB3.out sz_pair rfl rfl ?_; intro w9 hb9 hg9))
      refine ret_arr rfl (w.heap.size + 1) _ _ rfl hb9 Try.underlying51 sz_pair ?_
      obtain ⟨k1, k2⟩ := HFIN.out w3 w9 _ HG3.out HT3.out hg9
      exact ⟨rfl, k1, k2⟩
    | false =>
      rw [hgb] at HGE
      simp only [Bool.false_eq_true, if_false]
      clear hgb
      go_enter Try.func26, Try.ntmps26
      go_wp2_with fail
      rw [HW1.out]
      go_wp2_with fail
      refine HGE.out.mono ?_
      rintro e w3 ⟨rfl, hg3'⟩
      have hg3 := gb_none (some s) hg3'
      have ht3 := H1.out.grown hg3'
      clear hg3'
      have HB3 := Lib.hid (HBK.out w3 hg3)
      have HG3 := Lib.hid hg3
      have HT3 := Lib.hid ht3
      clear hg3 ht3 c0 c1 c2
      go_wp2_with ((with_reducible refine is_store 51 4 36 ?_); go_must (refine st_row 51 4 36 (w.heap.size + 1) #[.int .i64 0, .int .i64 0] #[.int .i64 rn, .int .i64 0] _ rfl rfl HB3.out sz_pair rfl rfl ?_; intro w9 hb9 hg9))
      refine ret_arr rfl (w.heap.size + 1) _ _ rfl hb9 Try.underlying51 sz_pair ?_
      obtain ⟨k1, k2⟩ := HFIN.out w3 w9 _ HG3.out HT3.out hg9
      exact ⟨rfl, k1, k2⟩
  have h1' : (kind == 1) = false := by simpa using h1
  by_cases h2 : kind = 2
  · subst h2
    have HSE := Lib.hid (set_any H1.out hd val HX.out.2.1 HX.out.2.2)
    unfold CallP callA callB callL
    simp only [if_neg h0, if_neg h1, if_true]
    generalize errF l hd = re at *
    clear h0 h0' h1 h1'
    go_enter Try.func26, Try.ntmps26
    go_wp2_with fail
    rw [HW1.out]
    go_wp2_with fail
    refine HSE.out.mono ?_
    rintro e w3 ⟨rfl, hg3, ht3⟩
    have HB3 := Lib.hid (HBK.out w3 hg3)
    have HG3 := Lib.hid hg3
    have HT3 := Lib.hid ht3
    clear hg3 ht3 c0 c1 c2
    go_wp2_with ((with_reducible refine is_store 51 4 45 ?_); go_must (refine st_row 51 4 45 (w.heap.size + 1) #[.int .i64 0, .int .i64 0] #[.int .i64 0, .int .i64 re] _ rfl rfl HB3.out sz_pair rfl rfl ?_; intro w9 hb9 hg9))
    refine ret_arr rfl (w.heap.size + 1) _ _ rfl hb9 Try.underlying51 sz_pair ?_
    obtain ⟨k1, k2⟩ := HFIN.out w3 w9 _ HG3.out HT3.out hg9
    exact ⟨rfl, k1, k2⟩
  have h2' : (kind == 2) = false := by simpa using h2
  have HDR := Lib.hid (drop_any H1.out hd HX.out.2.1)
  unfold CallP callA callB callL
  simp only [if_neg h0, if_neg h1, if_neg h2]
  generalize errF l hd = re at *
  clear h0 h1 h2
  go_enter Try.func26, Try.ntmps26
  go_wp2_with fail
  rw [HW1.out]
  go_wp2_with fail
  refine HDR.out.mono ?_
  rintro e w3 ⟨rfl, hg3, ht3⟩
  have HB3 := Lib.hid (HBK.out w3 hg3)
  have HG3 := Lib.hid hg3
  have HT3 := Lib.hid ht3
  clear hg3 ht3 c0 c1 c2
  go_wp2_with ((with_reducible refine is_store 51 4 50 ?_); go_must (refine st_row 51 4 50 (w.heap.size + 1) #[.int .i64 0, .int .i64 0] #[.int .i64 0, .int .i64 re] _ rfl rfl HB3.out sz_pair rfl rfl ?_; intro w9 hb9 hg9))
  refine ret_arr rfl (w.heap.size + 1) _ _ rfl hb9 Try.underlying51 sz_pair ?_
  obtain ⟨k1, k2⟩ := HFIN.out w3 w9 _ HG3.out HT3.out hg9
  exact ⟨rfl, k1, k2⟩
end Go.Proofs.Ytjijiondinbmnaa
