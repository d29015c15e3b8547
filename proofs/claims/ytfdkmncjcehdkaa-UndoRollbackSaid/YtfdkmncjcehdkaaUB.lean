/-
  Bytes that are the call's own or can be read: clones, copies, appended zeros.
-/
import Derived.Test.YtfdkmncjcehdkaaRow
import Derived.Deep.QuietTactic
import Derived.BigQuiet
import Derived.Laws.CopyOwn
import Derived.Lib.AppendZerosOnto
namespace Go.Proofs.Ytfdkmncjcehdkaa
open Go.RowKit

theorem sl_eq {a : Option Addr} {x y : Nat} (h : x = y) : Ending.returned (.slice a x x) = .returned (.slice a y y) := by rw [h]
def OwnP (w : World) (l : List UInt8) (e : Ending) (w' : World) : Prop := ∃ v', e = .returned v' ∧ Own w' w.heap.size v' l ∧ w.grownBy w' none
set_option maxRecDepth 100000 in
theorem clone_any (v : Value) (l : List UInt8) (w : World) (hv : Rd w v l) (hl : l.length ≤ 140737488355328) :
    Calls Try.prog 32 #[v] w (OwnP w l) := by
  have HV := Lib.hid hv
  have q22 : ∀ (w : World) (a : Option Addr) (n c n' c' : Nat), (binOp .eql 22 (.slice a n c) (.slice none n' c')).run Try.prog w = .ok (.bool a.isNone) w := fun w a n c n' c' => Lib.run_eql_slice_nil w _ _ a n c n' c' Try.underlying22
  rcases hv with ⟨rfl, rfl⟩ | ⟨b, off, cap, rfl, h1, h2, _⟩
  · go_enter Try.func32, Try.ntmps32
    go_wp2
    go_ret
    exact ⟨_, rfl, Own.nil _ _, gb_refl _ _⟩
  · have HO := Lib.hid (Own.lit w #[] [] 0 w.heap.size rfl rfl (Nat.le_refl _) (Nat.zero_le _))
    go_enter Try.func32, Try.ntmps32
    go_wp2_with (at_builtin; refine app_bytes rfl _ _ rfl w.heap.size _ _ [] l rfl rfl HO.out (HV.out.grown (gb_alloc _ _ _)) (by simp) (by simp; omega) ?_; go_must (intro v2 w2 ho2 hg2 hf2; rw [List.nil_append] at ho2))
    go_ret
    exact ⟨_, rfl, ho2, gb_trans (gb_alloc _ _ none) hg2 (fun k hk => .inr (HO.out.lt k hk).1)⟩
theorem str_beq (a b : List UInt8) : ((str a).toList == (str b).toList) = (a == b) := by
  rw [ByteArray.toList_eq, ByteArray.toList_eq, str_toList, str_toList]
def IsSl (v : Value) : Prop := ∃ a n c, v = .slice a n c
theorem Rd.isSl {w : World} {v : Value} {l : List UInt8} (h : Rd w v l) : IsSl v := by obtain ⟨a, c, rfl⟩ := h.len; exact ⟨_, _, _, rfl⟩
/-- a slice of bytes that can be read; an empty one may begin anywhere -/
def RdW (w : World) (v : Value) (l : List UInt8) : Prop := Rd w v l ∨ ∃ a, v = .slice (some a) 0 0 ∧ l = []
theorem Rd.w {w : World} {v : Value} {l : List UInt8} (h : Rd w v l) : RdW w v l := .inl h
theorem RdW.len {w : World} {v : Value} {l : List UInt8} (h : RdW w v l) : ∃ a c, v = .slice a l.length c := by
  rcases h with h | ⟨a, rfl, rfl⟩
  · exact h.len
  · exact ⟨_, _, rfl⟩
theorem RdW.ne {w : World} {v : Value} {l : List UInt8} (h : RdW w v l) (hl : l ≠ []) : Rd w v l := by
  rcases h with h | ⟨a, rfl, rfl⟩
  · exact h
  · exact absurd rfl hl
theorem RdW.blk {w : World} {v : Value} {l : List UInt8} (h : RdW w v l) (hl : l ≠ []) : ∀ k, v.ownBlock = some k → k < w.heap.size := fun k hk => (h.ne hl).blk hl k hk
theorem RdW.grown {w w' : World} {v : Value} {l : List UInt8} (h : RdW w v l) (hg : w.grownBy w' none) : RdW w' v l := by
  rcases h with h | h
  · exact .inl (h.grown hg)
  · exact .inr h
theorem RdW.kept {w w' : World} {v : Value} {l : List UInt8} {row : Option Nat} (h : RdW w v l) (hg : w.grownBy w' row) (hne : l ≠ [] → ∀ k, v.ownBlock = some k → row ≠ some k) : RdW w' v l := by
  by_cases hl : l = []
  · subst hl
    rcases h with h | h
    · rcases h with h | ⟨b, off, cap, h1, h2, h3, h4⟩
      · exact .inl (.inl h)
      · exact .inl (.inr ⟨b, off, cap, h1, h2, h3, fun j x hj => by simp at hj⟩)
    · exact .inr h
  · exact .inl ((h.ne hl).kept hg (hne hl))
theorem RdW.small {w : World} {v : Value} {l : List UInt8} (h : RdW w v l) : (l.length : Int) ≤ 9223372036854775807 := by
  rcases h with h | ⟨a, rfl, rfl⟩
  · exact h.small
  · simp
theorem run_toStringW (w : World) (v : Value) (l : List UInt8) (h : RdW w v l) :
    (convert 22 9 v).run Try.prog w = .ok (.string (str l)) w := by
  rcases h with h | ⟨a, rfl, rfl⟩
  · exact run_toString w v l h
  · have hl : (loadCells a 0).run Try.prog w = .ok (([] : List Int).map (Value.int .u8)).toArray w := by
      have := run_loadCells_list (P := Try.prog) w a [] (fun j v hj => by simp at hj)
      simpa using this
    rw [run_convert_bytes_string w 22 9 5 _ 0 0 Try.underlying22 Try.underlying5 Try.underlying9, run_bytesToString w _ 0 0 [] hl]
    rfl
theorem run_appW (w : World) (B : Nat) (v src : Value) (l m : List UInt8) (ty : TypeId) (hown : Own w B v l) (hsrc : RdW w src m) (hB : B ≤ w.heap.size) (hb : l.length + m.length ≤ 140737488355328) :
    ∃ v' w', (Builtin.append_ #[22, 22] ty #[v, src]).run Try.prog w = .ok v' w' ∧ Own w' B v' (l ++ m) ∧ w.grownBy w' v.ownBlock ∧ Fr w v v' := by
  rcases hsrc with h | ⟨ad, rfl, rfl⟩
  · exact run_app w B v src l m ty hown h hB hb
  · obtain ⟨i0, hi, hz0, hz1, hz2⟩ := info_parts info5
    obtain ⟨v', w', hr, ho, hg, hf⟩ := run_append_own2 (P := Try.prog) w B 22 ty _ i0 (.int .u8 0) 1 1 Try.underlying22 hi hz0 hz1 hz2 rfl (by decide) v l.length (bvs l) hown
      ad 0 0 (bvs []) (by simp [bvs]) (fun j u hu => by simp [bvs] at hu) (bvs_one []) (by simp only [maxLen]; simp only [List.length_nil] at hb; omega) (by simp only [List.length_nil] at hb; omega) hB
    refine ⟨v', w', hr, ?_, hg, hf⟩
    unfold Own
    rw [bvs_append, List.length_append]
    exact ho
theorem app_bytesW {ops : Array Oper} {rest : List Oper} {o : Oper} {a : Act} {w : World} {Q : Exit → Act → World → Prop} (hgd : o.guard = none) (s x : Operand)
    (ho : o.op = .call { callee := .builtin .append, args := #[s, x], argTypes := #[22, 22] })
    (B : Nat) (v src : Value) (l m : List UInt8) (hs : a.eval s = v) (hx : a.eval x = src) (hown : Own w B v l) (hsrc : RdW w src m) (hB : B ≤ w.heap.size) (hb : l.length + m.length ≤ 140737488355328)
    (h : ∀ v' w', Own w' B v' (l ++ m) → w.grownBy w' v.ownBlock → Fr w v v' → wpList Try.prog ops Q rest (a.put o.dst v') w') : wpList Try.prog ops Q (o :: rest) a w := by
  obtain ⟨v', w', hr, h2, h3, h4⟩ := run_appW w B v src l m o.type hown hsrc hB hb
  refine wpList_plain hgd fun _ hK => ?_
  unfold Oper.wp execOp
  simp only [ho, resolve, invoke, builtin, Sem.run_bind, Sem.run_pure, Result.andThen_ok, List.map_toArray, List.map_cons, List.map_nil, hs, hx, hr]
  exact hK _ _ (h v' w' h2 h3 h4)
theorem frozen_row {w : World} {g j : Nat} {cs : Array Value} {t : TypeId} (h : w.heap[g]? = some (.cells cs t (0, 0))) : w.frozen? ⟨g, j, none⟩ = false := by simp [World.frozen?, h]
theorem Rd.blocks {w w' : World} {v : Value} {l : List UInt8} (h : Rd w v l) (hk : ∀ k, k < w.heap.size → w'.heap[k]? = w.heap[k]?) : Rd w' v l := by
  rcases h with h | ⟨b, off, cap, rfl, h1, h2, h3⟩
  · exact .inl h
  · refine .inr ⟨b, off, cap, rfl, h1, h2, fun j x hj => ?_⟩
    have h4 := h3 j x hj
    have h5 : b < w.heap.size := World.block_lt_of_cell? _ _ h4
    unfold World.cell? at h4 ⊢
    rw [hk b h5]; exact h4
theorem bvs_zeros (n : Nat) : List.replicate n (Value.int .u8 0) = bvs (List.replicate n 0) := by
  unfold bvs; rw [List.map_replicate]; rfl
theorem mk_run (n : Nat) (w : World) (hn : n ≤ 1099511627776) :
    ∃ w', (Instr.makeSlice 22 (.int .i64 n) (.int .i64 n)).run Try.prog w = .ok (.slice (some ⟨w.heap.size, 0, none⟩) n n) w' ∧ Own w' w.heap.size (.slice (some ⟨w.heap.size, 0, none⟩) n n) (List.replicate n 0) ∧ w.grownBy w' none := by
  obtain ⟨i0, hi, hz0, hz1, hz2⟩ := info_parts info5
  obtain ⟨w', h1, h2, h3⟩ := run_make_full (P := Try.prog) w w.heap.size 22 5 i0 (.int .u8 0) 1 Try.underlying22 hi hz0 hz1 .i64 .i64 n (by rw [hz2]; omega) (by unfold maxLen; omega) (Nat.le_refl _)
  refine ⟨w', h1, ?_, h3⟩
  unfold Own
  rw [List.length_replicate, ← bvs_zeros]
  have e : (madeCells (Value.int .u8 0).cells (n * 1)).toList = List.replicate n (Value.int .u8 0) := by rw [Nat.mul_one]; exact toList_madeCells_one _ _
  rw [← e]; exact h2
theorem mk_step {ops : Array Oper} {rest : List Oper} {o : Oper} {a : Act} {w : World} {Q : Exit → Act → World → Prop} (hgd : o.guard = none) (l c : Operand) (ho : o.op = .makeSlice 22 l c)
    (n : Nat) (hl : a.eval l = .int .i64 n) (hc : a.eval c = .int .i64 n) (hn : n ≤ 1099511627776)
    (h : ∀ w', Own w' w.heap.size (.slice (some ⟨w.heap.size, 0, none⟩) n n) (List.replicate n 0) → w.grownBy w' none → wpList Try.prog ops Q rest (a.put o.dst (.slice (some ⟨w.heap.size, 0, none⟩) n n)) w') : wpList Try.prog ops Q (o :: rest) a w := by
  obtain ⟨w', hr, h2, h3⟩ := mk_run n w hn
  refine wpList_plain hgd fun _ hK => ?_
  unfold Oper.wp execOp
  simp only [ho, hl, hc, hr, Sem.run_bind, Sem.run_pure, Result.andThen_ok]
  exact hK _ _ (h w' h2 h3)
theorem Rd.take {w : World} {a : Option Addr} {n c : Nat} {l : List UInt8} (h : Rd w (.slice a n c) l) {m : Nat} (hm : m ≤ l.length) : Rd w (.slice a m c) (l.take m) := by
  rcases h with ⟨h0, rfl⟩ | ⟨b, off, cap, h0, h1, h2, h3⟩
  · cases h0
    simp at hm
    subst hm
    exact .inl ⟨rfl, rfl⟩
  · cases h0
    refine .inr ⟨b, off, c, by rw [List.length_take, Nat.min_eq_left hm], by rw [List.length_take]; omega, h2, fun j x hj => h3 j x ?_⟩
    rw [List.getElem?_take] at hj
    split at hj
    · exact hj
    · cases hj
theorem sz5 : (Try.prog.info? 5).map (·.size) = some 1 := by kernel_rfl
theorem wpl_copy {w : World} {ops : Array Oper} {rest : List Oper} {o : Oper} {a : Act} {Q : Exit → Act → World → Prop} (hgd : o.guard = none) (d s : Operand)
    (ho : o.op = .call { callee := .builtin .copy, args := #[d, s], argTypes := #[22, 22] })
    (dp sp : Option Addr) (dLen dCap sLen sCap : Nat) (hd : a.eval d = .slice dp dLen dCap) (hs : a.eval s = .slice sp sLen sCap)
    (g off : Nat) (cur : List Value) (hg : w.heap[g]? = some (.cells cur.toArray 5 (0, 0))) (cs : List Value) (hn : cs.length = Nat.min sLen dLen)
    (hpos : 0 < cs.length → dp = some ⟨g, off, none⟩ ∧ ∃ ad, sp = some ad ∧ ∀ j v, cs[j]? = some v → w.cell? (ad.add j) = some v)
    (hfit : off + cs.length ≤ cur.length) (h1 : ∀ v ∈ cs, v.oneCell' = true)
    (h : ∀ w', w'.heap[g]? = some (.cells (splice cur off cs).toArray 5 (0, 0)) → w.grownBy w' (some g) → wpList Try.prog ops Q rest (a.put o.dst (goInt cs.length)) w') :
    wpList Try.prog ops Q (o :: rest) a w := by
  by_cases h0 : cs.length = 0
  · obtain rfl : cs = [] := List.eq_nil_of_length_eq_zero h0
    refine wpList_copy_nothing hgd d s _ _ ho 5 Try.underlying22 sz5 dp sp dLen dCap sLen sCap hd hs (by simpa using hn.symm) ?_
    exact h w (by simpa [splice] using hg) (gb_refl _ _)
  · obtain ⟨rfl, ad, rfl, hsrc⟩ := hpos (by omega)
    refine wpList_copy_own hgd d s _ _ ho 5 Try.underlying22 sz5 g off dLen dCap ad sLen sCap hd hs cur.toArray _ hg cs hn hsrc (by simpa using hfit) h1 ?_
    exact h _ (by simpa [splice] using setRow_heap w g _ _ _ _ hg) (gb_setRow w g _)
theorem step_copy {ops : Array Oper} {o : Oper} {a : Act} {w : World} {K : Act → World → Prop} {Q : Exit → Act → World → Prop} {E : Prop} (hgd : o.guard = none) (d s : Operand)
    (ho : o.op = .call { callee := .builtin .copy, args := #[d, s], argTypes := #[22, 22] })
    (dp sp : Option Addr) (dLen dCap sLen sCap : Nat) (hd : a.eval d = .slice dp dLen dCap) (hs : a.eval s = .slice sp sLen sCap)
    (g off : Nat) (cur : List Value) (hg : w.heap[g]? = some (.cells cur.toArray 5 (0, 0))) (cs : List Value) (hn : cs.length = Nat.min sLen dLen)
    (hpos : 0 < cs.length → dp = some ⟨g, off, none⟩ ∧ ∃ ad, sp = some ad ∧ ∀ j v, cs[j]? = some v → w.cell? (ad.add j) = some v)
    (hfit : off + cs.length ≤ cur.length) (h1 : ∀ v ∈ cs, v.oneCell' = true)
    (h : ∀ w', w'.heap[g]? = some (.cells (splice cur off cs).toArray 5 (0, 0)) → w.grownBy w' (some g) → K (a.put o.dst (goInt cs.length)) w') :
    if Region.wanted o (yielded ops a.tmps) = true then Oper.wp Try.prog o a w K Q else E := by
  have hw : Region.wanted o (yielded ops a.tmps) = true := by simp [Region.wanted, hgd]
  rw [if_pos hw]
  by_cases h0 : cs.length = 0
  · obtain rfl : cs = [] := List.eq_nil_of_length_eq_zero h0
    have hrun := run_copy_none (P := Try.prog) w 22 22 o.type 5 dp sp dLen dCap sLen sCap Try.underlying22 sz5 (by simpa using hn.symm)
    unfold Oper.wp
    simp [execOp, ho, resolve, invoke, builtin, hd, hs, hrun, Result.andThen]
    exact h w (by simpa [splice] using hg) (gb_refl _ _)
  · obtain ⟨rfl, ad, rfl, hsrc⟩ := hpos (by omega)
    have hrun := run_copy_row (P := Try.prog) w 22 22 o.type 5 g off dLen dCap ad sLen sCap cur.toArray 5 cs Try.underlying22 sz5 hg hn hsrc (by simpa using hfit) h1
    unfold Oper.wp
    simp [execOp, ho, resolve, invoke, builtin, hd, hs, hrun, Result.andThen]
    exact h _ (by simpa [splice] using setRow_heap w g _ _ _ _ hg) (gb_setRow w g _)
/-- a call that only reckons, as one step of a region that draws its order -/
theorem step_call {ops : Array Oper} {o : Oper} {a : Act} {w : World} {K : Act → World → Prop} {Q : Exit → Act → World → Prop} {E : Prop} (hgd : o.guard = none) (f : FuncId) (x y : Operand) (ts : Array TypeId)
    (ho : o.op = .call { callee := .value (.func f), args := #[x, y], argTypes := ts }) (hf : ∀ args w, (callFunc f args).run Try.prog w = .ok (.enter f args) w) (u v r : Value) (hx : a.eval x = u) (hy : a.eval y = v)
    (h : Calls Try.prog f #[u, v] w fun e w' => e = .returned r ∧ w = w') (hK : K (a.put o.dst r) w) :
    if Region.wanted o (yielded ops a.tmps) = true then Oper.wp Try.prog o a w K Q else E := by
  have hw : Region.wanted o (yielded ops a.tmps) = true := by simp [Region.wanted, hgd]
  rw [if_pos hw]
  have hrun : ∀ ρ : Operand → Value, ρ x = u → ρ y = v → ρ (.func f) = .func (.func f) #[] #[] → (execOp ρ o).run Try.prog w = .ok (.enter f #[u, v]) w := by
    intro ρ h1 h2 h3
    simp [execOp, ho, resolve, invoke, go_sem, hf, h1, h2, h3]
  unfold Oper.wp
  rw [hrun _ hx hy rfl]
  refine h.mono ?_
  rintro e w' ⟨rfl, rfl⟩
  exact hK
theorem Rd.src {w : World} {a : Option Addr} {n c : Nat} {z : List UInt8} (h : Rd w (.slice a n c) z) (hp : 0 < (bvs z).length) : ∃ ad, a = some ad ∧ ∀ j v, (bvs z)[j]? = some v → w.cell? (ad.add j) = some v := by
  rcases h with ⟨_, rfl⟩ | ⟨b, off, cap, h0, h1, h2, h3⟩
  · simp [bvs] at hp
  · simp only [Value.slice.injEq] at h0
    refine ⟨⟨b, off, none⟩, h0.1, fun j v hj => ?_⟩
    rw [bvs_get] at hj
    cases hm : z[j]? with
    | none => simp [hm] at hj
    | some x => simp only [hm, Option.map_some, Option.some.injEq] at hj; subst hj; rw [addr_add]; exact h3 j x hm
theorem RdW.src {w : World} {a : Option Addr} {n c : Nat} {z : List UInt8} (h : RdW w (.slice a n c) z) (hp : 0 < (bvs z).length) : ∃ ad, a = some ad ∧ ∀ j v, (bvs z)[j]? = some v → w.cell? (ad.add j) = some v :=
  Rd.src (h.ne (by rintro rfl; simp [bvs] at hp)) hp
theorem Rd.srcTake {w : World} {a : Option Addr} {n c m : Nat} {z : List UInt8} (h : Rd w (.slice a n c) z) (hp : 0 < (bvs (z.take m)).length) : ∃ ad, a = some ad ∧ ∀ j v, (bvs (z.take m))[j]? = some v → w.cell? (ad.add j) = some v := by
  have h0 : 0 < (bvs z).length := by rw [bvs_length] at hp ⊢; rw [List.length_take] at hp; omega
  obtain ⟨ad, h1, h2⟩ := h.src h0
  refine ⟨ad, h1, fun j v hj => h2 j v ?_⟩
  rw [bvs_get] at hj ⊢
  rw [List.getElem?_take] at hj
  split at hj
  · exact hj
  · simp at hj
theorem mkOwn {w : World} {B g n c : Nat} {cs : List Value} {l : List UInt8} (hg : w.heap[g]? = some (.cells cs.toArray 5 (0, 0))) (hB : B ≤ g) (hl : l.length = n) (hn : n ≤ c) (hc : c ≤ maxLen) (hs : cs.length = c) (ht : cs.take n = bvs l) :
    Own w B (.slice (some ⟨g, 0, none⟩) n c) l := by
  subst hl
  exact ⟨by simp [bvs], .inr ⟨g, c, cs.toArray, rfl, hB, hg, hn, hc, by simpa using hs, by rw [Nat.mul_one]; exact ht⟩⟩
theorem Own.row {w : World} {B g n : Nat} {l : List UInt8} (h : Own w B (.slice (some ⟨g, 0, none⟩) n n) l) (hn : l.length = n) : w.heap[g]? = some (.cells (bvs l).toArray 5 (0, 0)) := by
  obtain ⟨h1, h2⟩ := h
  rcases h2 with ⟨h0, _⟩ | ⟨g', cap, cur, h0, hb, hg, hnc, hcm, hcs, htake⟩
  · cases h0
  · cases h0
    rw [hg]
    congr 2
    apply Array.ext'
    rw [List.toList_toArray, ← htake, Nat.mul_one, List.take_of_length_le (by rw [Array.length_toList]; omega)]
theorem lt_of_blk {w : World} {k : Nat} {o : Obj} (h : w.heap[k]? = some o) : k < w.heap.size := (Array.getElem?_eq_some_iff.1 h).1

/-- append of zeros to an owned row -/
theorem zc_one (n : Nat) : (Builtin.zeroCells #[Value.int .u8 0] n).toList = bvs (List.replicate n 0) := by
  rw [← bvs_zeros]
  apply List.ext_getElem?
  intro j
  simp only [Builtin.zeroCells, Array.toList_map, Array.toList_range, List.getElem?_map, List.getElem?_replicate]
  by_cases h : j < n
  · rw [List.getElem?_range (by simpa using h), if_pos h]; simp [Nat.mod_one]
  · rw [List.getElem?_eq_none (by simp; omega), if_neg h]; rfl
theorem run_app0 (w : World) (B : Nat) (v : Value) (l : List UInt8) (k : Nat) (ty : TypeId) (hk : 0 < k) (hown : Own w B v l) (hB : B ≤ w.heap.size) (hb : l.length + k ≤ 1099511627776) :
    ∃ v' w', (Builtin.append_ #[22, 3] ty #[v, .int .i64 (k : Int)]).run Try.prog w = .ok v' w' ∧ Own w' B v' (l ++ List.replicate k 0) ∧ w.grownBy w' v.ownBlock ∧ Fr w v v' := by
  obtain ⟨i0, hi, hz0, hz1, hz2⟩ := info_parts info5
  rcases hown.2 with ⟨rfl, hx0⟩ | ⟨g, cap, cur, rfl, hbg, hgg, hnc, hcm, hcs, htake⟩
  · obtain rfl : l = [] := List.eq_nil_of_length_eq_zero hx0
    have hz := Lib.run_append_nil_zeros (P := Try.prog) w 22 3 ty 5 i0 (.int .u8 0) .i64 .i64 Try.underlying22 Try.underlying3 hi hz0 k hk (by omega) (by omega) (by rw [hz2]; omega)
    have hge := grownCap_ge w k 0 5
    have hle := grownCap_le_maxLen w k 0 5 (by simp only [maxLen]; omega)
    refine ⟨_, _, hz, ?_, gb_same (gb_drew _ _) (gb_alloc _ _ _), fun j hj => .inr (by simp only [Value.ownBlock, Option.some.injEq] at hj; omega)⟩
    refine ⟨by simp [bvs], .inr ⟨w.heap.size, _, _, by simp, hB, heap_alloc_new w.drew _, by simpa using hge, hle, ?_, ?_⟩⟩
    · simp only [Array.size_append, size_zeroCells]; simp [Value.cells]; omega
    · simp only [List.nil_append, List.length_replicate, Nat.mul_one, Array.toList_append]
      rw [show (Value.int .u8 0).cells = #[Value.int .u8 0] from rfl, zc_one, List.take_append_of_le_length (by simp [bvs]), List.take_of_length_le (by simp [bvs])]
  · have hcs' : cur.size = cap := by simpa using hcs
    have htk : cur.toList.take l.length = bvs l := by rw [Nat.mul_one] at htake; exact htake
    have hk0 : k ≠ 0 := by omega
    by_cases hroom : l.length + k ≤ cap
    · have hst := run_storeCells_at Try.prog g l.length 5 (bvs (List.replicate k 0)) 0 cur w hgg (by rw [bvs_length, List.length_replicate]; omega) (bvs_one _)
      simp only [Nat.add_zero] at hst
      have hwr : IntKind.i64.wrap (k : Int) = k := by rw [IntKind.wrap_i64]; omega
      have hneg : ¬ ((k : Int) < 0) := by omega
      have h48i : ¬ (281474976710656 < (k : Int) * ((1 : Nat) : Int)) := by omega
      have hr : (Builtin.append_ #[22, 3] ty #[.slice (some ⟨g, 0, none⟩) l.length cap, .int .i64 (k : Int)]).run Try.prog w = .ok (.slice (some ⟨g, 0, none⟩) (l.length + k) cap) (w.setRow g (cur.toList.take l.length ++ bvs (List.replicate k 0) ++ cur.toList.drop (l.length + (bvs (List.replicate k 0)).length)).toArray) := by
        simp only [Builtin.append_]
        simp [run_underlying Try.underlying22, run_underlying Try.underlying3, sizeOf, typeInfo, zeroValue, hi, hz0, hz1, hz2, asInt, asIntOf, hwr, hneg, hroom, hk0, Addr.add_lit]
        rw [if_neg (by omega)]
        simp [show (Value.int .u8 0).cells = #[Value.int .u8 0] from rfl, zc_one, hst]
      refine ⟨_, _, hr, ?_, gb_setRow w g _, fun j hj => .inl hj⟩
      refine ⟨by simp [bvs], .inr ⟨g, cap, _, by simp, hbg, setRow_heap w g cur _ _ _ hgg, by simpa using hroom, hcm, ?_, ?_⟩⟩
      · simp only [List.size_toArray, List.length_append, List.length_take, List.length_drop, Array.length_toList, bvs_length, List.length_replicate]; omega
      · rw [htk, List.toList_toArray, Nat.mul_one, ← bvs_append, List.take_append_of_le_length (by rw [bvs_length]; exact Nat.le_refl _), List.take_of_length_le (by rw [bvs_length]; exact Nat.le_refl _)]
    · have hf := run_firstCells_some (P := Try.prog) w.drew i0.size l.length ⟨g, 0, none⟩ l.length cap (bvs l) (by rw [hz1, bvs_length]; omega) (fun j y hj => by
        rw [addr_add, Nat.zero_add]
        show w.cell? _ = _
        rw [cell_of_row w g j cur _ (0, 0) hgg]
        rw [← htk, List.getElem?_take] at hj
        split at hj
        · simpa using hj
        · cases hj)
      have hz := Lib.run_append_grow_zeros (P := Try.prog) w 22 3 ty 5 i0 (.int .u8 0) .i64 .i64 Try.underlying22 Try.underlying3 hi hz0 (some ⟨g, 0, none⟩) l.length cap (bvs l) hf k hk (by omega) (by omega) (by omega) (by rw [hz2]; omega) (by rw [hz2]; exact growslice_fits (by omega) (by omega))
      have hge := grownCap_ge w (l.length + k) cap 5
      have hle := grownCap_le_maxLen w (l.length + k) cap 5 (by simp only [maxLen]; omega)
      refine ⟨_, _, hz, ?_, gb_same (gb_drew _ _) (gb_alloc _ _ _), fun j hj => .inr (by simp only [Value.ownBlock, Option.some.injEq] at hj; omega)⟩
      refine ⟨by simp [bvs], .inr ⟨w.heap.size, _, _, by simp, hB, heap_alloc_new w.drew _, by simpa using hge, hle, ?_, ?_⟩⟩
      · simp only [Array.size_append, size_zeroCells]; simp [Value.cells, bvs]; omega
      · simp only [Array.toList_append, Nat.mul_one, List.length_append, List.length_replicate]
        rw [show (Value.int .u8 0).cells = #[Value.int .u8 0] from rfl, zc_one, List.toList_toArray, ← bvs_append, List.take_append_of_le_length (by simp [bvs]), List.take_of_length_le (by simp [bvs])]
theorem app_zeros {ops : Array Oper} {rest : List Oper} {o : Oper} {a : Act} {w : World} {Q : Exit → Act → World → Prop} (hgd : o.guard = none) (s x : Operand)
    (ho : o.op = .call { callee := .builtin .append, args := #[s, x], argTypes := #[22, 3] })
    (B : Nat) (v : Value) (l : List UInt8) (k : Nat) (hs : a.eval s = v) (hx : a.eval x = .int .i64 (k : Int)) (hk : 0 < k) (hown : Own w B v l) (hB : B ≤ w.heap.size) (hb : l.length + k ≤ 1099511627776)
    (h : ∀ v' w', Own w' B v' (l ++ List.replicate k 0) → w.grownBy w' v.ownBlock → Fr w v v' → wpList Try.prog ops Q rest (a.put o.dst v') w') : wpList Try.prog ops Q (o :: rest) a w := by
  obtain ⟨v', w', hr, h2, h3, h4⟩ := run_app0 w B v l k o.type hk hown hB hb
  refine wpList_plain hgd fun _ hK => ?_
  unfold Oper.wp execOp
  simp only [ho, resolve, invoke, builtin, Sem.run_bind, Sem.run_pure, Result.andThen_ok, List.map_toArray, List.map_cons, List.map_nil, hs, hx, hr]
  exact hK _ _ (h v' w' h2 h3 h4)
/-- the image with n bytes -/
def sized (l : List UInt8) (n : Nat) : List UInt8 := if n ≤ l.length then l.take n else l ++ List.replicate (n - l.length) 0
theorem sized_len (l : List UInt8) (n : Nat) : (sized l n).length = n := by unfold sized; split <;> simp <;> omega
def ResP (w : World) (B : Nat) (v : Value) (l : List UInt8) (e : Ending) (w' : World) : Prop := ∃ v', e = .returned v' ∧ Own w' B v' l ∧ w.grownBy w' v.ownBlock ∧ Fr w v v'
theorem Own.take {w : World} {B : Nat} {a : Option Addr} {n c : Nat} {l : List UInt8} (h : Own w B (.slice a n c) l) {m : Nat} (hm : m ≤ l.length) : Own w B (.slice a m c) (l.take m) := by
  obtain ⟨h1, h2⟩ := h
  have hl : (l.take m).length = m := by rw [List.length_take]; omega
  refine ⟨by rw [bvs_length]; omega, ?_⟩
  rw [hl]
  rcases h2 with ⟨h0, hn⟩ | ⟨g, cap, cur, h0, hb, hg, hnc, hcm, hcs, htake⟩
  · cases h0
    exact .inl ⟨by rw [show m = 0 by omega], by omega⟩
  · cases h0
    refine .inr ⟨g, c, cur, rfl, hb, hg, by omega, hcm, hcs, ?_⟩
    rw [Nat.mul_one] at htake ⊢
    have e : bvs (l.take m) = (bvs l).take m := by unfold bvs; rw [List.map_take]
    rw [e, ← htake, List.take_take, Nat.min_eq_left hm]

end Go.Proofs.Ytfdkmncjcehdkaa
