/-
  image.Apply: the walk.
-/
import Derived.Test.YtnkgoaloigmmfaaIMath2
import Derived.Test.YtnkgoaloigmmfaaIAwake
import Derived.Deep.RegionLaw
import Derived.Laws.CopyOwn
namespace Go.Proofs.Ytnkgoaloigmmfaa
open Go.RowKit

theorem sz5 : (Try.prog.info? 5).map (·.size) = some 1 := by kernel_rfl
theorem wpl_copy {w : World} {ops : Array Oper} {rest : List Oper} {o : Oper} {a : Act} {Q : Exit → Act → World → Prop} (hgd : o.guard = none) (d s : Operand)
    (ho : o.op = .call { callee := .builtin .copy, args := #[d, s], argTypes := #[22, 22] })
    (dp sp : Option Addr) (dLen dCap sLen sCap : Nat) (hd : a.eval d = .slice dp dLen dCap) (hs : a.eval s = .slice sp sLen sCap)
    (g off : Nat) (cur : List Value) (hg : w.heap[g]? = some (.cells cur.toArray 5 (0, 0))) (cs : List Value) (hn : cs.length = Nat.min sLen dLen)
    (hpos : 0 < cs.length → dp = some ⟨g, off, none⟩ ∧ ∃ ad, sp = some ad ∧ ∀ j v, cs[j]? = some v → w.cell? (ad.add j) = some v)
    (hfit : off + cs.length ≤ cur.length) (h1 : ∀ v ∈ cs, v.oneCell' = true)
    (h : ∀ w', w'.heap[g]? = some (.cells (splice cur off cs).toArray 5 (0, 0)) → w.grownBy w' (some g) → wpList Try.prog ops Q rest (a.put o.dst (goInt cs.length)) w') :
    wpList Try.prog ops Q (o :: rest) a w := by
  by_cases h0 : cs.length = 0
  · obtain rfl : cs = [] := List.eq_nil_of_length_eq_zero h0
    refine wpList_copy_nothing hgd d s _ _ ho 5 Try.underlying22 sz5 dp sp dLen dCap sLen sCap hd hs (by simpa using hn.symm) ?_
    exact h w (by simpa [splice] using hg) (gb_refl _ _)
  · obtain ⟨rfl, ad, rfl, hsrc⟩ := hpos (by omega)
    refine wpList_copy_own hgd d s _ _ ho 5 Try.underlying22 sz5 g off dLen dCap ad sLen sCap hd hs cur.toArray _ hg cs hn hsrc (by simpa using hfit) h1 ?_
    exact h _ (by simpa [splice] using setRow_heap w g _ _ _ _ hg) (gb_setRow w g _)
theorem step_copy {ops : Array Oper} {o : Oper} {a : Act} {w : World} {K : Act → World → Prop} {Q : Exit → Act → World → Prop} {E : Prop} (hgd : o.guard = none) (d s : Operand)
    (ho : o.op = .call { callee := .builtin .copy, args := #[d, s], argTypes := #[22, 22] })
    (dp sp : Option Addr) (dLen dCap sLen sCap : Nat) (hd : a.eval d = .slice dp dLen dCap) (hs : a.eval s = .slice sp sLen sCap)
    (g off : Nat) (cur : List Value) (hg : w.heap[g]? = some (.cells cur.toArray 5 (0, 0))) (cs : List Value) (hn : cs.length = Nat.min sLen dLen)
    (hpos : 0 < cs.length → dp = some ⟨g, off, none⟩ ∧ ∃ ad, sp = some ad ∧ ∀ j v, cs[j]? = some v → w.cell? (ad.add j) = some v)
    (hfit : off + cs.length ≤ cur.length) (h1 : ∀ v ∈ cs, v.oneCell' = true)
    (h : ∀ w', w'.heap[g]? = some (.cells (splice cur off cs).toArray 5 (0, 0)) → w.grownBy w' (some g) → K (a.put o.dst (goInt cs.length)) w') :
    if Region.wanted o (yielded ops a.tmps) = true then Oper.wp Try.prog o a w K Q else E := by
  have hw : Region.wanted o (yielded ops a.tmps) = true := by simp [Region.wanted, hgd]
  rw [if_pos hw]
  by_cases h0 : cs.length = 0
  · obtain rfl : cs = [] := List.eq_nil_of_length_eq_zero h0
    have hrun := run_copy_none (P := Try.prog) w 22 22 o.type 5 dp sp dLen dCap sLen sCap Try.underlying22 sz5 (by simpa using hn.symm)
    unfold Oper.wp
    simp [execOp, ho, resolve, invoke, builtin, hd, hs, hrun, Result.andThen]
    exact h w (by simpa [splice] using hg) (gb_refl _ _)
  · obtain ⟨rfl, ad, rfl, hsrc⟩ := hpos (by omega)
    have hrun := run_copy_row (P := Try.prog) w 22 22 o.type 5 g off dLen dCap ad sLen sCap cur.toArray 5 cs Try.underlying22 sz5 hg hn hsrc (by simpa using hfit) h1
    unfold Oper.wp
    simp [execOp, ho, resolve, invoke, builtin, hd, hs, hrun, Result.andThen]
    exact h _ (by simpa [splice] using setRow_heap w g _ _ _ _ hg) (gb_setRow w g _)
/-- a call that only reckons, as one step of a region that draws its order -/
theorem step_call {ops : Array Oper} {o : Oper} {a : Act} {w : World} {K : Act → World → Prop} {Q : Exit → Act → World → Prop} {E : Prop} (hgd : o.guard = none) (f : FuncId) (x y : Operand) (ts : Array TypeId)
    (ho : o.op = .call { callee := .value (.func f), args := #[x, y], argTypes := ts }) (hf : ∀ args w, (callFunc f args).run Try.prog w = .ok (.enter f args) w) (u v r : Value) (hx : a.eval x = u) (hy : a.eval y = v)
    (h : Calls Try.prog f #[u, v] w fun e w' => e = .returned r ∧ w = w') (hK : K (a.put o.dst r) w) :
    if Region.wanted o (yielded ops a.tmps) = true then Oper.wp Try.prog o a w K Q else E := by
  have hw : Region.wanted o (yielded ops a.tmps) = true := by simp [Region.wanted, hgd]
  rw [if_pos hw]
  have hrun : ∀ ρ : Operand → Value, ρ x = u → ρ y = v → ρ (.func f) = .func (.func f) #[] #[] → (execOp ρ o).run Try.prog w = .ok (.enter f #[u, v]) w := by
    intro ρ h1 h2 h3
    simp [execOp, ho, resolve, invoke, go_sem, hf, h1, h2, h3]
  unfold Oper.wp
  rw [hrun _ hx hy rfl]
  refine h.mono ?_
  rintro e w' ⟨rfl, rfl⟩
  exact hK
theorem Rd.src {w : World} {a : Option Addr} {n c : Nat} {z : List UInt8} (h : Rd w (.slice a n c) z) (hp : 0 < (bvs z).length) : ∃ ad, a = some ad ∧ ∀ j v, (bvs z)[j]? = some v → w.cell? (ad.add j) = some v := by
  rcases h with ⟨_, rfl⟩ | ⟨b, off, cap, h0, h1, h2, h3⟩
  · simp [bvs] at hp
  · simp only [Value.slice.injEq] at h0
    refine ⟨⟨b, off, none⟩, h0.1, fun j v hj => ?_⟩
    rw [bvs_get] at hj
    cases hm : z[j]? with
    | none => simp [hm] at hj
    | some x => simp only [hm, Option.map_some, Option.some.injEq] at hj; subst hj; rw [addr_add]; exact h3 j x hm
theorem RdW.src {w : World} {a : Option Addr} {n c : Nat} {z : List UInt8} (h : RdW w (.slice a n c) z) (hp : 0 < (bvs z).length) : ∃ ad, a = some ad ∧ ∀ j v, (bvs z)[j]? = some v → w.cell? (ad.add j) = some v :=
  Rd.src (h.ne (by rintro rfl; simp [bvs] at hp)) hp
theorem Rd.srcTake {w : World} {a : Option Addr} {n c m : Nat} {z : List UInt8} (h : Rd w (.slice a n c) z) (hp : 0 < (bvs (z.take m)).length) : ∃ ad, a = some ad ∧ ∀ j v, (bvs (z.take m))[j]? = some v → w.cell? (ad.add j) = some v := by
  have h0 : 0 < (bvs z).length := by rw [bvs_length] at hp ⊢; rw [List.length_take] at hp; omega
  obtain ⟨ad, h1, h2⟩ := h.src h0
  refine ⟨ad, h1, fun j v hj => h2 j v ?_⟩
  rw [bvs_get] at hj ⊢
  rw [List.getElem?_take] at hj
  split at hj
  · exact hj
  · simp at hj
theorem mkOwn {w : World} {B g n c : Nat} {cs : List Value} {l : List UInt8} (hg : w.heap[g]? = some (.cells cs.toArray 5 (0, 0))) (hB : B ≤ g) (hl : l.length = n) (hn : n ≤ c) (hc : c ≤ maxLen) (hs : cs.length = c) (ht : cs.take n = bvs l) :
    Own w B (.slice (some ⟨g, 0, none⟩) n c) l := by
  subst hl
  exact ⟨by simp [bvs], .inr ⟨g, c, cs.toArray, rfl, hB, hg, hn, hc, by simpa using hs, by rw [Nat.mul_one]; exact ht⟩⟩
theorem Own.row {w : World} {B g n : Nat} {l : List UInt8} (h : Own w B (.slice (some ⟨g, 0, none⟩) n n) l) (hn : l.length = n) : w.heap[g]? = some (.cells (bvs l).toArray 5 (0, 0)) := by
  obtain ⟨h1, h2⟩ := h
  rcases h2 with ⟨h0, _⟩ | ⟨g', cap, cur, h0, hb, hg, hnc, hcm, hcs, htake⟩
  · cases h0
  · cases h0
    rw [hg]
    congr 2
    apply Array.ext'
    rw [List.toList_toArray, ← htake, Nat.mul_one, List.take_of_length_le (by rw [Array.length_toList]; omega)]

def ApplyP (w : World) (ok : Bool) (l : List UInt8) (e : Ending) (w' : World) : Prop :=
  ∃ v er, e = .returned (.tuple #[v, .int .i64 er]) ∧ w.grownBy w' none ∧ (ok = true → er = 0 ∧ Own w' w.heap.size v l) ∧ (ok = false → er = 1 ∧ v = .slice none 0 0)

theorem lt_of_blk {w : World} {k : Nat} {o : Obj} (h : w.heap[k]? = some o) : k < w.heap.size := (Array.getElem?_eq_some_iff.1 h).1
theorem splice_base (a : List UInt8) (L : Nat) : splice (bvs (List.replicate L 0)) 0 (bvs (a.take L)) = bvs (base a L) := by
  unfold splice base
  rw [List.take_zero, List.nil_append, Nat.zero_add, bvs_length, bvs_append]
  congr 1
  unfold bvs
  rw [List.map_replicate, List.map_replicate, List.drop_replicate, List.length_take]
  congr 1
  omega
theorem splice_put (cur : List UInt8) (c : CT) : splice (bvs cur) (c.1.toNat * 128) (bvs c.2) = bvs (putPg cur c) := by
  unfold splice putPg bvs
  simp

set_option maxRecDepth 100000 in
set_option maxHeartbeats 4000000 in
theorem apply_any (va cv : Value) (a : List UInt8) (L : Int) (ps : List ChP) (w : World) (ha : Rd w va a) (hc : RdCs w cv ps) :
    Calls Try.prog 22 #[va, .agg #[.int .i64 L, cv]] w (ApplyP w (validB a.length L (ps.map (·.1))) (applyL a L.toNat (ps.map (·.1)))) := by
  obtain ⟨aa, ca, rfl⟩ := ha.len
  have hcl := hc.small
  obtain ⟨ac, cc, rfl⟩ := hc.len
  obtain ⟨w0, hw0⟩ : ∃ w0, w.alloc (Obj.cells #[.int .i64 L, .slice ac ps.length cc] 29) = w0 := ⟨_, rfl⟩
  have hb0 := heap_at_alloc w (Obj.cells #[.int .i64 L, .slice ac ps.length cc] 29)
  have hg0 := gb_alloc w (Obj.cells #[.int .i64 L, .slice ac ps.length cc] 29) none
  rw [hw0] at hb0 hg0
  have HV := Lib.hid (valid_any a.length L (.slice ac ps.length cc) ps w0 (hc.grown hg0) ha.small)
  have HA := Lib.hid ha
  have HCS := Lib.hid hc
  have HW0 := Lib.hid hw0
  have HB0 := Lib.hid hb0
  have HG0 := Lib.hid hg0
  have hs := ha.small
  clear ha hc hw0 hb0 hg0
  cases hv : validB a.length L (ps.map (·.1))
  · rw [hv] at HV
    clear hv
    go_enter Try.func22, Try.ntmps22
    go_wp2_with (go_at_call 24; rw [HW0.out]; refine HV.out.mono ?_; rintro e w1 ⟨rfl, hg1⟩)
    refine bodyPost_ret (v := .tuple #[.slice none 0 0, .int .i64 1]) (by simp [results, Try.results22, go_sem]) rfl ?_
    exact ⟨_, _, rfl, gb_same HG0.out hg1, (fun h => by cases h), fun _ => ⟨rfl, rfl⟩⟩
  · rw [hv] at HV
    have hv2 : 0 ≤ L ∧ L ≤ 24000 ∧ validN a.length L.toNat (ps.map (·.1)) = true := by
      unfold validB at hv
      rw [Bool.and_eq_true, decide_eq_true_eq, Int.toNat_natCast] at hv
      exact ⟨hv.1.2.1, hv.1.2.2, hv.2⟩
    obtain ⟨hL0, hL1, hvn⟩ := hv2
    obtain ⟨m, rfl⟩ := Int.eq_ofNat_of_zero_le hL0
    rw [Int.toNat_natCast] at hvn ⊢
    have hspec := validN_spec hvn
    have HOK := Lib.hid hspec.1
    clear hv hvn hspec hL0
    go_enter Try.func22, Try.ntmps22
    go_wp2_with (first | (go_at_call 24; rw [HW0.out]; refine HV.out.mono ?_; go_must (rintro e w1 ⟨rfl, hg1⟩; have HG1 := Lib.hid hg1; have hb1 := blk_kept HB0.out hg1; have c0 : w1.cell? ⟨w.heap.size, 0, none⟩ = some (.int .i64 m) := cell_row hb1; have c1 : w1.cell? ⟨w.heap.size, 1, none⟩ = some (.slice ac ps.length cc) := cell_row hb1; clear hg1 hb1)) | ((with_reducible refine mk_step rfl _ _ rfl m rfl rfl (by omega) ?_); go_must (intro w2 ho2 hg2; have HR2 := Lib.hid (ho2.row List.length_replicate); have HG2 := Lib.hid hg2; have e0 := hg2.cell c0 (by simp); have e1 := hg2.cell c1 (by simp); have hlt2 : w1.heap.size < w2.heap.size := (ho2.lt _ rfl).2; clear ho2 hg2)) | ((refine wpl_copy rfl (.tmp 17) (.tmp 18) rfl _ _ _ _ _ _ rfl rfl w1.heap.size 0 (bvs (List.replicate m 0)) HR2.out (bvs (a.take m)) (by rw [bvs_length, List.length_take]; exact Nat.min_comm _ _) (fun hp => ⟨rfl, Rd.srcTake ((HA.out.grown (gb_same HG0.out HG1.out)).grown HG2.out) hp⟩) (by rw [bvs_length, bvs_length, List.length_take, List.length_replicate]; omega) (bvs_one _) ?_); go_must (intro w3 hb3 hg3; rw [splice_base] at hb3; have HB3 := Lib.hid hb3; have HG3 := Lib.hid hg3; have f0 := hg3.cell e0 (by simp; have := HG1.out.size; have := lt_of_blk HB0.out; omega); have f1 := hg3.cell e1 (by simp; have := HG1.out.size; have := lt_of_blk HB0.out; omega); clear hb3 hg3)))
    have HG3' : Hid (w.grownBy w3 none) := Lib.hid (gb_trans (gb_same (gb_same HG0.out HG1.out) HG2.out) HG3.out (fun k hk => .inr (by cases hk; have := HG1.out.size; have := HG0.out.size; omega)))
    have hlt1 : w.heap.size < w1.heap.size := by have := HG1.out.size; have := lt_of_blk HB0.out; omega
    clear HG3 HR2 HG2 e0 e1 c0 c1 hlt2 f0 f1
    go_loopw [23] (fun i wr => ∃ k : Nat, k ≤ ps.length ∧ i = .int .i64 k ∧ Hid (wr.heap[w1.heap.size]? = some (.cells (bvs (((ps.map (·.1)).take k).foldl putPg (base a m))).toArray 5 (0, 0))) ∧ Hid (w.grownBy wr none)) (fun i _ => ps.length - (intOf i).toNat)
    case atStart => exact ⟨0, Nat.zero_le _, rfl, Lib.hid HB3.out, HG3'⟩
    case round =>
      obtain ⟨k, hk, rfl, HR, HG⟩ := hrel
      by_cases hlt : k < ps.length
      · obtain ⟨p, hp⟩ : ∃ p, ps[k]? = some p := ⟨ps[k], by simp [hlt]⟩
        obtain ⟨gb, off, rfl, q0, q1⟩ := HCS.out.at hp
        have hpm := List.mem_of_getElem? hp
        have hok : OkC m p.1 := HOK.out p.1 (List.mem_map_of_mem hpm)
        have hrd := (HCS.out.2 p hpm).grown HG.out
        obtain ⟨ad, cd, hp2⟩ := hrd.len
        rw [hp2] at q1 hrd
        have r0 := HG.out.cell q0 (by simp)
        have r1 := HG.out.cell q1 (by simp)
        obtain ⟨cur, hcur⟩ : ∃ cur, ((ps.map (·.1)).take k).foldl putPg (base a m) = cur := ⟨_, rfl⟩
        rw [hcur] at HR
        have hcl2 : cur.length = m := by rw [← hcur]; exact fold_len _ (base_len a m) (fun c hc => HOK.out c (List.mem_of_mem_take hc))
        have HNX : Hid (((ps.map (·.1)).take (k + 1)).foldl putPg (base a m) = putPg cur p.1) := Lib.hid (by
          have e : (ps.map (·.1))[k]? = some p.1 := by rw [List.getElem?_map, hp]; rfl
          rw [List.take_add_one, e, List.foldl_append, hcur]; rfl)
        obtain ⟨j, hj1, hj2, hj3⟩ := hok
        have hszp := (OkC.fit ⟨j, hj1, hj2, hj3⟩)
        obtain ⟨⟨pk, pd⟩, dv⟩ := p
        simp only at hj1 hj3 hszp hp2 r0 r1 hrd HNX
        subst hj1
        simp only [Int.toNat_natCast] at hszp
        obtain ⟨n, hn⟩ : ∃ n, pd.length = n := ⟨_, rfl⟩
        have HPN := Lib.hid hn
        have HSP : Hid (splice (bvs cur) (j * 128) (bvs pd) = bvs (putPg cur ((j : Int), pd))) := Lib.hid (by have := splice_put cur ((j : Int), pd); simpa using this)
        rw [hn] at hj3 hszp hrd r1
        have HRD := Lib.hid hrd
        have HCUT : Hid (∀ W, wr.grownBy W none → Calls Try.prog 30 #[.slice (some ⟨w1.heap.size, 0, none⟩) m m, .int .i64 j] W fun e w' => e = .returned (.slice (some ⟨w1.heap.size, j * 128, none⟩) n n) ∧ W = w') := Lib.hid (fun W hg => by
          have hrw := mkOwn (n := m) (c := m) (B := 0) (l := cur) (blk_kept HR.out hg) (Nat.zero_le _) hcl2 (Nat.le_refl _) (by unfold maxLen; omega) (by rw [bvs_length, hcl2]) (by rw [List.take_of_length_le (by rw [bvs_length, hcl2]; exact Nat.le_refl _)])
          have h9 := cut_any _ cur j W hrw.rd (by omega) (by omega)
          rw [hcl2, cutV_at, ← hj3, if_neg (by omega), Int.toNat_natCast, Nat.zero_add] at h9
          exact h9)
        have HFIT : Hid (j * 128 + n ≤ m ∧ 0 < n) := Lib.hid hszp
        have HCL2 := Lib.hid hcl2
        have HGA := Lib.hid (fun o => gb_alloc wr o none)
        have HNE : Hid (w1.heap.size < wr.heap.size) := Lib.hid (lt_of_blk HR.out)
        clear q0 q1 hpm hrd hp2 hcl2 hj3 hszp hn hcur hp hj2
        go_wp2_with fail
        go_region_law (first | ((refine step_copy rfl (.tmp 30) (.tmp 32) rfl _ _ n n n cd rfl rfl w1.heap.size (j * 128) (bvs cur) (blk_kept HR.out (gb_same (HGA.out _) (gb_drew _ _))) (bvs pd) (by rw [bvs_length, HPN.out]; exact (Nat.min_self _).symm) (fun hp => ⟨rfl, RdW.src ((HRD.out.grown (HGA.out _)).grown (gb_drew _ _)) hp⟩) (by rw [bvs_length, bvs_length, HPN.out, HCL2.out]; exact HFIT.out.1) (bvs_one _) ?_); intro w5 hb5 hg5; rw [HSP.out] at hb5; have HB5 := Lib.hid hb5; have HG5 := Lib.hid hg5; clear hb5 hg5) | (refine step_call rfl 30 _ _ _ rfl (enters_of Try.func30 (by kernel_rfl) rfl) _ _ _ rfl rfl (HCUT.out _ (gb_same (HGA.out _) (gb_drew _ _))) ?_))
        all_goals
          go_wp2
          go_roundw
          case rel => exact ⟨k + 1, by omega, by go_num, Lib.hid (by rw [HNX.out]; exact HB5.out), Lib.hid (gb_trans (gb_same (gb_same HG.out (HGA.out _)) (gb_drew _ none)) HG5.out (fun k hk => .inr (by cases hk; omega)))⟩
          case measure => simp [intOf]; omega
      · obtain rfl : k = ps.length := by omega
        rw [List.take_of_length_le (by simp)] at HR
        go_wp2
        refine bodyPost_ret (v := .tuple #[.slice (some ⟨w1.heap.size, 0, none⟩) m m, .int .i64 0]) (by simp [results, Try.results22, go_sem]) rfl ?_
        refine ⟨_, _, rfl, HG.out, fun _ => ⟨rfl, ?_⟩, fun h => by cases h⟩
        have hlen : (applyL a m (ps.map (·.1))).length = m := fold_len _ (base_len a m) HOK.out
        exact mkOwn HR.out (by omega) hlen (Nat.le_refl _) (by unfold maxLen; omega) (by rw [bvs_length]; exact hlen) (by rw [List.take_of_length_le (by rw [bvs_length]; exact Nat.le_of_eq hlen)]; rfl)
end Go.Proofs.Ytnkgoaloigmmfaa
