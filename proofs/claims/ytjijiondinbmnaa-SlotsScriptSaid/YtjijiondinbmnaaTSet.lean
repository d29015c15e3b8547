/-
  Get, Set, Drop of a table: the walks.
-/
import Derived.Test.YtjijiondinbmnaaTPut
namespace Go.Proofs.Ytjijiondinbmnaa
open Go.RowKit

def getN (l : List SS) (x : Int) : Int := match findI l x with | none => 0 | some i => (l.getD i zS).2.2
def getB (l : List SS) (x : Int) : Bool := (findI l x).isSome
def errF (l : List SS) (x : Int) : Int := match findI l x with | none => 8 | some _ => 0
def setL (l : List SS) (x v : Int) : List SS := match findI l x with | none => l | some i => l.set i ((l.getD i zS).1, true, v)
def dropL (l : List SS) (x : Int) : List SS := match findI l x with | none => l | some i => l.set i ((l.getD i zS).1 + 1, false, 0)
def GetP (n : Int) (b : Bool) (w : World) (e : Ending) (w' : World) : Prop := e = .returned (.tuple #[.int .i64 n, .bool b]) ∧ w.grownBy w' none
def ChgP (l : List SS) (n : Int) (g s : Nat) (w : World) (e : Ending) (w' : World) : Prop := e = .returned (.int .i64 n) ∧ w.grownBy w' (some s) ∧ IsT w' g s l
theorem gd {l : List SS} {i : Nat} {p : SS} (h : l[i]? = some p) : l.getD i zS = p := by rw [List.getD_eq_getElem?_getD, h]; rfl
theorem IsT.dropped {w : World} {g s : Nat} {l : List SS} (h : IsT w g s l) {b : Nat} {p : SS} (hp : l[b]? = some p) (hf : p.2.1 = true) :
    IsT (((w.setCell ⟨s, b * 3, none⟩ (.int .i64 ((p.1 : Int) + 1))).setCell ⟨s, b * 3 + 1, none⟩ (.bool false)).setCell ⟨s, b * 3 + 2, none⟩ (.int .i64 0)) g s (l.set b (p.1 + 1, false, 0)) ∧
    w.grownBy (((w.setCell ⟨s, b * 3, none⟩ (.int .i64 ((p.1 : Int) + 1))).setCell ⟨s, b * 3 + 1, none⟩ (.bool false)).setCell ⟨s, b * 3 + 2, none⟩ (.int .i64 0)) (some s) := by
  have hok := h.ok p (List.mem_of_getElem? hp)
  have hlt : b < l.length := (List.getElem?_eq_some_iff.1 hp).1
  refine ⟨?_, gb_same (gb_same (gb_setCell _ _ _) (gb_setCell _ _ _)) (gb_setCell _ _ _)⟩
  obtain ⟨k1, k2⟩ := World.ownsRow.stored h.row (b * 3) (.int .i64 ((p.1 : Int) + 1))
  have e0 := cellsS_set0 l (p.1 + 1) hp
  rw [Int.natCast_add] at e0
  rw [show ((p.1 : Int) + 1) = (p.1 : Int) + ((1 : Nat) : Int) from rfl] at k1 k2 ⊢
  rw [e0] at k1
  obtain ⟨k3, k4⟩ := World.ownsRow.stored k1 (b * 3 + 1) (.bool false)
  rw [cellsS_set1 _ false (p := (p.1 + 1, p.2.1, p.2.2)) (by simp [hlt]), List.set_set] at k3
  obtain ⟨k5, k6⟩ := World.ownsRow.stored k3 (b * 3 + 2) (.int .i64 0)
  rw [cellsS_set2 _ 0 (p := (p.1 + 1, false, p.2.2)) (by simp [hlt]), List.set_set] at k5
  have hlen : (l.set b (p.1 + 1, false, 0)).length = l.length := by simp
  have hne := h.ne
  refine ⟨?_, by rw [hlen]; exact k5, h.ne, by rw [hlen]; exact h.pos, by rw [hlen]; exact h.len, set_mem h.ok ⟨by have := hok.2.1 hf; simp only; omega, by simp, by simp, by simp [OkI]⟩⟩
  rw [hlen]
  exact blk_kept' (blk_kept' (blk_kept' h.tab k2 (by simp; omega)) k4 (by simp; omega)) k6 (by simp; omega)
set_option maxRecDepth 100000 in
theorem get_any {w : World} {g s : Nat} {l : List SS} (h : IsT w g s l) (x : Int) (hx : OkI x) : Calls Try.prog 25 #[.pointer (some ⟨g, 0, none⟩), .int .i64 x] w (GetP (getN l x) (getB l x) w) := by
  have HF := Lib.hid (find_any h x hx)
  have H := Lib.hid h
  clear h
  unfold getN getB
  cases hf : findI l x with
  | none =>
    rw [hf] at HF
    go_enter Try.func25, Try.ntmps25
    go_wp2_with fail
    refine HF.out.mono ?_
    rintro e w1 ⟨rfl, hg1⟩
    have HG := Lib.hid hg1
    clear hg1
    simp only [findV]
    go_wp2
    go_ret2
    exact ⟨rfl, HG.out⟩
  | some i =>
    rw [hf] at HF
    obtain ⟨p, hp, _⟩ := findI_spec hf
    have HP := Lib.hid hp
    simp only [gd hp]
    clear hf hp
    go_enter Try.func25, Try.ntmps25
    go_wp2_with fail
    refine HF.out.mono ?_
    rintro e w1 ⟨rfl, hg1⟩
    have HT := Lib.hid (H.out.grown hg1)
    obtain ⟨_, _, q2⟩ := HT.out.at HP.out
    have HG := Lib.hid hg1
    clear hg1
    simp only [findV]
    go_wp2
    go_ret2
    exact ⟨rfl, HG.out⟩
set_option maxRecDepth 100000 in
theorem change_set {w : World} {g s : Nat} {l : List SS} (h : IsT w g s l) (x v : Int) (hx : OkI x) (hv : OkI v) (c : Nat) (hc : w.cell? ⟨c, 0, none⟩ = some (.int .i64 v)) :
    Calls Try.prog 46 #[.pointer (some ⟨g, 0, none⟩), .int .i64 x, .func (.func 47) #[] #[.pointer (some ⟨c, 0, none⟩)]] w (ChgP (setL l x v) (errF l x) g s w) := by
  have HF := Lib.hid (find_any h x hx)
  have H := Lib.hid h
  have HC := Lib.hid hc
  clear h hc
  unfold setL errF
  cases hf : findI l x with
  | none =>
    rw [hf] at HF
    go_enter Try.func46, Try.ntmps46
    go_wp2_with fail
    refine HF.out.mono ?_
    rintro e w1 ⟨rfl, hg1⟩
    have HG := Lib.hid hg1
    clear hg1
    simp only [findV]
    go_wp2
    go_ret
    exact ⟨rfl, gb_none _ HG.out, H.out.grown HG.out⟩
  | some i =>
    rw [hf] at HF
    obtain ⟨p, hp, hfull, _⟩ := findI_spec hf
    have HP := Lib.hid hp
    simp only [gd hp]
    clear hf hp
    go_enter Try.func46, Try.ntmps46
    go_wp2_with fail
    refine HF.out.mono ?_
    rintro e w1 ⟨rfl, hg1⟩
    have HT := Lib.hid (H.out.grown hg1)
    obtain ⟨_, _, q2⟩ := HT.out.at HP.out
    have f2 := HT.out.frozen (i * 3 + 2)
    have qc := hg1.cell HC.out (by simp)
    have HG := Lib.hid hg1
    clear hg1
    simp only [findV]
    go_wp2_with go_in
    go_ret
    have hok := HT.out.ok p (List.mem_of_getElem? HP.out)
    refine ⟨rfl, gb_trans (gb_none (some s) HG.out) (gb_setCell _ _ _) (fun _ e => .inl e), HT.out.store _ _ _ (by rw [cellsS_set2 l v HP.out, hfull]) (by simp) (set_mem HT.out.ok ⟨hok.1, fun _ => hok.2.1 hfull, by simp, hv⟩)⟩
set_option maxRecDepth 100000 in
theorem change_drop {w : World} {g s : Nat} {l : List SS} (h : IsT w g s l) (x : Int) (hx : OkI x) :
    Calls Try.prog 46 #[.pointer (some ⟨g, 0, none⟩), .int .i64 x, .func (.func 48) #[] #[]] w (ChgP (dropL l x) (errF l x) g s w) := by
  have HF := Lib.hid (find_any h x hx)
  have H := Lib.hid h
  clear h
  unfold dropL errF
  cases hf : findI l x with
  | none =>
    rw [hf] at HF
    go_enter Try.func46, Try.ntmps46
    go_wp2_with fail
    refine HF.out.mono ?_
    rintro e w1 ⟨rfl, hg1⟩
    have HG := Lib.hid hg1
    clear hg1
    simp only [findV]
    go_wp2
    go_ret
    exact ⟨rfl, gb_none _ HG.out, H.out.grown HG.out⟩
  | some i =>
    rw [hf] at HF
    obtain ⟨p, hp, hfull, _⟩ := findI_spec hf
    have HP := Lib.hid hp
    simp only [gd hp]
    clear hf hp
    go_enter Try.func46, Try.ntmps46
    go_wp2_with fail
    refine HF.out.mono ?_
    rintro e w1 ⟨rfl, hg1⟩
    have HT := Lib.hid (H.out.grown hg1)
    obtain ⟨q0, q1, q2⟩ := HT.out.at HP.out
    have f0 := HT.out.frozen (i * 3)
    have f1 := HT.out.frozen (i * 3 + 1)
    have f2 := HT.out.frozen (i * 3 + 2)
    have hok := HT.out.ok p (List.mem_of_getElem? HP.out)
    have hgl : (p.1 : Int) < 1000 := by have := hok.2.1 hfull; omega
    have HOK := Lib.hid hok
    have HG := Lib.hid hg1
    clear hg1 hok
    simp only [findV]
    go_wp2_with go_in
    go_ret
    obtain ⟨k1, k2⟩ := HT.out.dropped HP.out hfull
    exact ⟨rfl, gb_trans (gb_none (some s) HG.out) k2 (fun _ e => .inl e), k1⟩
set_option maxRecDepth 100000 in
theorem set_any {w : World} {g s : Nat} {l : List SS} (h : IsT w g s l) (x v : Int) (hx : OkI x) (hv : OkI v) : Calls Try.prog 23 #[.pointer (some ⟨g, 0, none⟩), .int .i64 x, .int .i64 v] w (ChgP (setL l x v) (errF l x) g s w) := by
  obtain ⟨w1, hw1⟩ : ∃ w1, w.alloc (.cells #[.int .i64 v] 3) = w1 := ⟨_, rfl⟩
  have hg : w.grownBy w1 none := by rw [← hw1]; exact gb_alloc _ _ _
  have hc : w1.cell? ⟨w.heap.size, 0, none⟩ = some (.int .i64 v) := by rw [← hw1, World.cell?_alloc_at _ _ _ _ rfl]; rfl
  have HC := Lib.hid (change_set (h.grown hg) x v hx hv w.heap.size hc)
  have HG := Lib.hid hg
  have HW := Lib.hid hw1
  clear h hg hc hw1
  have hmf : ∀ (fn : Fn) (first cap : Array Value) (w : World), (Instr.makeFunc fn first cap).run Try.prog w = .ok (.func fn first cap) w := fun _ _ _ _ => rfl
  go_enter Try.func23, Try.ntmps23
  go_wp2_with fail
  rw [HW.out]
  refine HC.out.mono ?_
  rintro e w2 ⟨rfl, hg2, ht2⟩
  have HG2 := Lib.hid hg2
  have HT2 := Lib.hid ht2
  clear hg2 ht2
  go_wp2
  go_ret
  exact ⟨rfl, gb_trans (gb_none (some s) HG.out) HG2.out (fun _ e => .inl e), HT2.out⟩
set_option maxRecDepth 100000 in
theorem drop_any {w : World} {g s : Nat} {l : List SS} (h : IsT w g s l) (x : Int) (hx : OkI x) : Calls Try.prog 24 #[.pointer (some ⟨g, 0, none⟩), .int .i64 x] w (ChgP (dropL l x) (errF l x) g s w) := by
  have HC := Lib.hid (change_drop h x hx)
  clear h
  go_enter Try.func24, Try.ntmps24
  go_wp2_with fail
  refine HC.out.mono ?_
  rintro e w2 ⟨rfl, hg2, ht2⟩
  have HG2 := Lib.hid hg2
  have HT2 := Lib.hid ht2
  clear hg2 ht2
  go_wp2
  go_ret
  exact ⟨rfl, HG2.out, HT2.out⟩
end Go.Proofs.Ytjijiondinbmnaa
