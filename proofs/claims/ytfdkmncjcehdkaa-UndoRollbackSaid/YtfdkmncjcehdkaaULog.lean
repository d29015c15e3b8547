/-
  A log with one more record; a part of an image.
-/
import Derived.Test.YtfdkmncjcehdkaaURcv
namespace Go.Proofs.Ytfdkmncjcehdkaa
open Go.RowKit

theorem rec_app_op {ts te : TypeId} (hu : Try.prog.underlying ts = some (.slice te)) (hin : RInfo te) {o : Oper} {a : Act} {w : World} {K : Act → World → Prop} {Q : Exit → Act → World → Prop} (s y : Operand)
    (ho : o.op = .call { callee := .builtin .append, args := #[s, y], argTypes := #[ts, ts] }) (B : Nat) (v sv : Value) (ps qs : List RP) (hs : a.eval s = v) (hy : a.eval y = sv) (h : RRow te w B v ps) (hr : RdRow w sv qs) (hq : ∀ p ∈ qs, p.2.oneCell' = true)
    (hn : ps.length + qs.length ≤ 1000000) (hB : B ≤ w.heap.size)
    (hK : ∀ v' w', RRow te w' B v' (ps ++ qs) → w.grownBy w' v.ownBlock → Fr w v v' → K (a.put o.dst v') w') : Oper.wp Try.prog o a w K Q := by
  obtain ⟨v', w', hr', h2, h3, h4⟩ := h.app hu hin hr hq hn hB o.type
  unfold Oper.wp execOp
  simp only [ho, resolve, invoke, builtin, Sem.run_bind, Sem.run_pure, Result.andThen_ok, List.map_toArray, List.map_cons, List.map_nil, hs, hy, hr']
  exact hK v' w' h2 h3 h4
theorem Own.one {w : World} {B : Nat} {v : Value} {l : List UInt8} (h : Own w B v l) : v.oneCell' = true := by
  obtain ⟨a, c, rfl⟩ := h.rd.len
  rfl
/-- a log with one more record -/
theorem LogF.addRec {w w5 w6 w7 : World} {F : Nat → Prop} {g : Nat} {iv rv rv' dv : Value} {img : List UInt8} {ps : List RP} {op : Bool} {r : RT} (h : LogF w F g iv rv img ps op) (hg5 : w.grownBy w5 none) (hd : Own w5 w.heap.size dv r.2.2) (hg6 : w5.grownBy w6 none) (hg7 : w6.grownBy w7 rv.ownBlock)
    (h7 : RRow 65 w7 0 rv' (ps ++ [(r, dv)])) (hf : Fr w6 rv rv') :
    LogF (w7.setCell ⟨g, 1, none⟩ rv') (fun k => F k ∨ rv'.ownBlock = some k ∨ dv.ownBlock = some k) g iv rv' img (ps ++ [(r, dv)]) op ∧ Foot w (w7.setCell ⟨g, 1, none⟩ rv') F (fun k => F k ∨ rv'.ownBlock = some k ∨ dv.ownBlock = some k) := by
  have hs5 := hg5.size
  have hs6 := hg6.size
  have hs7 := hg7.size
  have hgl := h.lt g h.fg
  have hgr : rv.ownBlock ≠ some g := fun e => (h.fr g e).2.1 rfl
  have hdl := hd.lt
  have hrl : ∀ k, rv'.ownBlock = some k → (F k ∧ k ≠ g ∧ iv.ownBlock ≠ some k ∧ rv.ownBlock = some k) ∨ w6.heap.size ≤ k := fun k hk => by
    rcases hf k hk with h1 | h1
    · exact .inl ⟨(h.fr k h1).1, (h.fr k h1).2.1, (h.fr k h1).2.2, h1⟩
    · exact .inr h1
  have hrl7 : ∀ k, rv'.ownBlock = some k → k < w7.heap.size := fun k hk => (World.ownsRow.lt h7 k hk).2
  have keep : ∀ k, k < w6.heap.size → rv.ownBlock ≠ some k → k ≠ g → (w7.setCell ⟨g, 1, none⟩ rv').heap[k]? = w6.heap[k]? := fun k hk h1 h2 => by
    rw [heap_setCell_other _ _ _ _ (by simpa using h2)]
    exact hg7.block k hk (fun e => h1 e.symm)
  have keepOwn : ∀ (B : Nat) (v : Value) (l : List UInt8), Own w6 B v l → (∀ k, v.ownBlock = some k → rv.ownBlock ≠ some k ∧ k ≠ g) → Own (w7.setCell ⟨g, 1, none⟩ rv') B v l := fun B v l ho hv =>
    (ho.kept hg7 (fun k hk e => (hv k hk).1 e)).kept (gb_setCell _ _ _) (fun k hk e => (hv k hk).2 (by simpa using e.symm))
  have hblk7 : w7.heap[g]? = some (.cells #[iv, rv, .bool op] 68 (0, 0)) := by
    rw [hg7.block g (by omega) (fun e => hgr e.symm), hg6.block g (by omega) (by simp), hg5.block g hgl (by simp)]; exact h.blk
  refine ⟨⟨heap_setCell_same _ _ 1 _ _ rv' hblk7, ?_, ?_, ?_, .inl h.fg, fun k hk => ⟨.inl (h.fi k hk).1, (h.fi k hk).2⟩, fun k hk => ?_, ?_, ?_⟩, ?_⟩
  · exact keepOwn _ _ _ ((h.image.grown hg5).grown hg6) (fun k hk => ⟨fun e => (h.fr k e).2.2 hk, (h.fi k hk).2⟩)
  · exact h7.kept (gb_setCell _ _ _) (fun k hk e => by
      simp only [Option.some.injEq] at e
      rcases hrl k hk with h1 | h1
      · exact h1.2.1 e.symm
      · omega)
  · intro p hp
    rcases List.mem_append.1 hp with hp | hp
    · exact keepOwn _ _ _ (((h.data p hp).grown hg5).grown hg6) (fun k hk => ⟨fun e => (h.fd p hp k hk).2.2.2 e, (h.fd p hp k hk).2.1⟩)
    · simp at hp
      subst hp
      exact keepOwn _ _ _ ((hd.mono (Nat.zero_le _)).grown hg6) (fun k hk => ⟨fun e => by have := h.lt k (h.fr k e).1; have := (hdl k hk).1; omega, by have := (hdl k hk).1; omega⟩)
  · refine ⟨.inr (.inl hk), ?_⟩
    rcases hrl k hk with h1 | h1
    · exact ⟨h1.2.1, h1.2.2.1⟩
    · exact ⟨by omega, fun e => by have := h.lt k (h.fi k e).1; omega⟩
  · intro p hp k hk
    rcases List.mem_append.1 hp with hp | hp
    · obtain ⟨f1, f2, f3, f4⟩ := h.fd p hp k hk
      exact ⟨.inl f1, f2, f3, fun e => by
        rcases hrl k e with h1 | h1
        · exact f4 h1.2.2.2
        · have := h.lt k f1; omega⟩
    · simp at hp
      subst hp
      have h1 := hdl k hk
      exact ⟨.inr (.inr hk), by omega, fun e => by have := h.lt k (h.fi k e).1; omega, fun e => by
        rcases hrl k e with h2 | h2
        · have := h.lt k h2.1; omega
        · omega⟩
  · rintro k (h1 | h1 | h1)
    · have := h.lt k h1; simp; omega
    · have := hrl7 k h1; simpa using this
    · have := (hdl k h1).2; simp; omega
  · refine ⟨?_, ?_, ?_, by simp; omega, fun k hk hn => ?_, ?_⟩
    · exact hg7.os.trans (hg6.os.trans hg5.os)
    · exact hg7.tape.trans (hg6.tape.trans hg5.tape)
    · exact hg7.output.trans (hg6.output.trans hg5.output)
    · rw [keep k (by omega) (fun e => hn (h.fr k e).1) (fun e => hn (by rw [e]; exact h.fg)), hg6.block k (by omega) (by simp), hg5.block k hk (by simp)]
    · rintro k (h1 | h1 | h1)
      · exact .inl h1
      · rcases hrl k h1 with h2 | h2
        · exact .inl h2.1
        · exact .inr (by omega)
      · exact .inr (hdl k h1).1

/-- a part of an image -/
def sub (l : List UInt8) (a b : Nat) : List UInt8 := (l.drop a).take (b - a)
theorem sub_len {l : List UInt8} {a b : Nat} (h : b ≤ l.length) : (sub l a b).length = b - a := by unfold sub; simp; omega
theorem Own.part {w : World} {B g c n : Nat} {l : List UInt8} (h : Own w B (.slice (some ⟨g, 0, none⟩) n c) l) (a b : Nat) (hab : a ≤ b) (hb : b ≤ l.length) (hn : l.length = n) : Rd w (.slice (some ⟨g, a, none⟩) (b - a) (c - a)) (sub l a b) ∧ (c = a → Rd w (.slice (some ⟨g, 0, none⟩) (b - a) (c - a)) (sub l a b)) := by
  obtain ⟨cur, hg, hcl, htk, hnc, hcm, _⟩ := h.rowAt hn
  refine ⟨.inr ⟨g, a, c - a, by rw [sub_len hb], by rw [sub_len hb]; omega, by omega, fun j x hj => ?_⟩, fun e => ?_⟩
  · unfold sub at hj
    rw [List.getElem?_take] at hj
    split at hj
    · rw [List.getElem?_drop] at hj
      rw [← hn] at h
      exact h.cellAt rfl (a + j) x hj
    · cases hj
  · have e0 : b - a = 0 := by omega
    have hl0 : sub l a b = [] := List.eq_nil_of_length_eq_zero (by rw [sub_len hb]; exact e0)
    rw [hl0, e0]
    exact Rd.emptyAt w g 0 (c - a) (by omega)

def KeepP (w : World) (F : Nat → Prop) (g : Nat) (iv : Value) (img : List UInt8) (ps : List RP) (op : Bool) (r : RT) (e : Ending) (w' : World) : Prop :=
  (∃ v, e = .returned v) ∧ ∃ F' rv' dv, LogF w' F' g iv rv' img (ps ++ [(r, dv)]) op ∧ Foot w w' F F'
theorem KeepP.mk {w w5 w6 w7 : World} {F : Nat → Prop} {g : Nat} {iv rv rv' dv : Value} {img : List UInt8} {ps : List RP} {op : Bool} {r : RT} {v : Value} (h : LogF w F g iv rv img ps op) (hg5 : w.grownBy w5 none) (hd : Own w5 w.heap.size dv r.2.2) (hg6 : w5.grownBy w6 none) (hg7 : w6.grownBy w7 rv.ownBlock)
    (h7 : RRow 65 w7 0 rv' (ps ++ [(r, dv)])) (hf : Fr w6 rv rv') : KeepP w F g iv img ps op r (.returned v) (w7.setCell ⟨g, 1, none⟩ rv') :=
  ⟨⟨_, rfl⟩, _, _, _, (h.addRec hg5 hd hg6 hg7 h7 hf).1, (h.addRec hg5 hd hg6 hg7 h7 hf).2⟩

end Go.Proofs.Ytfdkmncjcehdkaa
