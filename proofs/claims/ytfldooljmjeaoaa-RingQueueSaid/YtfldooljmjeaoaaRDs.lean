/-
  law.RingDrop: the state of its loops.
-/
import Derived.Test.YtfldooljmjeaoaaRCl
import Derived.Test.YtfldooljmjeaoaaRDg
namespace Go.Proofs.Ytfldooljmjeaoaa
open Go.RowKit Go.Shelf

theorem keepM_snoc (qs : List GP) (p : GP) (x : Int) : keepM (qs ++ [p]) x = keepM qs x ++ (if p.1.s = x then [] else [p]) := by
  unfold keepM
  rw [List.filter_append]
  congr 1
  by_cases hx : p.1.s = x
  · rw [if_pos hx]; simp [hx]
  · rw [if_neg hx]; simp [hx]
theorem keepM_le (qs : List GP) (x : Int) : (keepM qs x).length ≤ qs.length := List.length_filter_le _ _
theorem GRow.km {w w' : World} {B g : Nat} {v u : Value} {ps : List GP} (h : GRow w B v ps) (hk : KM w w' g u) (h1 : ∀ k, v.ownBlock = some k → k ≠ g ∧ u.ownBlock ≠ some k) : GRow w' B v ps := by
  have hl := h.lt
  obtain ⟨h2, h3⟩ := h
  refine ⟨h2, ?_⟩
  rcases h3 with h4 | ⟨b, cap, cur, rfl, hB, hg, h5, h6, h7, h8⟩
  · exact .inl h4
  · have hb := h1 b rfl
    exact .inr ⟨b, cap, cur, rfl, hB, by rw [hk.2.2.2.2 b (hl b rfl).2 hb.1 hb.2]; exact hg, h5, h6, h7, h8⟩
structure DS (w0 wr : World) (B g : Nat) (v : Value) (qs : List GP) (wv : Value) (ws : List GP) : Prop where
  m : IsM wr B g 60 v qs
  zs : ∀ p ∈ qs, p.1.z.length ≤ 1536
  row : GRow wr B wv ws
  rd : ∀ p ∈ ws, RdW w0 p.2 p.1.z
  sep : ∀ k, wv.ownBlock = some k → k ≠ g ∧ v.ownBlock ≠ some k
  dsep : ∀ p ∈ qs, p.1.z ≠ [] → ∀ k, p.2.ownBlock = some k → wv.ownBlock ≠ some k
  gr : w0.grownBy wr none
  b0 : w0.heap.size ≤ B
  b1 : B ≤ wr.heap.size
  g0 : w0.heap.size ≤ g
theorem DS.grown {w0 wr w' : World} {B g : Nat} {v wv : Value} {qs ws : List GP} (h : DS w0 wr B g v qs wv ws) (hg : wr.grownBy w' none) : DS w0 w' B g v qs wv ws :=
  ⟨h.m.grown hg, h.zs, h.row.grown hg, h.rd, h.sep, h.dsep, gb_same h.gr hg, h.b0, Nat.le_trans h.b1 hg.size, h.g0⟩
theorem DS.put {w0 wr w' : World} {B g : Nat} {v v' wv : Value} {qs ws : List GP} {m : Mg} {dv' : Value} (h : DS w0 wr B g v qs wv ws) (hm : IsM w' B g 60 v' (qs ++ [(m, dv')])) (hk : KM wr w' g v) (hf : Fr wr v v') (ho : Own w' wr.heap.size dv' m.z) (hz : m.z.length ≤ 1536) :
    DS w0 w' B g v' (qs ++ [(m, dv')]) wv ws := by
  refine ⟨hm, fun p hp => ?_, h.row.km hk h.sep, h.rd, fun k hk2 => ⟨(h.sep k hk2).1, fun e => ?_⟩, fun p hp hz2 k hk2 e => ?_, KM.new h.gr h.g0 (fun k hk2 => (h.m.row.lt k hk2).1) h.b0 hk, h.b0, Nat.le_trans h.b1 hk.2.2.2.1, h.g0⟩
  · rcases List.mem_append.1 hp with hp | hp
    · exact h.zs p hp
    · simp at hp; subst hp; exact hz
  · rcases hf k e with h1 | h1
    · exact (h.sep k hk2).2 h1
    · have := (h.row.lt k hk2).2; omega
  · rcases List.mem_append.1 hp with hp | hp
    · exact h.dsep p hp hz2 k hk2 e
    · simp at hp; subst hp
      have h1 := (ho.lt k hk2).1
      have h2 := (h.row.lt k e).2
      omega
theorem DS.want {w0 wr w6 : World} {B g : Nat} {v wv wv' : Value} {qs ws : List GP} {m : Mg} {dv : Value} (h : DS w0 wr B g v qs wv ws) (h6 : GRow w6 B wv' (ws ++ [(m, dv)])) (hg6 : wr.grownBy w6 wv.ownBlock) (hf : Fr wr wv wv') (hd : RdW w0 dv m.z) :
    DS w0 w6 B g v qs wv' (ws ++ [(m, dv)]) := by
  refine ⟨h.m.kept hg6 (fun e => (h.sep g e).1 rfl) (fun k hk e => (h.sep k e).2 hk) (fun p hp hz k hk e => h.dsep p hp hz k hk e), h.zs, h6, fun p hp => ?_, fun k hk => ?_, fun p hp hz k hk e => ?_, gb_trans h.gr hg6 (fun j hj => .inr (by have := (h.row.lt j hj).1; have := h.b0; omega)), h.b0, Nat.le_trans h.b1 hg6.size, h.g0⟩
  · rcases List.mem_append.1 hp with hp | hp
    · exact h.rd p hp
    · simp at hp; subst hp; exact hd
  · rcases hf k hk with h1 | h1
    · exact h.sep k h1
    · refine ⟨by have := h.m.lt; omega, fun e => by have := (h.m.row.lt k e).2; omega⟩
  · rcases hf k e with h1 | h1
    · exact h.dsep p hp hz k hk h1
    · have := (h.m.data p hp).blk hz k hk; omega
theorem DS.cut {w0 wr w' : World} {B g : Nat} {v v' wv : Value} {qs rs ws : List GP} (h : DS w0 wr B g v qs wv ws) (hm : IsM w' B g 60 v' rs) (hk : KM wr w' g v) (hb : v'.ownBlock = v.ownBlock) (hs : ∀ q ∈ rs, q ∈ qs) : DS w0 w' B g v' rs wv ws :=
  ⟨hm, fun p hp => h.zs p (hs p hp), h.row.km hk h.sep, h.rd, fun k hk2 => ⟨(h.sep k hk2).1, by rw [hb]; exact (h.sep k hk2).2⟩, fun p hp => h.dsep p (hs p hp), KM.new h.gr h.g0 (fun k hk2 => (h.m.row.lt k hk2).1) h.b0 hk, h.b0, Nat.le_trans h.b1 hk.2.2.2.1, h.g0⟩
theorem mapp_step {ops : Array Oper} {rest : List Oper} {o : Oper} {a : Act} {w : World} {Q : Exit → Act → World → Prop} (hgd : o.guard = none) (s y : Operand)
    (ho : o.op = .call { callee := .builtin .append, args := #[s, y], argTypes := #[30, 30] }) (B : Nat) (v sv : Value) (ps qs : List GP) (hs : a.eval s = v) (hy : a.eval y = sv) (h : GRow w B v ps) (hr : RdG w sv qs) (hq : ∀ p ∈ qs, p.2.oneCell' = true)
    (hn : ps.length + qs.length ≤ 1000000) (hB : B ≤ w.heap.size)
    (hK : ∀ v' w', GRow w' B v' (ps ++ qs) → w.grownBy w' v.ownBlock → Fr w v v' → wpList Try.prog ops Q rest (a.put o.dst v') w') : wpList Try.prog ops Q (o :: rest) a w :=
  wpList_plain hgd fun _ hK' => msg_app_op s y ho B v sv ps qs hs hy h hr hq hn hB (fun v' w' h1 h2 h3 => hK' _ _ (hK v' w' h1 h2 h3))
end Go.Proofs.Ytfldooljmjeaoaa
