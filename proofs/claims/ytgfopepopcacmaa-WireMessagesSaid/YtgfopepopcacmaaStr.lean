/-
  append of a string's bytes; wire.String.
-/
import Derived.Test.YtgfopepopcacmaaRef1
namespace Go.Proofs.Ytgfopepopcacmaa
open Go.RowKit

theorem run_app_str (w : World) (B : Nat) (v : Value) (l : List UInt8) (s : ByteArray) (ty : TypeId) (hown : Own w B v l) (hB : B ≤ w.heap.size) (hb : l.length + s.size ≤ 140737488355328) :
    ∃ v' w', (Builtin.append_ #[22, 9] ty #[v, .string s]).run Try.prog w = .ok v' w' ∧ Own w' B v' (l ++ s.data.toList) ∧ w.grownBy w' v.ownBlock ∧ Fr w v v' := by
  obtain ⟨i0, hi, hz0, hz1, hz2⟩ := info_parts info5
  obtain ⟨v', w', hr, ho, hg, _⟩ := Lib.run_append_own_string (P := Try.prog) w B 22 9 ty 5 i0 Try.underlying22 Try.underlying9 hi hz0 hz1 hz2 v l.length (bvs l) hown s (by simp only [maxLen]; omega) hb hB
  have hsz : s.data.toList.length = s.size := by rw [Array.length_toList]; rfl
  refine ⟨v', w', hr, ?_, hg, ?_⟩
  · unfold Own
    rw [bvs_append, List.length_append, hsz]
    exact ho
  · have h0 := hown
    rcases hown.2 with ⟨rfl, hn⟩ | ⟨g, cap, cur, rfl, hbg, hgg, hnc, hcm, hcs, htake⟩
    · have hl : l = [] := List.eq_nil_of_length_eq_zero hn
      subst hl
      obtain ⟨v2, w2, hr2, ho2, _⟩ := Lib.run_append_own_string (P := Try.prog) w w.heap.size 22 9 ty 5 i0 Try.underlying22 Try.underlying9 hi hz0 hz1 hz2 (.slice none 0 0) 0 [] (World.ownsRow_nil w _ _ 1) s (by simp only [maxLen]; omega) (by simpa using hb) (Nat.le_refl _)
      rw [hr] at hr2
      cases hr2
      intro k hk
      exact .inr (ho2.lt k hk).1
    · by_cases hroom : l.length + s.size ≤ cap
      · have hr2 := Lib.run_append_room_string (P := Try.prog) w 22 9 ty 5 i0 Try.underlying22 Try.underlying9 hi hz1 g l.length cap cur hgg s hroom (by omega)
        rw [hr] at hr2
        cases hr2
        intro k hk
        exact .inl hk
      · have holds : ∀ j u, (bvs l)[j]? = some u → w.cell? ((⟨g, 0, none⟩ : Addr).add j) = some u := World.ownsRow.cells h0 (g := g) rfl
        have hr2 := Lib.run_append_grow_string (P := Try.prog) w 22 9 ty 5 i0 (.int .u8 0) Try.underlying22 Try.underlying9 hi hz0 ⟨g, 0, none⟩ l.length cap (bvs l) (by rw [hz1, bvs_length]; omega) holds s (by omega) (by omega) (by rw [hz2]; exact growslice_fits (by omega) (by omega))
        rw [hr] at hr2
        cases hr2
        intro k hk
        simp only [Value.ownBlock, Option.some.injEq] at hk
        exact .inr (by omega)

theorem app_str {ops : Array Oper} {rest : List Oper} {o : Oper} {a : Act} {w : World} {Q : Exit → Act → World → Prop} (hgd : o.guard = none) (s x : Operand)
    (ho : o.op = .call { callee := .builtin .append, args := #[s, x], argTypes := #[22, 9] })
    (B : Nat) (v : Value) (l : List UInt8) (m : ByteArray) (hs : a.eval s = v) (hx : a.eval x = .string m) (hown : Own w B v l) (hB : B ≤ w.heap.size) (hb : l.length + m.size ≤ 140737488355328)
    (h : ∀ v' w', Own w' B v' (l ++ m.data.toList) → w.grownBy w' v.ownBlock → Fr w v v' → wpList Try.prog ops Q rest (a.put o.dst v') w') : wpList Try.prog ops Q (o :: rest) a w := by
  obtain ⟨v', w', hr, h2, h3, h4⟩ := run_app_str w B v l m o.type hown hB hb
  refine wpList_plain hgd fun _ hK => ?_
  unfold Oper.wp execOp
  simp only [ho, resolve, invoke, builtin, Sem.run_bind, Sem.run_pure, Result.andThen_ok, List.map_toArray, List.map_cons, List.map_nil, hs, hx, hr]
  exact hK _ _ (h v' w' h2 h3 h4)

def encS (l : List UInt8) : List UInt8 := enc l.length ++ l

set_option maxRecDepth 100000 in
set_option maxHeartbeats 400000 in
theorem string_any (v : Value) (s : ByteArray) (w : World) (B : Nat) (l : List UInt8) (hs : s.size ≤ 35184372088832) (hown : Own w B v l) (hB : B ≤ w.heap.size) (hl : l.length ≤ 1099511627776) :
    Calls Try.prog 22 #[v, .string s] w (IntPost w B v (l ++ encS s.data.toList)) := by
  have hsz : s.data.toList.length = s.size := by rw [Array.length_toList]; rfl
  have hel := (enc_len (s.size : Int)).2
  have HC := Lib.hid (int_any v (s.size : Int) w B l (by omega) (by omega) hown hB hl)
  have HB := Lib.hid (show l.length + (enc (s.size : Int)).length + s.size ≤ 140737488355328 by omega)
  have HS := Lib.hid hsz
  clear hel hs hl hsz
  go_enter Try.func22, Try.ntmps22
  go_wp2_with (first | (go_at_call 20; refine HC.out.mono ?_; rintro e w1 ⟨v1, rfl, ho1, hg1, hf1⟩) | (at_builtin; refine app_str rfl _ _ rfl B v1 _ s rfl rfl ho1 (by have := hg1.size; omega) (by have := HB.out; simp only [List.length_append]; omega) ?_; intro v2 w2 ho2 hg2 hf2))
  go_ret
  refine ⟨v2, rfl, ?_, gb_fr hg1 hf1 hg2, hf1.trans hg1.size hf2⟩
  unfold encS
  rw [HS.out, ← List.append_assoc]
  exact ho2
end Go.Proofs.Ytgfopepopcacmaa
