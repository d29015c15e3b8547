/-
  Readable bytes whose empty ones may begin anywhere; bytes.Clone.
-/
import Derived.Test.YtfldooljmjeaoaaRQ
import Derived.Deep.QuietTactic
import Derived.BigQuiet
namespace Go.Proofs.Ytfldooljmjeaoaa
open Go.RowKit

theorem sl_eq {a : Option Addr} {x y : Nat} (h : x = y) : Ending.returned (.slice a x x) = .returned (.slice a y y) := by rw [h]
def OwnP (w : World) (l : List UInt8) (e : Ending) (w' : World) : Prop := ∃ v', e = .returned v' ∧ Own w' w.heap.size v' l ∧ w.grownBy w' none
set_option maxRecDepth 100000 in
theorem clone_any (v : Value) (l : List UInt8) (w : World) (hv : Rd w v l) (hl : l.length ≤ 140737488355328) :
    Calls Try.prog 58 #[v] w (OwnP w l) := by
  have HV := Lib.hid hv
  have q22 : ∀ (w : World) (a : Option Addr) (n c n' c' : Nat), (binOp .eql 22 (.slice a n c) (.slice none n' c')).run Try.prog w = .ok (.bool a.isNone) w := fun w a n c n' c' => Lib.run_eql_slice_nil w _ _ a n c n' c' Try.underlying22
  rcases hv with ⟨rfl, rfl⟩ | ⟨b, off, cap, rfl, h1, h2, _⟩
  · go_enter Try.func58, Try.ntmps58
    go_wp2
    go_ret
    exact ⟨_, rfl, Own.nil _ _, gb_refl _ _⟩
  · have HO := Lib.hid (Own.lit w #[] [] 0 w.heap.size rfl rfl (Nat.le_refl _) (Nat.zero_le _))
    go_enter Try.func58, Try.ntmps58
    go_wp2_with (at_builtin; refine app_bytes rfl _ _ rfl w.heap.size _ _ [] l rfl rfl HO.out (HV.out.grown (gb_alloc _ _ _)) (by simp) (by simp; omega) ?_; go_must (intro v2 w2 ho2 hg2 hf2; rw [List.nil_append] at ho2))
    go_ret
    exact ⟨_, rfl, ho2, gb_trans (gb_alloc _ _ none) hg2 (fun k hk => .inr (HO.out.lt k hk).1)⟩
theorem str_beq (a b : List UInt8) : ((str a).toList == (str b).toList) = (a == b) := by
  rw [ByteArray.toList_eq, ByteArray.toList_eq, str_toList, str_toList]
def IsSl (v : Value) : Prop := ∃ a n c, v = .slice a n c
theorem Rd.isSl {w : World} {v : Value} {l : List UInt8} (h : Rd w v l) : IsSl v := by obtain ⟨a, c, rfl⟩ := h.len; exact ⟨_, _, _, rfl⟩
/-- a slice of bytes that can be read; an empty one may begin anywhere -/
def RdW (w : World) (v : Value) (l : List UInt8) : Prop := Rd w v l ∨ ∃ a, v = .slice (some a) 0 0 ∧ l = []
theorem Rd.w {w : World} {v : Value} {l : List UInt8} (h : Rd w v l) : RdW w v l := .inl h
theorem RdW.len {w : World} {v : Value} {l : List UInt8} (h : RdW w v l) : ∃ a c, v = .slice a l.length c := by
  rcases h with h | ⟨a, rfl, rfl⟩
  · exact h.len
  · exact ⟨_, _, rfl⟩
theorem RdW.ne {w : World} {v : Value} {l : List UInt8} (h : RdW w v l) (hl : l ≠ []) : Rd w v l := by
  rcases h with h | ⟨a, rfl, rfl⟩
  · exact h
  · exact absurd rfl hl
theorem RdW.blk {w : World} {v : Value} {l : List UInt8} (h : RdW w v l) (hl : l ≠ []) : ∀ k, v.ownBlock = some k → k < w.heap.size := fun k hk => (h.ne hl).blk hl k hk
theorem RdW.grown {w w' : World} {v : Value} {l : List UInt8} (h : RdW w v l) (hg : w.grownBy w' none) : RdW w' v l := by
  rcases h with h | h
  · exact .inl (h.grown hg)
  · exact .inr h
theorem RdW.kept {w w' : World} {v : Value} {l : List UInt8} {row : Option Nat} (h : RdW w v l) (hg : w.grownBy w' row) (hne : l ≠ [] → ∀ k, v.ownBlock = some k → row ≠ some k) : RdW w' v l := by
  by_cases hl : l = []
  · subst hl
    rcases h with h | h
    · rcases h with h | ⟨b, off, cap, h1, h2, h3, h4⟩
      · exact .inl (.inl h)
      · exact .inl (.inr ⟨b, off, cap, h1, h2, h3, fun j x hj => by simp at hj⟩)
    · exact .inr h
  · exact .inl ((h.ne hl).kept hg (hne hl))
theorem RdW.small {w : World} {v : Value} {l : List UInt8} (h : RdW w v l) : (l.length : Int) ≤ 9223372036854775807 := by
  rcases h with h | ⟨a, rfl, rfl⟩
  · exact h.small
  · simp
theorem run_toStringW (w : World) (v : Value) (l : List UInt8) (h : RdW w v l) :
    (convert 22 9 v).run Try.prog w = .ok (.string (str l)) w := by
  rcases h with h | ⟨a, rfl, rfl⟩
  · exact run_toString w v l h
  · have hl : (loadCells a 0).run Try.prog w = .ok (([] : List Int).map (Value.int .u8)).toArray w := by
      have := run_loadCells_list (P := Try.prog) w a [] (fun j v hj => by simp at hj)
      simpa using this
    rw [run_convert_bytes_string w 22 9 5 _ 0 0 Try.underlying22 Try.underlying5 Try.underlying9, run_bytesToString w _ 0 0 [] hl]
    rfl
theorem run_appW (w : World) (B : Nat) (v src : Value) (l m : List UInt8) (ty : TypeId) (hown : Own w B v l) (hsrc : RdW w src m) (hB : B ≤ w.heap.size) (hb : l.length + m.length ≤ 140737488355328) :
    ∃ v' w', (Builtin.append_ #[22, 22] ty #[v, src]).run Try.prog w = .ok v' w' ∧ Own w' B v' (l ++ m) ∧ w.grownBy w' v.ownBlock ∧ Fr w v v' := by
  rcases hsrc with h | ⟨ad, rfl, rfl⟩
  · exact run_app w B v src l m ty hown h hB hb
  · obtain ⟨i0, hi, hz0, hz1, hz2⟩ := info_parts info5
    obtain ⟨v', w', hr, ho, hg, hf⟩ := run_append_own2 (P := Try.prog) w B 22 ty _ i0 (.int .u8 0) 1 1 Try.underlying22 hi hz0 hz1 hz2 rfl (by decide) v l.length (bvs l) hown
      ad 0 0 (bvs []) (by simp [bvs]) (fun j u hu => by simp [bvs] at hu) (bvs_one []) (by simp only [maxLen]; simp only [List.length_nil] at hb; omega) (by simp only [List.length_nil] at hb; omega) hB
    refine ⟨v', w', hr, ?_, hg, hf⟩
    unfold Own
    rw [bvs_append, List.length_append]
    exact ho
theorem app_bytesW {ops : Array Oper} {rest : List Oper} {o : Oper} {a : Act} {w : World} {Q : Exit → Act → World → Prop} (hgd : o.guard = none) (s x : Operand)
    (ho : o.op = .call { callee := .builtin .append, args := #[s, x], argTypes := #[22, 22] })
    (B : Nat) (v src : Value) (l m : List UInt8) (hs : a.eval s = v) (hx : a.eval x = src) (hown : Own w B v l) (hsrc : RdW w src m) (hB : B ≤ w.heap.size) (hb : l.length + m.length ≤ 140737488355328)
    (h : ∀ v' w', Own w' B v' (l ++ m) → w.grownBy w' v.ownBlock → Fr w v v' → wpList Try.prog ops Q rest (a.put o.dst v') w') : wpList Try.prog ops Q (o :: rest) a w := by
  obtain ⟨v', w', hr, h2, h3, h4⟩ := run_appW w B v src l m o.type hown hsrc hB hb
  refine wpList_plain hgd fun _ hK => ?_
  unfold Oper.wp execOp
  simp only [ho, resolve, invoke, builtin, Sem.run_bind, Sem.run_pure, Result.andThen_ok, List.map_toArray, List.map_cons, List.map_nil, hs, hx, hr]
  exact hK _ _ (h v' w' h2 h3 h4)
theorem RdW.form {w : World} {v : Value} {l : List UInt8} (h : RdW w v l) : ∃ a c, v = .slice a l.length c ∧ l.length ≤ c := by
  rcases h with (⟨rfl, rfl⟩ | ⟨b, off, cap, rfl, h1, _⟩) | ⟨a, rfl, rfl⟩
  · exact ⟨_, _, rfl, Nat.le_refl _⟩
  · exact ⟨_, _, rfl, h1⟩
  · exact ⟨_, _, rfl, Nat.le_refl _⟩
theorem RdW.at {w : World} {a : Option Addr} {n c : Nat} {l : List UInt8} (h : RdW w (.slice a n c) l) {j : Nat} {x : UInt8} (hj : l[j]? = some x) : ∃ b off, a = some ⟨b, off, none⟩ ∧ w.cell? ⟨b, off + j, none⟩ = some (.int .u8 (x.toNat : Int)) :=
  (h.ne (by rintro rfl; simp at hj)).at hj
theorem K2.rdw {w w' : World} {g s : Nat} {v : Value} {l : List UInt8} (h : RdW w v l) (k : K2 w w' g s) (hne : l ≠ [] → ∀ b, v.ownBlock = some b → b ≠ g ∧ b ≠ s) : RdW w' v l := by
  by_cases hl : l = []
  · subst hl
    rcases h with (h | ⟨b, off, cap, h1, h2, h3, h4⟩) | h
    · exact .inl (.inl h)
    · exact .inl (.inr ⟨b, off, cap, h1, h2, h3, fun j x hj => by simp at hj⟩)
    · exact .inr h
  · exact .inl (K2.rd (h.ne hl) k (hne hl))
end Go.Proofs.Ytfldooljmjeaoaa
