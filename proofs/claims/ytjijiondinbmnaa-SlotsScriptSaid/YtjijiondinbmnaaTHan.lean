/-
  Handles of a table: the walk. The methods on nil.
-/
import Derived.Test.YtjijiondinbmnaaTSet
import Derived.OwnWalk
namespace Go.Proofs.Ytjijiondinbmnaa
open Go.RowKit

def hsN (l : List SS) : Nat → List Int
  | 0 => []
  | k + 1 =>
    match l[k]? with
    | none => hsN l k
    | some p => if p.2.1 = true then hsN l k ++ [(hnd l k : Int)] else hsN l k
theorem hsN_len (l : List SS) : ∀ k, (hsN l k).length ≤ k
  | 0 => by simp [hsN]
  | k + 1 => by
    have := hsN_len l k
    unfold hsN
    split
    · omega
    · split <;> simp <;> omega
theorem hsN_full {l : List SS} {k : Nat} {p : SS} (hp : l[k]? = some p) (h : p.2.1 = true) : hsN l (k + 1) = hsN l k ++ [(hnd l k : Int)] := by rw [hsN, hp]; simp only; rw [if_pos h]
theorem hsN_free {l : List SS} {k : Nat} {p : SS} (hp : l[k]? = some p) (h : p.2.1 = false) : hsN l (k + 1) = hsN l k := by rw [hsN, hp]; simp only; rw [if_neg (by simp [h])]
/-- a row of integers of the call's own -/
def OwnI (w : World) (B : Nat) (v : Value) (zs : List Int) : Prop := w.ownsRow B 3 1 v zs.length (ivs zs)
theorem OwnI.nil (w : World) (B : Nat) : OwnI w B (.slice none 0 0) [] := World.ownsRow_nil w B _ 1
theorem OwnI.kept {w w' : World} {B : Nat} {v : Value} {zs : List Int} {row : Option Nat} (h : OwnI w B v zs) (hg : w.grownBy w' row) (hne : ∀ k, v.ownBlock = some k → row ≠ some k) : OwnI w' B v zs :=
  World.ownsRow.kept h hg (by cases hv : v.ownBlock with
    | none => exact .inl rfl
    | some k => exact .inr (fun e => hne k hv e.symm))
theorem OwnI.grown {w w' : World} {B : Nat} {v : Value} {zs : List Int} (h : OwnI w B v zs) (hg : w.grownBy w' none) : OwnI w' B v zs := h.kept hg (by simp)
theorem OwnI.len {w : World} {B : Nat} {v : Value} {zs : List Int} (h : OwnI w B v zs) : ∃ a c, v = .slice a zs.length c := by
  rcases h.2 with ⟨rfl, h2⟩ | ⟨g, cap, cur, rfl, _⟩
  · exact ⟨none, 0, by rw [h2]⟩
  · exact ⟨_, _, rfl⟩
theorem OwnI.rd {w : World} {B : Nat} {v : Value} {zs : List Int} (h : OwnI w B v zs) : RdL w v (ivs zs) := by
  have h0 := h
  obtain ⟨h1, h2⟩ := h
  rcases h2 with ⟨rfl, hn⟩ | ⟨g, cap, cur, rfl, hb, hg, hnc, hcm, hcs, htake⟩
  · exact .inl ⟨rfl, by rw [List.eq_nil_of_length_eq_zero hn]; rfl⟩
  · refine .inr ⟨g, 0, cap, by simp [ivs], by simpa [ivs] using hnc, hcm, fun j x hj => ?_⟩
    have := World.ownsRow.cells h0 (g := g) rfl j x hj
    rwa [addr_add] at this
theorem info_int : (Try.prog.info? 3).map (fun i => (i.zero, i.size, i.bytes)) = some (some (.int .i64 0), 1, 8) := by kernel_rfl
/-- append of one integer, in a block of its own, to a row of the call's own -/
theorem app_int {ops : Array Oper} {rest : List Oper} {o : Oper} {a : Act} {w : World} {Q : Exit → Act → World → Prop} (hgd : o.guard = none) (s x : Operand)
    (ho : o.op = .call { callee := .builtin .append, args := #[s, x], argTypes := #[40, 40] })
    (B : Nat) (v : Value) (zs : List Int) (z : Int) (g : Nat) (hs : a.eval s = v) (hx : a.eval x = .slice (some ⟨g, 0, none⟩) 1 1) (hown : OwnI w B v zs) (hg : w.cell? ⟨g, 0, none⟩ = some (.int .i64 z)) (hB : B ≤ w.heap.size) (hb : zs.length ≤ 1000000)
    (h : ∀ v' w', OwnI w' B v' (zs ++ [z]) → w.grownBy w' v.ownBlock → Fr w v v' → wpList Try.prog ops Q rest (a.put o.dst v') w') : wpList Try.prog ops Q (o :: rest) a w := by
  obtain ⟨i0, hi, hz0, hz1, hz2⟩ := info_parts info_int
  obtain ⟨v', w', hr, ho', hgr, hf⟩ := run_append_own2 (P := Try.prog) w B 40 o.type _ i0 (.int .i64 0) 1 8 Try.underlying40 hi hz0 hz1 hz2 rfl (by decide) v zs.length (ivs zs) hown
      ⟨g, 0, none⟩ 1 1 [.int .i64 z] rfl (fun j u hu => by
        cases j with
        | zero => simp at hu; subst hu; rw [addr_add]; exact hg
        | succ j => simp at hu) (by simp; rfl) (by simp only [maxLen]; omega) (by omega) hB
  refine wpList_plain hgd fun _ hK => ?_
  unfold Oper.wp execOp
  simp only [ho, resolve, invoke, builtin, Sem.run_bind, Sem.run_pure, Result.andThen_ok, List.map_toArray, List.map_cons, List.map_nil, hs, hx, hr]
  refine hK _ _ (h v' w' ?_ hgr hf)
  unfold OwnI
  simpa [ivs] using ho'
def HanP (zs : List Int) (w : World) (e : Ending) (w' : World) : Prop := ∃ v, e = .returned v ∧ OwnI w' w.heap.size v zs ∧ w.grownBy w' none
set_option maxRecDepth 100000 in
set_option maxHeartbeats 2000000 in
theorem handles_any {w : World} {g s : Nat} {l : List SS} (h : IsT w g s l) : Calls Try.prog 17 #[.pointer (some ⟨g, 0, none⟩)] w (HanP (hsN l l.length) w) := by
  have hc := h.cell
  have hlen := h.len
  have H := Lib.hid h
  clear h
  go_enter Try.func17, Try.ntmps17
  go_wp2_with fail
  go_loopw [3, 13] (fun v i wr => ∃ k : Nat, k ≤ l.length ∧ i = .int .i64 k ∧ Hid (OwnI wr w.heap.size v (hsN l k)) ∧ Hid (w.grownBy wr none)) (fun _ i _ => l.length - (intOf i).toNat)
  case atStart => exact ⟨0, Nat.zero_le _, rfl, Lib.hid (OwnI.nil _ _), Lib.hid (gb_refl _ _)⟩
  case round =>
    obtain ⟨k, hk, rfl, HO, HG⟩ := hrel
    have HT := Lib.hid (H.out.grown HG.out)
    clear hc
    by_cases hlt : k < l.length
    · obtain ⟨p, hp⟩ : ∃ p, l[k]? = some p := ⟨l[k], by simp [hlt]⟩
      obtain ⟨q0, q1, q2⟩ := HT.out.at hp
      have HP := Lib.hid hp
      clear hp
      obtain ⟨gen, full, val⟩ := p
      simp only at q0 q1 q2 HP
      have hgb : w.grownBy (wr.alloc (.cells #[.int .i64 (gen : Int), .bool full, .int .i64 val] 69)) none := gb_same HG.out (gb_alloc _ _ _)
      have HO2 := Lib.hid (HO.out.grown (gb_alloc wr (.cells #[.int .i64 (gen : Int), .bool full, .int .i64 val] 69) none))
      have HG2 := Lib.hid hgb
      have HT2 := Lib.hid (H.out.grown hgb)
      have HH := Lib.hid (handle_any HT2.out hlt)
      clear hgb
      cases full with
      | false =>
        have HE := Lib.hid (hsN_free HP.out rfl)
        go_wp2
        go_roundw
        case rel => exact ⟨k + 1, by omega, by go_num, by rw [HE.out]; exact HO2, HG2⟩
        case measure => simp [intOf]; omega
      | true =>
        have HE := Lib.hid (hsN_full HP.out rfl)
        go_wp2_with fail
        refine HH.out.mono ?_
        rintro e w3 ⟨rfl, hg3⟩
        have HG3 := Lib.hid hg3
        have hz := hsN_len l k
        have HZ := Lib.hid (show (hsN l k).length ≤ 1000000 by omega)
        clear hg3 hz
        go_wp2_with (at_builtin; refine app_int rfl _ _ rfl w.heap.size _ (hsN l k) (hnd l k) w3.heap.size rfl rfl ((HO2.out.grown HG3.out).grown (gb_alloc _ _ _)) ?c1 ?c2 HZ.out ?_)
        case c1 => rw [World.cell?_alloc_at _ _ _ _ rfl]; rfl
        case c2 => have h1 := HG2.out.size; have h2 := HG3.out.size; simp only [World.alloc] at h1 h2 ⊢; simp at h1 h2 ⊢; omega
        intro v' w4 ho4 hg4 hf4
        have HO4 := Lib.hid ho4
        have HG4 : Hid (w.grownBy w4 none) := Lib.hid (gb_trans (gb_same (gb_same HG2.out HG3.out) (gb_alloc _ _ _)) hg4 (fun k e => .inr (World.ownsRow.lt HO2.out k e).1))
        clear ho4 hg4 hf4
        go_wp2
        go_roundw
        case rel => exact ⟨k + 1, by omega, by go_num, by rw [HE.out]; exact HO4, HG4⟩
        case measure => simp [intOf]; omega
    · obtain rfl : k = l.length := by omega
      clear hlt
      go_wp2
      go_ret
      exact ⟨_, rfl, HO.out, HG.out⟩
end Go.Proofs.Ytjijiondinbmnaa
