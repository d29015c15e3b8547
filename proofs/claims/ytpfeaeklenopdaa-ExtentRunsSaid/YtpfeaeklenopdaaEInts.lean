/-
  Rows of integers; Same and SameInts of the reference.
-/
import Derived.Test.YtpfeaeklenopdaaERPut
import Derived.Test.YtpfeaeklenopdaaECnt
import Derived.OwnWalk
namespace Go.Proofs.Ytpfeaeklenopdaa
open Go.RowKit

/-- a row of integers of the call's own -/
def OwnI (w : World) (B : Nat) (v : Value) (zs : List Int) : Prop := w.ownsRow B 3 1 v zs.length (ivs zs)
theorem OwnI.nil (w : World) (B : Nat) : OwnI w B (.slice none 0 0) [] := World.ownsRow_nil w B _ 1
theorem OwnI.kept {w w' : World} {B : Nat} {v : Value} {zs : List Int} {row : Option Nat} (h : OwnI w B v zs) (hg : w.grownBy w' row) (hne : ∀ k, v.ownBlock = some k → row ≠ some k) : OwnI w' B v zs :=
  World.ownsRow.kept h hg (by cases hv : v.ownBlock with
    | none => exact .inl rfl
    | some k => exact .inr (fun e => hne k hv e.symm))
theorem OwnI.grown {w w' : World} {B : Nat} {v : Value} {zs : List Int} (h : OwnI w B v zs) (hg : w.grownBy w' none) : OwnI w' B v zs := h.kept hg (by simp)
theorem OwnI.len {w : World} {B : Nat} {v : Value} {zs : List Int} (h : OwnI w B v zs) : ∃ a c, v = .slice a zs.length c := by
  rcases h.2 with ⟨rfl, h2⟩ | ⟨g, cap, cur, rfl, _⟩
  · exact ⟨none, 0, by rw [h2]⟩
  · exact ⟨_, _, rfl⟩
theorem OwnI.rd {w : World} {B : Nat} {v : Value} {zs : List Int} (h : OwnI w B v zs) : RdL w v (ivs zs) := by
  have h0 := h
  obtain ⟨h1, h2⟩ := h
  rcases h2 with ⟨rfl, hn⟩ | ⟨g, cap, cur, rfl, hb, hg, hnc, hcm, hcs, htake⟩
  · exact .inl ⟨rfl, by rw [List.eq_nil_of_length_eq_zero hn]; rfl⟩
  · refine .inr ⟨g, 0, cap, by simp [ivs], by simpa [ivs] using hnc, hcm, fun j x hj => ?_⟩
    have := World.ownsRow.cells h0 (g := g) rfl j x hj
    rwa [addr_add] at this
theorem info_int : (Try.prog.info? 3).map (fun i => (i.zero, i.size, i.bytes)) = some (some (.int .i64 0), 1, 8) := by kernel_rfl
/-- append of one integer, in a block of its own, to a row of the call's own -/
theorem app_int {ops : Array Oper} {rest : List Oper} {o : Oper} {a : Act} {w : World} {Q : Exit → Act → World → Prop} (hgd : o.guard = none) (s x : Operand)
    (ho : o.op = .call { callee := .builtin .append, args := #[s, x], argTypes := #[40, 40] })
    (B : Nat) (v : Value) (zs : List Int) (z : Int) (g : Nat) (hs : a.eval s = v) (hx : a.eval x = .slice (some ⟨g, 0, none⟩) 1 1) (hown : OwnI w B v zs) (hg : w.cell? ⟨g, 0, none⟩ = some (.int .i64 z)) (hB : B ≤ w.heap.size) (hb : zs.length ≤ 1000000)
    (h : ∀ v' w', OwnI w' B v' (zs ++ [z]) → w.grownBy w' v.ownBlock → Fr w v v' → wpList Try.prog ops Q rest (a.put o.dst v') w') : wpList Try.prog ops Q (o :: rest) a w := by
  obtain ⟨i0, hi, hz0, hz1, hz2⟩ := info_parts info_int
  obtain ⟨v', w', hr, ho', hgr, hf⟩ := run_append_own2 (P := Try.prog) w B 40 o.type _ i0 (.int .i64 0) 1 8 Try.underlying40 hi hz0 hz1 hz2 rfl (by decide) v zs.length (ivs zs) hown
      ⟨g, 0, none⟩ 1 1 [.int .i64 z] rfl (fun j u hu => by
        cases j with
        | zero => simp at hu; subst hu; rw [addr_add]; exact hg
        | succ j => simp at hu) (by simp; rfl) (by simp only [maxLen]; omega) (by omega) hB
  refine wpList_plain hgd fun _ hK => ?_
  unfold Oper.wp execOp
  simp only [ho, resolve, invoke, builtin, Sem.run_bind, Sem.run_pure, Result.andThen_ok, List.map_toArray, List.map_cons, List.map_nil, hs, hx, hr]
  refine hK _ _ (h v' w' ?_ hgr hf)
  unfold OwnI
  simpa [ivs] using ho'
theorem ivs_len (zs : List Int) : (ivs zs).length = zs.length := by simp [ivs]
theorem str_beq (a b : List UInt8) : ((str a).toList == (str b).toList) = (a == b) := by
  rw [ByteArray.toList_eq, ByteArray.toList_eq, str_toList, str_toList]
set_option maxRecDepth 100000 in
theorem same_any (va vb : Value) (a b : List UInt8) (w : World) (ha : Rd w va a) (hb : Rd w vb b) :
    Calls Try.prog 17 #[va, vb] w fun e w' => e = .returned (.bool (a == b)) ∧ w = w' := by
  have h1 := run_toString w va a ha
  have h2 := run_toString w vb b hb
  have HE := Lib.hid (str_beq a b)
  clear ha hb
  go_enter Try.func17, Try.ntmps17
  go_wp2
  go_ret
  exact ⟨congrArg (fun z => Ending.returned (.bool z)) HE.out, rfl⟩
set_option maxRecDepth 100000 in
set_option maxHeartbeats 1000000 in
theorem sameInts_true (a b : Value) (w : World) (zs : List Int) (ha : RdL w a (ivs zs)) (hb : RdL w b (ivs zs)) (hlz : (zs.length : Int) ≤ 9223372036854775807) :
    Calls Try.prog 26 #[a, b] w (BoolQ true w) := by
  obtain ⟨a0, c0, rfl⟩ := ha.len
  obtain ⟨a1, c1, rfl⟩ := hb.len
  rw [ivs_len] at ha hb ⊢
  have HA := Lib.hid ha
  have HB := Lib.hid hb
  clear ha hb
  go_enter Try.func26, Try.ntmps26
  go_wp2
  go_loopw [5] (fun k wr => ∃ i nq : Nat, k = .int .i64 (i : Int) ∧ i ≤ zs.length ∧ wr = w.drewN nq) (fun k _ => zs.length - (intOf k).toNat)
  case atStart => exact ⟨0, 0, rfl, Nat.zero_le _, rfl⟩
  case round =>
    obtain ⟨i, nq, rfl, hi, rfl⟩ := hrel
    by_cases hlt : i < zs.length
    · obtain ⟨g, off, rfl, hcell⟩ := HA.out.at (j := i) (x := .int .i64 zs[i]) (by simp [ivs, hlt])
      obtain ⟨g', off', rfl, hcell'⟩ := HB.out.at (j := i) (x := .int .i64 zs[i]) (by simp [ivs, hlt])
      generalize zs[i] = z at *
      have hi0 : (0 : Int) ≤ (i : Int) := Int.natCast_nonneg _
      have hi1 : (i : Int) < (zs.length : Int) := by omega
      go_wp2
      go_quiet (fail)
      go_wp2
      refine ⟨⟨i + 1, _, by go_num, by omega, rfl⟩, by simp [intOf]; omega⟩
    · go_wp2
      go_ret
      exact ⟨rfl, gb_drewN _ _ _⟩
end Go.Proofs.Ytpfeaeklenopdaa
