/-
  slices.Backward over records: the iterator.
-/
import Derived.Test.YtfdkmncjcehdkaaUHeld
namespace Go.Proofs.Ytfdkmncjcehdkaa
open Go.RowKit Go.Shelf

attribute [local go_sem] Oper.semAt_some

theorem range_snoc (k : Nat) : List.range (k + 1) = List.range k ++ [k] := List.range_succ
/-- what the iterator hands out at the x-th round -/
def recV (ps : List RP) (x : Nat) : Value := match ps.reverse[x]? with | some p => .agg #[.int .i64 p.1.1, .int .i64 p.1.2.1, p.2] | none => .agg #[]
theorem recV_at {ps : List RP} {k m : Nat} {p : RP} (h : ps.length = k + 1 + m) (hp : ps[m]? = some p) : recV ps k = .agg #[.int .i64 p.1.1, .int .i64 p.1.2.1, p.2] := by
  unfold recV
  rw [List.getElem?_reverse (by omega), show ps.length - 1 - k = m by omega, hp]

set_option maxRecDepth 100000 in
set_option maxHeartbeats 2000000 in
theorem back1_in (n : Nat) (hn : 2 ≤ n) (l Bs : Nat) (v : Value) (ps : List RP) (N : Nat) (hN : ps.length = N) (hN1 : N ≤ 1000000) (Kp : World → World → Prop) (hKr : ∀ W, Kp W W) (hKt : ∀ {A B C : World}, Kp A B → Kp B C → Kp A C) (J Jx : List Nat → World → Prop)
    (hY : ∀ (pre : List Nat) (x : Nat) W, J pre W → pre.length < N → x < N → YieldAt Fence.wide (n - 1) Try.prog l #[.int .i64 ((N : Int) - 1 - x), recV ps x] W fun e W' =>
      (e = .returned (.bool true) ∧ J (pre ++ [x]) W' ∧ Kp W W') ∨ (e = .returned (.bool false) ∧ Jx (pre ++ [x]) W'))
    (W : World) (hR : ∀ W', Kp W W' → W'.cell? ⟨Bs, 0, none⟩ = some v ∧ RdRow W' v ps) (h0 : J [] W) :
    CallsIn Fence.wide n Try.prog 72 #[.func (.yield l) #[] #[], .pointer (some ⟨Bs, 0, none⟩)] W fun e W' => (∃ v, e = .returned v) ∧
      ((∃ ys, ys = List.range N ∧ J ys W') ∨ (∃ pre, (∃ k, k ≤ N ∧ pre = List.range k) ∧ Jx pre W')) := by
  obtain ⟨a, c, hvl⟩ := (hR W (hKr _)).2.len
  rw [hN] at hvl
  subst hvl
  have hBs := (hR W (hKr _)).1
  have HR := Lib.hid hR
  have HN := Lib.hid hN
  clear hR hN
  have h1 : 1 ≤ n - 1 := by omega
  refine callsIn_of_wp Try.func72 rfl trivial ?_ rfl
  simp only [Try.ntmps72, List.size_toArray, List.length_cons, List.length_nil, Nat.reduceAdd, Nat.reduceSub, Array.replicate_succ, Array.replicate_zero, List.push_toArray, List.append_toArray, List.nil_append, List.cons_append]
  gi_wp2_with fail
  gi_loopw [3] (fun i wr => ∃ k : Nat, k ≤ N ∧ i = .int .i64 ((N : Int) - 1 - k) ∧ J (List.range k) wr ∧ Hid (Kp W wr))
    (fun i _ => (intOf i + 1).toNat)
  case atStart => exact ⟨0, Nat.zero_le _, by simp, h0, Lib.hid (hKr _)⟩
  case round =>
    obtain ⟨k, hk, rfl, hJs, HNX⟩ := hrel
    have hcx := (HR.out wr HNX.out).1
    by_cases hlt : k < N
    · obtain ⟨m, hm⟩ : ∃ m, N = k + 1 + m := ⟨N - k - 1, by omega⟩
      have hmi : (N : Int) - 1 - k = (m : Int) := by omega
      obtain ⟨p, hp⟩ : ∃ p, ps[m]? = some p := ⟨ps[m]'(by have := HN.out; omega), by simp⟩
      obtain ⟨gb, off, rfl, q0, q1, q2⟩ := (HR.out wr HNX.out).2.at hp
      obtain ⟨fn, tmps, assign, body, hy, hR⟩ := hY _ k wr hJs (by rw [List.length_range]; exact hlt) hlt
      rw [recV_at (by rw [HN.out]; exact hm) hp] at hy
      rw [hmi] at hy ⊢
      have hmN : m < N := by omega
      have HJ := Lib.hid hJs
      have HM := Lib.hid hm
      clear hJs hm hmi hp
      gi_wp2_with fail
      refine ⟨(fun h => (by cases h)), hR.mono ?_⟩
      rintro e W3 (⟨rfl, hJ3, hk3⟩ | ⟨rfl, hJx3⟩)
      · gi_wp2
        go_roundw
        case rel => exact ⟨k + 1, by omega, congrArg (Value.int .i64) (by have := HM.out; omega), by rw [range_snoc]; exact hJ3, Lib.hid (hKt HNX.out hk3)⟩
        case measure => simp [intOf]
      · gi_wp2
        refine bodyPost_ret (results_none rfl _ _ _) rfl ?_
        exact ⟨⟨_, rfl⟩, .inr ⟨_, ⟨k + 1, by omega, (range_snoc _).symm⟩, hJx3⟩⟩
    · obtain rfl : k = N := by omega
      have hmi : (k : Int) - 1 - k = -1 := by omega
      rw [hmi]
      clear hmi
      gi_wp2
      go_end0
      exact ⟨⟨_, rfl⟩, .inl ⟨_, rfl, hJs⟩⟩
theorem backward_any (v : Value) (ps : List RP) (w : World) (hv : RdRow w v ps) :
    Calls Try.prog 60 #[v] w fun e w' => e = .returned (.func (.func 72) #[] #[.pointer (some ⟨w.heap.size, 0, none⟩)]) ∧ w' = w.alloc (.cells #[v] 42) := by
  obtain ⟨a, c, rfl⟩ := hv.len
  have hmf : ∀ (fn : Fn) (first cap : Array Value) (w : World), (Instr.makeFunc fn first cap).run Try.prog w = .ok (.func fn first cap) w := fun _ _ _ _ => rfl
  go_enter Try.func60, Try.ntmps60
  go_wp2
  go_ret
  exact ⟨rfl, rfl⟩
/-- the number of a round -/
abbrev RdNo (N : Nat) := { x : Nat // x < N }
theorem back_stops (n : Nat) (hn : 2 ≤ n) (Bs : Nat) (v : Value) (ps : List RP) (N : Nat) (w : World) (hN : ps.length = N) (hN2 : N ≤ 1000000) (Kp : World → World → Prop) (hKr : ∀ W, Kp W W) (hKt : ∀ {A B C : World}, Kp A B → Kp B C → Kp A C)
    (hR : ∀ W W', Below w.heap.size w W → Kp W W' → W'.cell? ⟨Bs, 0, none⟩ = some v ∧ RdRow W' v ps) :
    SeqStopsK Fence.wide n Try.prog 72 #[.pointer (some ⟨Bs, 0, none⟩)] (fun x : RdNo N => #[Value.int .i64 ((N : Int) - 1 - (x.1 : Int)), recV ps x.1]) Kp (fun ys => ys.map (·.1) = List.range N) (fun _ => True) N w := fun l J Jx W hW _ _ hY h0 => by
  refine (back1_in n hn l Bs v ps N hN hN2 Kp hKr (fun h k => hKt h k) (fun pre W => ∃ ys : List (RdNo N), ys.map (·.1) = pre ∧ J ys W) (fun pre W => ∃ ys : List (RdNo N), ys.map (·.1) = pre ∧ Jx ys W) ?_ W (fun W' h => hR W W' hW h) ⟨[], rfl, h0⟩).mono ?_
  · rintro pre x W1 ⟨ys, rfl, hj⟩ hlen hx
    obtain ⟨fn, tmps, assign, body, hy, hRd⟩ := hY ys ⟨x, hx⟩ W1 hj (by simpa using hlen)
    refine ⟨fn, tmps, assign, body, hy, hRd.mono ?_⟩
    rintro e W' (⟨h1, h2, h3⟩ | ⟨h1, h2⟩)
    · exact .inl ⟨h1, ⟨_, by simp, h2⟩, h3⟩
    · exact .inr ⟨h1, ⟨_, by simp, h2⟩⟩
  · rintro e W' ⟨h1, ⟨_, rfl, ys, h2, h3⟩ | ⟨pre, _, ys, h2, h3⟩⟩
    · exact ⟨h1, .inl ⟨ys, h2, h3⟩⟩
    · exact ⟨h1, .inr ⟨ys, trivial, h3⟩⟩
end Go.Proofs.Ytfdkmncjcehdkaa
