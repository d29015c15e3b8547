/-
  law.awake: the walk.
-/
import Derived.Test.YtfldooljmjeaoaaRQTake
import Derived.Test.YtfldooljmjeaoaaRMp
namespace Go.Proofs.Ytfldooljmjeaoaa
open Go.RowKit

theorem Rd.litM (w : World) (cs : Array Value) (l : List UInt8) (n : Nat) (fr : Nat × Nat) (hcs : cs.toList = bvs l) (hn : l.length = n) (hm : n ≤ maxLen) :
    Rd (w.alloc (.cells cs 5 fr)) (.slice (some ⟨w.heap.size, 0, none⟩) n n) l := by
  subst hn
  refine .inr ⟨w.heap.size, 0, l.length, rfl, Nat.le_refl _, hm, fun j x hj => ?_⟩
  rw [Nat.zero_add, World.cell?_alloc_mark]
  have : cs.toList[j]? = some (bv x) := by rw [hcs, bvs_get, hj]; rfl
  simpa using this
set_option maxRecDepth 100000 in
set_option maxHeartbeats 4000000 in
theorem awake_any (w : World) : Calls Try.prog 4 #[] w (BoolQ true w) := by
  have ok : ∀ n : Int, 0 ≤ n → n ≤ 10 → OkI n := fun n h1 h2 => ⟨by omega, by omega⟩
  have OK := Lib.hid ok
  clear ok
  have HN := Lib.hid (newB_any 4 w (by omega) (by omega))
  have kc := fun (w : World) (C : Array Value) (n c : Nat) => Lib.run_convert_bytes_const (P := Try.prog) w 22 5 C n c Try.underlying22 Try.underlying5
  go_enter Try.func4, Try.ntmps4
  go_wp2_with fail
  refine HN.out.mono ?_
  rintro e w1 ⟨g, s, rfl, hg, hs, hg1, hq1⟩
  have HG1 := Lib.hid hg1
  have HGS := Lib.hid (And.intro hg hs)
  have HQ1 := Lib.hid hq1
  clear hg1 hg hs hq1
  go_wp2_with fail
  have HLA := Lib.hid (Rd.litM w1 #[.int .u8 97, .int .u8 98, .int .u8 99, .int .u8 100, .int .u8 101, .int .u8 102] [97, 98, 99, 100, 101, 102] 6 (6, 7) rfl rfl (by simp [maxLen]))
  have HP2 := Lib.hid (put_any (HQ1.out.grown (gb_alloc w1 (.cells #[.int .u8 97, .int .u8 98, .int .u8 99, .int .u8 100, .int .u8 101, .int .u8 102] 5 (6, 7)) none)) _ _ HLA.out.w (fun _ k hk => by
    simp [Value.ownBlock] at hk
    have := HQ1.out.lt
    omega))
  refine HP2.out.mono ?_
  rintro e w2 ⟨rfl, hk2, cs2, hq2⟩
  have e2 : [] ++ List.take (putN 4 [] [97, 98, 99, 100, 101, 102]) [97, 98, 99, 100, 101, 102] = ([97, 98, 99, 100] : List UInt8) := by decide
  rw [e2] at hq2
  have e3 : ((putN 4 [] [97, 98, 99, 100, 101, 102] : Nat) : Int) = 4 := by decide
  rw [e3]
  have HK2 := Lib.hid (K2.new (gb_same HG1.out (gb_alloc _ _ _)) HGS.out.1 HGS.out.2 hk2)
  have HQ2 := Lib.hid hq2
  have HT3 := Lib.hid (take_any hq2 3 (OK.out 3 (by omega) (by omega)))
  clear e2 e3 hk2 hq2 HP2
  go_wp2_with fail
  refine HT3.out.mono ?_
  rintro e w3 ⟨v3, f3, cs3, rfl, ho3, hk3, hq3⟩
  have HO3 : Hid (Own w3 w2.heap.size v3 [97, 98, 99]) := Lib.hid ho3
  have HQ3 : Hid (IsB w3 g s 4 f3 cs3 [100]) := Lib.hid hq3
  have HK3 := Lib.hid (K2.new HK2.out HGS.out.1 HGS.out.2 hk3)
  have HSZ := Lib.hid hk3.size
  obtain ⟨a3, c3, hv3⟩ := HO3.out.rd.len
  rw [show ([97, 98, 99] : List UInt8).length = 3 from rfl] at hv3
  subst hv3
  clear hk3 hq3 ho3 HT3
  go_wp2_with fail
  have HLB := Lib.hid (Rd.litM w3 #[.int .u8 120, .int .u8 121] [120, 121] 2 (2, 3) rfl rfl (by simp [maxLen]))
  have HP4 := Lib.hid (put_any (HQ3.out.grown (gb_alloc w3 (.cells #[.int .u8 120, .int .u8 121] 5 (2, 3)) none)) _ _ HLB.out.w (fun _ k hk => by
    simp [Value.ownBlock] at hk
    have := HQ3.out.lt
    omega))
  refine HP4.out.mono ?_
  rintro e w4 ⟨rfl, hk4, cs4, hq4⟩
  have e2 : [100] ++ List.take (putN 4 [100] [120, 121]) [120, 121] = ([100, 120, 121] : List UInt8) := by decide
  rw [e2] at hq4
  have e3 : ((putN 4 [100] [120, 121] : Nat) : Int) = 2 := by decide
  rw [e3]
  have HK4 := Lib.hid (K2.new (gb_same HK3.out (gb_alloc _ _ _)) HGS.out.1 HGS.out.2 hk4)
  have HQ4 := Lib.hid hq4
  have HO4 := Lib.hid (K2.own (HO3.out.grown (gb_alloc _ _ _)) hk4 (fun b hb => by have := HO3.out.lt b hb; have := HQ2.out.lt; omega))
  have HN5 := Lib.hid (newM_any 1 w4 (by omega) (by omega))
  clear e2 e3 hk4 hq4 HP4 HLB HLA kc
  go_wp2_with fail
  refine HN5.out.mono ?_
  rintro e w5 ⟨q, rfl, hq5, hg5, hm5⟩
  have HO5 := HO4.out.grown hg5
  have hts : (convert 22 9 (.slice a3 3 c3)).run Try.prog w5 = .ok (.string { data := #[97, 98, 99] }) w5 := run_toString w5 _ _ HO5.rd
  have HP6 := Lib.hid (peek_any (HQ4.out.grown hg5) 9 (OK.out 9 (by omega) (by omega)))
  have HM5 := Lib.hid hm5
  have HG5 := Lib.hid (gb_same HK4.out hg5)
  have HQQ := Lib.hid hq5
  have HSQ := Lib.hid HK4.out.size
  clear hq5 hg5 hm5 HO5
  go_wp2_with fail
  refine HP6.out.mono ?_
  rintro e w6 ⟨v6, rfl, ho6, hg6⟩
  have ho6' : Own w6 w5.heap.size v6 [100, 120, 121] := ho6
  obtain ⟨a6, c6, hv6⟩ := ho6'.rd.len
  rw [show ([100, 120, 121] : List UInt8).length = 3 from rfl] at hv6
  subst hv6
  have hts6 : (convert 22 9 (.slice a6 3 c6)).run Try.prog w6 = .ok (.string { data := #[100, 120, 121] }) w6 := run_toString w6 _ _ ho6'.rd
  have HM6 := Lib.hid (HM5.out.grown hg6)
  have HG6 := Lib.hid (gb_same HG5.out hg6)
  have HB6 : Hid (w4.heap.size ≤ w6.heap.size) := Lib.hid (by have := HM5.out.lt; have := hg6.size; have := HQQ.out; omega)
  clear ho6 ho6' hg6
  go_wp2_with fail
  refine (putM_any HM6.out HB6.out ⟨1, 0, 0, 0, 0, 0, 0, 0, []⟩ (.slice none 0 0) (.inl (.inl ⟨rfl, rfl⟩))).mono ?_
  rintro e w7 ⟨rfl, hx7⟩
  rcases hx7 with ⟨h7, _⟩ | ⟨_, v7, dv7, hm7, hk7, hf7, ho7⟩
  · exact absurd (by decide) h7
  have e7 : putME 1 [] ⟨1, 0, 0, 0, 0, 0, 0, 0, []⟩ = 0 := by decide
  rw [e7]
  have HM7 := Lib.hid hm7
  have HG7 := Lib.hid (KM.new (B := w4.heap.size) HG6.out (by have := HQQ.out; have := HSQ.out; omega) (by simp [Value.ownBlock]) HSQ.out hk7)
  have HB7 : Hid (w4.heap.size ≤ w7.heap.size) := Lib.hid (by have := hk7.2.2.2.1; have := HB6.out; omega)
  clear hm7 hk7 hf7 ho7 e7
  go_wp2_with fail
  refine (putM_any HM7.out HB7.out ⟨0, 0, 0, 0, 0, 0, 0, 0, []⟩ (.slice none 0 0) (.inl (.inl ⟨rfl, rfl⟩))).mono ?_
  rintro e w8 ⟨rfl, hx8⟩
  have e8 : putME 1 ([] ++ [((⟨1, 0, 0, 0, 0, 0, 0, 0, []⟩ : Mg), dv7)]) ⟨0, 0, 0, 0, 0, 0, 0, 0, []⟩ = 6 := by unfold putME; simp
  rcases hx8 with ⟨_, hg8⟩ | ⟨h8, _⟩
  · rw [e8]
    have HG8 := Lib.hid (gb_same HG7.out hg8)
    clear e8 hg8
    go_wp2
    go_ret
    exact ⟨rfl, HG8.out⟩
  · rw [e8] at h8
    exact absurd h8 (by decide)
end Go.Proofs.Ytfldooljmjeaoaa
