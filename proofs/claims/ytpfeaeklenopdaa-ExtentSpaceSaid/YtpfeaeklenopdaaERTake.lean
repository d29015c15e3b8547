/-
  The reference's Take: the walk.
-/
import Derived.Test.YtpfeaeklenopdaaETakeM
namespace Go.Proofs.Ytpfeaeklenopdaa
open Go.RowKit Go.Shelf

def takeG (l : List UInt8) (f t m : Nat) : Except Int (List Nat × List UInt8) := if (findL l f t false).length < m then .error 13 else .ok ((findL l f t false).take m, setAll l ((findL l f t false).take m))
theorem takeO_ok {l : List UInt8} {f t m : Nat} (hb : validB l f t = true) (hm : 1 ≤ m) : takeO l f t m = takeG l f t m := by
  unfold takeO takeG
  rw [hb, show (true && decide (1 ≤ (m : Int))) = true by simp; omega, if_pos rfl]
  simp only [Int.toNat_natCast, Int.ofNat_lt]
theorem takeO_bad {l : List UInt8} {x y n : Int} (h : validB l x y = false ∨ n < 1) : takeO l x y n = .error 1 := by
  unfold takeO
  rw [if_neg]
  rcases h with h | h
  · rw [h]; simp
  · simp; intro _; omega
theorem takeG_err {l : List UInt8} {f t m : Nat} (h : (findL l f t false).length < m) : takeG l f t m = .error 13 := by unfold takeG; rw [if_pos h]
theorem findL_split (l : List UInt8) {f k t : Nat} (on : Bool) (h1 : f ≤ k) (h2 : k ≤ t) : findL l f t on = findL l f k on ++ findL l k t on := by
  unfold findL
  rw [← List.filter_append]
  congr 1
  have := List.range'_append (s := f) (m := k - f) (n := t - k) (step := 1)
  rw [show f + 1 * (k - f) = k by omega, show k - f + (t - k) = t - f by omega] at this
  exact this.symm
theorem takeG_ok {l : List UInt8} {f k t m : Nat} (h1 : f ≤ k) (h2 : k ≤ t) (h : (findL l f k false).length = m) : takeG l f t m = .ok (findL l f k false, setAll l (findL l f k false)) := by
  have e := findL_split l false h1 h2
  unfold takeG
  rw [if_neg (by rw [e, List.length_append]; omega), e, ← h, List.take_left']
  rfl
set_option maxRecDepth 100000 in
set_option maxHeartbeats 4000000 in
theorem rtake_ok (v : Value) (l : List UInt8) (f t m : Nat) (w : World) (hv : Rd w v l) (hl : l.length ≤ 1000) (hft : f ≤ t) (ht : t ≤ 8 * l.length) (hm : 1 ≤ m) (hm2 : (m : Int) ≤ 9223372036854775807) :
    Calls Try.prog 25 #[v, .int .i64 (f : Int), .int .i64 (t : Int), .int .i64 (m : Int)] w (TakeP w (takeG l f t m)) := by
  have hvb : validB l f t = true := by unfold validB; simp; omega
  have hs := rvalid_any v l f t w hv (by omega)
  rw [hvb] at hs
  have HS := Lib.hid hs
  have HGE := Lib.hid (fun W (hg : w.grownBy W none) (j : Nat) (hj : (j : Int) ≤ 9223372036854775807) => rget_any v l j W (hv.grown hg) (by omega) (by omega) hj)
  have hnl : ¬ (m : Int) < 1 := by omega
  have htI : (t : Int) ≤ 8000 := by omega
  have HV := Lib.hid hv
  have HL := Lib.hid hl
  have HM := Lib.hid hm
  have HT := Lib.hid ht
  have HFT := Lib.hid hft
  obtain ⟨a, c, rfl⟩ := hv.len
  clear hvb hs hv hm hl ht hft
  go_enter Try.func25, Try.ntmps25
  go_wp2_with (go_at_call 37; refine HS.out.mono ?_; rintro e w' ⟨rfl, rfl⟩)
  go_loopw [11, 12, 13] (fun lv nv i wr => ∃ k : Nat, f ≤ k ∧ k ≤ t ∧ i = .int .i64 (k : Int) ∧ (findL l f k false).length ≤ m ∧ Hid (OwnI wr w.heap.size lv (ns (findL l f k false))) ∧ Hid (Rd wr nv (setAll l (findL l f k false))) ∧ Hid (findL l f k false ≠ [] → Own wr w.heap.size nv (setAll l (findL l f k false))) ∧ Hid (∀ j, lv.ownBlock = some j → nv.ownBlock ≠ some j) ∧ Hid (findL l f k false = [] → nv = .slice a l.length c) ∧ Hid (w.grownBy wr none)) (fun _ _ i _ => t - (intOf i).toNat)
  case atStart => exact ⟨f, Nat.le_refl _, HFT.out, rfl, by rw [findL_nil]; exact Nat.zero_le _, Lib.hid (by rw [findL_nil]; exact OwnI.nil _ _), Lib.hid (by rw [findL_nil]; exact HV.out), Lib.hid (fun h => absurd (findL_nil _ _ _) h), Lib.hid (fun j hj => by cases hj), Lib.hid (fun _ => rfl), Lib.hid (gb_refl _ _)⟩
  case round =>
    obtain ⟨k, hk1, hk2, rfl, hlm, HO, HR, HW, HN, HE, HG⟩ := hrel
    have hfl := findL_len l f k false
    have hfs := findL_snoc (l := l) (f := f) (k := k) (on := false) hk1
    obtain ⟨al, cl, hlv⟩ := HO.out.len
    obtain ⟨an, cn, hnv⟩ := HR.out.len
    subst hlv hnv
    rw [ns_len] at HO HN ⊢
    have HSL : Hid ((setAll l (findL l f k false)).length = l.length) := Lib.hid (setAll_len _ _)
    have hqI : ((findL l f k false).length : Int) ≤ 8000 := by omega
    by_cases hkt : k < t
    · have hktI : (k : Int) < (t : Int) := by omega
      by_cases hlm2 : (findL l f k false).length < m
      · have hlI : ((findL l f k false).length : Int) < (m : Int) := by omega
        have hg := HGE.out wr HG.out k (by omega)
        unfold bitI at hg
        simp only [Int.toNat_natCast, show decide (0 ≤ (k : Int)) = true by simp, Bool.true_and] at hg
        cases hb : bitN l k
        · rw [hb] at hg hfs
          rw [if_pos rfl] at hfs
          have HG2 := Lib.hid hg
          have HFS := Lib.hid hfs
          have HLB : Hid ((ns (findL l f k false)).length ≤ 1000000) := Lib.hid (by rw [ns_len]; omega)
          have HLM : Hid ((findL l f k false).length < m) := Lib.hid hlm2
          have HSA := Lib.hid (setAll_snoc l (findL l f k false) k)
          have HK : Hid (k < 8 * l.length) := Lib.hid (by have := HT.out; omega)
          have HBL : Hid (∀ j, (Value.slice an (setAll l (findL l f k false)).length cn).ownBlock = some j → j < wr.heap.size) := Lib.hid (HR.out.blk (by have h1 := HSL.out; have h2 := HK.out; intro e; rw [e] at h1; simp at h1; omega))
          clear hg hfs hb hlm hlm2 hfl
          generalize setAll l (findL l f k false) = sx at *
          generalize hls : findL l f k false = ls at *
          have HLS := Lib.hid hls
          clear hls
          generalize hq : ls.length = q at *
          generalize hsq : sx.length = sq at *
          have HQ := Lib.hid hq
          have HSQ := Lib.hid hsq
          clear hq hsq
          go_wp2_with (first | (go_at_call 19; refine HG2.out.mono ?_; rintro e w' ⟨rfl, rfl⟩) | (at_builtin; refine app_int rfl _ _ rfl w.heap.size _ (ns ls) (k : Int) wr.heap.size rfl rfl (HO.out.grown (gb_alloc _ _ none)) (cell_row (j := 0) (heap_at_alloc wr _)) (Nat.le_trans HG.out.size (by simp)) HLB.out ?_; go_must (intro v5 w5 ho5 hg5 hf5; rw [← ns_snoc] at ho5; have hg5' := gb_trans (gb_same HG.out (gb_alloc wr _ none)) hg5 (fun j hj => .inr (HO.out.lt j hj).1); have hr5 : Rd w5 (.slice an sq cn) sx := (HR.out.grown (gb_alloc wr _ none)).kept hg5 (fun j hj e => HN.out j e hj); have HO5 := Lib.hid ho5; have HG5 := Lib.hid hg5'; have hp := rput_any _ sx k true w5 hr5 (by have := HSL.out; have := HL.out; have := HSQ.out; omega) (by have := HSL.out; have := HK.out; have := HSQ.out; omega); have HP := Lib.hid hp; clear ho5 hg5 hg5' hr5 hf5 hp)) | (go_at_call 41; refine HP.out.mono ?_; go_must (rintro e w6 ⟨v6, rfl, ho6, hg6⟩; have HO6 : Hid (Own w6 w5.heap.size v6 (setB sx k true)) := Lib.hid ho6; have HG6 : Hid (w.grownBy w6 none) := Lib.hid (gb_same HG5.out hg6); have HI6 := Lib.hid (HO5.out.grown hg6); have HNE : Hid (∀ j, v5.ownBlock = some j → v6.ownBlock ≠ some j) := Lib.hid (fun j hj e => by have h1 := (HO5.out.lt j hj).2; have h2 := (ho6.lt j e).1; omega); clear ho6 hg6)))
          go_roundw
          case rel => exact ⟨k + 1, by omega, by omega, by go_num, by rw [HFS.out]; have := HLM.out; have := HQ.out; simp; omega, Lib.hid (by rw [HFS.out]; exact HI6.out), Lib.hid (by rw [HFS.out, HSA.out]; exact HO6.out.rd), Lib.hid (fun _ => by rw [HFS.out, HSA.out]; exact HO6.out.mono HG5.out.size), HNE, Lib.hid (fun h => by rw [HFS.out] at h; simp at h), HG6⟩
          case measure => simp [intOf]; omega
        · rw [hb] at hg hfs
          rw [if_neg (by simp)] at hfs
          have HG2 := Lib.hid hg
          have HFS := Lib.hid hfs
          have HLM : Hid ((findL l f k false).length ≤ m) := Lib.hid hlm
          clear hg hfs hb hlm hlm2 hfl
          generalize hq : (findL l f k false).length = q at *
          go_wp2_with (go_at_call 19; refine HG2.out.mono ?_; rintro e w' ⟨rfl, rfl⟩)
          go_roundw
          case rel => exact ⟨k + 1, by omega, by omega, by go_num, by rw [HFS.out]; have := HLM.out; omega, by rw [HFS.out]; exact HO, by rw [HFS.out]; exact HR, by rw [HFS.out]; exact HW, HN, by rw [HFS.out]; exact HE, HG⟩
          case measure => simp [intOf]; omega
      · have hlE : (findL l f k false).length = m := by omega
        have HTG := Lib.hid (takeG_ok (t := t) hk1 hk2 hlE)
        have HNEW := Lib.hid (HW.out (fun e => by have := HM.out; rw [e] at hlE; simp at hlE; omega))
        rw [hlE] at HO HN ⊢
        clear hfs hlm hlm2 hfl hqI hlE
        go_wp2
        refine bodyPost_ret (v := .tuple #[.slice al m cl, .slice an (setAll l (findL l f k false)).length cn, .int .i64 0]) (by simp [results, Try.results25, go_sem]) rfl ?_
        rw [HTG.out]
        exact ⟨_, _, rfl, HO.out, HNEW.out, HG.out, HN.out⟩
    · obtain rfl : k = t := by omega
      by_cases hlm2 : (findL l f k false).length < m
      · have hlI : ((findL l f k false).length : Int) < (m : Int) := by omega
        have HTG := Lib.hid (takeG_err hlm2)
        clear hfs hlm hlm2 hfl
        generalize (findL l f k false).length = q at *
        go_wp2
        refine bodyPost_ret (v := .tuple #[.slice none 0 0, .slice none 0 0, .int .i64 13]) (by simp [results, Try.results25, go_sem]) rfl ?_
        rw [HTG.out]
        exact ⟨rfl, HG.out⟩
      · have hlE : (findL l f k false).length = m := by omega
        have HTG := Lib.hid (takeG_ok (t := k) hk1 hk2 hlE)
        have HNEW := Lib.hid (HW.out (fun e => by have := HM.out; rw [e] at hlE; simp at hlE; omega))
        rw [hlE] at HO HN ⊢
        clear hfs hlm hlm2 hfl hqI hlE
        go_wp2
        refine bodyPost_ret (v := .tuple #[.slice al m cl, .slice an (setAll l (findL l f k false)).length cn, .int .i64 0]) (by simp [results, Try.results25, go_sem]) rfl ?_
        rw [HTG.out]
        exact ⟨_, _, rfl, HO.out, HNEW.out, HG.out, HN.out⟩
set_option maxRecDepth 100000 in
theorem rtake_any (v : Value) (l : List UInt8) (x y n : Int) (w : World) (hv : Rd w v l) (hl : l.length ≤ 1000) (hn2 : n ≤ 9223372036854775807) :
    Calls Try.prog 25 #[v, .int .i64 x, .int .i64 y, .int .i64 n] w (TakeP w (takeO l x y n)) := by
  have hs := rvalid_any v l x y w hv (by omega)
  by_cases hb : validB l x y = true
  · by_cases hn : 1 ≤ n
    · obtain ⟨f, t, rfl, rfl, hft, ht⟩ := validB_spec hb
      obtain ⟨m, rfl⟩ := Int.eq_ofNat_of_zero_le (show 0 ≤ n by omega)
      rw [takeO_ok hb (by omega)]
      exact rtake_ok v l f t m w hv hl hft ht (by omega) hn2
    · rw [takeO_bad (.inr (by omega))]
      rw [hb] at hs
      have HS := Lib.hid hs
      obtain ⟨a, c, rfl⟩ := hv.len
      have hnl : n < 1 := by omega
      clear hs hb hv hn
      go_enter Try.func25, Try.ntmps25
      go_wp2_with (go_at_call 37; refine HS.out.mono ?_; rintro e w' ⟨rfl, rfl⟩)
      refine bodyPost_ret (v := .tuple #[.slice none 0 0, .slice none 0 0, .int .i64 1]) (by simp [results, Try.results25, go_sem]) rfl ?_
      exact ⟨rfl, gb_refl _ _⟩
  · have hb2 : validB l x y = false := by simpa using hb
    rw [takeO_bad (.inl hb2)]
    rw [hb2] at hs
    have HS := Lib.hid hs
    obtain ⟨a, c, rfl⟩ := hv.len
    clear hs hb hb2 hv
    go_enter Try.func25, Try.ntmps25
    go_wp2_with (go_at_call 37; refine HS.out.mono ?_; rintro e w' ⟨rfl, rfl⟩)
    refine bodyPost_ret (v := .tuple #[.slice none 0 0, .slice none 0 0, .int .i64 1]) (by simp [results, Try.results25, go_sem]) rfl ?_
    exact ⟨rfl, gb_refl _ _⟩
end Go.Proofs.Ytpfeaeklenopdaa
