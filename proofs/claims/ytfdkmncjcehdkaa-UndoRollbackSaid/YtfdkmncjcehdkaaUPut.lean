/-
  Writing bytes into an owned row; what taking back means.
-/
import Derived.Test.YtfdkmncjcehdkaaUBack
namespace Go.Proofs.Ytfdkmncjcehdkaa
open Go.RowKit Go.Shelf

/-- bytes written from an offset on -/
def putAt (a : List UInt8) (o : Nat) (x : List UInt8) : List UInt8 := a.take o ++ x ++ a.drop (o + x.length)
theorem putAt_len {a x : List UInt8} {o : Nat} (h : o + x.length ≤ a.length) : (putAt a o x).length = a.length := by
  unfold putAt; simp; omega
theorem putAt_nil (a : List UInt8) (o : Nat) : putAt a o [] = a := by unfold putAt; simp
/-- an image after a record was taken back -/
def takeR (a : List UInt8) (r : RT) : List UInt8 := putAt (sized a r.2.1.toNat) r.1.toNat r.2.2
def takeAll (a : List UInt8) (rs : List RT) : List UInt8 := rs.foldl takeR a
/-- a recovered image -/
def recL (a : List UInt8) (rs : List RT) : List UInt8 := takeAll a rs.reverse
theorem okR_spec {r : RT} (h : okR r = true) : 0 ≤ r.2.1 ∧ r.2.1.toNat ≤ 24000 ∧ 0 ≤ r.1 ∧ r.1.toNat + r.2.2.length ≤ r.2.1.toNat := by
  unfold okR at h
  rw [decide_eq_true_eq] at h
  omega
theorem takeR_len {a : List UInt8} {r : RT} (h : okR r = true) : (takeR a r).length = r.2.1.toNat := by
  have := okR_spec h
  unfold takeR
  rw [putAt_len (by rw [sized_len]; omega), sized_len]

theorem Own.rowAt {w : World} {B g n cap : Nat} {l : List UInt8} (h : Own w B (.slice (some ⟨g, 0, none⟩) n cap) l) (hn : l.length = n) : ∃ cur : List Value, w.heap[g]? = some (.cells cur.toArray 5 (0, 0)) ∧ cur.length = cap ∧ cur.take n = bvs l ∧ n ≤ cap ∧ cap ≤ maxLen ∧ B ≤ g := by
  subst hn
  obtain ⟨h1, h2⟩ := h
  rcases h2 with ⟨h0, _⟩ | ⟨g', cap', cur, h0, hb, hg, hnc, hcm, hcs, htake⟩
  · cases h0
  · cases h0
    exact ⟨cur.toList, by rw [hg], by rw [Array.length_toList]; omega, by rw [Nat.mul_one] at htake; exact htake, hnc, hcm, hb⟩
theorem splice_take {cur : List Value} {l x : List UInt8} {o : Nat} (h : cur.take l.length = bvs l) (ho : o + x.length ≤ l.length) (hc : l.length ≤ cur.length) : (splice cur o (bvs x)).take l.length = bvs (putAt l o x) := by
  have hx : (bvs x).length = x.length := bvs_length x
  have e1 : splice cur o (bvs x) = cur.take o ++ bvs x ++ cur.drop (o + x.length) := by unfold splice; rw [hx, List.append_assoc]
  have e2 : bvs (putAt l o x) = (bvs l).take o ++ bvs x ++ (bvs l).drop (o + x.length) := by unfold putAt bvs; simp
  rw [e1, e2, ← h, List.take_take, Nat.min_eq_left (by omega), List.drop_take]
  rw [List.take_append, List.take_append]
  rw [List.take_take, Nat.min_eq_right (by omega), List.take_of_length_le (l := bvs x) (by rw [hx, List.length_take]; omega)]
  congr 1
  rw [List.length_append, List.length_take, hx, Nat.min_eq_left (by omega)]
theorem splice_len {cur xs : List Value} {o : Nat} (h : o + xs.length ≤ cur.length) : (splice cur o xs).length = cur.length := by
  unfold splice; simp; omega

/-- copy of readable bytes into an owned row -/
theorem run_copy_put (w : World) (B : Nat) (v : Value) (l x : List UInt8) (o : Nat) (hown : Own w B v l) (da sa : Option Addr) (dn dc sn sc : Nat) (ty : TypeId) (hsrc : RdW w (.slice sa sn sc) x) (ho : o + x.length ≤ l.length) (hdn : dn = l.length - o)
    (hda : x ≠ [] → ∃ g cap, v = .slice (some ⟨g, 0, none⟩) l.length cap ∧ da = some ⟨g, o, none⟩) :
    ∃ w', (Builtin.copy_ #[22, 22] ty #[.slice da dn dc, .slice sa sn sc]).run Try.prog w = .ok (goInt x.length) w' ∧ Own w' B v (putAt l o x) ∧ w.grownBy w' v.ownBlock := by
  obtain ⟨_, _, hsx⟩ := hsrc.len
  simp only [Value.slice.injEq] at hsx
  by_cases hx : x = []
  · subst hx
    refine ⟨w, run_copy_none (P := Try.prog) w 22 22 ty 5 da sa dn dc sn sc Try.underlying22 sz5 ?_, by rw [putAt_nil]; exact hown, gb_refl _ _⟩
    have h0 : sn = 0 := by simpa using hsx.2.1
    subst h0
    exact Nat.min_eq_left (Nat.zero_le _)
  · obtain ⟨g, cap, rfl, rfl⟩ := hda hx
    have hpos : 0 < (bvs x).length := by rw [bvs_length]; cases x with | nil => exact absurd rfl hx | cons => simp
    obtain ⟨ad, rfl, hcells⟩ := hsrc.src hpos
    obtain ⟨cur, hg, hcl, htk, hnc, hcm, hB⟩ := hown.rowAt rfl
    have hrun := run_copy_row (P := Try.prog) w 22 22 ty 5 g o dn dc ad sn sc cur.toArray 5 (bvs x) Try.underlying22 sz5 hg (by rw [bvs_length, hsx.2.1, hdn]; exact (Nat.min_eq_left (by omega)).symm) hcells (by rw [bvs_length]; simp; omega) (bvs_one _)
    have hst := setRow_heap w g cur.toArray (splice cur o (bvs x)).toArray 5 (0, 0) hg
    refine ⟨w.setRow g (splice cur o (bvs x)).toArray, ?_, mkOwn hst hB (putAt_len ho) hnc hcm (by rw [splice_len (by rw [bvs_length]; omega)]; exact hcl) (splice_take htk ho (by omega)), gb_setRow w g _⟩
    have e : splice cur o (bvs x) = cur.toArray.toList.take o ++ bvs x ++ cur.toArray.toList.drop (o + (bvs x).length) := by unfold splice; rw [List.append_assoc]
    rw [hrun, e, bvs_length]
/-- .. as an operation -/
theorem copy_put_op {o : Oper} {a : Act} {w : World} {K : Act → World → Prop} {Q : Exit → Act → World → Prop} (d s : Operand)
    (ho : o.op = .call { callee := .builtin .copy, args := #[d, s], argTypes := #[22, 22] })
    (B : Nat) (v : Value) (l x : List UInt8) (off : Nat) (da sa : Option Addr) (dn dc sn sc : Nat) (hd : a.eval d = .slice da dn dc) (hs : a.eval s = .slice sa sn sc) (hown : Own w B v l) (hsrc : RdW w (.slice sa sn sc) x) (hoff : off + x.length ≤ l.length) (hdn : dn = l.length - off)
    (hda : x ≠ [] → ∃ g cap, v = .slice (some ⟨g, 0, none⟩) l.length cap ∧ da = some ⟨g, off, none⟩)
    (hK : ∀ w', Own w' B v (putAt l off x) → w.grownBy w' v.ownBlock → K (a.put o.dst (goInt x.length)) w') : Oper.wp Try.prog o a w K Q := by
  obtain ⟨w', hr, h1, h2⟩ := run_copy_put w B v l x off hown da sa dn dc sn sc o.type hsrc hoff hdn hda
  unfold Oper.wp
  simp [execOp, ho, resolve, invoke, builtin, hd, hs, hr, Result.andThen]
  exact hK w' h1 h2
theorem copy_put_step {ops : Array Oper} {rest : List Oper} {o : Oper} {a : Act} {w : World} {Q : Exit → Act → World → Prop} (hgd : o.guard = none) (d s : Operand)
    (ho : o.op = .call { callee := .builtin .copy, args := #[d, s], argTypes := #[22, 22] })
    (B : Nat) (v : Value) (l x : List UInt8) (off : Nat) (da sa : Option Addr) (dn dc sn sc : Nat) (hd : a.eval d = .slice da dn dc) (hs : a.eval s = .slice sa sn sc) (hown : Own w B v l) (hsrc : RdW w (.slice sa sn sc) x) (hoff : off + x.length ≤ l.length) (hdn : dn = l.length - off)
    (hda : x ≠ [] → ∃ g cap, v = .slice (some ⟨g, 0, none⟩) l.length cap ∧ da = some ⟨g, off, none⟩)
    (h : ∀ w', Own w' B v (putAt l off x) → w.grownBy w' v.ownBlock → wpList Try.prog ops Q rest (a.put o.dst (goInt x.length)) w') : wpList Try.prog ops Q (o :: rest) a w :=
  wpList_plain hgd fun _ hK => copy_put_op d s ho B v l x off da sa dn dc sn sc hd hs hown hsrc hoff hdn hda (fun w' h1 h2 => hK _ _ (h w' h1 h2))
end Go.Proofs.Ytfdkmncjcehdkaa
