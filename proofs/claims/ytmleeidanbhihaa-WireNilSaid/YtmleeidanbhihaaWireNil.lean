/-
  ratoonlaw01.WireNil: the walk.
-/
import Derived.Test.YtmleeidanbhihaaNil2
import Derived.Test.YtmleeidanbhihaaSameS
namespace Go.Proofs.Ytmleeidanbhihaa
open Go.RowKit

theorem fail_nil' (w : World) : Calls Try.prog 50 #[.pointer none] w (NilPost (.tuple #[]) w) := (fail_nil w).mono fun _ _ ⟨h1, h2⟩ => ⟨h1, h2 ▸ gb_refl _ _⟩
theorem rint_nil' (w : World) : Calls Try.prog 40 #[.pointer none] w (NilPost (.int .i64 0) w) := (rint_nil w).mono fun _ _ ⟨h1, h2⟩ => ⟨h1, h2 ▸ gb_refl _ _⟩
theorem left_nil' (w : World) : Calls Try.prog 13 #[.pointer none] w (NilPost (.int .i64 0) w) := (left_nil w).mono fun _ _ ⟨h1, h2⟩ => ⟨h1, h2 ▸ gb_refl _ _⟩
theorem end_nil' (w : World) : Calls Try.prog 14 #[.pointer none] w (NilPost (.int .i64 7) w) := (end_nil w).mono fun _ _ ⟨h1, h2⟩ => ⟨h1, h2 ▸ gb_refl _ _⟩
theorem zmsg_same (w : World) : Calls Try.prog 44 #[zmsg, zmsg] w (NilPost (.bool true) w) := sameMsg_true 0 0 0 0 0 0 0 0 _ _ [] w (.inl ⟨rfl, rfl⟩) (.inl ⟨rfl, rfl⟩)
theorem zent_same (w : World) : Calls Try.prog 46 #[zent, zent] w (NilPost (.bool true) w) := sameEnt_true 0 0 0 0 0 0 0 _ _ [] w (.inl ⟨rfl, rfl⟩) (.inl ⟨rfl, rfl⟩)

set_option maxRecDepth 100000 in
set_option maxHeartbeats 2000000 in
theorem wireNil_any (k a b : Int) (w : World) : Calls Try.prog 9 #[.agg #[.int .i64 k, .int .i64 a, .int .i64 b]] w (NilPost (.bool true) w) := by
  go_enter Try.func9, Try.ntmps9
  go_wp2_with fail
  refine (awake_any _).mono ?_
  rintro e w0 ⟨rfl, h0⟩
  have g0 : w.grownBy w0 none := gb_same (gb_alloc _ _ _) h0
  have b0 := blk_kept (heap_alloc_new _ _) h0
  have p0 : w0.cell? ⟨w.heap.size, 1, none⟩ = some (.int .i64 a) := by simp [World.cell?, b0]
  have q0 : w0.cell? ⟨w.heap.size, 2, none⟩ = some (.int .i64 b) := by simp [World.cell?, b0]
  have B0 := Lib.hid b0
  clear h0 b0
  go_wp2_with fail
  refine (fail_nil' _).mono ?_
  rintro e w1 ⟨rfl, h1⟩
  have g1 : w.grownBy w1 none := gb_same g0 h1
  have b1 := blk_kept B0.out h1
  have p1 : w1.cell? ⟨w.heap.size, 1, none⟩ = some (.int .i64 a) := by simp [World.cell?, b1]
  have q1 : w1.cell? ⟨w.heap.size, 2, none⟩ = some (.int .i64 b) := by simp [World.cell?, b1]
  have B1 := Lib.hid b1
  clear h1 b1 g0 p0 q0 B0
  go_wp2_with fail
  refine (rint_nil' _).mono ?_
  rintro e w2 ⟨rfl, h2⟩
  have g2 : w.grownBy w2 none := gb_same g1 h2
  have b2 := blk_kept B1.out h2
  have p2 : w2.cell? ⟨w.heap.size, 1, none⟩ = some (.int .i64 a) := by simp [World.cell?, b2]
  have q2 : w2.cell? ⟨w.heap.size, 2, none⟩ = some (.int .i64 b) := by simp [World.cell?, b2]
  have B2 := Lib.hid b2
  clear h2 b2 g1 p1 q1 B1
  go_wp2_with fail
  refine (bounded_nil _ _ _).mono ?_
  rintro e w3 ⟨rfl, h3⟩
  have g3 : w.grownBy w3 none := gb_same g2 h3
  have b3 := blk_kept B2.out h3
  have p3 : w3.cell? ⟨w.heap.size, 1, none⟩ = some (.int .i64 a) := by simp [World.cell?, b3]
  have q3 : w3.cell? ⟨w.heap.size, 2, none⟩ = some (.int .i64 b) := by simp [World.cell?, b3]
  have B3 := Lib.hid b3
  clear h3 b3 g2 p2 q2 B2
  go_wp2_with fail
  refine (bool_nil _).mono ?_
  rintro e w4 ⟨rfl, h4⟩
  have g4 : w.grownBy w4 none := gb_same g3 h4
  have b4 := blk_kept B3.out h4
  have p4 : w4.cell? ⟨w.heap.size, 1, none⟩ = some (.int .i64 a) := by simp [World.cell?, b4]
  have q4 : w4.cell? ⟨w.heap.size, 2, none⟩ = some (.int .i64 b) := by simp [World.cell?, b4]
  have B4 := Lib.hid b4
  clear h4 b4 g3 p3 q3 B3
  go_wp2_with fail
  refine (string_nil _ _).mono ?_
  rintro e w5 ⟨rfl, h5⟩
  have g5 : w.grownBy w5 none := gb_same g4 h5
  have b5 := blk_kept B4.out h5
  have p5 : w5.cell? ⟨w.heap.size, 1, none⟩ = some (.int .i64 a) := by simp [World.cell?, b5]
  have q5 : w5.cell? ⟨w.heap.size, 2, none⟩ = some (.int .i64 b) := by simp [World.cell?, b5]
  have B5 := Lib.hid b5
  clear h5 b5 g4 p4 q4 B4
  go_wp2_with fail
  refine (bytes_nil _ _).mono ?_
  rintro e w6 ⟨rfl, h6⟩
  have g6 : w.grownBy w6 none := gb_same g5 h6
  have b6 := blk_kept B5.out h6
  have p6 : w6.cell? ⟨w.heap.size, 1, none⟩ = some (.int .i64 a) := by simp [World.cell?, b6]
  have q6 : w6.cell? ⟨w.heap.size, 2, none⟩ = some (.int .i64 b) := by simp [World.cell?, b6]
  have B6 := Lib.hid b6
  clear h6 b6 g5 p5 q5 B5
  go_wp2_with fail
  refine (ints_nil _ _).mono ?_
  rintro e w7 ⟨rfl, h7⟩
  have g7 : w.grownBy w7 none := gb_same g6 h7
  have b7 := blk_kept B6.out h7
  have p7 : w7.cell? ⟨w.heap.size, 1, none⟩ = some (.int .i64 a) := by simp [World.cell?, b7]
  have q7 : w7.cell? ⟨w.heap.size, 2, none⟩ = some (.int .i64 b) := by simp [World.cell?, b7]
  have B7 := Lib.hid b7
  clear h7 b7 g6 p6 q6 B6
  go_wp2_with fail
  refine (strings_nil _ _).mono ?_
  rintro e w8 ⟨rfl, h8⟩
  have g8 : w.grownBy w8 none := gb_same g7 h8
  have b8 := blk_kept B7.out h8
  have p8 : w8.cell? ⟨w.heap.size, 1, none⟩ = some (.int .i64 a) := by simp [World.cell?, b8]
  have q8 : w8.cell? ⟨w.heap.size, 2, none⟩ = some (.int .i64 b) := by simp [World.cell?, b8]
  have B8 := Lib.hid b8
  clear h8 b8 g7 p7 q7 B7
  go_wp2_with fail
  refine (msg_nil _).mono ?_
  rintro e w9 ⟨rfl, h9⟩
  have g9 : w.grownBy w9 none := gb_same g8 h9
  have b9 := blk_kept B8.out h9
  have p9 : w9.cell? ⟨w.heap.size, 1, none⟩ = some (.int .i64 a) := by simp [World.cell?, b9]
  have q9 : w9.cell? ⟨w.heap.size, 2, none⟩ = some (.int .i64 b) := by simp [World.cell?, b9]
  have B9 := Lib.hid b9
  clear h9 b9 g8 p8 q8 B8
  go_wp2_with fail
  refine (zmsg_same _).mono ?_
  rintro e w10 ⟨rfl, h10⟩
  have g10 : w.grownBy w10 none := gb_same g9 h10
  have b10 := blk_kept B9.out h10
  have p10 : w10.cell? ⟨w.heap.size, 1, none⟩ = some (.int .i64 a) := by simp [World.cell?, b10]
  have q10 : w10.cell? ⟨w.heap.size, 2, none⟩ = some (.int .i64 b) := by simp [World.cell?, b10]
  have B10 := Lib.hid b10
  clear h10 b10 g9 p9 q9 B9
  go_wp2_with fail
  refine (effects_nil _).mono ?_
  rintro e w11 ⟨rfl, h11⟩
  have g11 : w.grownBy w11 none := gb_same g10 h11
  have b11 := blk_kept B10.out h11
  have p11 : w11.cell? ⟨w.heap.size, 1, none⟩ = some (.int .i64 a) := by simp [World.cell?, b11]
  have q11 : w11.cell? ⟨w.heap.size, 2, none⟩ = some (.int .i64 b) := by simp [World.cell?, b11]
  have B11 := Lib.hid b11
  clear h11 b11 g10 p10 q10 B10
  go_wp2_with fail
  refine (ent_nil _).mono ?_
  rintro e w12 ⟨rfl, h12⟩
  have g12 : w.grownBy w12 none := gb_same g11 h12
  have b12 := blk_kept B11.out h12
  have p12 : w12.cell? ⟨w.heap.size, 1, none⟩ = some (.int .i64 a) := by simp [World.cell?, b12]
  have q12 : w12.cell? ⟨w.heap.size, 2, none⟩ = some (.int .i64 b) := by simp [World.cell?, b12]
  have B12 := Lib.hid b12
  clear h12 b12 g11 p11 q11 B11
  go_wp2_with fail
  refine (zent_same _).mono ?_
  rintro e w13 ⟨rfl, h13⟩
  have g13 : w.grownBy w13 none := gb_same g12 h13
  have b13 := blk_kept B12.out h13
  have p13 : w13.cell? ⟨w.heap.size, 1, none⟩ = some (.int .i64 a) := by simp [World.cell?, b13]
  have q13 : w13.cell? ⟨w.heap.size, 2, none⟩ = some (.int .i64 b) := by simp [World.cell?, b13]
  have B13 := Lib.hid b13
  clear h13 b13 g12 p12 q12 B12
  go_wp2_with fail
  refine (left_nil' _).mono ?_
  rintro e w14 ⟨rfl, h14⟩
  have g14 : w.grownBy w14 none := gb_same g13 h14
  have b14 := blk_kept B13.out h14
  have p14 : w14.cell? ⟨w.heap.size, 1, none⟩ = some (.int .i64 a) := by simp [World.cell?, b14]
  have q14 : w14.cell? ⟨w.heap.size, 2, none⟩ = some (.int .i64 b) := by simp [World.cell?, b14]
  have B14 := Lib.hid b14
  clear h14 b14 g13 p13 q13 B13
  go_wp2_with fail
  refine (end_nil' _).mono ?_
  rintro e w15 ⟨rfl, h15⟩
  have g15 : w.grownBy w15 none := gb_same g14 h15
  have b15 := blk_kept B14.out h15
  have p15 : w15.cell? ⟨w.heap.size, 1, none⟩ = some (.int .i64 a) := by simp [World.cell?, b15]
  have q15 : w15.cell? ⟨w.heap.size, 2, none⟩ = some (.int .i64 b) := by simp [World.cell?, b15]
  have B15 := Lib.hid b15
  clear h15 b15 g14 p14 q14 B14
  go_wp2
  go_ret
  exact ⟨rfl, g15⟩
end Go.Proofs.Ytmleeidanbhihaa
