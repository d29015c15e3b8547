/-
  ref.Same and wire.String: the walks.
-/
import Derived.Test.YtgfopepopcacmaaInt
namespace Go.Proofs.Ytgfopepopcacmaa
open Go.RowKit

def str (l : List UInt8) : ByteArray := ⟨l.toArray⟩
theorem str_toList (l : List UInt8) : (str l).data.toList = l := rfl
theorem str_size (l : List UInt8) : (str l).size = l.length := by simp [str, ByteArray.size]

theorem str_nums (l : List UInt8) : strOfNums (l.map fun x => (x.toNat : Int)) = str l := by
  unfold strOfNums str
  congr 2
  rw [List.map_map]
  conv => rhs; rw [← List.map_id l]
  apply List.map_congr_left
  intro x _
  simp

/-- string(b) -/
theorem run_toString (w : World) (v : Value) (l : List UInt8) (h : Rd w v l) :
    (convert 22 9 v).run Try.prog w = .ok (.string (str l)) w := by
  rcases h with ⟨rfl, rfl⟩ | ⟨b, off, cap, rfl, h1, h2, h3⟩
  · exact run_convert_bytes_nil w _ _ Try.underlying22 Try.underlying5 0 0 _ Try.underlying9
  · have := run_convert_bytes_arg (P := Try.prog) w 22 5 Try.underlying22 Try.underlying5 b off l.length cap (l.map fun x => (x.toNat : Int)) (by simp) (fun i hi => by
      rw [h3 i l[i] (by simp [hi])]
      simp [bv, List.getD, hi]) 9 Try.underlying9
    rw [this, str_nums]

set_option maxRecDepth 100000 in
set_option maxHeartbeats 400000 in
theorem same_true (a b : Value) (w : World) (l : List UInt8) (ha : Rd w a l) (hb : Rd w b l) :
    Calls Try.prog 32 #[a, b] w fun e w' => e = .returned (.bool true) ∧ w = w' := by
  have r1 := run_toString w a l ha
  have r2 := run_toString w b l hb
  clear ha hb
  go_enter Try.func32, Try.ntmps32
  go_wp2
  go_ret
  exact ⟨rfl, rfl⟩
end Go.Proofs.Ytgfopepopcacmaa
