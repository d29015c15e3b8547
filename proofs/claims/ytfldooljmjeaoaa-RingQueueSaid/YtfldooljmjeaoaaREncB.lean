/-
  Encode of a byte queue: the walk.
-/
import Derived.Test.YtfldooljmjeaoaaVE
namespace Go.Proofs.Ytfldooljmjeaoaa
open Go.RowKit Go.Shelf

def EncP (bs : List UInt8) (w : World) (e : Ending) (w' : World) : Prop := ∃ v, e = .returned v ∧ Own w' w.heap.size v bs ∧ w.grownBy w' none
def encQ (n : Nat) (l : List UInt8) : List UInt8 := enc (n : Int) ++ encS l
end Go.Proofs.Ytfldooljmjeaoaa
