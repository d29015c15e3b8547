/-
  No cell of these rows narrows 'for every input' (looked for: loops, veiled, ifaces, maps, wideKeys, modest, calm, conditions, laid).
  DERIVED. THE GIVEN ROWS OF THIS SEAT. 7 by the template 'for every input the law returns true; each argument reads behind the call as it read before'; 0 by the template 'total and deterministic' (their statements: YtjijiondinbmnaaTotals.lean).
  GIVEN WITH THE SEED: the statements are not yours to turn. If you find one false, say at which input.
  Laid BY PROGRAM, IN A SANDBOX (cutbox-rows.mjs): the forced cells as the released guide's own fill.sh prints them over the translation 04099ee0ce34b6a9… (all of the seat's roots in one cut). By AI agents, Wed Nov 11 2026. No macro, syntax, notation, axiom, sorry.
-/
import Derived.Test.YtjijiondinbmnaaChecked
import GoSem.Claim
import GoSem.ClaimJoined
import GoSem.ClaimMapViews
import Derived.JoinedTies
import Derived.KernelRfl
namespace Go.Proofs.Ytjijiondinbmnaa
/- THE CELL 'sum', in the pinned program and in every row, IS THE sha256 OF THE DUMP (.gsa) THAT YtjijiondinbmnaaProg.lean LOADS. Nothing in Lean hashes anything: it is a label: what it is worth is what the hold of that sum in a sandbox is worth. -/
noncomputable def Try.pinned : Pinned := { name := "ytjijiondinbmnaa", sum := "04099ee0ce34b6a9c87b4433d99187797a4c12415e952e3088dc129e5aa7d264", checked := Try.checked }
namespace Rows
def none {H : Type} : Left H := { results := [], args := [] }

/-- 'ratoonlaw05.SlotsScript': WHATEVER THE INPUT: true; the input reads as it did. -/
def slotsScriptSpec : ChangeSpec := { name := "slotsScript", fn := fun _ => fun
  | [d1, d2, d3] => { results := [.lit (.bool true)], args := [d1, d2, d3] }
  | _ => none }
def slotsScriptRow : OpenClaim := { program := "ytjijiondinbmnaa", sum := "04099ee0ce34b6a9c87b4433d99187797a4c12415e952e3088dc129e5aa7d264", func := "ratoon/ratoonlaw05.SlotsScript", spec := "slotsScript", unfollowed := true, recurses := true, apart := false }
def SlotsScriptSaid : Prop := slotsScriptRow.holds Try.pinned (OpenSpec.ofChange slotsScriptSpec)

/-- ITS FALSE NEIGHBOUR: 'it returns false'. Refute it at one input. -/
def slotsScriptWrong : ChangeSpec := { name := "slotsScript", fn := fun _ => fun
  | [d1, d2, d3] => { results := [.lit (.bool false)], args := [d1, d2, d3] }
  | _ => none }
def SlotsScriptWrongFalsely : Prop := slotsScriptRow.holds Try.pinned (OpenSpec.ofChange slotsScriptWrong)

/-- 'ratoonlaw05.SlotsOnce': WHATEVER THE INPUT: true; the input reads as it did. -/
def slotsOnceSpec : ChangeSpec := { name := "slotsOnce", fn := fun _ => fun
  | [d1, d2] => { results := [.lit (.bool true)], args := [d1, d2] }
  | _ => none }
def slotsOnceRow : OpenClaim := { program := "ytjijiondinbmnaa", sum := "04099ee0ce34b6a9c87b4433d99187797a4c12415e952e3088dc129e5aa7d264", func := "ratoon/ratoonlaw05.SlotsOnce", spec := "slotsOnce", unfollowed := true, recurses := true, apart := false }
def SlotsOnceSaid : Prop := slotsOnceRow.holds Try.pinned (OpenSpec.ofChange slotsOnceSpec)

/-- ITS FALSE NEIGHBOUR: 'it returns false'. Refute it at one input. -/
def slotsOnceWrong : ChangeSpec := { name := "slotsOnce", fn := fun _ => fun
  | [d1, d2] => { results := [.lit (.bool false)], args := [d1, d2] }
  | _ => none }
def SlotsOnceWrongFalsely : Prop := slotsOnceRow.holds Try.pinned (OpenSpec.ofChange slotsOnceWrong)

/-- 'ratoonlaw05.SlotsDecode': WHATEVER THE INPUT: true; the input reads as it did. -/
def slotsDecodeSpec : ChangeSpec := { name := "slotsDecode", fn := fun _ => fun
  | [d] => { results := [.lit (.bool true)], args := [d] }
  | _ => none }
def slotsDecodeRow : OpenClaim := { program := "ytjijiondinbmnaa", sum := "04099ee0ce34b6a9c87b4433d99187797a4c12415e952e3088dc129e5aa7d264", func := "ratoon/ratoonlaw05.SlotsDecode", spec := "slotsDecode", unfollowed := true, recurses := true, apart := false }
def SlotsDecodeSaid : Prop := slotsDecodeRow.holds Try.pinned (OpenSpec.ofChange slotsDecodeSpec)

/-- ITS FALSE NEIGHBOUR: 'it returns false'. Refute it at one input. -/
def slotsDecodeWrong : ChangeSpec := { name := "slotsDecode", fn := fun _ => fun
  | [d] => { results := [.lit (.bool false)], args := [d] }
  | _ => none }
def SlotsDecodeWrongFalsely : Prop := slotsDecodeRow.holds Try.pinned (OpenSpec.ofChange slotsDecodeWrong)

/-- 'ratoonlaw05.SlotsRoom': WHATEVER THE INPUT: true; the input reads as it did. -/
def slotsRoomSpec : ChangeSpec := { name := "slotsRoom", fn := fun _ => fun
  | [d1, d2] => { results := [.lit (.bool true)], args := [d1, d2] }
  | _ => none }
def slotsRoomRow : OpenClaim := { program := "ytjijiondinbmnaa", sum := "04099ee0ce34b6a9c87b4433d99187797a4c12415e952e3088dc129e5aa7d264", func := "ratoon/ratoonlaw05.SlotsRoom", spec := "slotsRoom", unfollowed := true, recurses := true, apart := false }
def SlotsRoomSaid : Prop := slotsRoomRow.holds Try.pinned (OpenSpec.ofChange slotsRoomSpec)

/-- ITS FALSE NEIGHBOUR: 'it returns false'. Refute it at one input. -/
def slotsRoomWrong : ChangeSpec := { name := "slotsRoom", fn := fun _ => fun
  | [d1, d2] => { results := [.lit (.bool false)], args := [d1, d2] }
  | _ => none }
def SlotsRoomWrongFalsely : Prop := slotsRoomRow.holds Try.pinned (OpenSpec.ofChange slotsRoomWrong)

/-- 'ratoonlaw05.SlotsNil': WHATEVER THE INPUT: true; the input reads as it did. -/
def slotsNilSpec : ChangeSpec := { name := "slotsNil", fn := fun _ => fun
  | [d1, d2] => { results := [.lit (.bool true)], args := [d1, d2] }
  | _ => none }
def slotsNilRow : OpenClaim := { program := "ytjijiondinbmnaa", sum := "04099ee0ce34b6a9c87b4433d99187797a4c12415e952e3088dc129e5aa7d264", func := "ratoon/ratoonlaw05.SlotsNil", spec := "slotsNil", unfollowed := true, recurses := true, apart := false }
def SlotsNilSaid : Prop := slotsNilRow.holds Try.pinned (OpenSpec.ofChange slotsNilSpec)

/-- ITS FALSE NEIGHBOUR: 'it returns false'. Refute it at one input. -/
def slotsNilWrong : ChangeSpec := { name := "slotsNil", fn := fun _ => fun
  | [d1, d2] => { results := [.lit (.bool false)], args := [d1, d2] }
  | _ => none }
def SlotsNilWrongFalsely : Prop := slotsNilRow.holds Try.pinned (OpenSpec.ofChange slotsNilWrong)

/-- 'ratoonlaw05.SlotsMap': WHATEVER THE INPUT: true; the input reads as it did. -/
def slotsMapSpec : ChangeSpec := { name := "slotsMap", fn := fun _ => fun
  | [d1, d2] => { results := [.lit (.bool true)], args := [d1, d2] }
  | _ => none }
def slotsMapRow : OpenClaim := { program := "ytjijiondinbmnaa", sum := "04099ee0ce34b6a9c87b4433d99187797a4c12415e952e3088dc129e5aa7d264", func := "ratoon/ratoonlaw05.SlotsMap", spec := "slotsMap", unfollowed := true, recurses := true, apart := false }
def SlotsMapSaid : Prop := slotsMapRow.holds Try.pinned (OpenSpec.ofChange slotsMapSpec)

/-- ITS FALSE NEIGHBOUR: 'it returns false'. Refute it at one input. -/
def slotsMapWrong : ChangeSpec := { name := "slotsMap", fn := fun _ => fun
  | [d1, d2] => { results := [.lit (.bool false)], args := [d1, d2] }
  | _ => none }
def SlotsMapWrongFalsely : Prop := slotsMapRow.holds Try.pinned (OpenSpec.ofChange slotsMapWrong)

/-- 'ratoonlaw05.SlotsAgain': WHATEVER THE INPUT: true; the input reads as it did. -/
def slotsAgainSpec : ChangeSpec := { name := "slotsAgain", fn := fun _ => fun
  | [d1, d2, d3] => { results := [.lit (.bool true)], args := [d1, d2, d3] }
  | _ => none }
def slotsAgainRow : OpenClaim := { program := "ytjijiondinbmnaa", sum := "04099ee0ce34b6a9c87b4433d99187797a4c12415e952e3088dc129e5aa7d264", func := "ratoon/ratoonlaw05.SlotsAgain", spec := "slotsAgain", unfollowed := true, recurses := true, apart := false }
def SlotsAgainSaid : Prop := slotsAgainRow.holds Try.pinned (OpenSpec.ofChange slotsAgainSpec)

/-- ITS FALSE NEIGHBOUR: 'it returns false'. Refute it at one input. -/
def slotsAgainWrong : ChangeSpec := { name := "slotsAgain", fn := fun _ => fun
  | [d1, d2, d3] => { results := [.lit (.bool false)], args := [d1, d2, d3] }
  | _ => none }
def SlotsAgainWrongFalsely : Prop := slotsAgainRow.holds Try.pinned (OpenSpec.ofChange slotsAgainWrong)

/- THE SECOND FORM. 'bulk': how many values and letters a reading holds, each counted each time it is reached (what is shared counts as often as it is met; a slice's spare places count too). A statement '..UptoSaid' is the law's where the arguments, and the package variables that the reading takes, are together of bulk at most 1048576: NARROWER than '..Said'. Prove '..Said' where nothing that the law and all that it calls make is longer than what came in: it says more and counts as full. Else prove '..UptoSaid'. A law counts once. -/
mutual
def uptoBulk {H : Type} : DataW H → Nat
  | .lit (.string bytes) => bytes.length + 1
  | .lit _ => 1
  | .nil => 1
  | .ptr d => uptoBulk d + 1
  | .slice elems spare => uptoBulkAll elems + uptoBulkAll spare + 1
  | .agg parts => uptoBulkAll parts + 1
  | .iface _ d => uptoBulk d + 1
  | .map entries => uptoBulkEntries entries + 1
  | .held _ => 1
def uptoBulkAll {H : Type} : List (DataW H) → Nat
  | [] => 0
  | d :: r => uptoBulk d + uptoBulkAll r
def uptoBulkEntries {H : Type} : List (Lit × DataW H) → Nat
  | [] => 0
  | x :: r => uptoBulkEntry x + uptoBulkEntries r
def uptoBulkEntry {H : Type} : Lit × DataW H → Nat
  | (.string bytes, d) => bytes.length + uptoBulk d + 1
  | (_, d) => uptoBulk d + 1
 end
def uptoSmall : (H : Type) → List (DataW H) → Bool := fun _ ds => decide (uptoBulkAll ds ≤ 1048576)
def OpenSpec.upto (s : _root_.Go.ChangeSpec) : _root_.Go.OpenSpec := { _root_.Go.OpenSpec.ofChange s with cond := some uptoSmall }

/-- 'ratoonlaw05.SlotsScript', WHERE WHAT IT READS IS OF BULK AT MOST 1048576: true; the input reads as it did. -/
def slotsScriptUptoRow : OpenClaim := { program := "ytjijiondinbmnaa", sum := "04099ee0ce34b6a9c87b4433d99187797a4c12415e952e3088dc129e5aa7d264", func := "ratoon/ratoonlaw05.SlotsScript", spec := "slotsScript", unfollowed := true, recurses := true, apart := false, narrowed := true }
def SlotsScriptUptoSaid : Prop := slotsScriptUptoRow.holds Try.pinned (OpenSpec.upto slotsScriptSpec)

/-- 'ratoonlaw05.SlotsOnce', WHERE WHAT IT READS IS OF BULK AT MOST 1048576: true; the input reads as it did. -/
def slotsOnceUptoRow : OpenClaim := { program := "ytjijiondinbmnaa", sum := "04099ee0ce34b6a9c87b4433d99187797a4c12415e952e3088dc129e5aa7d264", func := "ratoon/ratoonlaw05.SlotsOnce", spec := "slotsOnce", unfollowed := true, recurses := true, apart := false, narrowed := true }
def SlotsOnceUptoSaid : Prop := slotsOnceUptoRow.holds Try.pinned (OpenSpec.upto slotsOnceSpec)

/-- 'ratoonlaw05.SlotsDecode', WHERE WHAT IT READS IS OF BULK AT MOST 1048576: true; the input reads as it did. -/
def slotsDecodeUptoRow : OpenClaim := { program := "ytjijiondinbmnaa", sum := "04099ee0ce34b6a9c87b4433d99187797a4c12415e952e3088dc129e5aa7d264", func := "ratoon/ratoonlaw05.SlotsDecode", spec := "slotsDecode", unfollowed := true, recurses := true, apart := false, narrowed := true }
def SlotsDecodeUptoSaid : Prop := slotsDecodeUptoRow.holds Try.pinned (OpenSpec.upto slotsDecodeSpec)

/-- 'ratoonlaw05.SlotsRoom', WHERE WHAT IT READS IS OF BULK AT MOST 1048576: true; the input reads as it did. -/
def slotsRoomUptoRow : OpenClaim := { program := "ytjijiondinbmnaa", sum := "04099ee0ce34b6a9c87b4433d99187797a4c12415e952e3088dc129e5aa7d264", func := "ratoon/ratoonlaw05.SlotsRoom", spec := "slotsRoom", unfollowed := true, recurses := true, apart := false, narrowed := true }
def SlotsRoomUptoSaid : Prop := slotsRoomUptoRow.holds Try.pinned (OpenSpec.upto slotsRoomSpec)

/-- 'ratoonlaw05.SlotsNil', WHERE WHAT IT READS IS OF BULK AT MOST 1048576: true; the input reads as it did. -/
def slotsNilUptoRow : OpenClaim := { program := "ytjijiondinbmnaa", sum := "04099ee0ce34b6a9c87b4433d99187797a4c12415e952e3088dc129e5aa7d264", func := "ratoon/ratoonlaw05.SlotsNil", spec := "slotsNil", unfollowed := true, recurses := true, apart := false, narrowed := true }
def SlotsNilUptoSaid : Prop := slotsNilUptoRow.holds Try.pinned (OpenSpec.upto slotsNilSpec)

/-- 'ratoonlaw05.SlotsMap', WHERE WHAT IT READS IS OF BULK AT MOST 1048576: true; the input reads as it did. -/
def slotsMapUptoRow : OpenClaim := { program := "ytjijiondinbmnaa", sum := "04099ee0ce34b6a9c87b4433d99187797a4c12415e952e3088dc129e5aa7d264", func := "ratoon/ratoonlaw05.SlotsMap", spec := "slotsMap", unfollowed := true, recurses := true, apart := false, narrowed := true }
def SlotsMapUptoSaid : Prop := slotsMapUptoRow.holds Try.pinned (OpenSpec.upto slotsMapSpec)

/-- 'ratoonlaw05.SlotsAgain', WHERE WHAT IT READS IS OF BULK AT MOST 1048576: true; the input reads as it did. -/
def slotsAgainUptoRow : OpenClaim := { program := "ytjijiondinbmnaa", sum := "04099ee0ce34b6a9c87b4433d99187797a4c12415e952e3088dc129e5aa7d264", func := "ratoon/ratoonlaw05.SlotsAgain", spec := "slotsAgain", unfollowed := true, recurses := true, apart := false, narrowed := true }
def SlotsAgainUptoSaid : Prop := slotsAgainUptoRow.holds Try.pinned (OpenSpec.upto slotsAgainSpec)

end Rows
end Go.Proofs.Ytjijiondinbmnaa
