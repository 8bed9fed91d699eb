/-
  No cell of these rows narrows 'for every input' (looked for: loops, veiled, ifaces, maps, wideKeys, modest, calm, conditions, laid).
  DERIVED. THE GIVEN ROWS OF THIS SEAT. 6 by the template 'for every input the law returns true; each argument reads behind the call as it read before'; 0 by the template 'total and deterministic' (their statements: YtgkiknfpcbcnnabGreatTotals.lean).
  GIVEN WITH THE SEED: the statements are not yours to turn. If you find one false, say at which input.
  Laid BY PROGRAM, IN A SANDBOX (cutbox-rows.mjs): the forced cells as the released guide's own fill.sh prints them over the translation 3b57d2e77c8c01a9… (all of the seat's roots in one cut). By AI agents, Wed Nov 11 2026. No macro, syntax, notation, axiom, sorry.
-/
import Derived.Test.YtgkiknfpcbcnnabGreatChecked
import GoSem.Claim
import GoSem.ClaimJoined
import GoSem.ClaimMapViews
import Derived.JoinedTies
import Derived.KernelRfl
namespace Go.Proofs.YtgkiknfpcbcnnabGreat
/- THE CELL 'sum', in the pinned program and in every row, IS THE sha256 OF THE DUMP (.gsa) THAT YtgkiknfpcbcnnabGreatProg.lean LOADS. Nothing in Lean hashes anything: it is a label: what it is worth is what the hold of that sum in a sandbox is worth. -/
noncomputable def Tryz.pinned : Pinned := { name := "ytgkiknfpcbcnnabgreat", sum := "3b57d2e77c8c01a9713fe1d84277a3450a35cf07cab708daea6404f59081fe94", checked := Tryz.checked }
namespace Rows
def none {H : Type} : Left H := { results := [], args := [] }

/-- 'sluicekeep.Segment': WHATEVER THE INPUT: true; the input reads as it did. -/
def segmentSpec : ChangeSpec := { name := "segment", fn := fun _ => fun
  | [d1, d2] => { results := [.lit (.bool true)], args := [d1, d2] }
  | _ => none }
def segmentRow : OpenClaim := { program := "ytgkiknfpcbcnnabgreat", sum := "3b57d2e77c8c01a9713fe1d84277a3450a35cf07cab708daea6404f59081fe94", func := "sluice/sluicekeep.Segment", spec := "segment", recurses := true, apart := false }
def SegmentSaid : Prop := segmentRow.holds Tryz.pinned (OpenSpec.ofChange segmentSpec)

/-- ITS FALSE NEIGHBOUR: 'it returns false'. Refute it at one input. -/
def segmentWrong : ChangeSpec := { name := "segment", fn := fun _ => fun
  | [d1, d2] => { results := [.lit (.bool false)], args := [d1, d2] }
  | _ => none }
def SegmentWrongFalsely : Prop := segmentRow.holds Tryz.pinned (OpenSpec.ofChange segmentWrong)

/-- 'sluicekeep.Origin': WHATEVER THE INPUT: true; the input reads as it did. -/
def originSpec : ChangeSpec := { name := "origin", fn := fun _ => fun
  | [d1, d2] => { results := [.lit (.bool true)], args := [d1, d2] }
  | _ => none }
def originRow : OpenClaim := { program := "ytgkiknfpcbcnnabgreat", sum := "3b57d2e77c8c01a9713fe1d84277a3450a35cf07cab708daea6404f59081fe94", func := "sluice/sluicekeep.Origin", spec := "origin", recurses := true, apart := false }
def OriginSaid : Prop := originRow.holds Tryz.pinned (OpenSpec.ofChange originSpec)

/-- ITS FALSE NEIGHBOUR: 'it returns false'. Refute it at one input. -/
def originWrong : ChangeSpec := { name := "origin", fn := fun _ => fun
  | [d1, d2] => { results := [.lit (.bool false)], args := [d1, d2] }
  | _ => none }
def OriginWrongFalsely : Prop := originRow.holds Tryz.pinned (OpenSpec.ofChange originWrong)

/-- 'sluicekeep.Entries': WHATEVER THE INPUT: true; the input reads as it did. -/
def entriesSpec : ChangeSpec := { name := "entries", fn := fun _ => fun
  | [d1, d2] => { results := [.lit (.bool true)], args := [d1, d2] }
  | _ => none }
def entriesRow : OpenClaim := { program := "ytgkiknfpcbcnnabgreat", sum := "3b57d2e77c8c01a9713fe1d84277a3450a35cf07cab708daea6404f59081fe94", func := "sluice/sluicekeep.Entries", spec := "entries", recurses := true, apart := false }
def EntriesSaid : Prop := entriesRow.holds Tryz.pinned (OpenSpec.ofChange entriesSpec)

/-- ITS FALSE NEIGHBOUR: 'it returns false'. Refute it at one input. -/
def entriesWrong : ChangeSpec := { name := "entries", fn := fun _ => fun
  | [d1, d2] => { results := [.lit (.bool false)], args := [d1, d2] }
  | _ => none }
def EntriesWrongFalsely : Prop := entriesRow.holds Tryz.pinned (OpenSpec.ofChange entriesWrong)

/-- 'sluicekeep.First': WHATEVER THE INPUT: true; the input reads as it did. -/
def firstSpec : ChangeSpec := { name := "first", fn := fun _ => fun
  | [d1, d2, d3] => { results := [.lit (.bool true)], args := [d1, d2, d3] }
  | _ => none }
def firstRow : OpenClaim := { program := "ytgkiknfpcbcnnabgreat", sum := "3b57d2e77c8c01a9713fe1d84277a3450a35cf07cab708daea6404f59081fe94", func := "sluice/sluicekeep.First", spec := "first", recurses := true, apart := false }
def FirstSaid : Prop := firstRow.holds Tryz.pinned (OpenSpec.ofChange firstSpec)

/-- ITS FALSE NEIGHBOUR: 'it returns false'. Refute it at one input. -/
def firstWrong : ChangeSpec := { name := "first", fn := fun _ => fun
  | [d1, d2, d3] => { results := [.lit (.bool false)], args := [d1, d2, d3] }
  | _ => none }
def FirstWrongFalsely : Prop := firstRow.holds Tryz.pinned (OpenSpec.ofChange firstWrong)

/-- 'sluicekeep.Forget': WHATEVER THE INPUT: true; the input reads as it did. -/
def forgetSpec : ChangeSpec := { name := "forget", fn := fun _ => fun
  | [d1, d2] => { results := [.lit (.bool true)], args := [d1, d2] }
  | _ => none }
def forgetRow : OpenClaim := { program := "ytgkiknfpcbcnnabgreat", sum := "3b57d2e77c8c01a9713fe1d84277a3450a35cf07cab708daea6404f59081fe94", func := "sluice/sluicekeep.Forget", spec := "forget", recurses := true, apart := false }
def ForgetSaid : Prop := forgetRow.holds Tryz.pinned (OpenSpec.ofChange forgetSpec)

/-- ITS FALSE NEIGHBOUR: 'it returns false'. Refute it at one input. -/
def forgetWrong : ChangeSpec := { name := "forget", fn := fun _ => fun
  | [d1, d2] => { results := [.lit (.bool false)], args := [d1, d2] }
  | _ => none }
def ForgetWrongFalsely : Prop := forgetRow.holds Tryz.pinned (OpenSpec.ofChange forgetWrong)

/-- 'sluicekeep.Between': WHATEVER THE INPUT: true; the input reads as it did. -/
def betweenSpec : ChangeSpec := { name := "between", fn := fun _ => fun
  | [d1, d2, d3] => { results := [.lit (.bool true)], args := [d1, d2, d3] }
  | _ => none }
def betweenRow : OpenClaim := { program := "ytgkiknfpcbcnnabgreat", sum := "3b57d2e77c8c01a9713fe1d84277a3450a35cf07cab708daea6404f59081fe94", func := "sluice/sluicekeep.Between", spec := "between", recurses := true, apart := false }
def BetweenSaid : Prop := betweenRow.holds Tryz.pinned (OpenSpec.ofChange betweenSpec)

/-- ITS FALSE NEIGHBOUR: 'it returns false'. Refute it at one input. -/
def betweenWrong : ChangeSpec := { name := "between", fn := fun _ => fun
  | [d1, d2, d3] => { results := [.lit (.bool false)], args := [d1, d2, d3] }
  | _ => none }
def BetweenWrongFalsely : Prop := betweenRow.holds Tryz.pinned (OpenSpec.ofChange betweenWrong)

/- THE SECOND FORM. 'bulk': how many values and letters a reading holds, each counted each time it is reached (what is shared counts as often as it is met; a slice's spare places count too). A statement '..UptoSaid' is the law's where the arguments, and the package variables that the reading takes, are together of bulk at most 1048576: NARROWER than '..Said'. Prove '..Said' where nothing that the law and all that it calls make is longer than what came in: it says more and counts as full. Else prove '..UptoSaid'. A law counts once. -/
mutual
def uptoBulk {H : Type} : DataW H → Nat
  | .lit (.string bytes) => bytes.length + 1
  | .lit _ => 1
  | .nil => 1
  | .ptr d => uptoBulk d + 1
  | .slice elems spare => uptoBulkAll elems + uptoBulkAll spare + 1
  | .agg parts => uptoBulkAll parts + 1
  | .iface _ d => uptoBulk d + 1
  | .map entries => uptoBulkEntries entries + 1
  | .held _ => 1
def uptoBulkAll {H : Type} : List (DataW H) → Nat
  | [] => 0
  | d :: r => uptoBulk d + uptoBulkAll r
def uptoBulkEntries {H : Type} : List (Lit × DataW H) → Nat
  | [] => 0
  | x :: r => uptoBulkEntry x + uptoBulkEntries r
def uptoBulkEntry {H : Type} : Lit × DataW H → Nat
  | (.string bytes, d) => bytes.length + uptoBulk d + 1
  | (_, d) => uptoBulk d + 1
 end
def uptoSmall : (H : Type) → List (DataW H) → Bool := fun _ ds => decide (uptoBulkAll ds ≤ 1048576)
def OpenSpec.upto (s : _root_.Go.ChangeSpec) : _root_.Go.OpenSpec := { _root_.Go.OpenSpec.ofChange s with cond := some uptoSmall }

/-- 'sluicekeep.Segment', WHERE WHAT IT READS IS OF BULK AT MOST 1048576: true; the input reads as it did. -/
def segmentUptoRow : OpenClaim := { program := "ytgkiknfpcbcnnabgreat", sum := "3b57d2e77c8c01a9713fe1d84277a3450a35cf07cab708daea6404f59081fe94", func := "sluice/sluicekeep.Segment", spec := "segment", recurses := true, apart := false, narrowed := true }
def SegmentUptoSaid : Prop := segmentUptoRow.holds Tryz.pinned (OpenSpec.upto segmentSpec)

/-- 'sluicekeep.Origin', WHERE WHAT IT READS IS OF BULK AT MOST 1048576: true; the input reads as it did. -/
def originUptoRow : OpenClaim := { program := "ytgkiknfpcbcnnabgreat", sum := "3b57d2e77c8c01a9713fe1d84277a3450a35cf07cab708daea6404f59081fe94", func := "sluice/sluicekeep.Origin", spec := "origin", recurses := true, apart := false, narrowed := true }
def OriginUptoSaid : Prop := originUptoRow.holds Tryz.pinned (OpenSpec.upto originSpec)

/-- 'sluicekeep.Entries', WHERE WHAT IT READS IS OF BULK AT MOST 1048576: true; the input reads as it did. -/
def entriesUptoRow : OpenClaim := { program := "ytgkiknfpcbcnnabgreat", sum := "3b57d2e77c8c01a9713fe1d84277a3450a35cf07cab708daea6404f59081fe94", func := "sluice/sluicekeep.Entries", spec := "entries", recurses := true, apart := false, narrowed := true }
def EntriesUptoSaid : Prop := entriesUptoRow.holds Tryz.pinned (OpenSpec.upto entriesSpec)

/-- 'sluicekeep.First', WHERE WHAT IT READS IS OF BULK AT MOST 1048576: true; the input reads as it did. -/
def firstUptoRow : OpenClaim := { program := "ytgkiknfpcbcnnabgreat", sum := "3b57d2e77c8c01a9713fe1d84277a3450a35cf07cab708daea6404f59081fe94", func := "sluice/sluicekeep.First", spec := "first", recurses := true, apart := false, narrowed := true }
def FirstUptoSaid : Prop := firstUptoRow.holds Tryz.pinned (OpenSpec.upto firstSpec)

/-- 'sluicekeep.Forget', WHERE WHAT IT READS IS OF BULK AT MOST 1048576: true; the input reads as it did. -/
def forgetUptoRow : OpenClaim := { program := "ytgkiknfpcbcnnabgreat", sum := "3b57d2e77c8c01a9713fe1d84277a3450a35cf07cab708daea6404f59081fe94", func := "sluice/sluicekeep.Forget", spec := "forget", recurses := true, apart := false, narrowed := true }
def ForgetUptoSaid : Prop := forgetUptoRow.holds Tryz.pinned (OpenSpec.upto forgetSpec)

/-- 'sluicekeep.Between', WHERE WHAT IT READS IS OF BULK AT MOST 1048576: true; the input reads as it did. -/
def betweenUptoRow : OpenClaim := { program := "ytgkiknfpcbcnnabgreat", sum := "3b57d2e77c8c01a9713fe1d84277a3450a35cf07cab708daea6404f59081fe94", func := "sluice/sluicekeep.Between", spec := "between", recurses := true, apart := false, narrowed := true }
def BetweenUptoSaid : Prop := betweenUptoRow.holds Tryz.pinned (OpenSpec.upto betweenSpec)

end Rows
end Go.Proofs.YtgkiknfpcbcnnabGreat
