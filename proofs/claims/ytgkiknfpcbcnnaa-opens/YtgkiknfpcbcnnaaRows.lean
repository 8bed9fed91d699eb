/-
  No cell of these rows narrows 'for every input' (looked for: loops, veiled, ifaces, maps, wideKeys, modest, calm, conditions, laid).
  DERIVED. THE GIVEN ROWS OF THIS SEAT. 10 by the template 'for every input the law returns true; each argument reads behind the call as it read before'; 0 by the template 'total and deterministic' (their statements: YtgkiknfpcbcnnaaTotals.lean).
  GIVEN WITH THE SEED: the statements are not yours to turn. If you find one false, say at which input.
  Laid BY PROGRAM, IN A SANDBOX (cutbox-rows.mjs): the forced cells as the released guide's own fill.sh prints them over the translation 5bcbb7ca6bdd3cea… (all of the seat's roots in one cut). By AI agents, Wed Nov 11 2026. No macro, syntax, notation, axiom, sorry.
-/
import Derived.Test.YtgkiknfpcbcnnaaChecked
import GoSem.Claim
import GoSem.ClaimJoined
import GoSem.ClaimMapViews
import Derived.JoinedTies
import Derived.KernelRfl
namespace Go.Proofs.Ytgkiknfpcbcnnaa
/- THE CELL 'sum', in the pinned program and in every row, IS THE sha256 OF THE DUMP (.gsa) THAT YtgkiknfpcbcnnaaProg.lean LOADS. Nothing in Lean hashes anything: it is a label: what it is worth is what the hold of that sum in a sandbox is worth. -/
noncomputable def Try.pinned : Pinned := { name := "ytgkiknfpcbcnnaa", sum := "5bcbb7ca6bdd3cea68606288075b3221ce262f917f1dc36f385fc6e40c535b48", checked := Try.checked }
namespace Rows
def none {H : Type} : Left H := { results := [], args := [] }

/-- 'sluicelaw.Decodes': WHATEVER THE INPUT: true; the input reads as it did. -/
def decodesSpec : ChangeSpec := { name := "decodes", fn := fun _ => fun
  | [d] => { results := [.lit (.bool true)], args := [d] }
  | _ => none }
def decodesRow : OpenClaim := { program := "ytgkiknfpcbcnnaa", sum := "5bcbb7ca6bdd3cea68606288075b3221ce262f917f1dc36f385fc6e40c535b48", func := "sluice/sluicelaw.Decodes", spec := "decodes", apart := false }
def DecodesSaid : Prop := decodesRow.holds Try.pinned (OpenSpec.ofChange decodesSpec)

/-- ITS FALSE NEIGHBOUR: 'it returns false'. Refute it at one input. -/
def decodesWrong : ChangeSpec := { name := "decodes", fn := fun _ => fun
  | [d] => { results := [.lit (.bool false)], args := [d] }
  | _ => none }
def DecodesWrongFalsely : Prop := decodesRow.holds Try.pinned (OpenSpec.ofChange decodesWrong)

/-- 'sluicelaw.Encodes': WHATEVER THE INPUT: true; the input reads as it did. -/
def encodesSpec : ChangeSpec := { name := "encodes", fn := fun _ => fun
  | [d] => { results := [.lit (.bool true)], args := [d] }
  | _ => none }
def encodesRow : OpenClaim := { program := "ytgkiknfpcbcnnaa", sum := "5bcbb7ca6bdd3cea68606288075b3221ce262f917f1dc36f385fc6e40c535b48", func := "sluice/sluicelaw.Encodes", spec := "encodes", apart := false }
def EncodesSaid : Prop := encodesRow.holds Try.pinned (OpenSpec.ofChange encodesSpec)

/-- ITS FALSE NEIGHBOUR: 'it returns false'. Refute it at one input. -/
def encodesWrong : ChangeSpec := { name := "encodes", fn := fun _ => fun
  | [d] => { results := [.lit (.bool false)], args := [d] }
  | _ => none }
def EncodesWrongFalsely : Prop := encodesRow.holds Try.pinned (OpenSpec.ofChange encodesWrong)

/-- 'sluicelaw.Matches': WHATEVER THE INPUT: true; the input reads as it did. -/
def matchesSpec : ChangeSpec := { name := "matches", fn := fun _ => fun
  | [d1, d2] => { results := [.lit (.bool true)], args := [d1, d2] }
  | _ => none }
def matchesRow : OpenClaim := { program := "ytgkiknfpcbcnnaa", sum := "5bcbb7ca6bdd3cea68606288075b3221ce262f917f1dc36f385fc6e40c535b48", func := "sluice/sluicelaw.Matches", spec := "matches", apart := false }
def MatchesSaid : Prop := matchesRow.holds Try.pinned (OpenSpec.ofChange matchesSpec)

/-- ITS FALSE NEIGHBOUR: 'it returns false'. Refute it at one input. -/
def matchesWrong : ChangeSpec := { name := "matches", fn := fun _ => fun
  | [d1, d2] => { results := [.lit (.bool false)], args := [d1, d2] }
  | _ => none }
def MatchesWrongFalsely : Prop := matchesRow.holds Try.pinned (OpenSpec.ofChange matchesWrong)

/-- 'sluicelaw.Compares': WHATEVER THE INPUT: true; the input reads as it did. -/
def comparesSpec : ChangeSpec := { name := "compares", fn := fun _ => fun
  | [d1, d2] => { results := [.lit (.bool true)], args := [d1, d2] }
  | _ => none }
def comparesRow : OpenClaim := { program := "ytgkiknfpcbcnnaa", sum := "5bcbb7ca6bdd3cea68606288075b3221ce262f917f1dc36f385fc6e40c535b48", func := "sluice/sluicelaw.Compares", spec := "compares", apart := false }
def ComparesSaid : Prop := comparesRow.holds Try.pinned (OpenSpec.ofChange comparesSpec)

/-- ITS FALSE NEIGHBOUR: 'it returns false'. Refute it at one input. -/
def comparesWrong : ChangeSpec := { name := "compares", fn := fun _ => fun
  | [d1, d2] => { results := [.lit (.bool false)], args := [d1, d2] }
  | _ => none }
def ComparesWrongFalsely : Prop := comparesRow.holds Try.pinned (OpenSpec.ofChange comparesWrong)

/-- 'sluicelaw.Covers': WHATEVER THE INPUT: true; the input reads as it did. -/
def coversSpec : ChangeSpec := { name := "covers", fn := fun _ => fun
  | [d] => { results := [.lit (.bool true)], args := [d] }
  | _ => none }
def coversRow : OpenClaim := { program := "ytgkiknfpcbcnnaa", sum := "5bcbb7ca6bdd3cea68606288075b3221ce262f917f1dc36f385fc6e40c535b48", func := "sluice/sluicelaw.Covers", spec := "covers", recurses := true, apart := false }
def CoversSaid : Prop := coversRow.holds Try.pinned (OpenSpec.ofChange coversSpec)

/-- ITS FALSE NEIGHBOUR: 'it returns false'. Refute it at one input. -/
def coversWrong : ChangeSpec := { name := "covers", fn := fun _ => fun
  | [d] => { results := [.lit (.bool false)], args := [d] }
  | _ => none }
def CoversWrongFalsely : Prop := coversRow.holds Try.pinned (OpenSpec.ofChange coversWrong)

/-- 'sluicelaw.Opens': WHATEVER THE INPUT: true; the input reads as it did. -/
def opensSpec : ChangeSpec := { name := "opens", fn := fun _ => fun
  | [d] => { results := [.lit (.bool true)], args := [d] }
  | _ => none }
def opensRow : OpenClaim := { program := "ytgkiknfpcbcnnaa", sum := "5bcbb7ca6bdd3cea68606288075b3221ce262f917f1dc36f385fc6e40c535b48", func := "sluice/sluicelaw.Opens", spec := "opens", recurses := true, apart := false }
def OpensSaid : Prop := opensRow.holds Try.pinned (OpenSpec.ofChange opensSpec)

/-- ITS FALSE NEIGHBOUR: 'it returns false'. Refute it at one input. -/
def opensWrong : ChangeSpec := { name := "opens", fn := fun _ => fun
  | [d] => { results := [.lit (.bool false)], args := [d] }
  | _ => none }
def OpensWrongFalsely : Prop := opensRow.holds Try.pinned (OpenSpec.ofChange opensWrong)

/-- 'sluicekeep.Known': WHATEVER THE INPUT: true; the input reads as it did. -/
def knownSpec : ChangeSpec := { name := "known", fn := fun _ => fun
  | [d] => { results := [.lit (.bool true)], args := [d] }
  | _ => none }
def knownRow : OpenClaim := { program := "ytgkiknfpcbcnnaa", sum := "5bcbb7ca6bdd3cea68606288075b3221ce262f917f1dc36f385fc6e40c535b48", func := "sluice/sluicekeep.Known", spec := "known", recurses := true, apart := false }
def KnownSaid : Prop := knownRow.holds Try.pinned (OpenSpec.ofChange knownSpec)

/-- ITS FALSE NEIGHBOUR: 'it returns false'. Refute it at one input. -/
def knownWrong : ChangeSpec := { name := "known", fn := fun _ => fun
  | [d] => { results := [.lit (.bool false)], args := [d] }
  | _ => none }
def KnownWrongFalsely : Prop := knownRow.holds Try.pinned (OpenSpec.ofChange knownWrong)

/-- 'sluicekeep.Back': WHATEVER THE INPUT: true; the input reads as it did. -/
def backSpec : ChangeSpec := { name := "back", fn := fun _ => fun
  | [d] => { results := [.lit (.bool true)], args := [d] }
  | _ => none }
def backRow : OpenClaim := { program := "ytgkiknfpcbcnnaa", sum := "5bcbb7ca6bdd3cea68606288075b3221ce262f917f1dc36f385fc6e40c535b48", func := "sluice/sluicekeep.Back", spec := "back", apart := false }
def BackSaid : Prop := backRow.holds Try.pinned (OpenSpec.ofChange backSpec)

/-- ITS FALSE NEIGHBOUR: 'it returns false'. Refute it at one input. -/
def backWrong : ChangeSpec := { name := "back", fn := fun _ => fun
  | [d] => { results := [.lit (.bool false)], args := [d] }
  | _ => none }
def BackWrongFalsely : Prop := backRow.holds Try.pinned (OpenSpec.ofChange backWrong)

/-- 'sluicekeep.Order': WHATEVER THE INPUT: true; the input reads as it did. -/
def orderSpec : ChangeSpec := { name := "order", fn := fun _ => fun
  | [d1, d2, d3] => { results := [.lit (.bool true)], args := [d1, d2, d3] }
  | _ => none }
def orderRow : OpenClaim := { program := "ytgkiknfpcbcnnaa", sum := "5bcbb7ca6bdd3cea68606288075b3221ce262f917f1dc36f385fc6e40c535b48", func := "sluice/sluicekeep.Order", spec := "order", apart := false }
def OrderSaid : Prop := orderRow.holds Try.pinned (OpenSpec.ofChange orderSpec)

/-- ITS FALSE NEIGHBOUR: 'it returns false'. Refute it at one input. -/
def orderWrong : ChangeSpec := { name := "order", fn := fun _ => fun
  | [d1, d2, d3] => { results := [.lit (.bool false)], args := [d1, d2, d3] }
  | _ => none }
def OrderWrongFalsely : Prop := orderRow.holds Try.pinned (OpenSpec.ofChange orderWrong)

/-- 'sluicekeep.Once': WHATEVER THE INPUT: true; the input reads as it did. -/
def onceSpec : ChangeSpec := { name := "once", fn := fun _ => fun
  | [d1, d2] => { results := [.lit (.bool true)], args := [d1, d2] }
  | _ => none }
def onceRow : OpenClaim := { program := "ytgkiknfpcbcnnaa", sum := "5bcbb7ca6bdd3cea68606288075b3221ce262f917f1dc36f385fc6e40c535b48", func := "sluice/sluicekeep.Once", spec := "once", recurses := true, apart := false }
def OnceSaid : Prop := onceRow.holds Try.pinned (OpenSpec.ofChange onceSpec)

/-- ITS FALSE NEIGHBOUR: 'it returns false'. Refute it at one input. -/
def onceWrong : ChangeSpec := { name := "once", fn := fun _ => fun
  | [d1, d2] => { results := [.lit (.bool false)], args := [d1, d2] }
  | _ => none }
def OnceWrongFalsely : Prop := onceRow.holds Try.pinned (OpenSpec.ofChange onceWrong)

/- THE SECOND FORM. 'bulk': how many values and letters a reading holds, each counted each time it is reached (what is shared counts as often as it is met; a slice's spare places count too). A statement '..UptoSaid' is the law's where the arguments, and the package variables that the reading takes, are together of bulk at most 1048576: NARROWER than '..Said'. Prove '..Said' where nothing that the law and all that it calls make is longer than what came in: it says more and counts as full. Else prove '..UptoSaid'. A law counts once. -/
mutual
def uptoBulk {H : Type} : DataW H → Nat
  | .lit (.string bytes) => bytes.length + 1
  | .lit _ => 1
  | .nil => 1
  | .ptr d => uptoBulk d + 1
  | .slice elems spare => uptoBulkAll elems + uptoBulkAll spare + 1
  | .agg parts => uptoBulkAll parts + 1
  | .iface _ d => uptoBulk d + 1
  | .map entries => uptoBulkEntries entries + 1
  | .held _ => 1
def uptoBulkAll {H : Type} : List (DataW H) → Nat
  | [] => 0
  | d :: r => uptoBulk d + uptoBulkAll r
def uptoBulkEntries {H : Type} : List (Lit × DataW H) → Nat
  | [] => 0
  | x :: r => uptoBulkEntry x + uptoBulkEntries r
def uptoBulkEntry {H : Type} : Lit × DataW H → Nat
  | (.string bytes, d) => bytes.length + uptoBulk d + 1
  | (_, d) => uptoBulk d + 1
 end
def uptoSmall : (H : Type) → List (DataW H) → Bool := fun _ ds => decide (uptoBulkAll ds ≤ 1048576)
def OpenSpec.upto (s : _root_.Go.ChangeSpec) : _root_.Go.OpenSpec := { _root_.Go.OpenSpec.ofChange s with cond := some uptoSmall }

/-- 'sluicelaw.Decodes', WHERE WHAT IT READS IS OF BULK AT MOST 1048576: true; the input reads as it did. -/
def decodesUptoRow : OpenClaim := { program := "ytgkiknfpcbcnnaa", sum := "5bcbb7ca6bdd3cea68606288075b3221ce262f917f1dc36f385fc6e40c535b48", func := "sluice/sluicelaw.Decodes", spec := "decodes", apart := false, narrowed := true }
def DecodesUptoSaid : Prop := decodesUptoRow.holds Try.pinned (OpenSpec.upto decodesSpec)

/-- 'sluicelaw.Encodes', WHERE WHAT IT READS IS OF BULK AT MOST 1048576: true; the input reads as it did. -/
def encodesUptoRow : OpenClaim := { program := "ytgkiknfpcbcnnaa", sum := "5bcbb7ca6bdd3cea68606288075b3221ce262f917f1dc36f385fc6e40c535b48", func := "sluice/sluicelaw.Encodes", spec := "encodes", apart := false, narrowed := true }
def EncodesUptoSaid : Prop := encodesUptoRow.holds Try.pinned (OpenSpec.upto encodesSpec)

/-- 'sluicelaw.Matches', WHERE WHAT IT READS IS OF BULK AT MOST 1048576: true; the input reads as it did. -/
def matchesUptoRow : OpenClaim := { program := "ytgkiknfpcbcnnaa", sum := "5bcbb7ca6bdd3cea68606288075b3221ce262f917f1dc36f385fc6e40c535b48", func := "sluice/sluicelaw.Matches", spec := "matches", apart := false, narrowed := true }
def MatchesUptoSaid : Prop := matchesUptoRow.holds Try.pinned (OpenSpec.upto matchesSpec)

/-- 'sluicelaw.Compares', WHERE WHAT IT READS IS OF BULK AT MOST 1048576: true; the input reads as it did. -/
def comparesUptoRow : OpenClaim := { program := "ytgkiknfpcbcnnaa", sum := "5bcbb7ca6bdd3cea68606288075b3221ce262f917f1dc36f385fc6e40c535b48", func := "sluice/sluicelaw.Compares", spec := "compares", apart := false, narrowed := true }
def ComparesUptoSaid : Prop := comparesUptoRow.holds Try.pinned (OpenSpec.upto comparesSpec)

/-- 'sluicelaw.Covers', WHERE WHAT IT READS IS OF BULK AT MOST 1048576: true; the input reads as it did. -/
def coversUptoRow : OpenClaim := { program := "ytgkiknfpcbcnnaa", sum := "5bcbb7ca6bdd3cea68606288075b3221ce262f917f1dc36f385fc6e40c535b48", func := "sluice/sluicelaw.Covers", spec := "covers", recurses := true, apart := false, narrowed := true }
def CoversUptoSaid : Prop := coversUptoRow.holds Try.pinned (OpenSpec.upto coversSpec)

/-- 'sluicelaw.Opens', WHERE WHAT IT READS IS OF BULK AT MOST 1048576: true; the input reads as it did. -/
def opensUptoRow : OpenClaim := { program := "ytgkiknfpcbcnnaa", sum := "5bcbb7ca6bdd3cea68606288075b3221ce262f917f1dc36f385fc6e40c535b48", func := "sluice/sluicelaw.Opens", spec := "opens", recurses := true, apart := false, narrowed := true }
def OpensUptoSaid : Prop := opensUptoRow.holds Try.pinned (OpenSpec.upto opensSpec)

/-- 'sluicekeep.Known', WHERE WHAT IT READS IS OF BULK AT MOST 1048576: true; the input reads as it did. -/
def knownUptoRow : OpenClaim := { program := "ytgkiknfpcbcnnaa", sum := "5bcbb7ca6bdd3cea68606288075b3221ce262f917f1dc36f385fc6e40c535b48", func := "sluice/sluicekeep.Known", spec := "known", recurses := true, apart := false, narrowed := true }
def KnownUptoSaid : Prop := knownUptoRow.holds Try.pinned (OpenSpec.upto knownSpec)

/-- 'sluicekeep.Back', WHERE WHAT IT READS IS OF BULK AT MOST 1048576: true; the input reads as it did. -/
def backUptoRow : OpenClaim := { program := "ytgkiknfpcbcnnaa", sum := "5bcbb7ca6bdd3cea68606288075b3221ce262f917f1dc36f385fc6e40c535b48", func := "sluice/sluicekeep.Back", spec := "back", apart := false, narrowed := true }
def BackUptoSaid : Prop := backUptoRow.holds Try.pinned (OpenSpec.upto backSpec)

/-- 'sluicekeep.Order', WHERE WHAT IT READS IS OF BULK AT MOST 1048576: true; the input reads as it did. -/
def orderUptoRow : OpenClaim := { program := "ytgkiknfpcbcnnaa", sum := "5bcbb7ca6bdd3cea68606288075b3221ce262f917f1dc36f385fc6e40c535b48", func := "sluice/sluicekeep.Order", spec := "order", apart := false, narrowed := true }
def OrderUptoSaid : Prop := orderUptoRow.holds Try.pinned (OpenSpec.upto orderSpec)

/-- 'sluicekeep.Once', WHERE WHAT IT READS IS OF BULK AT MOST 1048576: true; the input reads as it did. -/
def onceUptoRow : OpenClaim := { program := "ytgkiknfpcbcnnaa", sum := "5bcbb7ca6bdd3cea68606288075b3221ce262f917f1dc36f385fc6e40c535b48", func := "sluice/sluicekeep.Once", spec := "once", recurses := true, apart := false, narrowed := true }
def OnceUptoSaid : Prop := onceUptoRow.holds Try.pinned (OpenSpec.upto onceSpec)

end Rows
end Go.Proofs.Ytgkiknfpcbcnnaa
