/-
  No cell of these rows narrows 'for every input' (looked for: loops, veiled, ifaces, maps, wideKeys, modest, calm, conditions, laid).
  DERIVED. THE GIVEN ROWS OF THIS SEAT. 6 by the template 'for every input the law returns true; each argument reads behind the call as it read before'; 0 by the template 'total and deterministic' (their statements: YtdfbbmaaonkjiaaTotals.lean).
  GIVEN WITH THE SEED: the statements are not yours to turn. If you find one false, say at which input.
  Laid BY PROGRAM, IN A SANDBOX (cutbox-rows.mjs): the forced cells as the released guide's own fill.sh prints them over the translation 645d13dda55e317f… (all of the seat's roots in one cut). By AI agents, Wed Nov 11 2026. No macro, syntax, notation, axiom, sorry.
-/
import Derived.Test.YtdfbbmaaonkjiaaChecked
import GoSem.Claim
import GoSem.ClaimJoined
import GoSem.ClaimMapViews
import Derived.JoinedTies
import Derived.KernelRfl
namespace Go.Proofs.Ytdfbbmaaonkjiaa
/- THE CELL 'sum', in the pinned program and in every row, IS THE sha256 OF THE DUMP (.gsa) THAT YtdfbbmaaonkjiaaProg.lean LOADS. Nothing in Lean hashes anything: it is a label: what it is worth is what the hold of that sum in a sandbox is worth. -/
noncomputable def Try.pinned : Pinned := { name := "ytdfbbmaaonkjiaa", sum := "645d13dda55e317f2da95cbf253ead3ba38da9dc502708f50c8c3aecc28a43ce", checked := Try.checked }
namespace Rows
def none {H : Type} : Left H := { results := [], args := [] }

/-- 'louverlaw05.ExtPuts': WHATEVER THE INPUT: true; the input reads as it did. -/
def extPutsSpec : ChangeSpec := { name := "extPuts", fn := fun _ => fun
  | [d] => { results := [.lit (.bool true)], args := [d] }
  | _ => none }
def extPutsRow : OpenClaim := { program := "ytdfbbmaaonkjiaa", sum := "645d13dda55e317f2da95cbf253ead3ba38da9dc502708f50c8c3aecc28a43ce", func := "louver/louverlaw05.ExtPuts", spec := "extPuts", unfollowed := true, recurses := true, apart := false }
def ExtPutsSaid : Prop := extPutsRow.holds Try.pinned (OpenSpec.ofChange extPutsSpec)

/-- ITS FALSE NEIGHBOUR: 'it returns false'. Refute it at one input. -/
def extPutsWrong : ChangeSpec := { name := "extPuts", fn := fun _ => fun
  | [d] => { results := [.lit (.bool false)], args := [d] }
  | _ => none }
def ExtPutsWrongFalsely : Prop := extPutsRow.holds Try.pinned (OpenSpec.ofChange extPutsWrong)

/-- 'louverlaw05.ExtParses': WHATEVER THE INPUT: true; the input reads as it did. -/
def extParsesSpec : ChangeSpec := { name := "extParses", fn := fun _ => fun
  | [d1, d2, d3] => { results := [.lit (.bool true)], args := [d1, d2, d3] }
  | _ => none }
def extParsesRow : OpenClaim := { program := "ytdfbbmaaonkjiaa", sum := "645d13dda55e317f2da95cbf253ead3ba38da9dc502708f50c8c3aecc28a43ce", func := "louver/louverlaw05.ExtParses", spec := "extParses", unfollowed := true, recurses := true, apart := false }
def ExtParsesSaid : Prop := extParsesRow.holds Try.pinned (OpenSpec.ofChange extParsesSpec)

/-- ITS FALSE NEIGHBOUR: 'it returns false'. Refute it at one input. -/
def extParsesWrong : ChangeSpec := { name := "extParses", fn := fun _ => fun
  | [d1, d2, d3] => { results := [.lit (.bool false)], args := [d1, d2, d3] }
  | _ => none }
def ExtParsesWrongFalsely : Prop := extParsesRow.holds Try.pinned (OpenSpec.ofChange extParsesWrong)

/-- 'louverlaw05.ExtBack': WHATEVER THE INPUT: true; the input reads as it did. -/
def extBackSpec : ChangeSpec := { name := "extBack", fn := fun _ => fun
  | [d1, d2, d3] => { results := [.lit (.bool true)], args := [d1, d2, d3] }
  | _ => none }
def extBackRow : OpenClaim := { program := "ytdfbbmaaonkjiaa", sum := "645d13dda55e317f2da95cbf253ead3ba38da9dc502708f50c8c3aecc28a43ce", func := "louver/louverlaw05.ExtBack", spec := "extBack", unfollowed := true, recurses := true, apart := false }
def ExtBackSaid : Prop := extBackRow.holds Try.pinned (OpenSpec.ofChange extBackSpec)

/-- ITS FALSE NEIGHBOUR: 'it returns false'. Refute it at one input. -/
def extBackWrong : ChangeSpec := { name := "extBack", fn := fun _ => fun
  | [d1, d2, d3] => { results := [.lit (.bool false)], args := [d1, d2, d3] }
  | _ => none }
def ExtBackWrongFalsely : Prop := extBackRow.holds Try.pinned (OpenSpec.ofChange extBackWrong)

/-- 'louverlaw05.ExtCuts': WHATEVER THE INPUT: true; the input reads as it did. -/
def extCutsSpec : ChangeSpec := { name := "extCuts", fn := fun _ => fun
  | [d1, d2, d3] => { results := [.lit (.bool true)], args := [d1, d2, d3] }
  | _ => none }
def extCutsRow : OpenClaim := { program := "ytdfbbmaaonkjiaa", sum := "645d13dda55e317f2da95cbf253ead3ba38da9dc502708f50c8c3aecc28a43ce", func := "louver/louverlaw05.ExtCuts", spec := "extCuts", unfollowed := true, recurses := true, apart := false }
def ExtCutsSaid : Prop := extCutsRow.holds Try.pinned (OpenSpec.ofChange extCutsSpec)

/-- ITS FALSE NEIGHBOUR: 'it returns false'. Refute it at one input. -/
def extCutsWrong : ChangeSpec := { name := "extCuts", fn := fun _ => fun
  | [d1, d2, d3] => { results := [.lit (.bool false)], args := [d1, d2, d3] }
  | _ => none }
def ExtCutsWrongFalsely : Prop := extCutsRow.holds Try.pinned (OpenSpec.ofChange extCutsWrong)

/-- 'louverlaw05.ExtSizes': WHATEVER THE INPUT: true; the input reads as it did. -/
def extSizesSpec : ChangeSpec := { name := "extSizes", fn := fun _ => fun
  | [d] => { results := [.lit (.bool true)], args := [d] }
  | _ => none }
def extSizesRow : OpenClaim := { program := "ytdfbbmaaonkjiaa", sum := "645d13dda55e317f2da95cbf253ead3ba38da9dc502708f50c8c3aecc28a43ce", func := "louver/louverlaw05.ExtSizes", spec := "extSizes", unfollowed := true, recurses := true, apart := false }
def ExtSizesSaid : Prop := extSizesRow.holds Try.pinned (OpenSpec.ofChange extSizesSpec)

/-- ITS FALSE NEIGHBOUR: 'it returns false'. Refute it at one input. -/
def extSizesWrong : ChangeSpec := { name := "extSizes", fn := fun _ => fun
  | [d] => { results := [.lit (.bool false)], args := [d] }
  | _ => none }
def ExtSizesWrongFalsely : Prop := extSizesRow.holds Try.pinned (OpenSpec.ofChange extSizesWrong)

/-- 'louverlaw05.ExtOthers': WHATEVER THE INPUT: true; the input reads as it did. -/
def extOthersSpec : ChangeSpec := { name := "extOthers", fn := fun _ => fun
  | [d1, d2, d3] => { results := [.lit (.bool true)], args := [d1, d2, d3] }
  | _ => none }
def extOthersRow : OpenClaim := { program := "ytdfbbmaaonkjiaa", sum := "645d13dda55e317f2da95cbf253ead3ba38da9dc502708f50c8c3aecc28a43ce", func := "louver/louverlaw05.ExtOthers", spec := "extOthers", unfollowed := true, recurses := true, apart := false }
def ExtOthersSaid : Prop := extOthersRow.holds Try.pinned (OpenSpec.ofChange extOthersSpec)

/-- ITS FALSE NEIGHBOUR: 'it returns false'. Refute it at one input. -/
def extOthersWrong : ChangeSpec := { name := "extOthers", fn := fun _ => fun
  | [d1, d2, d3] => { results := [.lit (.bool false)], args := [d1, d2, d3] }
  | _ => none }
def ExtOthersWrongFalsely : Prop := extOthersRow.holds Try.pinned (OpenSpec.ofChange extOthersWrong)

/- THE SECOND FORM. 'bulk': how many values and letters a reading holds, each counted each time it is reached (what is shared counts as often as it is met; a slice's spare places count too). A statement '..UptoSaid' is the law's where the arguments, and the package variables that the reading takes, are together of bulk at most 1048576: NARROWER than '..Said'. Prove '..Said' where nothing that the law and all that it calls make is longer than what came in: it says more and counts as full. Else prove '..UptoSaid'. A law counts once. -/
mutual
def uptoBulk {H : Type} : DataW H → Nat
  | .lit (.string bytes) => bytes.length + 1
  | .lit _ => 1
  | .nil => 1
  | .ptr d => uptoBulk d + 1
  | .slice elems spare => uptoBulkAll elems + uptoBulkAll spare + 1
  | .agg parts => uptoBulkAll parts + 1
  | .iface _ d => uptoBulk d + 1
  | .map entries => uptoBulkEntries entries + 1
  | .held _ => 1
def uptoBulkAll {H : Type} : List (DataW H) → Nat
  | [] => 0
  | d :: r => uptoBulk d + uptoBulkAll r
def uptoBulkEntries {H : Type} : List (Lit × DataW H) → Nat
  | [] => 0
  | x :: r => uptoBulkEntry x + uptoBulkEntries r
def uptoBulkEntry {H : Type} : Lit × DataW H → Nat
  | (.string bytes, d) => bytes.length + uptoBulk d + 1
  | (_, d) => uptoBulk d + 1
 end
def uptoSmall : (H : Type) → List (DataW H) → Bool := fun _ ds => decide (uptoBulkAll ds ≤ 1048576)
def OpenSpec.upto (s : _root_.Go.ChangeSpec) : _root_.Go.OpenSpec := { _root_.Go.OpenSpec.ofChange s with cond := some uptoSmall }

/-- 'louverlaw05.ExtPuts', WHERE WHAT IT READS IS OF BULK AT MOST 1048576: true; the input reads as it did. -/
def extPutsUptoRow : OpenClaim := { program := "ytdfbbmaaonkjiaa", sum := "645d13dda55e317f2da95cbf253ead3ba38da9dc502708f50c8c3aecc28a43ce", func := "louver/louverlaw05.ExtPuts", spec := "extPuts", unfollowed := true, recurses := true, apart := false, narrowed := true }
def ExtPutsUptoSaid : Prop := extPutsUptoRow.holds Try.pinned (OpenSpec.upto extPutsSpec)

/-- 'louverlaw05.ExtParses', WHERE WHAT IT READS IS OF BULK AT MOST 1048576: true; the input reads as it did. -/
def extParsesUptoRow : OpenClaim := { program := "ytdfbbmaaonkjiaa", sum := "645d13dda55e317f2da95cbf253ead3ba38da9dc502708f50c8c3aecc28a43ce", func := "louver/louverlaw05.ExtParses", spec := "extParses", unfollowed := true, recurses := true, apart := false, narrowed := true }
def ExtParsesUptoSaid : Prop := extParsesUptoRow.holds Try.pinned (OpenSpec.upto extParsesSpec)

/-- 'louverlaw05.ExtBack', WHERE WHAT IT READS IS OF BULK AT MOST 1048576: true; the input reads as it did. -/
def extBackUptoRow : OpenClaim := { program := "ytdfbbmaaonkjiaa", sum := "645d13dda55e317f2da95cbf253ead3ba38da9dc502708f50c8c3aecc28a43ce", func := "louver/louverlaw05.ExtBack", spec := "extBack", unfollowed := true, recurses := true, apart := false, narrowed := true }
def ExtBackUptoSaid : Prop := extBackUptoRow.holds Try.pinned (OpenSpec.upto extBackSpec)

/-- 'louverlaw05.ExtCuts', WHERE WHAT IT READS IS OF BULK AT MOST 1048576: true; the input reads as it did. -/
def extCutsUptoRow : OpenClaim := { program := "ytdfbbmaaonkjiaa", sum := "645d13dda55e317f2da95cbf253ead3ba38da9dc502708f50c8c3aecc28a43ce", func := "louver/louverlaw05.ExtCuts", spec := "extCuts", unfollowed := true, recurses := true, apart := false, narrowed := true }
def ExtCutsUptoSaid : Prop := extCutsUptoRow.holds Try.pinned (OpenSpec.upto extCutsSpec)

/-- 'louverlaw05.ExtSizes', WHERE WHAT IT READS IS OF BULK AT MOST 1048576: true; the input reads as it did. -/
def extSizesUptoRow : OpenClaim := { program := "ytdfbbmaaonkjiaa", sum := "645d13dda55e317f2da95cbf253ead3ba38da9dc502708f50c8c3aecc28a43ce", func := "louver/louverlaw05.ExtSizes", spec := "extSizes", unfollowed := true, recurses := true, apart := false, narrowed := true }
def ExtSizesUptoSaid : Prop := extSizesUptoRow.holds Try.pinned (OpenSpec.upto extSizesSpec)

/-- 'louverlaw05.ExtOthers', WHERE WHAT IT READS IS OF BULK AT MOST 1048576: true; the input reads as it did. -/
def extOthersUptoRow : OpenClaim := { program := "ytdfbbmaaonkjiaa", sum := "645d13dda55e317f2da95cbf253ead3ba38da9dc502708f50c8c3aecc28a43ce", func := "louver/louverlaw05.ExtOthers", spec := "extOthers", unfollowed := true, recurses := true, apart := false, narrowed := true }
def ExtOthersUptoSaid : Prop := extOthersUptoRow.holds Try.pinned (OpenSpec.upto extOthersSpec)

end Rows
end Go.Proofs.Ytdfbbmaaonkjiaa
