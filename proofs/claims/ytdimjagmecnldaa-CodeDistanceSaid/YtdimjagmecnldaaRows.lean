/-
  No cell of these rows narrows 'for every input' (looked for: loops, veiled, ifaces, maps, wideKeys, modest, calm, conditions, laid).
  DERIVED. THE GIVEN ROWS OF THIS SEAT. 6 by the template 'for every input the law returns true; each argument reads behind the call as it read before'; 0 by the template 'total and deterministic' (their statements: YtdimjagmecnldaaTotals.lean).
  GIVEN WITH THE SEED: the statements are not yours to turn. If you find one false, say at which input.
  Laid BY PROGRAM, IN A SANDBOX (cutbox-rows.mjs): the forced cells as the released guide's own fill.sh prints them over the translation 4617e479659e02f9… (all of the seat's roots in one cut). By AI agents, Wed Nov 11 2026. No macro, syntax, notation, axiom, sorry.
-/
import Derived.Test.YtdimjagmecnldaaChecked
import GoSem.Claim
import GoSem.ClaimJoined
import GoSem.ClaimMapViews
import Derived.JoinedTies
import Derived.KernelRfl
namespace Go.Proofs.Ytdimjagmecnldaa
/- THE CELL 'sum', in the pinned program and in every row, IS THE sha256 OF THE DUMP (.gsa) THAT YtdimjagmecnldaaProg.lean LOADS. Nothing in Lean hashes anything: it is a label: what it is worth is what the hold of that sum in a sandbox is worth. -/
noncomputable def Try.pinned : Pinned := { name := "ytdimjagmecnldaa", sum := "4617e479659e02f956c6bf4384f59484364710ba053fc3a92694ce6c4fada1c1", checked := Try.checked }
namespace Rows
def none {H : Type} : Left H := { results := [], args := [] }

/-- 'downtiltlaw02.CodeTexts': WHATEVER THE INPUT: true; the input reads as it did. -/
def codeTextsSpec : ChangeSpec := { name := "codeTexts", fn := fun _ => fun
  | [d1, d2] => { results := [.lit (.bool true)], args := [d1, d2] }
  | _ => none }
def codeTextsRow : OpenClaim := { program := "ytdimjagmecnldaa", sum := "4617e479659e02f956c6bf4384f59484364710ba053fc3a92694ce6c4fada1c1", func := "downtilt/downtiltlaw02.CodeTexts", spec := "codeTexts", unfollowed := true, recurses := true, apart := false }
def CodeTextsSaid : Prop := codeTextsRow.holds Try.pinned (OpenSpec.ofChange codeTextsSpec)

/-- ITS FALSE NEIGHBOUR: 'it returns false'. Refute it at one input. -/
def codeTextsWrong : ChangeSpec := { name := "codeTexts", fn := fun _ => fun
  | [d1, d2] => { results := [.lit (.bool false)], args := [d1, d2] }
  | _ => none }
def CodeTextsWrongFalsely : Prop := codeTextsRow.holds Try.pinned (OpenSpec.ofChange codeTextsWrong)

/-- 'downtiltlaw02.CodeCatches': WHATEVER THE INPUT: true; the input reads as it did. -/
def codeCatchesSpec : ChangeSpec := { name := "codeCatches", fn := fun _ => fun
  | [d1, d2, d3] => { results := [.lit (.bool true)], args := [d1, d2, d3] }
  | _ => none }
def codeCatchesRow : OpenClaim := { program := "ytdimjagmecnldaa", sum := "4617e479659e02f956c6bf4384f59484364710ba053fc3a92694ce6c4fada1c1", func := "downtilt/downtiltlaw02.CodeCatches", spec := "codeCatches", unfollowed := true, recurses := true, apart := false }
def CodeCatchesSaid : Prop := codeCatchesRow.holds Try.pinned (OpenSpec.ofChange codeCatchesSpec)

/-- ITS FALSE NEIGHBOUR: 'it returns false'. Refute it at one input. -/
def codeCatchesWrong : ChangeSpec := { name := "codeCatches", fn := fun _ => fun
  | [d1, d2, d3] => { results := [.lit (.bool false)], args := [d1, d2, d3] }
  | _ => none }
def CodeCatchesWrongFalsely : Prop := codeCatchesRow.holds Try.pinned (OpenSpec.ofChange codeCatchesWrong)

/-- 'downtiltlaw02.CodeChecks': WHATEVER THE INPUT: true; the input reads as it did. -/
def codeChecksSpec : ChangeSpec := { name := "codeChecks", fn := fun _ => fun
  | [d1, d2] => { results := [.lit (.bool true)], args := [d1, d2] }
  | _ => none }
def codeChecksRow : OpenClaim := { program := "ytdimjagmecnldaa", sum := "4617e479659e02f956c6bf4384f59484364710ba053fc3a92694ce6c4fada1c1", func := "downtilt/downtiltlaw02.CodeChecks", spec := "codeChecks", unfollowed := true, recurses := true, apart := false }
def CodeChecksSaid : Prop := codeChecksRow.holds Try.pinned (OpenSpec.ofChange codeChecksSpec)

/-- ITS FALSE NEIGHBOUR: 'it returns false'. Refute it at one input. -/
def codeChecksWrong : ChangeSpec := { name := "codeChecks", fn := fun _ => fun
  | [d1, d2] => { results := [.lit (.bool false)], args := [d1, d2] }
  | _ => none }
def CodeChecksWrongFalsely : Prop := codeChecksRow.holds Try.pinned (OpenSpec.ofChange codeChecksWrong)

/-- 'downtiltlaw02.CodeDecoded': WHATEVER THE INPUT: true; the input reads as it did. -/
def codeDecodedSpec : ChangeSpec := { name := "codeDecoded", fn := fun _ => fun
  | [d1, d2, d3] => { results := [.lit (.bool true)], args := [d1, d2, d3] }
  | _ => none }
def codeDecodedRow : OpenClaim := { program := "ytdimjagmecnldaa", sum := "4617e479659e02f956c6bf4384f59484364710ba053fc3a92694ce6c4fada1c1", func := "downtilt/downtiltlaw02.CodeDecoded", spec := "codeDecoded", unfollowed := true, recurses := true, apart := false }
def CodeDecodedSaid : Prop := codeDecodedRow.holds Try.pinned (OpenSpec.ofChange codeDecodedSpec)

/-- ITS FALSE NEIGHBOUR: 'it returns false'. Refute it at one input. -/
def codeDecodedWrong : ChangeSpec := { name := "codeDecoded", fn := fun _ => fun
  | [d1, d2, d3] => { results := [.lit (.bool false)], args := [d1, d2, d3] }
  | _ => none }
def CodeDecodedWrongFalsely : Prop := codeDecodedRow.holds Try.pinned (OpenSpec.ofChange codeDecodedWrong)

/-- 'downtiltlaw02.CodeDistance': WHATEVER THE INPUT: true; the input reads as it did. -/
def codeDistanceSpec : ChangeSpec := { name := "codeDistance", fn := fun _ => fun
  | [d1, d2, d3] => { results := [.lit (.bool true)], args := [d1, d2, d3] }
  | _ => none }
def codeDistanceRow : OpenClaim := { program := "ytdimjagmecnldaa", sum := "4617e479659e02f956c6bf4384f59484364710ba053fc3a92694ce6c4fada1c1", func := "downtilt/downtiltlaw02.CodeDistance", spec := "codeDistance", unfollowed := true, recurses := true, apart := false }
def CodeDistanceSaid : Prop := codeDistanceRow.holds Try.pinned (OpenSpec.ofChange codeDistanceSpec)

/-- ITS FALSE NEIGHBOUR: 'it returns false'. Refute it at one input. -/
def codeDistanceWrong : ChangeSpec := { name := "codeDistance", fn := fun _ => fun
  | [d1, d2, d3] => { results := [.lit (.bool false)], args := [d1, d2, d3] }
  | _ => none }
def CodeDistanceWrongFalsely : Prop := codeDistanceRow.holds Try.pinned (OpenSpec.ofChange codeDistanceWrong)

/-- 'downtiltlaw02.CodeVersions': WHATEVER THE INPUT: true; the input reads as it did. -/
def codeVersionsSpec : ChangeSpec := { name := "codeVersions", fn := fun _ => fun
  | [d1, d2, d3] => { results := [.lit (.bool true)], args := [d1, d2, d3] }
  | _ => none }
def codeVersionsRow : OpenClaim := { program := "ytdimjagmecnldaa", sum := "4617e479659e02f956c6bf4384f59484364710ba053fc3a92694ce6c4fada1c1", func := "downtilt/downtiltlaw02.CodeVersions", spec := "codeVersions", unfollowed := true, recurses := true, apart := false }
def CodeVersionsSaid : Prop := codeVersionsRow.holds Try.pinned (OpenSpec.ofChange codeVersionsSpec)

/-- ITS FALSE NEIGHBOUR: 'it returns false'. Refute it at one input. -/
def codeVersionsWrong : ChangeSpec := { name := "codeVersions", fn := fun _ => fun
  | [d1, d2, d3] => { results := [.lit (.bool false)], args := [d1, d2, d3] }
  | _ => none }
def CodeVersionsWrongFalsely : Prop := codeVersionsRow.holds Try.pinned (OpenSpec.ofChange codeVersionsWrong)

/- THE SECOND FORM. 'bulk': how many values and letters a reading holds, each counted each time it is reached (what is shared counts as often as it is met; a slice's spare places count too). A statement '..UptoSaid' is the law's where the arguments, and the package variables that the reading takes, are together of bulk at most 1048576: NARROWER than '..Said'. Prove '..Said' where nothing that the law and all that it calls make is longer than what came in: it says more and counts as full. Else prove '..UptoSaid'. A law counts once. -/
mutual
def uptoBulk {H : Type} : DataW H → Nat
  | .lit (.string bytes) => bytes.length + 1
  | .lit _ => 1
  | .nil => 1
  | .ptr d => uptoBulk d + 1
  | .slice elems spare => uptoBulkAll elems + uptoBulkAll spare + 1
  | .agg parts => uptoBulkAll parts + 1
  | .iface _ d => uptoBulk d + 1
  | .map entries => uptoBulkEntries entries + 1
  | .held _ => 1
def uptoBulkAll {H : Type} : List (DataW H) → Nat
  | [] => 0
  | d :: r => uptoBulk d + uptoBulkAll r
def uptoBulkEntries {H : Type} : List (Lit × DataW H) → Nat
  | [] => 0
  | x :: r => uptoBulkEntry x + uptoBulkEntries r
def uptoBulkEntry {H : Type} : Lit × DataW H → Nat
  | (.string bytes, d) => bytes.length + uptoBulk d + 1
  | (_, d) => uptoBulk d + 1
 end
def uptoSmall : (H : Type) → List (DataW H) → Bool := fun _ ds => decide (uptoBulkAll ds ≤ 1048576)
def OpenSpec.upto (s : _root_.Go.ChangeSpec) : _root_.Go.OpenSpec := { _root_.Go.OpenSpec.ofChange s with cond := some uptoSmall }

/-- 'downtiltlaw02.CodeTexts', WHERE WHAT IT READS IS OF BULK AT MOST 1048576: true; the input reads as it did. -/
def codeTextsUptoRow : OpenClaim := { program := "ytdimjagmecnldaa", sum := "4617e479659e02f956c6bf4384f59484364710ba053fc3a92694ce6c4fada1c1", func := "downtilt/downtiltlaw02.CodeTexts", spec := "codeTexts", unfollowed := true, recurses := true, apart := false, narrowed := true }
def CodeTextsUptoSaid : Prop := codeTextsUptoRow.holds Try.pinned (OpenSpec.upto codeTextsSpec)

/-- 'downtiltlaw02.CodeCatches', WHERE WHAT IT READS IS OF BULK AT MOST 1048576: true; the input reads as it did. -/
def codeCatchesUptoRow : OpenClaim := { program := "ytdimjagmecnldaa", sum := "4617e479659e02f956c6bf4384f59484364710ba053fc3a92694ce6c4fada1c1", func := "downtilt/downtiltlaw02.CodeCatches", spec := "codeCatches", unfollowed := true, recurses := true, apart := false, narrowed := true }
def CodeCatchesUptoSaid : Prop := codeCatchesUptoRow.holds Try.pinned (OpenSpec.upto codeCatchesSpec)

/-- 'downtiltlaw02.CodeChecks', WHERE WHAT IT READS IS OF BULK AT MOST 1048576: true; the input reads as it did. -/
def codeChecksUptoRow : OpenClaim := { program := "ytdimjagmecnldaa", sum := "4617e479659e02f956c6bf4384f59484364710ba053fc3a92694ce6c4fada1c1", func := "downtilt/downtiltlaw02.CodeChecks", spec := "codeChecks", unfollowed := true, recurses := true, apart := false, narrowed := true }
def CodeChecksUptoSaid : Prop := codeChecksUptoRow.holds Try.pinned (OpenSpec.upto codeChecksSpec)

/-- 'downtiltlaw02.CodeDecoded', WHERE WHAT IT READS IS OF BULK AT MOST 1048576: true; the input reads as it did. -/
def codeDecodedUptoRow : OpenClaim := { program := "ytdimjagmecnldaa", sum := "4617e479659e02f956c6bf4384f59484364710ba053fc3a92694ce6c4fada1c1", func := "downtilt/downtiltlaw02.CodeDecoded", spec := "codeDecoded", unfollowed := true, recurses := true, apart := false, narrowed := true }
def CodeDecodedUptoSaid : Prop := codeDecodedUptoRow.holds Try.pinned (OpenSpec.upto codeDecodedSpec)

/-- 'downtiltlaw02.CodeDistance', WHERE WHAT IT READS IS OF BULK AT MOST 1048576: true; the input reads as it did. -/
def codeDistanceUptoRow : OpenClaim := { program := "ytdimjagmecnldaa", sum := "4617e479659e02f956c6bf4384f59484364710ba053fc3a92694ce6c4fada1c1", func := "downtilt/downtiltlaw02.CodeDistance", spec := "codeDistance", unfollowed := true, recurses := true, apart := false, narrowed := true }
def CodeDistanceUptoSaid : Prop := codeDistanceUptoRow.holds Try.pinned (OpenSpec.upto codeDistanceSpec)

/-- 'downtiltlaw02.CodeVersions', WHERE WHAT IT READS IS OF BULK AT MOST 1048576: true; the input reads as it did. -/
def codeVersionsUptoRow : OpenClaim := { program := "ytdimjagmecnldaa", sum := "4617e479659e02f956c6bf4384f59484364710ba053fc3a92694ce6c4fada1c1", func := "downtilt/downtiltlaw02.CodeVersions", spec := "codeVersions", unfollowed := true, recurses := true, apart := false, narrowed := true }
def CodeVersionsUptoSaid : Prop := codeVersionsUptoRow.holds Try.pinned (OpenSpec.upto codeVersionsSpec)

end Rows
end Go.Proofs.Ytdimjagmecnldaa
