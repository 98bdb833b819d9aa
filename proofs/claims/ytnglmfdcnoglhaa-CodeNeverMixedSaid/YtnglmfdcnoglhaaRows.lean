/-
  No cell of these rows narrows 'for every input' (looked for: loops, veiled, ifaces, maps, wideKeys, modest, calm, conditions, laid).
  DERIVED. THE GIVEN ROWS OF THIS SEAT. 4 by the template 'for every input the law returns true; each argument reads behind the call as it read before'; 0 by the template 'total and deterministic' (their statements: YtnglmfdcnoglhaaTotals.lean).
  GIVEN WITH THE SEED: the statements are not yours to turn. If you find one false, say at which input.
  Laid BY PROGRAM, IN A SANDBOX (cutbox-rows.mjs): the forced cells as the released guide's own fill.sh prints them over the translation dbbed2e425a5e123… (all of the seat's roots in one cut). By AI agents, Wed Nov 11 2026. No macro, syntax, notation, axiom, sorry.
-/
import Derived.Test.YtnglmfdcnoglhaaChecked
import GoSem.Claim
import GoSem.ClaimJoined
import GoSem.ClaimMapViews
import Derived.JoinedTies
import Derived.KernelRfl
namespace Go.Proofs.Ytnglmfdcnoglhaa
/- THE CELL 'sum', in the pinned program and in every row, IS THE sha256 OF THE DUMP (.gsa) THAT YtnglmfdcnoglhaaProg.lean LOADS. Nothing in Lean hashes anything: it is a label: what it is worth is what the hold of that sum in a sandbox is worth. -/
noncomputable def Try.pinned : Pinned := { name := "ytnglmfdcnoglhaa", sum := "dbbed2e425a5e123396ed7ee6aa21a7a3cb18b6a18813fb9ccab954771efb30c", checked := Try.checked }
namespace Rows
def none {H : Type} : Left H := { results := [], args := [] }

/-- 'downtilttop.TopCodeRecovered': WHATEVER THE INPUT: true; the input reads as it did. -/
def topCodeRecoveredSpec : ChangeSpec := { name := "topCodeRecovered", fn := fun _ => fun
  | [d1, d2, d3] => { results := [.lit (.bool true)], args := [d1, d2, d3] }
  | _ => none }
def topCodeRecoveredRow : OpenClaim := { program := "ytnglmfdcnoglhaa", sum := "dbbed2e425a5e123396ed7ee6aa21a7a3cb18b6a18813fb9ccab954771efb30c", func := "downtilt/downtilttop.TopCodeRecovered", spec := "topCodeRecovered", unfollowed := true, recurses := true, apart := false }
def TopCodeRecoveredSaid : Prop := topCodeRecoveredRow.holds Try.pinned (OpenSpec.ofChange topCodeRecoveredSpec)

/-- ITS FALSE NEIGHBOUR: 'it returns false'. Refute it at one input. -/
def topCodeRecoveredWrong : ChangeSpec := { name := "topCodeRecovered", fn := fun _ => fun
  | [d1, d2, d3] => { results := [.lit (.bool false)], args := [d1, d2, d3] }
  | _ => none }
def TopCodeRecoveredWrongFalsely : Prop := topCodeRecoveredRow.holds Try.pinned (OpenSpec.ofChange topCodeRecoveredWrong)

/-- 'downtilttop.TopCodeNeverMixed': WHATEVER THE INPUT: true; the input reads as it did. -/
def topCodeNeverMixedSpec : ChangeSpec := { name := "topCodeNeverMixed", fn := fun _ => fun
  | [d1, d2, d3] => { results := [.lit (.bool true)], args := [d1, d2, d3] }
  | _ => none }
def topCodeNeverMixedRow : OpenClaim := { program := "ytnglmfdcnoglhaa", sum := "dbbed2e425a5e123396ed7ee6aa21a7a3cb18b6a18813fb9ccab954771efb30c", func := "downtilt/downtilttop.TopCodeNeverMixed", spec := "topCodeNeverMixed", unfollowed := true, recurses := true, apart := false }
def TopCodeNeverMixedSaid : Prop := topCodeNeverMixedRow.holds Try.pinned (OpenSpec.ofChange topCodeNeverMixedSpec)

/-- ITS FALSE NEIGHBOUR: 'it returns false'. Refute it at one input. -/
def topCodeNeverMixedWrong : ChangeSpec := { name := "topCodeNeverMixed", fn := fun _ => fun
  | [d1, d2, d3] => { results := [.lit (.bool false)], args := [d1, d2, d3] }
  | _ => none }
def TopCodeNeverMixedWrongFalsely : Prop := topCodeNeverMixedRow.holds Try.pinned (OpenSpec.ofChange topCodeNeverMixedWrong)

/-- 'downtiltlaw02.CodeBuffers': WHATEVER THE INPUT: true; the input reads as it did. -/
def codeBuffersSpec : ChangeSpec := { name := "codeBuffers", fn := fun _ => fun
  | [d1, d2, d3] => { results := [.lit (.bool true)], args := [d1, d2, d3] }
  | _ => none }
def codeBuffersRow : OpenClaim := { program := "ytnglmfdcnoglhaa", sum := "dbbed2e425a5e123396ed7ee6aa21a7a3cb18b6a18813fb9ccab954771efb30c", func := "downtilt/downtiltlaw02.CodeBuffers", spec := "codeBuffers", unfollowed := true, recurses := true, apart := false }
def CodeBuffersSaid : Prop := codeBuffersRow.holds Try.pinned (OpenSpec.ofChange codeBuffersSpec)

/-- ITS FALSE NEIGHBOUR: 'it returns false'. Refute it at one input. -/
def codeBuffersWrong : ChangeSpec := { name := "codeBuffers", fn := fun _ => fun
  | [d1, d2, d3] => { results := [.lit (.bool false)], args := [d1, d2, d3] }
  | _ => none }
def CodeBuffersWrongFalsely : Prop := codeBuffersRow.holds Try.pinned (OpenSpec.ofChange codeBuffersWrong)

/-- 'downtiltlaw02.CodeNeverMixed': WHATEVER THE INPUT: true; the input reads as it did. -/
def codeNeverMixedSpec : ChangeSpec := { name := "codeNeverMixed", fn := fun _ => fun
  | [d1, d2] => { results := [.lit (.bool true)], args := [d1, d2] }
  | _ => none }
def codeNeverMixedRow : OpenClaim := { program := "ytnglmfdcnoglhaa", sum := "dbbed2e425a5e123396ed7ee6aa21a7a3cb18b6a18813fb9ccab954771efb30c", func := "downtilt/downtiltlaw02.CodeNeverMixed", spec := "codeNeverMixed", unfollowed := true, recurses := true, apart := false }
def CodeNeverMixedSaid : Prop := codeNeverMixedRow.holds Try.pinned (OpenSpec.ofChange codeNeverMixedSpec)

/-- ITS FALSE NEIGHBOUR: 'it returns false'. Refute it at one input. -/
def codeNeverMixedWrong : ChangeSpec := { name := "codeNeverMixed", fn := fun _ => fun
  | [d1, d2] => { results := [.lit (.bool false)], args := [d1, d2] }
  | _ => none }
def CodeNeverMixedWrongFalsely : Prop := codeNeverMixedRow.holds Try.pinned (OpenSpec.ofChange codeNeverMixedWrong)

/- THE SECOND FORM. 'bulk': how many values and letters a reading holds, each counted each time it is reached (what is shared counts as often as it is met; a slice's spare places count too). A statement '..UptoSaid' is the law's where the arguments, and the package variables that the reading takes, are together of bulk at most 1048576: NARROWER than '..Said'. Prove '..Said' where nothing that the law and all that it calls make is longer than what came in: it says more and counts as full. Else prove '..UptoSaid'. A law counts once. -/
mutual
def uptoBulk {H : Type} : DataW H → Nat
  | .lit (.string bytes) => bytes.length + 1
  | .lit _ => 1
  | .nil => 1
  | .ptr d => uptoBulk d + 1
  | .slice elems spare => uptoBulkAll elems + uptoBulkAll spare + 1
  | .agg parts => uptoBulkAll parts + 1
  | .iface _ d => uptoBulk d + 1
  | .map entries => uptoBulkEntries entries + 1
  | .held _ => 1
def uptoBulkAll {H : Type} : List (DataW H) → Nat
  | [] => 0
  | d :: r => uptoBulk d + uptoBulkAll r
def uptoBulkEntries {H : Type} : List (Lit × DataW H) → Nat
  | [] => 0
  | x :: r => uptoBulkEntry x + uptoBulkEntries r
def uptoBulkEntry {H : Type} : Lit × DataW H → Nat
  | (.string bytes, d) => bytes.length + uptoBulk d + 1
  | (_, d) => uptoBulk d + 1
 end
def uptoSmall : (H : Type) → List (DataW H) → Bool := fun _ ds => decide (uptoBulkAll ds ≤ 1048576)
def OpenSpec.upto (s : _root_.Go.ChangeSpec) : _root_.Go.OpenSpec := { _root_.Go.OpenSpec.ofChange s with cond := some uptoSmall }

/-- 'downtilttop.TopCodeRecovered', WHERE WHAT IT READS IS OF BULK AT MOST 1048576: true; the input reads as it did. -/
def topCodeRecoveredUptoRow : OpenClaim := { program := "ytnglmfdcnoglhaa", sum := "dbbed2e425a5e123396ed7ee6aa21a7a3cb18b6a18813fb9ccab954771efb30c", func := "downtilt/downtilttop.TopCodeRecovered", spec := "topCodeRecovered", unfollowed := true, recurses := true, apart := false, narrowed := true }
def TopCodeRecoveredUptoSaid : Prop := topCodeRecoveredUptoRow.holds Try.pinned (OpenSpec.upto topCodeRecoveredSpec)

/-- 'downtilttop.TopCodeNeverMixed', WHERE WHAT IT READS IS OF BULK AT MOST 1048576: true; the input reads as it did. -/
def topCodeNeverMixedUptoRow : OpenClaim := { program := "ytnglmfdcnoglhaa", sum := "dbbed2e425a5e123396ed7ee6aa21a7a3cb18b6a18813fb9ccab954771efb30c", func := "downtilt/downtilttop.TopCodeNeverMixed", spec := "topCodeNeverMixed", unfollowed := true, recurses := true, apart := false, narrowed := true }
def TopCodeNeverMixedUptoSaid : Prop := topCodeNeverMixedUptoRow.holds Try.pinned (OpenSpec.upto topCodeNeverMixedSpec)

/-- 'downtiltlaw02.CodeBuffers', WHERE WHAT IT READS IS OF BULK AT MOST 1048576: true; the input reads as it did. -/
def codeBuffersUptoRow : OpenClaim := { program := "ytnglmfdcnoglhaa", sum := "dbbed2e425a5e123396ed7ee6aa21a7a3cb18b6a18813fb9ccab954771efb30c", func := "downtilt/downtiltlaw02.CodeBuffers", spec := "codeBuffers", unfollowed := true, recurses := true, apart := false, narrowed := true }
def CodeBuffersUptoSaid : Prop := codeBuffersUptoRow.holds Try.pinned (OpenSpec.upto codeBuffersSpec)

/-- 'downtiltlaw02.CodeNeverMixed', WHERE WHAT IT READS IS OF BULK AT MOST 1048576: true; the input reads as it did. -/
def codeNeverMixedUptoRow : OpenClaim := { program := "ytnglmfdcnoglhaa", sum := "dbbed2e425a5e123396ed7ee6aa21a7a3cb18b6a18813fb9ccab954771efb30c", func := "downtilt/downtiltlaw02.CodeNeverMixed", spec := "codeNeverMixed", unfollowed := true, recurses := true, apart := false, narrowed := true }
def CodeNeverMixedUptoSaid : Prop := codeNeverMixedUptoRow.holds Try.pinned (OpenSpec.upto codeNeverMixedSpec)

end Rows
end Go.Proofs.Ytnglmfdcnoglhaa
