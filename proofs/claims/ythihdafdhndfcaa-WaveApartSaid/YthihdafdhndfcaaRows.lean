/-
  No cell of these rows narrows 'for every input' (looked for: loops, veiled, ifaces, maps, wideKeys, modest, calm, conditions, laid).
  DERIVED. THE GIVEN ROWS OF THIS SEAT. 5 by the template 'for every input the law returns true; each argument reads behind the call as it read before'; 0 by the template 'total and deterministic' (their statements: YthihdafdhndfcaaTotals.lean).
  GIVEN WITH THE SEED: the statements are not yours to turn. If you find one false, say at which input.
  Laid BY PROGRAM, IN A SANDBOX (cutbox-rows.mjs): the forced cells as the released guide's own fill.sh prints them over the translation 400d92bb1a352c90… (all of the seat's roots in one cut). By AI agents, Wed Nov 11 2026. No macro, syntax, notation, axiom, sorry.
-/
import Derived.Test.YthihdafdhndfcaaChecked
import GoSem.Claim
import GoSem.ClaimJoined
import GoSem.ClaimMapViews
import Derived.JoinedTies
import Derived.KernelRfl
namespace Go.Proofs.Ythihdafdhndfcaa
/- THE CELL 'sum', in the pinned program and in every row, IS THE sha256 OF THE DUMP (.gsa) THAT YthihdafdhndfcaaProg.lean LOADS. Nothing in Lean hashes anything: it is a label: what it is worth is what the hold of that sum in a sandbox is worth. -/
noncomputable def Try.pinned : Pinned := { name := "ythihdafdhndfcaa", sum := "400d92bb1a352c9057cca860ddec58b193c8a9a60053af72ac3959baca0b1e6a", checked := Try.checked }
namespace Rows
def none {H : Type} : Left H := { results := [], args := [] }

/-- 'downtiltlaw04.WaveNumbers': WHATEVER THE INPUT: true; the input reads as it did. -/
def waveNumbersSpec : ChangeSpec := { name := "waveNumbers", fn := fun _ => fun
  | [d1, d2, d3] => { results := [.lit (.bool true)], args := [d1, d2, d3] }
  | _ => none }
def waveNumbersRow : OpenClaim := { program := "ythihdafdhndfcaa", sum := "400d92bb1a352c9057cca860ddec58b193c8a9a60053af72ac3959baca0b1e6a", func := "downtilt/downtiltlaw04.WaveNumbers", spec := "waveNumbers", unfollowed := true, recurses := true, apart := false }
def WaveNumbersSaid : Prop := waveNumbersRow.holds Try.pinned (OpenSpec.ofChange waveNumbersSpec)

/-- ITS FALSE NEIGHBOUR: 'it returns false'. Refute it at one input. -/
def waveNumbersWrong : ChangeSpec := { name := "waveNumbers", fn := fun _ => fun
  | [d1, d2, d3] => { results := [.lit (.bool false)], args := [d1, d2, d3] }
  | _ => none }
def WaveNumbersWrongFalsely : Prop := waveNumbersRow.holds Try.pinned (OpenSpec.ofChange waveNumbersWrong)

/-- 'downtiltlaw04.WaveSquares': WHATEVER THE INPUT: true; the input reads as it did. -/
def waveSquaresSpec : ChangeSpec := { name := "waveSquares", fn := fun _ => fun
  | [d1, d2, d3] => { results := [.lit (.bool true)], args := [d1, d2, d3] }
  | _ => none }
def waveSquaresRow : OpenClaim := { program := "ythihdafdhndfcaa", sum := "400d92bb1a352c9057cca860ddec58b193c8a9a60053af72ac3959baca0b1e6a", func := "downtilt/downtiltlaw04.WaveSquares", spec := "waveSquares", unfollowed := true, recurses := true, apart := false }
def WaveSquaresSaid : Prop := waveSquaresRow.holds Try.pinned (OpenSpec.ofChange waveSquaresSpec)

/-- ITS FALSE NEIGHBOUR: 'it returns false'. Refute it at one input. -/
def waveSquaresWrong : ChangeSpec := { name := "waveSquares", fn := fun _ => fun
  | [d1, d2, d3] => { results := [.lit (.bool false)], args := [d1, d2, d3] }
  | _ => none }
def WaveSquaresWrongFalsely : Prop := waveSquaresRow.holds Try.pinned (OpenSpec.ofChange waveSquaresWrong)

/-- 'downtiltlaw04.WaveOffsets': WHATEVER THE INPUT: true; the input reads as it did. -/
def waveOffsetsSpec : ChangeSpec := { name := "waveOffsets", fn := fun _ => fun
  | [d1, d2, d3] => { results := [.lit (.bool true)], args := [d1, d2, d3] }
  | _ => none }
def waveOffsetsRow : OpenClaim := { program := "ythihdafdhndfcaa", sum := "400d92bb1a352c9057cca860ddec58b193c8a9a60053af72ac3959baca0b1e6a", func := "downtilt/downtiltlaw04.WaveOffsets", spec := "waveOffsets", unfollowed := true, recurses := true, apart := false }
def WaveOffsetsSaid : Prop := waveOffsetsRow.holds Try.pinned (OpenSpec.ofChange waveOffsetsSpec)

/-- ITS FALSE NEIGHBOUR: 'it returns false'. Refute it at one input. -/
def waveOffsetsWrong : ChangeSpec := { name := "waveOffsets", fn := fun _ => fun
  | [d1, d2, d3] => { results := [.lit (.bool false)], args := [d1, d2, d3] }
  | _ => none }
def WaveOffsetsWrongFalsely : Prop := waveOffsetsRow.holds Try.pinned (OpenSpec.ofChange waveOffsetsWrong)

/-- 'downtiltlaw04.WaveSequences': WHATEVER THE INPUT: true; the input reads as it did. -/
def waveSequencesSpec : ChangeSpec := { name := "waveSequences", fn := fun _ => fun
  | [d1, d2] => { results := [.lit (.bool true)], args := [d1, d2] }
  | _ => none }
def waveSequencesRow : OpenClaim := { program := "ythihdafdhndfcaa", sum := "400d92bb1a352c9057cca860ddec58b193c8a9a60053af72ac3959baca0b1e6a", func := "downtilt/downtiltlaw04.WaveSequences", spec := "waveSequences", unfollowed := true, recurses := true, apart := false }
def WaveSequencesSaid : Prop := waveSequencesRow.holds Try.pinned (OpenSpec.ofChange waveSequencesSpec)

/-- ITS FALSE NEIGHBOUR: 'it returns false'. Refute it at one input. -/
def waveSequencesWrong : ChangeSpec := { name := "waveSequences", fn := fun _ => fun
  | [d1, d2] => { results := [.lit (.bool false)], args := [d1, d2] }
  | _ => none }
def WaveSequencesWrongFalsely : Prop := waveSequencesRow.holds Try.pinned (OpenSpec.ofChange waveSequencesWrong)

/-- 'downtiltlaw04.WaveApart': WHATEVER THE INPUT: true; the input reads as it did. -/
def waveApartSpec : ChangeSpec := { name := "waveApart", fn := fun _ => fun
  | [d1, d2] => { results := [.lit (.bool true)], args := [d1, d2] }
  | _ => none }
def waveApartRow : OpenClaim := { program := "ythihdafdhndfcaa", sum := "400d92bb1a352c9057cca860ddec58b193c8a9a60053af72ac3959baca0b1e6a", func := "downtilt/downtiltlaw04.WaveApart", spec := "waveApart", unfollowed := true, recurses := true, apart := false }
def WaveApartSaid : Prop := waveApartRow.holds Try.pinned (OpenSpec.ofChange waveApartSpec)

/-- ITS FALSE NEIGHBOUR: 'it returns false'. Refute it at one input. -/
def waveApartWrong : ChangeSpec := { name := "waveApart", fn := fun _ => fun
  | [d1, d2] => { results := [.lit (.bool false)], args := [d1, d2] }
  | _ => none }
def WaveApartWrongFalsely : Prop := waveApartRow.holds Try.pinned (OpenSpec.ofChange waveApartWrong)

/- THE SECOND FORM. 'bulk': how many values and letters a reading holds, each counted each time it is reached (what is shared counts as often as it is met; a slice's spare places count too). A statement '..UptoSaid' is the law's where the arguments, and the package variables that the reading takes, are together of bulk at most 1048576: NARROWER than '..Said'. Prove '..Said' where nothing that the law and all that it calls make is longer than what came in: it says more and counts as full. Else prove '..UptoSaid'. A law counts once. -/
mutual
def uptoBulk {H : Type} : DataW H → Nat
  | .lit (.string bytes) => bytes.length + 1
  | .lit _ => 1
  | .nil => 1
  | .ptr d => uptoBulk d + 1
  | .slice elems spare => uptoBulkAll elems + uptoBulkAll spare + 1
  | .agg parts => uptoBulkAll parts + 1
  | .iface _ d => uptoBulk d + 1
  | .map entries => uptoBulkEntries entries + 1
  | .held _ => 1
def uptoBulkAll {H : Type} : List (DataW H) → Nat
  | [] => 0
  | d :: r => uptoBulk d + uptoBulkAll r
def uptoBulkEntries {H : Type} : List (Lit × DataW H) → Nat
  | [] => 0
  | x :: r => uptoBulkEntry x + uptoBulkEntries r
def uptoBulkEntry {H : Type} : Lit × DataW H → Nat
  | (.string bytes, d) => bytes.length + uptoBulk d + 1
  | (_, d) => uptoBulk d + 1
 end
def uptoSmall : (H : Type) → List (DataW H) → Bool := fun _ ds => decide (uptoBulkAll ds ≤ 1048576)
def OpenSpec.upto (s : _root_.Go.ChangeSpec) : _root_.Go.OpenSpec := { _root_.Go.OpenSpec.ofChange s with cond := some uptoSmall }

/-- 'downtiltlaw04.WaveNumbers', WHERE WHAT IT READS IS OF BULK AT MOST 1048576: true; the input reads as it did. -/
def waveNumbersUptoRow : OpenClaim := { program := "ythihdafdhndfcaa", sum := "400d92bb1a352c9057cca860ddec58b193c8a9a60053af72ac3959baca0b1e6a", func := "downtilt/downtiltlaw04.WaveNumbers", spec := "waveNumbers", unfollowed := true, recurses := true, apart := false, narrowed := true }
def WaveNumbersUptoSaid : Prop := waveNumbersUptoRow.holds Try.pinned (OpenSpec.upto waveNumbersSpec)

/-- 'downtiltlaw04.WaveSquares', WHERE WHAT IT READS IS OF BULK AT MOST 1048576: true; the input reads as it did. -/
def waveSquaresUptoRow : OpenClaim := { program := "ythihdafdhndfcaa", sum := "400d92bb1a352c9057cca860ddec58b193c8a9a60053af72ac3959baca0b1e6a", func := "downtilt/downtiltlaw04.WaveSquares", spec := "waveSquares", unfollowed := true, recurses := true, apart := false, narrowed := true }
def WaveSquaresUptoSaid : Prop := waveSquaresUptoRow.holds Try.pinned (OpenSpec.upto waveSquaresSpec)

/-- 'downtiltlaw04.WaveOffsets', WHERE WHAT IT READS IS OF BULK AT MOST 1048576: true; the input reads as it did. -/
def waveOffsetsUptoRow : OpenClaim := { program := "ythihdafdhndfcaa", sum := "400d92bb1a352c9057cca860ddec58b193c8a9a60053af72ac3959baca0b1e6a", func := "downtilt/downtiltlaw04.WaveOffsets", spec := "waveOffsets", unfollowed := true, recurses := true, apart := false, narrowed := true }
def WaveOffsetsUptoSaid : Prop := waveOffsetsUptoRow.holds Try.pinned (OpenSpec.upto waveOffsetsSpec)

/-- 'downtiltlaw04.WaveSequences', WHERE WHAT IT READS IS OF BULK AT MOST 1048576: true; the input reads as it did. -/
def waveSequencesUptoRow : OpenClaim := { program := "ythihdafdhndfcaa", sum := "400d92bb1a352c9057cca860ddec58b193c8a9a60053af72ac3959baca0b1e6a", func := "downtilt/downtiltlaw04.WaveSequences", spec := "waveSequences", unfollowed := true, recurses := true, apart := false, narrowed := true }
def WaveSequencesUptoSaid : Prop := waveSequencesUptoRow.holds Try.pinned (OpenSpec.upto waveSequencesSpec)

/-- 'downtiltlaw04.WaveApart', WHERE WHAT IT READS IS OF BULK AT MOST 1048576: true; the input reads as it did. -/
def waveApartUptoRow : OpenClaim := { program := "ythihdafdhndfcaa", sum := "400d92bb1a352c9057cca860ddec58b193c8a9a60053af72ac3959baca0b1e6a", func := "downtilt/downtiltlaw04.WaveApart", spec := "waveApart", unfollowed := true, recurses := true, apart := false, narrowed := true }
def WaveApartUptoSaid : Prop := waveApartUptoRow.holds Try.pinned (OpenSpec.upto waveApartSpec)

end Rows
end Go.Proofs.Ythihdafdhndfcaa
