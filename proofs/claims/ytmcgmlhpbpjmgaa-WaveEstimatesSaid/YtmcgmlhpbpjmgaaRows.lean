/-
  No cell of these rows narrows 'for every input' (looked for: loops, veiled, ifaces, maps, wideKeys, modest, calm, conditions, laid).
  DERIVED. THE GIVEN ROWS OF THIS SEAT. 4 by the template 'for every input the law returns true; each argument reads behind the call as it read before'; 0 by the template 'total and deterministic' (their statements: YtmcgmlhpbpjmgaaTotals.lean).
  GIVEN WITH THE SEED: the statements are not yours to turn. If you find one false, say at which input.
  Laid BY PROGRAM, IN A SANDBOX (cutbox-rows.mjs): the forced cells as the released guide's own fill.sh prints them over the translation 03c3a39f7afdb2e2… (all of the seat's roots in one cut). By AI agents, Wed Nov 11 2026. No macro, syntax, notation, axiom, sorry.
-/
import Derived.Test.YtmcgmlhpbpjmgaaChecked
import GoSem.Claim
import GoSem.ClaimJoined
import GoSem.ClaimMapViews
import Derived.JoinedTies
import Derived.KernelRfl
namespace Go.Proofs.Ytmcgmlhpbpjmgaa
/- THE CELL 'sum', in the pinned program and in every row, IS THE sha256 OF THE DUMP (.gsa) THAT YtmcgmlhpbpjmgaaProg.lean LOADS. Nothing in Lean hashes anything: it is a label: what it is worth is what the hold of that sum in a sandbox is worth. -/
noncomputable def Try.pinned : Pinned := { name := "ytmcgmlhpbpjmgaa", sum := "03c3a39f7afdb2e250ccaee919540ffb5122cae7917ddb84ae2b7c1f4f247312", checked := Try.checked }
namespace Rows
def none {H : Type} : Left H := { results := [], args := [] }

/-- 'downtiltlaw04.WaveOffsets': WHATEVER THE INPUT: true; the input reads as it did. -/
def waveOffsetsSpec : ChangeSpec := { name := "waveOffsets", fn := fun _ => fun
  | [d1, d2, d3] => { results := [.lit (.bool true)], args := [d1, d2, d3] }
  | _ => none }
def waveOffsetsRow : OpenClaim := { program := "ytmcgmlhpbpjmgaa", sum := "03c3a39f7afdb2e250ccaee919540ffb5122cae7917ddb84ae2b7c1f4f247312", func := "downtilt/downtiltlaw04.WaveOffsets", spec := "waveOffsets", unfollowed := true, recurses := true, apart := false }
def WaveOffsetsSaid : Prop := waveOffsetsRow.holds Try.pinned (OpenSpec.ofChange waveOffsetsSpec)

/-- ITS FALSE NEIGHBOUR: 'it returns false'. Refute it at one input. -/
def waveOffsetsWrong : ChangeSpec := { name := "waveOffsets", fn := fun _ => fun
  | [d1, d2, d3] => { results := [.lit (.bool false)], args := [d1, d2, d3] }
  | _ => none }
def WaveOffsetsWrongFalsely : Prop := waveOffsetsRow.holds Try.pinned (OpenSpec.ofChange waveOffsetsWrong)

/-- 'downtiltlaw04.WaveClips': WHATEVER THE INPUT: true; the input reads as it did. -/
def waveClipsSpec : ChangeSpec := { name := "waveClips", fn := fun _ => fun
  | [d1, d2, d3] => { results := [.lit (.bool true)], args := [d1, d2, d3] }
  | _ => none }
def waveClipsRow : OpenClaim := { program := "ytmcgmlhpbpjmgaa", sum := "03c3a39f7afdb2e250ccaee919540ffb5122cae7917ddb84ae2b7c1f4f247312", func := "downtilt/downtiltlaw04.WaveClips", spec := "waveClips", unfollowed := true, recurses := true, apart := false }
def WaveClipsSaid : Prop := waveClipsRow.holds Try.pinned (OpenSpec.ofChange waveClipsSpec)

/-- ITS FALSE NEIGHBOUR: 'it returns false'. Refute it at one input. -/
def waveClipsWrong : ChangeSpec := { name := "waveClips", fn := fun _ => fun
  | [d1, d2, d3] => { results := [.lit (.bool false)], args := [d1, d2, d3] }
  | _ => none }
def WaveClipsWrongFalsely : Prop := waveClipsRow.holds Try.pinned (OpenSpec.ofChange waveClipsWrong)

/-- 'downtiltlaw04.WaveEstimates': WHATEVER THE INPUT: true; the input reads as it did. -/
def waveEstimatesSpec : ChangeSpec := { name := "waveEstimates", fn := fun _ => fun
  | [d1, d2, d3] => { results := [.lit (.bool true)], args := [d1, d2, d3] }
  | _ => none }
def waveEstimatesRow : OpenClaim := { program := "ytmcgmlhpbpjmgaa", sum := "03c3a39f7afdb2e250ccaee919540ffb5122cae7917ddb84ae2b7c1f4f247312", func := "downtilt/downtiltlaw04.WaveEstimates", spec := "waveEstimates", unfollowed := true, recurses := true, apart := false }
def WaveEstimatesSaid : Prop := waveEstimatesRow.holds Try.pinned (OpenSpec.ofChange waveEstimatesSpec)

/-- ITS FALSE NEIGHBOUR: 'it returns false'. Refute it at one input. -/
def waveEstimatesWrong : ChangeSpec := { name := "waveEstimates", fn := fun _ => fun
  | [d1, d2, d3] => { results := [.lit (.bool false)], args := [d1, d2, d3] }
  | _ => none }
def WaveEstimatesWrongFalsely : Prop := waveEstimatesRow.holds Try.pinned (OpenSpec.ofChange waveEstimatesWrong)

/-- 'downtiltlaw04.WaveBetween': WHATEVER THE INPUT: true; the input reads as it did. -/
def waveBetweenSpec : ChangeSpec := { name := "waveBetween", fn := fun _ => fun
  | [d1, d2] => { results := [.lit (.bool true)], args := [d1, d2] }
  | _ => none }
def waveBetweenRow : OpenClaim := { program := "ytmcgmlhpbpjmgaa", sum := "03c3a39f7afdb2e250ccaee919540ffb5122cae7917ddb84ae2b7c1f4f247312", func := "downtilt/downtiltlaw04.WaveBetween", spec := "waveBetween", unfollowed := true, recurses := true, apart := false }
def WaveBetweenSaid : Prop := waveBetweenRow.holds Try.pinned (OpenSpec.ofChange waveBetweenSpec)

/-- ITS FALSE NEIGHBOUR: 'it returns false'. Refute it at one input. -/
def waveBetweenWrong : ChangeSpec := { name := "waveBetween", fn := fun _ => fun
  | [d1, d2] => { results := [.lit (.bool false)], args := [d1, d2] }
  | _ => none }
def WaveBetweenWrongFalsely : Prop := waveBetweenRow.holds Try.pinned (OpenSpec.ofChange waveBetweenWrong)

/- THE SECOND FORM. 'bulk': how many values and letters a reading holds, each counted each time it is reached (what is shared counts as often as it is met; a slice's spare places count too). A statement '..UptoSaid' is the law's where the arguments, and the package variables that the reading takes, are together of bulk at most 1048576: NARROWER than '..Said'. Prove '..Said' where nothing that the law and all that it calls make is longer than what came in: it says more and counts as full. Else prove '..UptoSaid'. A law counts once. -/
mutual
def uptoBulk {H : Type} : DataW H → Nat
  | .lit (.string bytes) => bytes.length + 1
  | .lit _ => 1
  | .nil => 1
  | .ptr d => uptoBulk d + 1
  | .slice elems spare => uptoBulkAll elems + uptoBulkAll spare + 1
  | .agg parts => uptoBulkAll parts + 1
  | .iface _ d => uptoBulk d + 1
  | .map entries => uptoBulkEntries entries + 1
  | .held _ => 1
def uptoBulkAll {H : Type} : List (DataW H) → Nat
  | [] => 0
  | d :: r => uptoBulk d + uptoBulkAll r
def uptoBulkEntries {H : Type} : List (Lit × DataW H) → Nat
  | [] => 0
  | x :: r => uptoBulkEntry x + uptoBulkEntries r
def uptoBulkEntry {H : Type} : Lit × DataW H → Nat
  | (.string bytes, d) => bytes.length + uptoBulk d + 1
  | (_, d) => uptoBulk d + 1
 end
def uptoSmall : (H : Type) → List (DataW H) → Bool := fun _ ds => decide (uptoBulkAll ds ≤ 1048576)
def OpenSpec.upto (s : _root_.Go.ChangeSpec) : _root_.Go.OpenSpec := { _root_.Go.OpenSpec.ofChange s with cond := some uptoSmall }

/-- 'downtiltlaw04.WaveOffsets', WHERE WHAT IT READS IS OF BULK AT MOST 1048576: true; the input reads as it did. -/
def waveOffsetsUptoRow : OpenClaim := { program := "ytmcgmlhpbpjmgaa", sum := "03c3a39f7afdb2e250ccaee919540ffb5122cae7917ddb84ae2b7c1f4f247312", func := "downtilt/downtiltlaw04.WaveOffsets", spec := "waveOffsets", unfollowed := true, recurses := true, apart := false, narrowed := true }
def WaveOffsetsUptoSaid : Prop := waveOffsetsUptoRow.holds Try.pinned (OpenSpec.upto waveOffsetsSpec)

/-- 'downtiltlaw04.WaveClips', WHERE WHAT IT READS IS OF BULK AT MOST 1048576: true; the input reads as it did. -/
def waveClipsUptoRow : OpenClaim := { program := "ytmcgmlhpbpjmgaa", sum := "03c3a39f7afdb2e250ccaee919540ffb5122cae7917ddb84ae2b7c1f4f247312", func := "downtilt/downtiltlaw04.WaveClips", spec := "waveClips", unfollowed := true, recurses := true, apart := false, narrowed := true }
def WaveClipsUptoSaid : Prop := waveClipsUptoRow.holds Try.pinned (OpenSpec.upto waveClipsSpec)

/-- 'downtiltlaw04.WaveEstimates', WHERE WHAT IT READS IS OF BULK AT MOST 1048576: true; the input reads as it did. -/
def waveEstimatesUptoRow : OpenClaim := { program := "ytmcgmlhpbpjmgaa", sum := "03c3a39f7afdb2e250ccaee919540ffb5122cae7917ddb84ae2b7c1f4f247312", func := "downtilt/downtiltlaw04.WaveEstimates", spec := "waveEstimates", unfollowed := true, recurses := true, apart := false, narrowed := true }
def WaveEstimatesUptoSaid : Prop := waveEstimatesUptoRow.holds Try.pinned (OpenSpec.upto waveEstimatesSpec)

/-- 'downtiltlaw04.WaveBetween', WHERE WHAT IT READS IS OF BULK AT MOST 1048576: true; the input reads as it did. -/
def waveBetweenUptoRow : OpenClaim := { program := "ytmcgmlhpbpjmgaa", sum := "03c3a39f7afdb2e250ccaee919540ffb5122cae7917ddb84ae2b7c1f4f247312", func := "downtilt/downtiltlaw04.WaveBetween", spec := "waveBetween", unfollowed := true, recurses := true, apart := false, narrowed := true }
def WaveBetweenUptoSaid : Prop := waveBetweenUptoRow.holds Try.pinned (OpenSpec.upto waveBetweenSpec)

end Rows
end Go.Proofs.Ytmcgmlhpbpjmgaa
