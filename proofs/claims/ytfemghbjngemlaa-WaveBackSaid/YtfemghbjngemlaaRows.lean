/-
  No cell of these rows narrows 'for every input' (looked for: loops, veiled, ifaces, maps, wideKeys, modest, calm, conditions, laid).
  DERIVED. THE GIVEN ROWS OF THIS SEAT. 5 by the template 'for every input the law returns true; each argument reads behind the call as it read before'; 0 by the template 'total and deterministic' (their statements: YtfemghbjngemlaaTotals.lean).
  GIVEN WITH THE SEED: the statements are not yours to turn. If you find one false, say at which input.
  Laid BY PROGRAM, IN A SANDBOX (cutbox-rows.mjs): the forced cells as the released guide's own fill.sh prints them over the translation 94ea4253355ff0ed… (all of the seat's roots in one cut). By AI agents, Wed Nov 11 2026. No macro, syntax, notation, axiom, sorry.
-/
import Derived.Test.YtfemghbjngemlaaChecked
import GoSem.Claim
import GoSem.ClaimJoined
import GoSem.ClaimMapViews
import Derived.JoinedTies
import Derived.KernelRfl
namespace Go.Proofs.Ytfemghbjngemlaa
/- THE CELL 'sum', in the pinned program and in every row, IS THE sha256 OF THE DUMP (.gsa) THAT YtfemghbjngemlaaProg.lean LOADS. Nothing in Lean hashes anything: it is a label: what it is worth is what the hold of that sum in a sandbox is worth. -/
noncomputable def Try.pinned : Pinned := { name := "ytfemghbjngemlaa", sum := "94ea4253355ff0edd8fa83bba3fc7ca970a5277ad3da26ed67fb4be5e4e93253", checked := Try.checked }
namespace Rows
def none {H : Type} : Left H := { results := [], args := [] }

/-- 'downtiltlaw04.WaveTransforms': WHATEVER THE INPUT: true; the input reads as it did. -/
def waveTransformsSpec : ChangeSpec := { name := "waveTransforms", fn := fun _ => fun
  | [d1, d2] => { results := [.lit (.bool true)], args := [d1, d2] }
  | _ => none }
def waveTransformsRow : OpenClaim := { program := "ytfemghbjngemlaa", sum := "94ea4253355ff0edd8fa83bba3fc7ca970a5277ad3da26ed67fb4be5e4e93253", func := "downtilt/downtiltlaw04.WaveTransforms", spec := "waveTransforms", unfollowed := true, recurses := true, apart := false }
def WaveTransformsSaid : Prop := waveTransformsRow.holds Try.pinned (OpenSpec.ofChange waveTransformsSpec)

/-- ITS FALSE NEIGHBOUR: 'it returns false'. Refute it at one input. -/
def waveTransformsWrong : ChangeSpec := { name := "waveTransforms", fn := fun _ => fun
  | [d1, d2] => { results := [.lit (.bool false)], args := [d1, d2] }
  | _ => none }
def WaveTransformsWrongFalsely : Prop := waveTransformsRow.holds Try.pinned (OpenSpec.ofChange waveTransformsWrong)

/-- 'downtiltlaw04.WaveBack': WHATEVER THE INPUT: true; the input reads as it did. -/
def waveBackSpec : ChangeSpec := { name := "waveBack", fn := fun _ => fun
  | [d1, d2, d3] => { results := [.lit (.bool true)], args := [d1, d2, d3] }
  | _ => none }
def waveBackRow : OpenClaim := { program := "ytfemghbjngemlaa", sum := "94ea4253355ff0edd8fa83bba3fc7ca970a5277ad3da26ed67fb4be5e4e93253", func := "downtilt/downtiltlaw04.WaveBack", spec := "waveBack", unfollowed := true, recurses := true, apart := false }
def WaveBackSaid : Prop := waveBackRow.holds Try.pinned (OpenSpec.ofChange waveBackSpec)

/-- ITS FALSE NEIGHBOUR: 'it returns false'. Refute it at one input. -/
def waveBackWrong : ChangeSpec := { name := "waveBack", fn := fun _ => fun
  | [d1, d2, d3] => { results := [.lit (.bool false)], args := [d1, d2, d3] }
  | _ => none }
def WaveBackWrongFalsely : Prop := waveBackRow.holds Try.pinned (OpenSpec.ofChange waveBackWrong)

/-- 'downtiltlaw04.WaveStreams': WHATEVER THE INPUT: true; the input reads as it did. -/
def waveStreamsSpec : ChangeSpec := { name := "waveStreams", fn := fun _ => fun
  | [d1, d2, d3] => { results := [.lit (.bool true)], args := [d1, d2, d3] }
  | _ => none }
def waveStreamsRow : OpenClaim := { program := "ytfemghbjngemlaa", sum := "94ea4253355ff0edd8fa83bba3fc7ca970a5277ad3da26ed67fb4be5e4e93253", func := "downtilt/downtiltlaw04.WaveStreams", spec := "waveStreams", unfollowed := true, recurses := true, apart := false }
def WaveStreamsSaid : Prop := waveStreamsRow.holds Try.pinned (OpenSpec.ofChange waveStreamsSpec)

/-- ITS FALSE NEIGHBOUR: 'it returns false'. Refute it at one input. -/
def waveStreamsWrong : ChangeSpec := { name := "waveStreams", fn := fun _ => fun
  | [d1, d2, d3] => { results := [.lit (.bool false)], args := [d1, d2, d3] }
  | _ => none }
def WaveStreamsWrongFalsely : Prop := waveStreamsRow.holds Try.pinned (OpenSpec.ofChange waveStreamsWrong)

/-- 'downtiltlaw04.WavePaths': WHATEVER THE INPUT: true; the input reads as it did. -/
def wavePathsSpec : ChangeSpec := { name := "wavePaths", fn := fun _ => fun
  | [d1, d2] => { results := [.lit (.bool true)], args := [d1, d2] }
  | _ => none }
def wavePathsRow : OpenClaim := { program := "ytfemghbjngemlaa", sum := "94ea4253355ff0edd8fa83bba3fc7ca970a5277ad3da26ed67fb4be5e4e93253", func := "downtilt/downtiltlaw04.WavePaths", spec := "wavePaths", unfollowed := true, recurses := true, apart := false }
def WavePathsSaid : Prop := wavePathsRow.holds Try.pinned (OpenSpec.ofChange wavePathsSpec)

/-- ITS FALSE NEIGHBOUR: 'it returns false'. Refute it at one input. -/
def wavePathsWrong : ChangeSpec := { name := "wavePaths", fn := fun _ => fun
  | [d1, d2] => { results := [.lit (.bool false)], args := [d1, d2] }
  | _ => none }
def WavePathsWrongFalsely : Prop := wavePathsRow.holds Try.pinned (OpenSpec.ofChange wavePathsWrong)

/-- 'downtiltlaw04.WaveChannel': WHATEVER THE INPUT: true; the input reads as it did. -/
def waveChannelSpec : ChangeSpec := { name := "waveChannel", fn := fun _ => fun
  | [d1, d2, d3] => { results := [.lit (.bool true)], args := [d1, d2, d3] }
  | _ => none }
def waveChannelRow : OpenClaim := { program := "ytfemghbjngemlaa", sum := "94ea4253355ff0edd8fa83bba3fc7ca970a5277ad3da26ed67fb4be5e4e93253", func := "downtilt/downtiltlaw04.WaveChannel", spec := "waveChannel", unfollowed := true, recurses := true, apart := false }
def WaveChannelSaid : Prop := waveChannelRow.holds Try.pinned (OpenSpec.ofChange waveChannelSpec)

/-- ITS FALSE NEIGHBOUR: 'it returns false'. Refute it at one input. -/
def waveChannelWrong : ChangeSpec := { name := "waveChannel", fn := fun _ => fun
  | [d1, d2, d3] => { results := [.lit (.bool false)], args := [d1, d2, d3] }
  | _ => none }
def WaveChannelWrongFalsely : Prop := waveChannelRow.holds Try.pinned (OpenSpec.ofChange waveChannelWrong)

/- THE SECOND FORM. 'bulk': how many values and letters a reading holds, each counted each time it is reached (what is shared counts as often as it is met; a slice's spare places count too). A statement '..UptoSaid' is the law's where the arguments, and the package variables that the reading takes, are together of bulk at most 1048576: NARROWER than '..Said'. Prove '..Said' where nothing that the law and all that it calls make is longer than what came in: it says more and counts as full. Else prove '..UptoSaid'. A law counts once. -/
mutual
def uptoBulk {H : Type} : DataW H → Nat
  | .lit (.string bytes) => bytes.length + 1
  | .lit _ => 1
  | .nil => 1
  | .ptr d => uptoBulk d + 1
  | .slice elems spare => uptoBulkAll elems + uptoBulkAll spare + 1
  | .agg parts => uptoBulkAll parts + 1
  | .iface _ d => uptoBulk d + 1
  | .map entries => uptoBulkEntries entries + 1
  | .held _ => 1
def uptoBulkAll {H : Type} : List (DataW H) → Nat
  | [] => 0
  | d :: r => uptoBulk d + uptoBulkAll r
def uptoBulkEntries {H : Type} : List (Lit × DataW H) → Nat
  | [] => 0
  | x :: r => uptoBulkEntry x + uptoBulkEntries r
def uptoBulkEntry {H : Type} : Lit × DataW H → Nat
  | (.string bytes, d) => bytes.length + uptoBulk d + 1
  | (_, d) => uptoBulk d + 1
 end
def uptoSmall : (H : Type) → List (DataW H) → Bool := fun _ ds => decide (uptoBulkAll ds ≤ 1048576)
def OpenSpec.upto (s : _root_.Go.ChangeSpec) : _root_.Go.OpenSpec := { _root_.Go.OpenSpec.ofChange s with cond := some uptoSmall }

/-- 'downtiltlaw04.WaveTransforms', WHERE WHAT IT READS IS OF BULK AT MOST 1048576: true; the input reads as it did. -/
def waveTransformsUptoRow : OpenClaim := { program := "ytfemghbjngemlaa", sum := "94ea4253355ff0edd8fa83bba3fc7ca970a5277ad3da26ed67fb4be5e4e93253", func := "downtilt/downtiltlaw04.WaveTransforms", spec := "waveTransforms", unfollowed := true, recurses := true, apart := false, narrowed := true }
def WaveTransformsUptoSaid : Prop := waveTransformsUptoRow.holds Try.pinned (OpenSpec.upto waveTransformsSpec)

/-- 'downtiltlaw04.WaveBack', WHERE WHAT IT READS IS OF BULK AT MOST 1048576: true; the input reads as it did. -/
def waveBackUptoRow : OpenClaim := { program := "ytfemghbjngemlaa", sum := "94ea4253355ff0edd8fa83bba3fc7ca970a5277ad3da26ed67fb4be5e4e93253", func := "downtilt/downtiltlaw04.WaveBack", spec := "waveBack", unfollowed := true, recurses := true, apart := false, narrowed := true }
def WaveBackUptoSaid : Prop := waveBackUptoRow.holds Try.pinned (OpenSpec.upto waveBackSpec)

/-- 'downtiltlaw04.WaveStreams', WHERE WHAT IT READS IS OF BULK AT MOST 1048576: true; the input reads as it did. -/
def waveStreamsUptoRow : OpenClaim := { program := "ytfemghbjngemlaa", sum := "94ea4253355ff0edd8fa83bba3fc7ca970a5277ad3da26ed67fb4be5e4e93253", func := "downtilt/downtiltlaw04.WaveStreams", spec := "waveStreams", unfollowed := true, recurses := true, apart := false, narrowed := true }
def WaveStreamsUptoSaid : Prop := waveStreamsUptoRow.holds Try.pinned (OpenSpec.upto waveStreamsSpec)

/-- 'downtiltlaw04.WavePaths', WHERE WHAT IT READS IS OF BULK AT MOST 1048576: true; the input reads as it did. -/
def wavePathsUptoRow : OpenClaim := { program := "ytfemghbjngemlaa", sum := "94ea4253355ff0edd8fa83bba3fc7ca970a5277ad3da26ed67fb4be5e4e93253", func := "downtilt/downtiltlaw04.WavePaths", spec := "wavePaths", unfollowed := true, recurses := true, apart := false, narrowed := true }
def WavePathsUptoSaid : Prop := wavePathsUptoRow.holds Try.pinned (OpenSpec.upto wavePathsSpec)

/-- 'downtiltlaw04.WaveChannel', WHERE WHAT IT READS IS OF BULK AT MOST 1048576: true; the input reads as it did. -/
def waveChannelUptoRow : OpenClaim := { program := "ytfemghbjngemlaa", sum := "94ea4253355ff0edd8fa83bba3fc7ca970a5277ad3da26ed67fb4be5e4e93253", func := "downtilt/downtiltlaw04.WaveChannel", spec := "waveChannel", unfollowed := true, recurses := true, apart := false, narrowed := true }
def WaveChannelUptoSaid : Prop := waveChannelUptoRow.holds Try.pinned (OpenSpec.upto waveChannelSpec)

end Rows
end Go.Proofs.Ytfemghbjngemlaa
