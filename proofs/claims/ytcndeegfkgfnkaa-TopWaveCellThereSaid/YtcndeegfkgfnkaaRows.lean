/-
  No cell of these rows narrows 'for every input' (looked for: loops, veiled, ifaces, maps, wideKeys, modest, calm, conditions, laid).
  DERIVED. THE GIVEN ROWS OF THIS SEAT. 2 by the template 'for every input the law returns true; each argument reads behind the call as it read before'; 0 by the template 'total and deterministic' (their statements: YtcndeegfkgfnkaaTotals.lean).
  GIVEN WITH THE SEED: the statements are not yours to turn. If you find one false, say at which input.
  Laid BY PROGRAM, IN A SANDBOX (cutbox-rows.mjs): the forced cells as the released guide's own fill.sh prints them over the translation bfde198c546f95b8… (all of the seat's roots in one cut). By AI agents, Wed Nov 11 2026. No macro, syntax, notation, axiom, sorry.
-/
import Derived.Test.YtcndeegfkgfnkaaChecked
import GoSem.Claim
import GoSem.ClaimJoined
import GoSem.ClaimMapViews
import Derived.JoinedTies
import Derived.KernelRfl
namespace Go.Proofs.Ytcndeegfkgfnkaa
/- THE CELL 'sum', in the pinned program and in every row, IS THE sha256 OF THE DUMP (.gsa) THAT YtcndeegfkgfnkaaProg.lean LOADS. Nothing in Lean hashes anything: it is a label: what it is worth is what the hold of that sum in a sandbox is worth. -/
noncomputable def Try.pinned : Pinned := { name := "ytcndeegfkgfnkaa", sum := "bfde198c546f95b8363ad6ed28a58721a58a86a127962c8353b8be9e43963935", checked := Try.checked }
namespace Rows
def none {H : Type} : Left H := { results := [], args := [] }

/-- 'downtiltlaw04.WaveFinds': WHATEVER THE INPUT: true; the input reads as it did. -/
def waveFindsSpec : ChangeSpec := { name := "waveFinds", fn := fun _ => fun
  | [d] => { results := [.lit (.bool true)], args := [d] }
  | _ => none }
def waveFindsRow : OpenClaim := { program := "ytcndeegfkgfnkaa", sum := "bfde198c546f95b8363ad6ed28a58721a58a86a127962c8353b8be9e43963935", func := "downtilt/downtiltlaw04.WaveFinds", spec := "waveFinds", unfollowed := true, recurses := true, apart := false }
def WaveFindsSaid : Prop := waveFindsRow.holds Try.pinned (OpenSpec.ofChange waveFindsSpec)

/-- ITS FALSE NEIGHBOUR: 'it returns false'. Refute it at one input. -/
def waveFindsWrong : ChangeSpec := { name := "waveFinds", fn := fun _ => fun
  | [d] => { results := [.lit (.bool false)], args := [d] }
  | _ => none }
def WaveFindsWrongFalsely : Prop := waveFindsRow.holds Try.pinned (OpenSpec.ofChange waveFindsWrong)

/-- 'downtilttop.TopWaveCellThere': WHATEVER THE INPUT: true; the input reads as it did. -/
def topWaveCellThereSpec : ChangeSpec := { name := "topWaveCellThere", fn := fun _ => fun
  | [d1, d2, d3] => { results := [.lit (.bool true)], args := [d1, d2, d3] }
  | _ => none }
def topWaveCellThereRow : OpenClaim := { program := "ytcndeegfkgfnkaa", sum := "bfde198c546f95b8363ad6ed28a58721a58a86a127962c8353b8be9e43963935", func := "downtilt/downtilttop.TopWaveCellThere", spec := "topWaveCellThere", unfollowed := true, recurses := true, apart := false }
def TopWaveCellThereSaid : Prop := topWaveCellThereRow.holds Try.pinned (OpenSpec.ofChange topWaveCellThereSpec)

/-- ITS FALSE NEIGHBOUR: 'it returns false'. Refute it at one input. -/
def topWaveCellThereWrong : ChangeSpec := { name := "topWaveCellThere", fn := fun _ => fun
  | [d1, d2, d3] => { results := [.lit (.bool false)], args := [d1, d2, d3] }
  | _ => none }
def TopWaveCellThereWrongFalsely : Prop := topWaveCellThereRow.holds Try.pinned (OpenSpec.ofChange topWaveCellThereWrong)

/- THE SECOND FORM. 'bulk': how many values and letters a reading holds, each counted each time it is reached (what is shared counts as often as it is met; a slice's spare places count too). A statement '..UptoSaid' is the law's where the arguments, and the package variables that the reading takes, are together of bulk at most 1048576: NARROWER than '..Said'. Prove '..Said' where nothing that the law and all that it calls make is longer than what came in: it says more and counts as full. Else prove '..UptoSaid'. A law counts once. -/
mutual
def uptoBulk {H : Type} : DataW H → Nat
  | .lit (.string bytes) => bytes.length + 1
  | .lit _ => 1
  | .nil => 1
  | .ptr d => uptoBulk d + 1
  | .slice elems spare => uptoBulkAll elems + uptoBulkAll spare + 1
  | .agg parts => uptoBulkAll parts + 1
  | .iface _ d => uptoBulk d + 1
  | .map entries => uptoBulkEntries entries + 1
  | .held _ => 1
def uptoBulkAll {H : Type} : List (DataW H) → Nat
  | [] => 0
  | d :: r => uptoBulk d + uptoBulkAll r
def uptoBulkEntries {H : Type} : List (Lit × DataW H) → Nat
  | [] => 0
  | x :: r => uptoBulkEntry x + uptoBulkEntries r
def uptoBulkEntry {H : Type} : Lit × DataW H → Nat
  | (.string bytes, d) => bytes.length + uptoBulk d + 1
  | (_, d) => uptoBulk d + 1
 end
def uptoSmall : (H : Type) → List (DataW H) → Bool := fun _ ds => decide (uptoBulkAll ds ≤ 1048576)
def OpenSpec.upto (s : _root_.Go.ChangeSpec) : _root_.Go.OpenSpec := { _root_.Go.OpenSpec.ofChange s with cond := some uptoSmall }

/-- 'downtiltlaw04.WaveFinds', WHERE WHAT IT READS IS OF BULK AT MOST 1048576: true; the input reads as it did. -/
def waveFindsUptoRow : OpenClaim := { program := "ytcndeegfkgfnkaa", sum := "bfde198c546f95b8363ad6ed28a58721a58a86a127962c8353b8be9e43963935", func := "downtilt/downtiltlaw04.WaveFinds", spec := "waveFinds", unfollowed := true, recurses := true, apart := false, narrowed := true }
def WaveFindsUptoSaid : Prop := waveFindsUptoRow.holds Try.pinned (OpenSpec.upto waveFindsSpec)

/-- 'downtilttop.TopWaveCellThere', WHERE WHAT IT READS IS OF BULK AT MOST 1048576: true; the input reads as it did. -/
def topWaveCellThereUptoRow : OpenClaim := { program := "ytcndeegfkgfnkaa", sum := "bfde198c546f95b8363ad6ed28a58721a58a86a127962c8353b8be9e43963935", func := "downtilt/downtilttop.TopWaveCellThere", spec := "topWaveCellThere", unfollowed := true, recurses := true, apart := false, narrowed := true }
def TopWaveCellThereUptoSaid : Prop := topWaveCellThereUptoRow.holds Try.pinned (OpenSpec.upto topWaveCellThereSpec)

end Rows
end Go.Proofs.Ytcndeegfkgfnkaa
