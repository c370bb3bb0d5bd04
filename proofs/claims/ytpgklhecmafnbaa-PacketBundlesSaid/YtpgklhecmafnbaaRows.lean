/-
  No cell of these rows narrows 'for every input' (looked for: loops, veiled, ifaces, maps, wideKeys, modest, calm, conditions, laid).
  DERIVED. THE GIVEN ROWS OF THIS SEAT. 7 by the template 'for every input the law returns true; each argument reads behind the call as it read before'; 0 by the template 'total and deterministic' (their statements: YtpgklhecmafnbaaTotals.lean).
  GIVEN WITH THE SEED: the statements are not yours to turn. If you find one false, say at which input.
  Laid BY PROGRAM, IN A SANDBOX (cutbox-rows.mjs): the forced cells as the released guide's own fill.sh prints them over the translation 6ba4f8e6ccfc49b5… (all of the seat's roots in one cut). By AI agents, Wed Nov 11 2026. No macro, syntax, notation, axiom, sorry.
-/
import Derived.Test.YtpgklhecmafnbaaChecked
import GoSem.Claim
import GoSem.ClaimJoined
import GoSem.ClaimMapViews
import Derived.JoinedTies
import Derived.KernelRfl
namespace Go.Proofs.Ytpgklhecmafnbaa
/- THE CELL 'sum', in the pinned program and in every row, IS THE sha256 OF THE DUMP (.gsa) THAT YtpgklhecmafnbaaProg.lean LOADS. Nothing in Lean hashes anything: it is a label: what it is worth is what the hold of that sum in a sandbox is worth. -/
noncomputable def Try.pinned : Pinned := { name := "ytpgklhecmafnbaa", sum := "6ba4f8e6ccfc49b5b835edd08da77bc724787d413fc565243f37314e442e7ae4", checked := Try.checked }
namespace Rows
def none {H : Type} : Left H := { results := [], args := [] }

/-- 'flumelaw06.ChunkGets': WHATEVER THE INPUT: true; the input reads as it did. -/
def chunkGetsSpec : ChangeSpec := { name := "chunkGets", fn := fun _ => fun
  | [d] => { results := [.lit (.bool true)], args := [d] }
  | _ => none }
def chunkGetsRow : OpenClaim := { program := "ytpgklhecmafnbaa", sum := "6ba4f8e6ccfc49b5b835edd08da77bc724787d413fc565243f37314e442e7ae4", func := "flume/flumelaw06.ChunkGets", spec := "chunkGets", unfollowed := true, recurses := true, apart := false }
def ChunkGetsSaid : Prop := chunkGetsRow.holds Try.pinned (OpenSpec.ofChange chunkGetsSpec)

/-- ITS FALSE NEIGHBOUR: 'it returns false'. Refute it at one input. -/
def chunkGetsWrong : ChangeSpec := { name := "chunkGets", fn := fun _ => fun
  | [d] => { results := [.lit (.bool false)], args := [d] }
  | _ => none }
def ChunkGetsWrongFalsely : Prop := chunkGetsRow.holds Try.pinned (OpenSpec.ofChange chunkGetsWrong)

/-- 'flumelaw07.PacketPuts': WHATEVER THE INPUT: true; the input reads as it did. -/
def packetPutsSpec : ChangeSpec := { name := "packetPuts", fn := fun _ => fun
  | [d] => { results := [.lit (.bool true)], args := [d] }
  | _ => none }
def packetPutsRow : OpenClaim := { program := "ytpgklhecmafnbaa", sum := "6ba4f8e6ccfc49b5b835edd08da77bc724787d413fc565243f37314e442e7ae4", func := "flume/flumelaw07.PacketPuts", spec := "packetPuts", unfollowed := true, recurses := true, apart := false }
def PacketPutsSaid : Prop := packetPutsRow.holds Try.pinned (OpenSpec.ofChange packetPutsSpec)

/-- ITS FALSE NEIGHBOUR: 'it returns false'. Refute it at one input. -/
def packetPutsWrong : ChangeSpec := { name := "packetPuts", fn := fun _ => fun
  | [d] => { results := [.lit (.bool false)], args := [d] }
  | _ => none }
def PacketPutsWrongFalsely : Prop := packetPutsRow.holds Try.pinned (OpenSpec.ofChange packetPutsWrong)

/-- 'flumelaw07.PacketGets': WHATEVER THE INPUT: true; the input reads as it did. -/
def packetGetsSpec : ChangeSpec := { name := "packetGets", fn := fun _ => fun
  | [d1, d2] => { results := [.lit (.bool true)], args := [d1, d2] }
  | _ => none }
def packetGetsRow : OpenClaim := { program := "ytpgklhecmafnbaa", sum := "6ba4f8e6ccfc49b5b835edd08da77bc724787d413fc565243f37314e442e7ae4", func := "flume/flumelaw07.PacketGets", spec := "packetGets", unfollowed := true, recurses := true, apart := false }
def PacketGetsSaid : Prop := packetGetsRow.holds Try.pinned (OpenSpec.ofChange packetGetsSpec)

/-- ITS FALSE NEIGHBOUR: 'it returns false'. Refute it at one input. -/
def packetGetsWrong : ChangeSpec := { name := "packetGets", fn := fun _ => fun
  | [d1, d2] => { results := [.lit (.bool false)], args := [d1, d2] }
  | _ => none }
def PacketGetsWrongFalsely : Prop := packetGetsRow.holds Try.pinned (OpenSpec.ofChange packetGetsWrong)

/-- 'flumelaw07.PacketBundles': WHATEVER THE INPUT: true; the input reads as it did. -/
def packetBundlesSpec : ChangeSpec := { name := "packetBundles", fn := fun _ => fun
  | [d] => { results := [.lit (.bool true)], args := [d] }
  | _ => none }
def packetBundlesRow : OpenClaim := { program := "ytpgklhecmafnbaa", sum := "6ba4f8e6ccfc49b5b835edd08da77bc724787d413fc565243f37314e442e7ae4", func := "flume/flumelaw07.PacketBundles", spec := "packetBundles", unfollowed := true, recurses := true, apart := false }
def PacketBundlesSaid : Prop := packetBundlesRow.holds Try.pinned (OpenSpec.ofChange packetBundlesSpec)

/-- ITS FALSE NEIGHBOUR: 'it returns false'. Refute it at one input. -/
def packetBundlesWrong : ChangeSpec := { name := "packetBundles", fn := fun _ => fun
  | [d] => { results := [.lit (.bool false)], args := [d] }
  | _ => none }
def PacketBundlesWrongFalsely : Prop := packetBundlesRow.holds Try.pinned (OpenSpec.ofChange packetBundlesWrong)

/-- 'flumelaw07.PacketBroken': WHATEVER THE INPUT: true; the input reads as it did. -/
def packetBrokenSpec : ChangeSpec := { name := "packetBroken", fn := fun _ => fun
  | [d1, d2, d3] => { results := [.lit (.bool true)], args := [d1, d2, d3] }
  | _ => none }
def packetBrokenRow : OpenClaim := { program := "ytpgklhecmafnbaa", sum := "6ba4f8e6ccfc49b5b835edd08da77bc724787d413fc565243f37314e442e7ae4", func := "flume/flumelaw07.PacketBroken", spec := "packetBroken", unfollowed := true, recurses := true, apart := false }
def PacketBrokenSaid : Prop := packetBrokenRow.holds Try.pinned (OpenSpec.ofChange packetBrokenSpec)

/-- ITS FALSE NEIGHBOUR: 'it returns false'. Refute it at one input. -/
def packetBrokenWrong : ChangeSpec := { name := "packetBroken", fn := fun _ => fun
  | [d1, d2, d3] => { results := [.lit (.bool false)], args := [d1, d2, d3] }
  | _ => none }
def PacketBrokenWrongFalsely : Prop := packetBrokenRow.holds Try.pinned (OpenSpec.ofChange packetBrokenWrong)

/-- 'flumelaw07.PacketPasses': WHATEVER THE INPUT: true; the input reads as it did. -/
def packetPassesSpec : ChangeSpec := { name := "packetPasses", fn := fun _ => fun
  | [d1, d2, d3] => { results := [.lit (.bool true)], args := [d1, d2, d3] }
  | _ => none }
def packetPassesRow : OpenClaim := { program := "ytpgklhecmafnbaa", sum := "6ba4f8e6ccfc49b5b835edd08da77bc724787d413fc565243f37314e442e7ae4", func := "flume/flumelaw07.PacketPasses", spec := "packetPasses", unfollowed := true, recurses := true, apart := false }
def PacketPassesSaid : Prop := packetPassesRow.holds Try.pinned (OpenSpec.ofChange packetPassesSpec)

/-- ITS FALSE NEIGHBOUR: 'it returns false'. Refute it at one input. -/
def packetPassesWrong : ChangeSpec := { name := "packetPasses", fn := fun _ => fun
  | [d1, d2, d3] => { results := [.lit (.bool false)], args := [d1, d2, d3] }
  | _ => none }
def PacketPassesWrongFalsely : Prop := packetPassesRow.holds Try.pinned (OpenSpec.ofChange packetPassesWrong)

/-- 'flumelaw07.PacketAlone': WHATEVER THE INPUT: true; the input reads as it did. -/
def packetAloneSpec : ChangeSpec := { name := "packetAlone", fn := fun _ => fun
  | [d1, d2] => { results := [.lit (.bool true)], args := [d1, d2] }
  | _ => none }
def packetAloneRow : OpenClaim := { program := "ytpgklhecmafnbaa", sum := "6ba4f8e6ccfc49b5b835edd08da77bc724787d413fc565243f37314e442e7ae4", func := "flume/flumelaw07.PacketAlone", spec := "packetAlone", unfollowed := true, recurses := true, apart := false }
def PacketAloneSaid : Prop := packetAloneRow.holds Try.pinned (OpenSpec.ofChange packetAloneSpec)

/-- ITS FALSE NEIGHBOUR: 'it returns false'. Refute it at one input. -/
def packetAloneWrong : ChangeSpec := { name := "packetAlone", fn := fun _ => fun
  | [d1, d2] => { results := [.lit (.bool false)], args := [d1, d2] }
  | _ => none }
def PacketAloneWrongFalsely : Prop := packetAloneRow.holds Try.pinned (OpenSpec.ofChange packetAloneWrong)

/- THE SECOND FORM. 'bulk': how many values and letters a reading holds, each counted each time it is reached (what is shared counts as often as it is met; a slice's spare places count too). A statement '..UptoSaid' is the law's where the arguments, and the package variables that the reading takes, are together of bulk at most 1048576: NARROWER than '..Said'. Prove '..Said' where nothing that the law and all that it calls make is longer than what came in: it says more and counts as full. Else prove '..UptoSaid'. A law counts once. -/
mutual
def uptoBulk {H : Type} : DataW H → Nat
  | .lit (.string bytes) => bytes.length + 1
  | .lit _ => 1
  | .nil => 1
  | .ptr d => uptoBulk d + 1
  | .slice elems spare => uptoBulkAll elems + uptoBulkAll spare + 1
  | .agg parts => uptoBulkAll parts + 1
  | .iface _ d => uptoBulk d + 1
  | .map entries => uptoBulkEntries entries + 1
  | .held _ => 1
def uptoBulkAll {H : Type} : List (DataW H) → Nat
  | [] => 0
  | d :: r => uptoBulk d + uptoBulkAll r
def uptoBulkEntries {H : Type} : List (Lit × DataW H) → Nat
  | [] => 0
  | x :: r => uptoBulkEntry x + uptoBulkEntries r
def uptoBulkEntry {H : Type} : Lit × DataW H → Nat
  | (.string bytes, d) => bytes.length + uptoBulk d + 1
  | (_, d) => uptoBulk d + 1
 end
def uptoSmall : (H : Type) → List (DataW H) → Bool := fun _ ds => decide (uptoBulkAll ds ≤ 1048576)
def OpenSpec.upto (s : _root_.Go.ChangeSpec) : _root_.Go.OpenSpec := { _root_.Go.OpenSpec.ofChange s with cond := some uptoSmall }

/-- 'flumelaw06.ChunkGets', WHERE WHAT IT READS IS OF BULK AT MOST 1048576: true; the input reads as it did. -/
def chunkGetsUptoRow : OpenClaim := { program := "ytpgklhecmafnbaa", sum := "6ba4f8e6ccfc49b5b835edd08da77bc724787d413fc565243f37314e442e7ae4", func := "flume/flumelaw06.ChunkGets", spec := "chunkGets", unfollowed := true, recurses := true, apart := false, narrowed := true }
def ChunkGetsUptoSaid : Prop := chunkGetsUptoRow.holds Try.pinned (OpenSpec.upto chunkGetsSpec)

/-- 'flumelaw07.PacketPuts', WHERE WHAT IT READS IS OF BULK AT MOST 1048576: true; the input reads as it did. -/
def packetPutsUptoRow : OpenClaim := { program := "ytpgklhecmafnbaa", sum := "6ba4f8e6ccfc49b5b835edd08da77bc724787d413fc565243f37314e442e7ae4", func := "flume/flumelaw07.PacketPuts", spec := "packetPuts", unfollowed := true, recurses := true, apart := false, narrowed := true }
def PacketPutsUptoSaid : Prop := packetPutsUptoRow.holds Try.pinned (OpenSpec.upto packetPutsSpec)

/-- 'flumelaw07.PacketGets', WHERE WHAT IT READS IS OF BULK AT MOST 1048576: true; the input reads as it did. -/
def packetGetsUptoRow : OpenClaim := { program := "ytpgklhecmafnbaa", sum := "6ba4f8e6ccfc49b5b835edd08da77bc724787d413fc565243f37314e442e7ae4", func := "flume/flumelaw07.PacketGets", spec := "packetGets", unfollowed := true, recurses := true, apart := false, narrowed := true }
def PacketGetsUptoSaid : Prop := packetGetsUptoRow.holds Try.pinned (OpenSpec.upto packetGetsSpec)

/-- 'flumelaw07.PacketBundles', WHERE WHAT IT READS IS OF BULK AT MOST 1048576: true; the input reads as it did. -/
def packetBundlesUptoRow : OpenClaim := { program := "ytpgklhecmafnbaa", sum := "6ba4f8e6ccfc49b5b835edd08da77bc724787d413fc565243f37314e442e7ae4", func := "flume/flumelaw07.PacketBundles", spec := "packetBundles", unfollowed := true, recurses := true, apart := false, narrowed := true }
def PacketBundlesUptoSaid : Prop := packetBundlesUptoRow.holds Try.pinned (OpenSpec.upto packetBundlesSpec)

/-- 'flumelaw07.PacketBroken', WHERE WHAT IT READS IS OF BULK AT MOST 1048576: true; the input reads as it did. -/
def packetBrokenUptoRow : OpenClaim := { program := "ytpgklhecmafnbaa", sum := "6ba4f8e6ccfc49b5b835edd08da77bc724787d413fc565243f37314e442e7ae4", func := "flume/flumelaw07.PacketBroken", spec := "packetBroken", unfollowed := true, recurses := true, apart := false, narrowed := true }
def PacketBrokenUptoSaid : Prop := packetBrokenUptoRow.holds Try.pinned (OpenSpec.upto packetBrokenSpec)

/-- 'flumelaw07.PacketPasses', WHERE WHAT IT READS IS OF BULK AT MOST 1048576: true; the input reads as it did. -/
def packetPassesUptoRow : OpenClaim := { program := "ytpgklhecmafnbaa", sum := "6ba4f8e6ccfc49b5b835edd08da77bc724787d413fc565243f37314e442e7ae4", func := "flume/flumelaw07.PacketPasses", spec := "packetPasses", unfollowed := true, recurses := true, apart := false, narrowed := true }
def PacketPassesUptoSaid : Prop := packetPassesUptoRow.holds Try.pinned (OpenSpec.upto packetPassesSpec)

/-- 'flumelaw07.PacketAlone', WHERE WHAT IT READS IS OF BULK AT MOST 1048576: true; the input reads as it did. -/
def packetAloneUptoRow : OpenClaim := { program := "ytpgklhecmafnbaa", sum := "6ba4f8e6ccfc49b5b835edd08da77bc724787d413fc565243f37314e442e7ae4", func := "flume/flumelaw07.PacketAlone", spec := "packetAlone", unfollowed := true, recurses := true, apart := false, narrowed := true }
def PacketAloneUptoSaid : Prop := packetAloneUptoRow.holds Try.pinned (OpenSpec.upto packetAloneSpec)

end Rows
end Go.Proofs.Ytpgklhecmafnbaa
