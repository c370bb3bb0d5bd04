/-
  No cell of these rows narrows 'for every input' (looked for: loops, veiled, ifaces, maps, wideKeys, modest, calm, conditions, laid).
  DERIVED. THE GIVEN ROWS OF THIS SEAT. 9 by the template 'for every input the law returns true; each argument reads behind the call as it read before'; 0 by the template 'total and deterministic' (their statements: YtioddokjogbmnaaTotals.lean).
  GIVEN WITH THE SEED: the statements are not yours to turn. If you find one false, say at which input.
  Laid BY PROGRAM, IN A SANDBOX (cutbox-rows.mjs): the forced cells as the released guide's own fill.sh prints them over the translation f4a27b8ed32784fd… (all of the seat's roots in one cut). By AI agents, Wed Nov 11 2026. No macro, syntax, notation, axiom, sorry.
-/
import Derived.Test.YtioddokjogbmnaaChecked
import GoSem.Claim
import GoSem.ClaimJoined
import GoSem.ClaimMapViews
import Derived.JoinedTies
import Derived.KernelRfl
namespace Go.Proofs.Ytioddokjogbmnaa
/- THE CELL 'sum', in the pinned program and in every row, IS THE sha256 OF THE DUMP (.gsa) THAT YtioddokjogbmnaaProg.lean LOADS. Nothing in Lean hashes anything: it is a label: what it is worth is what the hold of that sum in a sandbox is worth. -/
noncomputable def Try.pinned : Pinned := { name := "ytioddokjogbmnaa", sum := "f4a27b8ed32784fd2e21a586fb137f0a57a8baba18ceaa26243f9c881694949c", checked := Try.checked }
namespace Rows
def none {H : Type} : Left H := { results := [], args := [] }

/-- 'flumelaw13.JoinOrders': WHATEVER THE INPUT: true; the input reads as it did. -/
def joinOrdersSpec : ChangeSpec := { name := "joinOrders", fn := fun _ => fun
  | [d1, d2, d3] => { results := [.lit (.bool true)], args := [d1, d2, d3] }
  | _ => none }
def joinOrdersRow : OpenClaim := { program := "ytioddokjogbmnaa", sum := "f4a27b8ed32784fd2e21a586fb137f0a57a8baba18ceaa26243f9c881694949c", func := "flume/flumelaw13.JoinOrders", spec := "joinOrders", inPlace := ["internal/bytealg.MakeNoZero"], unfollowed := true, recurses := true, plainKeys := false, apart := false }
def JoinOrdersSaid : Prop := joinOrdersRow.holds Try.pinned (OpenSpec.ofChange joinOrdersSpec)

/-- ITS FALSE NEIGHBOUR: 'it returns false'. Refute it at one input. -/
def joinOrdersWrong : ChangeSpec := { name := "joinOrders", fn := fun _ => fun
  | [d1, d2, d3] => { results := [.lit (.bool false)], args := [d1, d2, d3] }
  | _ => none }
def JoinOrdersWrongFalsely : Prop := joinOrdersRow.holds Try.pinned (OpenSpec.ofChange joinOrdersWrong)

/-- 'flumelaw13.JoinLoose': WHATEVER THE INPUT: true; the input reads as it did. -/
def joinLooseSpec : ChangeSpec := { name := "joinLoose", fn := fun _ => fun
  | [d1, d2, d3] => { results := [.lit (.bool true)], args := [d1, d2, d3] }
  | _ => none }
def joinLooseRow : OpenClaim := { program := "ytioddokjogbmnaa", sum := "f4a27b8ed32784fd2e21a586fb137f0a57a8baba18ceaa26243f9c881694949c", func := "flume/flumelaw13.JoinLoose", spec := "joinLoose", inPlace := ["internal/bytealg.MakeNoZero"], unfollowed := true, recurses := true, plainKeys := false, apart := false }
def JoinLooseSaid : Prop := joinLooseRow.holds Try.pinned (OpenSpec.ofChange joinLooseSpec)

/-- ITS FALSE NEIGHBOUR: 'it returns false'. Refute it at one input. -/
def joinLooseWrong : ChangeSpec := { name := "joinLoose", fn := fun _ => fun
  | [d1, d2, d3] => { results := [.lit (.bool false)], args := [d1, d2, d3] }
  | _ => none }
def JoinLooseWrongFalsely : Prop := joinLooseRow.holds Try.pinned (OpenSpec.ofChange joinLooseWrong)

/-- 'flumelaw13.JoinSkips': WHATEVER THE INPUT: true; the input reads as it did. -/
def joinSkipsSpec : ChangeSpec := { name := "joinSkips", fn := fun _ => fun
  | [d1, d2, d3] => { results := [.lit (.bool true)], args := [d1, d2, d3] }
  | _ => none }
def joinSkipsRow : OpenClaim := { program := "ytioddokjogbmnaa", sum := "f4a27b8ed32784fd2e21a586fb137f0a57a8baba18ceaa26243f9c881694949c", func := "flume/flumelaw13.JoinSkips", spec := "joinSkips", inPlace := ["internal/bytealg.MakeNoZero"], unfollowed := true, recurses := true, plainKeys := false, apart := false }
def JoinSkipsSaid : Prop := joinSkipsRow.holds Try.pinned (OpenSpec.ofChange joinSkipsSpec)

/-- ITS FALSE NEIGHBOUR: 'it returns false'. Refute it at one input. -/
def joinSkipsWrong : ChangeSpec := { name := "joinSkips", fn := fun _ => fun
  | [d1, d2, d3] => { results := [.lit (.bool false)], args := [d1, d2, d3] }
  | _ => none }
def JoinSkipsWrongFalsely : Prop := joinSkipsRow.holds Try.pinned (OpenSpec.ofChange joinSkipsWrong)

/-- 'flumelaw13.JoinAnew': WHATEVER THE INPUT: true; the input reads as it did. -/
def joinAnewSpec : ChangeSpec := { name := "joinAnew", fn := fun _ => fun
  | [d1, d2, d3] => { results := [.lit (.bool true)], args := [d1, d2, d3] }
  | _ => none }
def joinAnewRow : OpenClaim := { program := "ytioddokjogbmnaa", sum := "f4a27b8ed32784fd2e21a586fb137f0a57a8baba18ceaa26243f9c881694949c", func := "flume/flumelaw13.JoinAnew", spec := "joinAnew", inPlace := ["internal/bytealg.MakeNoZero"], unfollowed := true, recurses := true, plainKeys := false, apart := false }
def JoinAnewSaid : Prop := joinAnewRow.holds Try.pinned (OpenSpec.ofChange joinAnewSpec)

/-- ITS FALSE NEIGHBOUR: 'it returns false'. Refute it at one input. -/
def joinAnewWrong : ChangeSpec := { name := "joinAnew", fn := fun _ => fun
  | [d1, d2, d3] => { results := [.lit (.bool false)], args := [d1, d2, d3] }
  | _ => none }
def JoinAnewWrongFalsely : Prop := joinAnewRow.holds Try.pinned (OpenSpec.ofChange joinAnewWrong)

/-- 'flumelaw13.JoinHolds': WHATEVER THE INPUT: true; the input reads as it did. -/
def joinHoldsSpec : ChangeSpec := { name := "joinHolds", fn := fun _ => fun
  | [d1, d2, d3] => { results := [.lit (.bool true)], args := [d1, d2, d3] }
  | _ => none }
def joinHoldsRow : OpenClaim := { program := "ytioddokjogbmnaa", sum := "f4a27b8ed32784fd2e21a586fb137f0a57a8baba18ceaa26243f9c881694949c", func := "flume/flumelaw13.JoinHolds", spec := "joinHolds", inPlace := ["internal/bytealg.MakeNoZero"], unfollowed := true, recurses := true, plainKeys := false, apart := false }
def JoinHoldsSaid : Prop := joinHoldsRow.holds Try.pinned (OpenSpec.ofChange joinHoldsSpec)

/-- ITS FALSE NEIGHBOUR: 'it returns false'. Refute it at one input. -/
def joinHoldsWrong : ChangeSpec := { name := "joinHolds", fn := fun _ => fun
  | [d1, d2, d3] => { results := [.lit (.bool false)], args := [d1, d2, d3] }
  | _ => none }
def JoinHoldsWrongFalsely : Prop := joinHoldsRow.holds Try.pinned (OpenSpec.ofChange joinHoldsWrong)

/-- 'flumelaw14.IntakeOnce': WHATEVER THE INPUT: true; the input reads as it did. -/
def intakeOnceSpec : ChangeSpec := { name := "intakeOnce", fn := fun _ => fun
  | [d1, d2, d3] => { results := [.lit (.bool true)], args := [d1, d2, d3] }
  | _ => none }
def intakeOnceRow : OpenClaim := { program := "ytioddokjogbmnaa", sum := "f4a27b8ed32784fd2e21a586fb137f0a57a8baba18ceaa26243f9c881694949c", func := "flume/flumelaw14.IntakeOnce", spec := "intakeOnce", inPlace := ["slices.overlaps[flume/span.row]", "internal/bytealg.MakeNoZero"], unfollowed := true, recurses := true, plainKeys := false, apart := false }
def IntakeOnceSaid : Prop := intakeOnceRow.holds Try.pinned (OpenSpec.ofChange intakeOnceSpec)

/-- ITS FALSE NEIGHBOUR: 'it returns false'. Refute it at one input. -/
def intakeOnceWrong : ChangeSpec := { name := "intakeOnce", fn := fun _ => fun
  | [d1, d2, d3] => { results := [.lit (.bool false)], args := [d1, d2, d3] }
  | _ => none }
def IntakeOnceWrongFalsely : Prop := intakeOnceRow.holds Try.pinned (OpenSpec.ofChange intakeOnceWrong)

/-- 'flumelaw14.IntakeRoom': WHATEVER THE INPUT: true; the input reads as it did. -/
def intakeRoomSpec : ChangeSpec := { name := "intakeRoom", fn := fun _ => fun
  | [d1, d2] => { results := [.lit (.bool true)], args := [d1, d2] }
  | _ => none }
def intakeRoomRow : OpenClaim := { program := "ytioddokjogbmnaa", sum := "f4a27b8ed32784fd2e21a586fb137f0a57a8baba18ceaa26243f9c881694949c", func := "flume/flumelaw14.IntakeRoom", spec := "intakeRoom", inPlace := ["slices.overlaps[flume/span.row]", "internal/bytealg.MakeNoZero"], unfollowed := true, recurses := true, plainKeys := false, apart := false }
def IntakeRoomSaid : Prop := intakeRoomRow.holds Try.pinned (OpenSpec.ofChange intakeRoomSpec)

/-- ITS FALSE NEIGHBOUR: 'it returns false'. Refute it at one input. -/
def intakeRoomWrong : ChangeSpec := { name := "intakeRoom", fn := fun _ => fun
  | [d1, d2] => { results := [.lit (.bool false)], args := [d1, d2] }
  | _ => none }
def IntakeRoomWrongFalsely : Prop := intakeRoomRow.holds Try.pinned (OpenSpec.ofChange intakeRoomWrong)

/-- 'flumelaw14.IntakeForwards': WHATEVER THE INPUT: true; the input reads as it did. -/
def intakeForwardsSpec : ChangeSpec := { name := "intakeForwards", fn := fun _ => fun
  | [d1, d2, d3] => { results := [.lit (.bool true)], args := [d1, d2, d3] }
  | _ => none }
def intakeForwardsRow : OpenClaim := { program := "ytioddokjogbmnaa", sum := "f4a27b8ed32784fd2e21a586fb137f0a57a8baba18ceaa26243f9c881694949c", func := "flume/flumelaw14.IntakeForwards", spec := "intakeForwards", inPlace := ["slices.overlaps[flume/span.row]", "internal/bytealg.MakeNoZero"], unfollowed := true, recurses := true, plainKeys := false, apart := false }
def IntakeForwardsSaid : Prop := intakeForwardsRow.holds Try.pinned (OpenSpec.ofChange intakeForwardsSpec)

/-- ITS FALSE NEIGHBOUR: 'it returns false'. Refute it at one input. -/
def intakeForwardsWrong : ChangeSpec := { name := "intakeForwards", fn := fun _ => fun
  | [d1, d2, d3] => { results := [.lit (.bool false)], args := [d1, d2, d3] }
  | _ => none }
def IntakeForwardsWrongFalsely : Prop := intakeForwardsRow.holds Try.pinned (OpenSpec.ofChange intakeForwardsWrong)

/-- 'flumelaw14.IntakeTwice': WHATEVER THE INPUT: true; the input reads as it did. -/
def intakeTwiceSpec : ChangeSpec := { name := "intakeTwice", fn := fun _ => fun
  | [d1, d2] => { results := [.lit (.bool true)], args := [d1, d2] }
  | _ => none }
def intakeTwiceRow : OpenClaim := { program := "ytioddokjogbmnaa", sum := "f4a27b8ed32784fd2e21a586fb137f0a57a8baba18ceaa26243f9c881694949c", func := "flume/flumelaw14.IntakeTwice", spec := "intakeTwice", inPlace := ["slices.overlaps[flume/span.row]", "internal/bytealg.MakeNoZero"], unfollowed := true, recurses := true, plainKeys := false, apart := false }
def IntakeTwiceSaid : Prop := intakeTwiceRow.holds Try.pinned (OpenSpec.ofChange intakeTwiceSpec)

/-- ITS FALSE NEIGHBOUR: 'it returns false'. Refute it at one input. -/
def intakeTwiceWrong : ChangeSpec := { name := "intakeTwice", fn := fun _ => fun
  | [d1, d2] => { results := [.lit (.bool false)], args := [d1, d2] }
  | _ => none }
def IntakeTwiceWrongFalsely : Prop := intakeTwiceRow.holds Try.pinned (OpenSpec.ofChange intakeTwiceWrong)

/- THE SECOND FORM. 'bulk': how many values and letters a reading holds, each counted each time it is reached (what is shared counts as often as it is met; a slice's spare places count too). A statement '..UptoSaid' is the law's where the arguments, and the package variables that the reading takes, are together of bulk at most 1048576: NARROWER than '..Said'. Prove '..Said' where nothing that the law and all that it calls make is longer than what came in: it says more and counts as full. Else prove '..UptoSaid'. A law counts once. -/
mutual
def uptoBulk {H : Type} : DataW H → Nat
  | .lit (.string bytes) => bytes.length + 1
  | .lit _ => 1
  | .nil => 1
  | .ptr d => uptoBulk d + 1
  | .slice elems spare => uptoBulkAll elems + uptoBulkAll spare + 1
  | .agg parts => uptoBulkAll parts + 1
  | .iface _ d => uptoBulk d + 1
  | .map entries => uptoBulkEntries entries + 1
  | .held _ => 1
def uptoBulkAll {H : Type} : List (DataW H) → Nat
  | [] => 0
  | d :: r => uptoBulk d + uptoBulkAll r
def uptoBulkEntries {H : Type} : List (Lit × DataW H) → Nat
  | [] => 0
  | x :: r => uptoBulkEntry x + uptoBulkEntries r
def uptoBulkEntry {H : Type} : Lit × DataW H → Nat
  | (.string bytes, d) => bytes.length + uptoBulk d + 1
  | (_, d) => uptoBulk d + 1
 end
def uptoSmall : (H : Type) → List (DataW H) → Bool := fun _ ds => decide (uptoBulkAll ds ≤ 1048576)
def OpenSpec.upto (s : _root_.Go.ChangeSpec) : _root_.Go.OpenSpec := { _root_.Go.OpenSpec.ofChange s with cond := some uptoSmall }

/-- 'flumelaw13.JoinOrders', WHERE WHAT IT READS IS OF BULK AT MOST 1048576: true; the input reads as it did. -/
def joinOrdersUptoRow : OpenClaim := { program := "ytioddokjogbmnaa", sum := "f4a27b8ed32784fd2e21a586fb137f0a57a8baba18ceaa26243f9c881694949c", func := "flume/flumelaw13.JoinOrders", spec := "joinOrders", inPlace := ["internal/bytealg.MakeNoZero"], unfollowed := true, recurses := true, plainKeys := false, apart := false, narrowed := true }
def JoinOrdersUptoSaid : Prop := joinOrdersUptoRow.holds Try.pinned (OpenSpec.upto joinOrdersSpec)

/-- 'flumelaw13.JoinLoose', WHERE WHAT IT READS IS OF BULK AT MOST 1048576: true; the input reads as it did. -/
def joinLooseUptoRow : OpenClaim := { program := "ytioddokjogbmnaa", sum := "f4a27b8ed32784fd2e21a586fb137f0a57a8baba18ceaa26243f9c881694949c", func := "flume/flumelaw13.JoinLoose", spec := "joinLoose", inPlace := ["internal/bytealg.MakeNoZero"], unfollowed := true, recurses := true, plainKeys := false, apart := false, narrowed := true }
def JoinLooseUptoSaid : Prop := joinLooseUptoRow.holds Try.pinned (OpenSpec.upto joinLooseSpec)

/-- 'flumelaw13.JoinSkips', WHERE WHAT IT READS IS OF BULK AT MOST 1048576: true; the input reads as it did. -/
def joinSkipsUptoRow : OpenClaim := { program := "ytioddokjogbmnaa", sum := "f4a27b8ed32784fd2e21a586fb137f0a57a8baba18ceaa26243f9c881694949c", func := "flume/flumelaw13.JoinSkips", spec := "joinSkips", inPlace := ["internal/bytealg.MakeNoZero"], unfollowed := true, recurses := true, plainKeys := false, apart := false, narrowed := true }
def JoinSkipsUptoSaid : Prop := joinSkipsUptoRow.holds Try.pinned (OpenSpec.upto joinSkipsSpec)

/-- 'flumelaw13.JoinAnew', WHERE WHAT IT READS IS OF BULK AT MOST 1048576: true; the input reads as it did. -/
def joinAnewUptoRow : OpenClaim := { program := "ytioddokjogbmnaa", sum := "f4a27b8ed32784fd2e21a586fb137f0a57a8baba18ceaa26243f9c881694949c", func := "flume/flumelaw13.JoinAnew", spec := "joinAnew", inPlace := ["internal/bytealg.MakeNoZero"], unfollowed := true, recurses := true, plainKeys := false, apart := false, narrowed := true }
def JoinAnewUptoSaid : Prop := joinAnewUptoRow.holds Try.pinned (OpenSpec.upto joinAnewSpec)

/-- 'flumelaw13.JoinHolds', WHERE WHAT IT READS IS OF BULK AT MOST 1048576: true; the input reads as it did. -/
def joinHoldsUptoRow : OpenClaim := { program := "ytioddokjogbmnaa", sum := "f4a27b8ed32784fd2e21a586fb137f0a57a8baba18ceaa26243f9c881694949c", func := "flume/flumelaw13.JoinHolds", spec := "joinHolds", inPlace := ["internal/bytealg.MakeNoZero"], unfollowed := true, recurses := true, plainKeys := false, apart := false, narrowed := true }
def JoinHoldsUptoSaid : Prop := joinHoldsUptoRow.holds Try.pinned (OpenSpec.upto joinHoldsSpec)

/-- 'flumelaw14.IntakeOnce', WHERE WHAT IT READS IS OF BULK AT MOST 1048576: true; the input reads as it did. -/
def intakeOnceUptoRow : OpenClaim := { program := "ytioddokjogbmnaa", sum := "f4a27b8ed32784fd2e21a586fb137f0a57a8baba18ceaa26243f9c881694949c", func := "flume/flumelaw14.IntakeOnce", spec := "intakeOnce", inPlace := ["slices.overlaps[flume/span.row]", "internal/bytealg.MakeNoZero"], unfollowed := true, recurses := true, plainKeys := false, apart := false, narrowed := true }
def IntakeOnceUptoSaid : Prop := intakeOnceUptoRow.holds Try.pinned (OpenSpec.upto intakeOnceSpec)

/-- 'flumelaw14.IntakeRoom', WHERE WHAT IT READS IS OF BULK AT MOST 1048576: true; the input reads as it did. -/
def intakeRoomUptoRow : OpenClaim := { program := "ytioddokjogbmnaa", sum := "f4a27b8ed32784fd2e21a586fb137f0a57a8baba18ceaa26243f9c881694949c", func := "flume/flumelaw14.IntakeRoom", spec := "intakeRoom", inPlace := ["slices.overlaps[flume/span.row]", "internal/bytealg.MakeNoZero"], unfollowed := true, recurses := true, plainKeys := false, apart := false, narrowed := true }
def IntakeRoomUptoSaid : Prop := intakeRoomUptoRow.holds Try.pinned (OpenSpec.upto intakeRoomSpec)

/-- 'flumelaw14.IntakeForwards', WHERE WHAT IT READS IS OF BULK AT MOST 1048576: true; the input reads as it did. -/
def intakeForwardsUptoRow : OpenClaim := { program := "ytioddokjogbmnaa", sum := "f4a27b8ed32784fd2e21a586fb137f0a57a8baba18ceaa26243f9c881694949c", func := "flume/flumelaw14.IntakeForwards", spec := "intakeForwards", inPlace := ["slices.overlaps[flume/span.row]", "internal/bytealg.MakeNoZero"], unfollowed := true, recurses := true, plainKeys := false, apart := false, narrowed := true }
def IntakeForwardsUptoSaid : Prop := intakeForwardsUptoRow.holds Try.pinned (OpenSpec.upto intakeForwardsSpec)

/-- 'flumelaw14.IntakeTwice', WHERE WHAT IT READS IS OF BULK AT MOST 1048576: true; the input reads as it did. -/
def intakeTwiceUptoRow : OpenClaim := { program := "ytioddokjogbmnaa", sum := "f4a27b8ed32784fd2e21a586fb137f0a57a8baba18ceaa26243f9c881694949c", func := "flume/flumelaw14.IntakeTwice", spec := "intakeTwice", inPlace := ["slices.overlaps[flume/span.row]", "internal/bytealg.MakeNoZero"], unfollowed := true, recurses := true, plainKeys := false, apart := false, narrowed := true }
def IntakeTwiceUptoSaid : Prop := intakeTwiceUptoRow.holds Try.pinned (OpenSpec.upto intakeTwiceSpec)

end Rows
end Go.Proofs.Ytioddokjogbmnaa
