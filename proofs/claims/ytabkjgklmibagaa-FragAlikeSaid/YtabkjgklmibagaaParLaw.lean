/-
  What the laws of layer 5 share: what is asked of the program's Put, Get and Find (contracts to be proved of the code as it landed), and what must be answered ahead of everything else.
-/
import Derived.Test.YtabkjgklmibagaaParSame
import Derived.Test.YtabkjgklmibagaaParPut
import Derived.Test.YtabkjgklmibagaaParGet
import Derived.Lib.SlBytesConst
set_option linter.unusedVariables false
set_option linter.unusedSimpArgs false
namespace Go.Proofs.Ytabkjgklmibagaa.Par
open Go.ChangeShapes Go.WideShapes Go.ChangeAt Go.RowKit Go.Deep Go.Proofs.Ytabkjgklmibagaa.Words Go.Proofs.Ytabkjgklmibagaa.Oct

/-- What Put answers. -/
def PutDone (w : World) (ls : List Prm) (e : Ending) (w' : World) : Prop :=
  (∃ v, e = .returned (.tuple #[v, .int .i64 0]) ∧ Own w' w.heap.size v (encL ls) ∧ ∀ p ∈ ls, p.2.length ≤ 65531) ∨
  (∃ A c, e = .returned (.tuple #[.slice A 0 c, .int .i64 43]) ∧ ∃ p ∈ ls, 65531 < p.2.length)

/-- What Get answers. -/
def GetDone (w : World) (x : List UInt8) (e : Ending) (w' : World) : Prop :=
  (∃ v ls, getL x = .ok ls ∧ e = .returned (.tuple #[v, .int .i64 0]) ∧ OwnPs w' w.heap.size v ls) ∨
  (∃ k A c, getL x = .error k ∧ e = .returned (.tuple #[.slice A 0 c, .int .i64 (k : Int)]) ∧ c ≤ 9223372036854775807)

/-- What Find answers. -/
def FindDone (w : World) (ls : List Prm) (kind : Nat) (e : Ending) (w' : World) : Prop :=
  (∃ v p, ls.find? (fun p => p.1 == kind) = some p ∧ e = .returned (.tuple #[v, .bool true]) ∧ Own w' w.heap.size v p.2) ∨
  (∃ A c, ls.find? (fun p => p.1 == kind) = none ∧ e = .returned (.tuple #[.slice A 0 c, .bool false]) ∧ c ≤ 9223372036854775807)

def PutC : Prop := ∀ (A : Option Addr) (ls : List Prm) (n c : Nat) (w : World), n = ls.length → n ≤ c → c ≤ 9223372036854775807 → sizeL ls ≤ 450000 → Ps w w.heap.size A ls →
  Calls Try.prog 49 #[.slice A n c] w fun e w' => PutDone w ls e w' ∧ Below w.heap.size w w'

theorem first_enc : encL [(8, [97, 98])] = [0, 8, 0, 6, 97, 98, 0, 0] := by decide

theorem first_get : getL [0, 8, 0, 3] = .error 42 := by
  exact getL_err (by decide) (one_small (by decide) (by decide))

theorem first_back : getL [0, 8, 0, 6, 97, 98, 0, 0] = .ok [(8, [97, 98])] := by
  rw [← first_enc]
  exact getL_enc _ (fun p hp => by
    simp only [List.mem_singleton] at hp
    subst hp
    exact ⟨by decide, by decide⟩)

end Go.Proofs.Ytabkjgklmibagaa.Par
