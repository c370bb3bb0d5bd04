/-
  Packets: the document's Fits, Size, Same (flumeref07).
-/
import Derived.Test.YtabkjgklmibagaaPk1
import Derived.Test.YtabkjgklmibagaaChRf1
import Derived.Test.YtabkjgklmibagaaChRf2
import Derived.Test.YtabkjgklmibagaaStage
set_option linter.unusedVariables false
set_option linter.unusedSimpArgs false
namespace Go.Proofs.Ytabkjgklmibagaa.Chk
open Go.ChangeShapes Go.WideShapes Go.ChangeAt Go.RowKit Go.Deep Go.Proofs.Ytabkjgklmibagaa.Words Go.Proofs.Ytabkjgklmibagaa.Oct Go.Proofs.Ytabkjgklmibagaa.Par

theorem load_run_any {w : World} {a : Act} {o : Oper} {x : Operand} {ad : Addr} {cs : Array Value} (ho : o.op = .load 42 x) (hx : a.eval x = .pointer (some ad)) (hc : ∀ j v, cs[j]? = some v → w.cell? (ad.add j) = some v) (hs : cs.size = 19) :
    (execOp a.eval o).run Try.prog w = .ok (.value (.agg cs)) w := by
  unfold execOp
  simp only [ho, hx, Instr.loadAt, Instr.sureAddr, Sem.run_bind, Sem.run_pure, Result.andThen_ok, run_loadVar_any w ad 42 cs _ hc Try.underlying42 rfl (by rw [hs]; exact chunk_info)]
/-- The row of chunk k, in the world of a loop's round. -/
theorem Cks.nthw {w wr : World} {B : Nat} {A : Option Addr} {ls : List Ck} (h : Cks w B A ls) (hB : B ≤ w.heap.size) (hw : Below w.heap.size w wr) {k : Nat} (hk : k < ls.length) : ∃ (ad : Addr) (cs : Array Value), A = some ad ∧ ad.block < B ∧ cs.size = 19 ∧ CkAt wr B cs ls[k] ∧ ∀ j v, cs[j]? = some v → wr.cell? ((ad.add (k * 19)).add j) = some v :=
  (h.keep (w' := wr) (fun q hq => hw.cell (Nat.lt_of_lt_of_le hq hB))).nth hk
/-- A chunk copied to a variable of a loop. -/
theorem kept_var (W : World) (cs : Array Value) : ∃ W', W' = (W.alloc (.cells #[.int .u8 0, .bool false, .bool false, .bool false, .bool false, .int .u32 0, .int .u16 0, .int .u32 0, .int .u32 0, .int .u32 0, .int .u32 0, .int .u32 0, .int .u16 0, .int .u16 0, .slice none 0 0, .slice none 0 0, .slice none 0 0, .slice none 0 0, .slice none 0 0] 42)).setRow W.heap.size cs ∧ CkBlk W' W.heap.size cs ∧ Below W.heap.size W W' :=
  ⟨_, rfl, kept_ck W zeroA cs⟩
/-- Two lists that are the same but for fields that their kinds have not. -/
structure Alikes (l1 l2 : List Ck) : Prop where
  len : l1.length = l2.length
  strips : ∀ k (h1 : k < l1.length) (h2 : k < l2.length), strip l1[k] = strip l2[k]
  known1 : ∀ c ∈ l1, known c.kind = true ∧ c.skips.length ≤ 500000
  known2 : ∀ c ∈ l2, known c.kind = true ∧ c.skips.length ≤ 500000
end Go.Proofs.Ytabkjgklmibagaa.Chk
