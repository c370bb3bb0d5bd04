/-
  A build of eight words.
-/
import Derived.Test.YtmbgjijajakgeaaDoorMacRP
set_option linter.unusedVariables false
set_option linter.unusedSimpArgs false
namespace Go.Proofs.YtmbgjijajakgeaaDoor.Sha
open Go.ChangeShapes Go.WideShapes Go.ChangeAt Go.RowKit Go.Proofs.YtmbgjijajakgeaaDoor.Words

theorem built8 (a b c d e f g h : Nat) : Tryd.prog.built 80 [(0, .int .u32 (a : Int)), (1, .int .u32 (b : Int)), (2, .int .u32 (c : Int)), (3, .int .u32 (d : Int)), (4, .int .u32 (e : Int)), (5, .int .u32 (f : Int)), (6, .int .u32 (g : Int)), (7, .int .u32 (h : Int))] = some (U (U8 a b c d e f g h)) := by kernel_rfl
theorem wpList_build8 {ops : Array Oper} {rest : List Oper} {o : Oper} {A : Act} {w : World} {Q : Exit → Act → World → Prop} (hg : o.guard = none) (y0 y1 y2 y3 y4 y5 y6 y7 : Operand) (ho : o.op = .build 80 #[(0, y0), (1, y1), (2, y2), (3, y3), (4, y4), (5, y5), (6, y6), (7, y7)]) (a b c d e f g h : Nat)
    (h0 : A.eval y0 = .int .u32 (a : Int)) (h1 : A.eval y1 = .int .u32 (b : Int)) (h2 : A.eval y2 = .int .u32 (c : Int)) (h3 : A.eval y3 = .int .u32 (d : Int)) (h4 : A.eval y4 = .int .u32 (e : Int)) (h5 : A.eval y5 = .int .u32 (f : Int)) (h6 : A.eval y6 = .int .u32 (g : Int)) (h7 : A.eval y7 = .int .u32 (h : Int))
    (k : wpList Tryd.prog ops Q rest (A.put o.dst (.agg (U (U8 a b c d e f g h)))) w) : wpList Tryd.prog ops Q (o :: rest) A w := by
  refine wpList_build hg _ _ ho ?_ ?_
  · simp only [List.map_toArray, List.map_cons, List.map_nil, h0, h1, h2, h3, h4, h5, h6, h7, built8]; rfl
  · simp only [List.map_toArray, List.map_cons, List.map_nil, h0, h1, h2, h3, h4, h5, h6, h7, built8]; exact k
theorem exec_mv {P : Program} {ρ : Operand → Value} {o : Oper} {x : Operand} {w : World} (v : Value) (ho : o.op = .move x) (hx : ρ x = v) : (execOp ρ o).run P w = .ok (.value v) w := by
  subst hx
  unfold execOp
  simp [ho]
/-- One operation of a region without a drawn order, whose value is told. -/
theorem wpList_val {P : Program} {ops : Array Oper} {rest : List Oper} {o : Oper} {A : Act} {w : World} {Q : Exit → Act → World → Prop} {v : Value} (hg : o.guard = none) (h : (execOp A.eval o).run P w = .ok (.value v) w) (k : wpList P ops Q rest (A.put o.dst v) w) : wpList P ops Q (o :: rest) A w :=
  wpList_plain hg fun _ hK => by
    unfold Oper.wp
    rw [h]
    exact hK _ _ k
end Go.Proofs.YtmbgjijajakgeaaDoor.Sha
