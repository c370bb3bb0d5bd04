/-
  The contract of package chunk's Get.
-/
import Derived.Test.YtabkjgklmibagaaChRd
set_option linter.unusedVariables false
set_option linter.unusedSimpArgs false
namespace Go.Proofs.Ytabkjgklmibagaa.Chk
open Go.ChangeShapes Go.WideShapes Go.ChangeAt Go.RowKit Go.Deep Go.Proofs.Ytabkjgklmibagaa.Words Go.Proofs.Ytabkjgklmibagaa.Oct Go.Proofs.Ytabkjgklmibagaa.Par

/-! ### getC, case by case -/
section
variable {b : List UInt8} {m : Nat}
theorem getC_short (h : b.length < 4) : getC b = .error 40 := by unfold getC; rw [if_pos h]
theorem getC_small (h : ¬ b.length < 4) (h2 : num ((b.drop 2).take 2) < 4) : getC b = .error 42 := by unfold getC; rw [if_neg h, if_pos h2]
theorem getC_cut (h : ¬ b.length < 4) (hm : m = num ((b.drop 2).take 2)) (h2 : ¬ m < 4) (h3 : b.length < (m + 3) / 4 * 4) : getC b = .error 40 := by
  subst hm
  unfold getC; rw [if_neg h, if_neg h2, if_pos h3]
theorem getC_pad (h : ¬ b.length < 4) (hm : m = num ((b.drop 2).take 2)) (h2 : ¬ m < 4) (h3 : ¬ b.length < (m + 3) / 4 * 4) (h4 : ((b.drop m).take ((m + 3) / 4 * 4 - m)).any (· != 0) = true) : getC b = .error 42 := by
  subst hm
  unfold getC; rw [if_neg h, if_neg h2, if_neg h3, if_pos h4]
theorem getC_unknown (h : ¬ b.length < 4) (hm : m = num ((b.drop 2).take 2)) (h2 : ¬ m < 4) (h3 : ¬ b.length < (m + 3) / 4 * 4) (h4 : ((b.drop m).take ((m + 3) / 4 * 4 - m)).any (· != 0) = false) (h5 : known (num (b.take 1)) = false) : getC b = .error 60 := by
  subst hm
  unfold getC; rw [if_neg h, if_neg h2, if_neg h3, if_neg (by rw [h4]; decide), if_pos h5]
theorem getC_rest (h : ¬ b.length < 4) (hm : m = num ((b.drop 2).take 2)) (h2 : ¬ m < 4) (h3 : ¬ b.length < (m + 3) / 4 * 4) (h4 : ((b.drop m).take ((m + 3) / 4 * 4 - m)).any (· != 0) = false) (h5 : known (num (b.take 1)) = true) :
    getC b = match decC (num (b.take 1)) (num ((b.drop 1).take 1)) ((b.drop 4).take (m - 4)) with | none => .error 42 | some c => .ok (c, (m + 3) / 4 * 4) := by
  subst hm
  conv => lhs; unfold getC
  rw [if_neg h, if_neg h2, if_neg h3, if_neg (by rw [h4]; decide), if_neg (by rw [h5]; decide)]
  cases decC (num (b.take 1)) (num ((b.drop 1).take 1)) ((b.drop 4).take (num ((b.drop 2).take 2) - 4)) <;> rfl
theorem getC_take (b : List UInt8) : getC (b.take 65536) = getC b := by
  by_cases hb : b.length ≤ 65536
  · rw [List.take_of_length_le hb]
  · have hl : (b.take 65536).length = 65536 := by rw [List.length_take]; omega
    have e1 : ((b.take 65536).drop 2).take 2 = (b.drop 2).take 2 := by rw [List.drop_take, List.take_take]; rfl
    have e0 : (b.take 65536).take 1 = b.take 1 := by rw [List.take_take]; rfl
    have e2 : ((b.take 65536).drop 1).take 1 = (b.drop 1).take 1 := by rw [List.drop_take, List.take_take]; rfl
    obtain ⟨m, hm⟩ : ∃ m, m = num ((b.drop 2).take 2) := ⟨_, rfl⟩
    have hm6 : m < 65536 := by rw [hm]; exact take2 b 2
    by_cases h4 : m < 4
    · rw [getC_small (by omega) (by rw [e1, ← hm]; exact h4), getC_small (by omega) (by rw [← hm]; exact h4)]
    · have e3 : ((b.take 65536).drop m).take ((m + 3) / 4 * 4 - m) = (b.drop m).take ((m + 3) / 4 * 4 - m) := by rw [List.drop_take, List.take_take, Nat.min_eq_left (by omega)]
      have e4 : ((b.take 65536).drop 4).take (m - 4) = (b.drop 4).take (m - 4) := by rw [List.drop_take, List.take_take, Nat.min_eq_left (by omega)]
      cases hp : ((b.drop m).take ((m + 3) / 4 * 4 - m)).any (· != 0)
      · cases hk : known (num (b.take 1))
        · rw [getC_unknown (m := m) (by omega) (by rw [e1]; exact hm) h4 (by omega) (by rw [e3]; exact hp) (by rw [e0]; exact hk), getC_unknown (m := m) (by omega) hm h4 (by omega) hp hk]
        · rw [getC_rest (m := m) (by omega) (by rw [e1]; exact hm) h4 (by omega) (by rw [e3]; exact hp) (by rw [e0]; exact hk), getC_rest (m := m) (by omega) hm h4 (by omega) hp hk, e0, e2, e4]
      · rw [getC_pad (m := m) (by omega) (by rw [e1]; exact hm) h4 (by omega) (by rw [e3]; exact hp), getC_pad (m := m) (by omega) hm h4 (by omega) hp]
end

/-! ### Get -/
theorem wpList_build_as {P : Program} {ops : Array Oper} {rest : List Oper} {o : Oper} {a : Act} {w : World} {Q : Exit → Act → World → Prop} (hg : o.guard = none) (t : TypeId) (parts : Array (Nat × Operand)) (ho : o.op = .build t parts) (cells : Array Value)
    (hf : P.built t (parts.map fun (i, x) => (i, a.eval x)).toList = some cells) (h : wpList P ops Q rest (a.put o.dst (.agg cells)) w) : wpList P ops Q (o :: rest) a w :=
  wpList_build hg t parts ho (by rw [hf]; rfl) (by rw [hf]; exact h)
theorem wpList_build_one {P : Program} {ops : Array Oper} {rest : List Oper} {o : Oper} {a : Act} {w : World} {Q : Exit → Act → World → Prop} (hg : o.guard = none) (t : TypeId) (x : Operand) (ho : o.op = .build t #[(0, x)]) (v : Value) (hx : a.eval x = v) (cells : Array Value)
    (hf : P.built t [(0, v)] = some cells) (h : wpList P ops Q rest (a.put o.dst (.agg cells)) w) : wpList P ops Q (o :: rest) a w :=
  wpList_build_as hg t #[(0, x)] ho cells (by simpa [hx] using hf) h
theorem wpList_build_none {P : Program} {ops : Array Oper} {rest : List Oper} {o : Oper} {a : Act} {w : World} {Q : Exit → Act → World → Prop} (hg : o.guard = none) (t : TypeId) (ho : o.op = .build t #[]) (cells : Array Value)
    (hf : P.built t [] = some cells) (h : wpList P ops Q rest (a.put o.dst (.agg cells)) w) : wpList P ops Q (o :: rest) a w :=
  wpList_build_as hg t #[] ho cells (by simpa using hf) h
theorem built_kind (k : Nat) : Try.prog.built 42 [(0, .int .u8 (k : Int))] = some (ckArr (zeroC k) nilV nilV nilV nilV nilV) := by kernel_rfl
theorem built_none : Try.prog.built 42 [] = some (ckArr (zeroC 0) nilV nilV nilV nilV nilV) := by kernel_rfl
theorem ck_one (c : Ck) : (ckArr c nilV nilV nilV nilV nilV).all (·.oneCell') = true := by simp [ckArr, Value.oneCell']
abbrev zeroA : Array Value := ckArr (zeroC 0) nilV nilV nilV nilV nilV
/-- What Get answers. -/
def GetDoneC (w : World) (b : List UInt8) (e : Ending) (w' : World) : Prop :=
  Below w.heap.size w w' ∧ ((∃ c n cs, getC b = .ok (c, n) ∧ e = .returned (.tuple #[.agg cs, .int .i64 (n : Int), .int .i64 0]) ∧ CkOwn w' w.heap.size cs c ∧ c.ok) ∨
    (∃ k, getC b = .error k ∧ e = .returned (.tuple #[.agg zeroA, .int .i64 0, .int .i64 (k : Int)])))
theorem res_ck {fn : Func} {p u v : Tmp} (h : fn.results = #[.cell p 42, .tmp u, .tmp v]) (tmps : Array Value) (w : World) (g : Nat) (cs : Array Value) (hp : tmps.getD p undef = .pointer (some ⟨g, 0, none⟩)) (hb : CkBlk w g cs) (hs : cs.size = 19) :
    (results fn tmps).run Try.prog w = .ok (.tuple #[.agg cs, tmps.getD u undef, tmps.getD v undef]) w := by
  have hl := run_loadVar_row (P := Try.prog) w g 42 42 cs (0, 0) _ hb Try.underlying42 rfl (by rw [hs]; exact chunk_info)
  have hp' : tmps[p]?.getD undef = .pointer (some ⟨g, 0, none⟩) := by simpa using hp
  simp [results, h, hp', asAddr, Sem.run_bind, Result.andThen, hl]
theorem setRow_blk {w : World} {g : Nat} {cs cs' : Array Value} (h : CkBlk w g cs) : CkBlk (w.setRow g cs') g cs' := setRow_heap w g cs cs' _ (0, 0) h
theorem setRow_fr (w : World) (g : Nat) (cs' : Array Value) : Fr (fun i => i = g) w (w.setRow g cs') := ⟨rfl, rfl, rfl, by simp, fun k _ hn => setRow_other w g k cs' (fun e => hn e)⟩

end Go.Proofs.Ytabkjgklmibagaa.Chk
