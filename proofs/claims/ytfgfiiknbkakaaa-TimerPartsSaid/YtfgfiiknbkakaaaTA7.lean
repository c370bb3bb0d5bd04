/-
  Of the texts TmPa: what the laws reach.
-/
import Derived.Test.YtfgfiiknbkakaaaTA5

set_option linter.unusedVariables false
set_option linter.unusedSimpArgs false
namespace Go.Proofs.Ytfgfiiknbkakaaa.Tm
open Go.ChangeShapes Go.WideShapes Go.ChangeAt Go.RowKit Go.Deep Go.Proofs.Ytfgfiiknbkakaaa.Words
section
variable {L M : List K} {x : K} {k : Int} {a c e : Nat}
theorem due_two (h : c ≤ e) : ∀ L : List K, dueL c L ++ dueL e (dueR c L) = dueL e L ∧ dueR e (dueR c L) = dueR e L
  | [] => ⟨rfl, rfl⟩
  | y :: L => by
    obtain ⟨h1, h2⟩ := due_two h L
    unfold dueL dueR at *
    by_cases hy : y.1 ≤ c
    · have hye : y.1 ≤ e := by omega
      rw [List.takeWhile_cons_of_pos (by simpa using hy), List.dropWhile_cons_of_pos (by simpa using hy), List.takeWhile_cons_of_pos (by simpa using hye), List.dropWhile_cons_of_pos (by simpa using hye)]
      exact ⟨by rw [List.cons_append, h1], h2⟩
    · rw [List.takeWhile_cons_of_neg (by simpa using hy), List.dropWhile_cons_of_neg (by simpa using hy)]
      exact ⟨rfl, rfl⟩
theorem stop_le : (stop k L).length ≤ L.length := List.length_filter_le _ _
theorem put_le : (put k a L).length ≤ L.length + 1 := by
  unfold put
  rw [ins_len]
  have := stop_le (k := k) (L := L)
  omega
theorem z64_app (l m : List Int) : z64 (l ++ m) = z64 l ++ z64 m := List.map_append
theorem z64_one (l : List Int) : ∀ u ∈ z64 l, u.oneCell' = true := by
  intro u hu
  obtain ⟨x, _, rfl⟩ := List.mem_map.1 hu
  rfl
theorem int_info3 : (Try.prog.info? 3).map (fun i => (i.zero, i.size, i.bytes)) = some (some (.int .i64 0), 1, 8) := by kernel_rfl
end
section
variable {R1 R2 : Mem} {w V V' V'' : World} {p1 p2 : Nat} {L1 L2 : List K} {S : Nat → Prop}
/-- Two tables and a row of numbers beside them. -/
structure TWr (R1 R2 : Mem) (w V : World) (p1 p2 : Nat) (L1 L2 : List K) (v : Value) (l : List Int) : Prop where
  tw : TW R1 R2 w V p1 p2 L1 L2 (fun i => v.ownBlock = some i)
  own : V.ownsRow w.heap.size 3 1 v l.length (z64 l)
theorem TWr.grows (I1 : Rep R1) (I2 : Rep R2) {v : Value} {l : List Int} (h : TWr R1 R2 w V p1 p2 L1 L2 v l) (hb : Below V.heap.size V V') : TWr R1 R2 w V' p1 p2 L1 L2 v l := ⟨h.tw.grows I1 I2 hb, row_below hb h.own⟩
/-- The row has grown. -/
theorem TWr.app (I1 : Rep R1) (I2 : Rep R2) {v v' : Value} {l m : List Int} {n : Nat} (h : TWr R1 R2 w V p1 p2 L1 L2 v l) (hg : V.grownBy V' v.ownBlock) (hn : n = (l ++ m).length) (ho : V'.ownsRow w.heap.size 3 1 v' n (z64 l ++ z64 m)) (hb : v'.ownBlock = v.ownBlock ∨ v'.ownBlock = some V.heap.size) : TWr R1 R2 w V' p1 p2 L1 L2 v' (l ++ m) := by
  subst hn
  rw [← z64_app] at ho
  refine ⟨h.tw.grown I1 I2 hg (fun g hg' => ⟨hg', (h.own.lt g hg').1⟩) (fun i hi => ?_), ho⟩
  have hi' : v'.ownBlock = some i := hi
  rcases hb with e | e
  · exact .inl (e ▸ hi')
  · rw [hi'] at e
    injection e with e
    subst e
    exact .inr ⟨Nat.le_refl _, (ho.lt _ hi').2⟩
theorem TWr.swap {v : Value} {l : List Int} (h : TWr R1 R2 w V p1 p2 L1 L2 v l) : TWr R2 R1 w V p2 p1 L2 L1 v l := ⟨h.tw.swap, h.own⟩
theorem TWr.len (I : TmI R1) (I2 : Rep R2) {v : Value} {l : List Int} (h : TWr R1 R2 w V p1 p2 L1 L2 v l) :
    Calls Try.prog 26 #[tptr p1] V fun e w' => e = .returned (.int .i64 (L1.length : Int)) ∧ Hid (Below V.heap.size V w') ∧ Hid (TWr R1 R2 w w' p1 p2 L1 L2 v l) :=
  (h.tw.len I I2).mono (fun e w' ⟨h1, _, h3⟩ => ⟨h1, h3, h.grows I.toRep I2 h3.out⟩)
theorem reads_i64 {A : Option Addr} {n B j : Nat} {l : List Int} (h : Reads V B 1 A n (z64 l)) (hj : j < n) : ∃ (ad : Addr) (x : Int), A = some ad ∧ l[j]? = some x ∧ V.cell? (ad.add j) = some (.int .i64 x) := by
  obtain ⟨ad, u, h1, _, h2, h3⟩ := h.at_ hj
  rw [List.getElem?_map] at h2
  cases hl : l[j]? with
  | none => rw [hl] at h2; cases h2
  | some x =>
    rw [hl] at h2
    injection h2 with h2
    exact ⟨ad, x, h1, rfl, by rw [h3, ← h2]⟩
theorem TWr.due (I : TmI R1) (I2 : Rep R2) {v : Value} {l : List Int} {now : Nat} (h : TWr R1 R2 w V p1 p2 L1 L2 v l) (hn : now ≤ 18446744073709551615) :
    Calls Try.prog 22 #[tptr p1, .int .u64 (now : Int)] V fun e w' => ∃ (A : Option Addr) (c n : Nat), e = .returned (.slice A n c) ∧ n ≤ c ∧ c ≤ 9223372036854775807 ∧ Hid (n = (dueL now L1).length) ∧ Hid (Reads w' w'.heap.size 1 A n (z64 ((dueL now L1).map (·.2)))) ∧ Hid (w.heap.size ≤ w'.heap.size) ∧ Hid (TWr R1 R2 w w' p1 p2 (dueR now L1) L2 v l) := by
  refine (h.tw.due I I2 hn).mono ?_
  rintro e w' ⟨A, c, n, rfl, h1, h2, h3, h4, h5, h6⟩
  exact ⟨A, c, n, rfl, h1, h2, h3, Reads.of_own h4.out, h5.out.bel.size, ⟨h5.out.more I.toRep I2 (Below.refl _ _) (fun i hi => .inl (.inl hi)), h6.out.own h.own (fun g hg => hg)⟩⟩
end
end Go.Proofs.Ytfgfiiknbkakaaa.Tm
