/-
  Of the texts Region, Stage: what the laws reach.
-/
import Derived.Test.YtkjlmibjpfmfnaaSA1

set_option linter.unusedVariables false
set_option linter.unusedSimpArgs false
namespace Go.Proofs.Ytkjlmibjpfmfnaa.Words
open Go.ChangeShapes Go.WideShapes Go.ChangeAt Go.RowKit
section
variable {P : Program} {ops : Array Oper}
/-- What an operation leaves: a value and a world, of which R holds; no way out by panic. -/
def Leaves (P : Program) (R : Value → World → Prop) : Result Next → Prop
  | .ok (.value v) w' => R v w'
  | .ok .skip w' => R undef w'
  | .ok (.enter f args) w' => Calls P f args w' (fun e w'' => ∃ v, e = .returned v ∧ R v w'')
  | _ => False
theorem wp_of_leaves {o : Oper} {a b : Act} {w : World} {R : Value → World → Prop} {K : Act → World → Prop} {Q : Exit → Act → World → Prop} (he : execOp a.eval o = execOp b.eval o)
    (h : Leaves P R ((execOp b.eval o).run P w)) (hK : ∀ v w', R v w' → K (a.put o.dst v) w') : o.wp P a w K Q := by
  unfold Oper.wp
  rw [he]
  generalize (execOp b.eval o).run P w = r at h
  cases r with
  | ok n w' =>
    cases n <;> simp only [Leaves] at h <;> simp only [Oper.upon]
    case value v => exact hK _ _ h
    case skip => exact hK _ _ h
    case enter f args => exact h.mono fun e w'' ⟨v, he, hv⟩ => by subst he; exact hK _ _ hv
  | halt x w' => simp only [Leaves] at h
/-- The frame behind some of the operations, in the order of the text. -/
def puts : List Oper → Nat → (Nat → Bool) → (Nat → Value) → Act → Act
  | [], _, _, _, a => a
  | o :: r, k, L, vs, a => puts r (k + 1) L vs (if L k then a.put o.dst (vs k) else a)
def dstApart (x y : Oper) : Bool := match x.dst with | some d => y.dst != some d | none => true
def dstsB : List Oper → Bool
  | [] => true
  | o :: r => r.all (dstApart o) && dstsB r
theorem puts_out (d : Option Tmp) (v : Value) : ∀ (l : List Oper) (k : Nat) (L : Nat → Bool) (vs : Nat → Value) (a : Act), (∀ o ∈ l, ∀ e, d = some e → o.dst ≠ some e) → puts l k L vs (a.put d v) = (puts l k L vs a).put d v
  | [], _, _, _, _, _ => rfl
  | o :: r, k, L, vs, a, h => by
    unfold puts
    split
    · rw [Act.put_comm a v (vs k) (h o (by simp))]
      exact puts_out d v r _ _ _ _ (fun o' ho' => h o' (by simp [ho']))
    · exact puts_out d v r _ _ _ _ (fun o' ho' => h o' (by simp [ho']))
theorem puts_congr : ∀ (l : List Oper) (k : Nat) (L L' : Nat → Bool) (vs vs' : Nat → Value) (a : Act), (∀ i, k ≤ i → L i = L' i) → (∀ i, k ≤ i → vs i = vs' i) → puts l k L vs a = puts l k L' vs' a
  | [], _, _, _, _, _, _, _, _ => rfl
  | o :: r, k, L, L', vs, vs', a, h, h' => by
    unfold puts
    rw [h k (Nat.le_refl _), h' k (Nat.le_refl _)]
    exact puts_congr r _ _ _ _ _ _ (fun i hi => h i (by omega)) (fun i hi => h' i (by omega))
theorem dstApart_spec {x y : Oper} (h : dstApart x y = true) : ∀ e, x.dst = some e → y.dst ≠ some e := by
  intro e he
  unfold dstApart at h
  rw [he] at h
  simpa using h
theorem puts_put (j : Nat) (oj : Oper) (v : Value) : ∀ (l : List Oper) (k : Nat) (L : Nat → Bool) (vs : Nat → Value) (a : Act), dstsB l = true → k ≤ j → l[j - k]? = some oj → L j = false →
    (puts l k L vs a).put oj.dst v = puts l k (fun i => if i = j then true else L i) (fun i => if i = j then v else vs i) a
  | [], _, _, _, _, _, _, h, _ => by simp at h
  | o :: r, k, L, vs, a, hd, hk, hj, hL => by
    simp only [dstsB, Bool.and_eq_true, List.all_eq_true] at hd
    unfold puts
    by_cases hkj : k = j
    · subst hkj
      simp only [Nat.sub_self, List.getElem?_cons_zero, Option.some.injEq] at hj
      subst hj
      simp only [hL, if_true, Bool.false_eq_true, if_false]
      rw [puts_out _ _ _ _ _ _ _ (fun o' ho' => dstApart_spec (hd.1 o' ho'))]
      congr 1
      exact puts_congr _ _ _ _ _ _ _ (fun i hi => by rw [if_neg (by omega)]) (fun i hi => by rw [if_neg (by omega)])
    · simp only [hkj, if_false]
      refine puts_put j oj v r (k + 1) L vs _ hd.2 (by omega) ?_ hL
      rw [← hj, show j - k = (j - (k + 1)) + 1 by omega, List.getElem?_cons_succ]
/-- Two frames that an operation cannot tell apart. -/
def Agree (T : List Tmp) (a b : Act) : Prop := a.tmps.size = b.tmps.size ∧ ∀ t ∈ T, a.tmps[t]? = b.tmps[t]?
theorem Agree.put {T : List Tmp} {a b : Act} (h : Agree T a b) (d : Option Tmp) (v : Value) : Agree T (a.put d v) (b.put d v) := by
  cases d with
  | none => exact h
  | some d =>
    refine ⟨by simp [Act.put, h.1], fun t ht => ?_⟩
    simp only [Act.put, Array.getElem?_setIfInBounds, h.1, h.2 t ht]
theorem Agree.left {T : List Tmp} {a b : Act} (h : Agree T a b) (d : Option Tmp) (v : Value) (hd : ∀ e, d = some e → e ∉ T) : Agree T (a.put d v) b := by
  cases d with
  | none => exact h
  | some d =>
    refine ⟨by simp [Act.put, h.1], fun t ht => ?_⟩
    have : d ≠ t := fun e => hd d rfl (e ▸ ht)
    simp [Act.put, Array.getElem?_setIfInBounds_ne this, h.2 t ht]
theorem Agree.symm {T : List Tmp} {a b : Act} (h : Agree T a b) : Agree T b a := ⟨h.1.symm, fun t ht => (h.2 t ht).symm⟩
theorem Agree.puts {T : List Tmp} : ∀ (l : List Oper) (k : Nat) (L L' : Nat → Bool) (vs : Nat → Value) (a b : Act), Agree T a b → (∀ i o, l[i]? = some o → L (k + i) ≠ L' (k + i) → ∀ e, o.dst = some e → e ∉ T) →
    Agree T (Words.puts l k L vs a) (Words.puts l k L' vs b)
  | [], _, _, _, _, _, _, h, _ => h
  | o :: r, k, L, L', vs, a, b, h, hd => by
    unfold Words.puts
    refine Agree.puts r (k + 1) L L' vs _ _ ?_ (fun i o' ho' hne => hd (i + 1) o' (by simpa using ho') (by rwa [show k + (i + 1) = k + 1 + i by omega]))
    have h0 := hd 0 o (by simp)
    rw [Nat.add_zero] at h0
    cases hL : L k <;> cases hL' : L' k <;> simp only [Bool.false_eq_true, if_true, if_false]
    · exact h
    · exact (h.symm.left _ _ (h0 (by rw [hL, hL']; decide))).symm
    · exact h.left _ _ (h0 (by rw [hL, hL']; decide))
    · exact h.put _ _
theorem Agree.exec {o : Oper} {a b : Act} (hs : ∀ cs b, o.op ≠ .select cs b) (h : Agree (o.looksAt ops) a b) : execOp a.eval o = execOp b.eval o :=
  execOp_congr o hs fun x hx => by
    cases x with
    | tmp t =>
      have := h.2 t (List.mem_append_left _ (List.mem_filterMap.2 ⟨.tmp t, by simpa using hx, rfl⟩))
      simp only [Act.eval, Array.getD_eq_getD_getElem?, this]
    | _ => rfl
theorem Agree.wanted {o : Oper} {a b : Act} (h : Agree (o.looksAt ops) a b) : Region.wanted o (yielded ops a.tmps) = Region.wanted o (yielded ops b.tmps) := by
  unfold Region.wanted
  cases hg : o.guard with
  | none => rfl
  | some gw =>
    obtain ⟨g, want⟩ := gw
    have hy : yielded ops a.tmps g = yielded ops b.tmps g := by
      unfold yielded
      cases ht : (ops[g]?).bind (·.dst) with
      | none => rfl
      | some t =>
        have := h.2 t (by simp [Oper.looksAt, hg, ht])
        simp [this]
    simp only [hy]
/-- Does operation x wait for operation k? -/
def waits (x : Oper) (k : Nat) : Bool := x.after.any fun e => Region.binds .any e && e.on == k
def looksApart (ops : Array Oper) (i : Nat) (o : Oper) (k : Nat) (x : Oper) : Bool :=
  match x.dst with
  | some d => !(o.looksAt ops).contains d || (if k < i then waits o k else if i < k then waits x i else true)
  | none => true
def monoFrom (ops : Array Oper) (i : Nat) (o : Oper) : Nat → List Oper → Bool
  | _, [] => true
  | k, x :: r => looksApart ops i o k x && monoFrom ops i o (k + 1) r
def monoAll (ops : Array Oper) : Nat → List Oper → Bool
  | _, [] => true
  | i, o :: r => monoFrom ops i o 0 ops.toList && monoAll ops (i + 1) r
def backFrom : Nat → List Oper → Bool
  | _, [] => true
  | i, o :: r => (o.after.all fun e => !Region.binds .any e || decide (e.on < i)) && backFrom (i + 1) r
theorem backFrom_spec : ∀ (l : List Oper) (i : Nat), backFrom i l = true → ∀ j o, l[j]? = some o → ∀ e ∈ o.after, Region.binds .any e = true → e.on < i + j
  | [], _, _, _, _, h => by simp at h
  | y :: r, k, hm, j, x, h => by
    simp only [backFrom, Bool.and_eq_true] at hm
    cases j with
    | zero =>
      simp only [List.getElem?_cons_zero, Option.some.injEq] at h
      subst h
      intro e he hb
      have := Array.all_eq_true_iff_forall_mem.1 hm.1 e he
      simpa [hb] using this
    | succ j => have := backFrom_spec r (k + 1) hm.2 j x (by simpa using h); rwa [show k + (j + 1) = k + 1 + j by omega]
def growB (ops : Array Oper) : Bool := dstsB ops.toList && Region.noSelect ops && monoAll ops 0 ops.toList && backFrom 0 ops.toList
theorem monoFrom_spec {i : Nat} {o : Oper} : ∀ (l : List Oper) (k : Nat), monoFrom ops i o k l = true → ∀ j x, l[j]? = some x → looksApart ops i o (k + j) x = true
  | [], _, _, _, _, h => by simp at h
  | y :: r, k, hm, j, x, h => by
    simp only [monoFrom, Bool.and_eq_true] at hm
    cases j with
    | zero => simp only [List.getElem?_cons_zero, Option.some.injEq] at h; subst h; exact hm.1
    | succ j => have := monoFrom_spec r (k + 1) hm.2 j x (by simpa using h); rwa [show k + (j + 1) = k + 1 + j by omega]
theorem monoAll_spec : ∀ (l : List Oper) (i : Nat), monoAll ops i l = true → ∀ j o, l[j]? = some o → monoFrom ops (i + j) o 0 ops.toList = true
  | [], _, _, _, _, h => by simp at h
  | y :: r, k, hm, j, x, h => by
    simp only [monoAll, Bool.and_eq_true] at hm
    cases j with
    | zero => simp only [List.getElem?_cons_zero, Option.some.injEq] at h; subst h; exact hm.1
    | succ j => have := monoAll_spec r (k + 1) hm.2 j x (by simpa using h); rwa [show k + (j + 1) = k + 1 + j by omega]
/-- How many have not come up yet. -/
def unlisted (listed : Array Bool) (l : List Nat) : Nat := l.countP fun i => !listed.getD i true
theorem unlisted_mono (listed : Array Bool) (j : Nat) : ∀ l : List Nat, unlisted (listed.setIfInBounds j true) l ≤ unlisted listed l
  | [] => Nat.le_refl _
  | i :: l => by
    have ih := unlisted_mono listed j l
    unfold unlisted at *
    simp only [List.countP_cons]
    have : (!(listed.setIfInBounds j true).getD i true) = true → (!listed.getD i true) = true := by
      intro h
      by_cases e : j = i
      · subst e
        exfalso
        rcases Nat.lt_or_ge j listed.size with h' | h'
        · simp [h'] at h
        · simp [Array.getElem?_eq_none h'] at h
      · rwa [getD_set_ne true e] at h
    by_cases h1 : (!(listed.setIfInBounds j true).getD i true) = true
    · rw [if_pos h1, if_pos (this h1)]; omega
    · rw [if_neg h1]; omega
theorem unlisted_less (listed : Array Bool) (j : Nat) (hj : listed.getD j true = false) : ∀ l : List Nat, j ∈ l → unlisted (listed.setIfInBounds j true) l < unlisted listed l
  | [], h => by simp at h
  | i :: l, h => by
    have hm := unlisted_mono listed j l
    by_cases e : i = j
    · subst e
      unfold unlisted at *
      simp only [List.countP_cons]
      have h1 : (!(listed.setIfInBounds i true).getD i true) = false := by
        have hlt : i < listed.size := by
          rcases Nat.lt_or_ge i listed.size with h' | h'
          · exact h'
          · simp [Array.getElem?_eq_none h'] at hj
        simp [hlt]
      rw [if_neg (by rw [h1]; decide), if_pos (by rw [hj]; rfl)]
      omega
    · have ih := unlisted_less listed j hj l (by simp at h; rcases h with h | h; exact absurd h.symm e; exact h)
      unfold unlisted at *
      simp only [List.countP_cons, getD_set_ne true (Ne.symm e)]
      omega
theorem getD_le {listed : Array Bool} {i : Nat} (h : listed.getD i false = true) : listed.getD i true = true := by
  rcases Nat.lt_or_ge i listed.size with h' | h'
  · simp [h'] at h ⊢; exact h
  · simp [Array.getElem?_eq_none h']
/-- What is said of an operation's value: which it is; or a property that lasts while memory grows. -/
inductive Told where
  | exact (v : Value)
  | grows (R : Value → World → Prop)
def Told.holds : Told → Value → World → Prop
  | .exact v, u, _ => u = v
  | .grows R, u, w => R u w
def Told.lasts : Told → Prop
  | .exact _ => True
  | .grows R => ∀ v w w', R v w → Below w.heap.size w w' → R v w'
/-- What operation o may lean on: the properties of those that it waits for. -/
def leans (o : Oper) (w : World) : Nat → List (Option (Value × (Value → World → Prop))) → Prop
  | _, [] => True
  | k, none :: F => leans o w (k + 1) F
  | k, some x :: F => (waits o k = true → x.2 x.1 w) ∧ leans o w (k + 1) F
def factsAll (w : World) : List (Option (Value × (Value → World → Prop))) → Prop
  | [] => True
  | none :: F => factsAll w F
  | some x :: F => x.2 x.1 w ∧ factsAll w F
/-- The value that is laid into the frame: the told one, if one is told. -/
def laidV (specs : List Told) (vs : Nat → Value) (k : Nat) : Value := match specs[k]? with | some (.exact v) => v | _ => vs k
def factOf (specs : List Told) (vs : Nat → Value) (k : Nat) : Option (Value × (Value → World → Prop)) := match specs[k]? with | some (.grows R) => some (vs k, R) | _ => none
theorem leans_of {specs : List Told} {vs : Nat → Value} {o : Oper} {w : World} : ∀ (n k : Nat), (∀ i, k ≤ i → i < k + n → waits o i = true → ∀ t, specs[i]? = some t → t.holds (vs i) w) → leans o w k ((List.range n).map fun i => factOf specs vs (k + i))
  | 0, _, _ => trivial
  | n + 1, k, h => by
    rw [List.range_succ_eq_map, List.map_cons, List.map_map]
    have ih := leans_of (specs := specs) (vs := vs) (o := o) (w := w) n (k + 1) (fun i h1 h2 => h i (by omega) (by omega))
    have e : ((List.range n).map ((fun i => factOf specs vs (k + i)) ∘ Nat.succ)) = (List.range n).map fun i => factOf specs vs (k + 1 + i) := by
      apply List.map_congr_left
      intro i _
      simp only [Function.comp, Nat.succ_eq_add_one]
      rw [show k + (i + 1) = k + 1 + i by omega]
    rw [e, Nat.add_zero]
    cases hf : factOf specs vs k with
    | none => exact ih
    | some x =>
      refine ⟨fun hw => ?_, ih⟩
      unfold factOf at hf
      split at hf
      · rename_i R hR
        simp only [Option.some.injEq] at hf
        subst hf
        exact h k (Nat.le_refl _) (by omega) hw _ hR
      · cases hf
theorem factsAll_of {specs : List Told} {vs : Nat → Value} {w : World} : ∀ (n k : Nat), (∀ i, k ≤ i → i < k + n → ∀ t, specs[i]? = some t → t.holds (vs i) w) → factsAll w ((List.range n).map fun i => factOf specs vs (k + i))
  | 0, _, _ => trivial
  | n + 1, k, h => by
    rw [List.range_succ_eq_map, List.map_cons, List.map_map]
    have ih := factsAll_of (specs := specs) (vs := vs) (w := w) n (k + 1) (fun i h1 h2 => h i (by omega) (by omega))
    have e : ((List.range n).map ((fun i => factOf specs vs (k + i)) ∘ Nat.succ)) = (List.range n).map fun i => factOf specs vs (k + 1 + i) := by
      apply List.map_congr_left
      intro i _
      simp only [Function.comp, Nat.succ_eq_add_one]
      rw [show k + (i + 1) = k + 1 + i by omega]
    rw [e, Nat.add_zero]
    cases hf : factOf specs vs k with
    | none => exact ih
    | some x =>
      refine ⟨?_, ih⟩
      unfold factOf at hf
      split at hf
      · rename_i R hR
        simp only [Option.some.injEq] at hf
        subst hf
        exact h k (Nat.le_refl _) (by omega) _ hR
      · cases hf
end
end Go.Proofs.Ytkjlmibjpfmfnaa.Words

set_option linter.unusedVariables false
set_option linter.unusedSimpArgs false
namespace Go.Proofs.Ytkjlmibjpfmfnaa.Words
open Go.ChangeShapes Go.WideShapes Go.ChangeAt Go.RowKit
section
variable {P : Program} {ops : Array Oper}
def depsOf (o : Oper) : List Nat := (o.after.toList.filter fun e => Region.binds .any e).map (·.on)
/-- All that a set of operations waits for, through whatever stands between. -/
def downs (ops : Array Oper) : Nat → List Nat → List Nat
  | 0, S => S
  | i + 1, S => downs ops i (if S.contains i then (match ops[i]? with | some o => depsOf o ++ S | none => S) else S)
theorem depsOf_spec {o : Oper} {k : Nat} : k ∈ depsOf o ↔ ∃ e ∈ o.after, Region.binds .any e = true ∧ e.on = k := by
  unfold depsOf
  simp only [List.mem_map, List.mem_filter, Array.mem_toList_iff]
  exact ⟨fun ⟨e, ⟨h1, h2⟩, h3⟩ => ⟨e, h1, h2, h3⟩, fun ⟨e, h1, h2, h3⟩ => ⟨e, ⟨h1, h2⟩, h3⟩⟩
theorem downs_spec {L : Nat → Prop} (hL : ∀ i o, ops[i]? = some o → L i → ∀ k ∈ depsOf o, L k) : ∀ (n : Nat) (S : List Nat), (∀ x ∈ S, L x) → ∀ x ∈ downs ops n S, L x
  | 0, S, h => h
  | i + 1, S, h => by
    unfold downs
    refine downs_spec hL i _ ?_
    split
    · rename_i hc
      have hi : L i := h i (by simpa using hc)
      split
      · rename_i o ho
        intro x hx
        rcases List.mem_append.1 hx with hx | hx
        · exact hL i o ho hi x hx
        · exact h x hx
      · exact h
    · exact h
/-- The movers: each waits for the one ahead of it. -/
def chainB (ops : Array Oper) : List Nat → Bool
  | [] => true
  | [i] => decide (i < ops.size)
  | k :: i :: r => decide (k < ops.size) && (decide (k < i) && ((match ops[i]? with | some o => (downs ops i (depsOf o)).contains k | none => false) && chainB ops (i :: r)))
theorem chainB_at : ∀ (ms : List Nat), chainB ops ms = true → ∀ n k i, ms[n]? = some k → ms[n + 1]? = some i → k < i ∧ ∃ o, ops[i]? = some o ∧ k ∈ downs ops i (depsOf o)
  | [], _, n, k, i, h, _ => by simp at h
  | [a], _, n, k, i, _, h => by simp at h
  | a :: b :: r, hc, n, k, i, h1, h2 => by
    simp only [chainB, Bool.and_eq_true, decide_eq_true_eq] at hc
    obtain ⟨_, hlt, hd, hr⟩ := hc
    cases n with
    | zero =>
      simp only [List.getElem?_cons_zero, Option.some.injEq, Nat.zero_add, List.getElem?_cons_succ] at h1 h2
      subst h1 h2
      cases ho : ops[b]? with
      | none => rw [ho] at hd; cases hd
      | some o => rw [ho] at hd; exact ⟨hlt, o, rfl, by simpa using hd⟩
    | succ n => exact chainB_at (b :: r) hr n k i (by simpa using h1) (by simpa using h2)
theorem chainB_size : ∀ (ms : List Nat), chainB ops ms = true → ∀ k ∈ ms, k < ops.size
  | [], _, k, h => by simp at h
  | [a], hc, k, h => by
    simp only [chainB, decide_eq_true_eq] at hc
    simp only [List.mem_singleton] at h
    subst h; exact hc
  | a :: b :: r, hc, k, h => by
    simp only [chainB, Bool.and_eq_true, decide_eq_true_eq] at hc
    rcases List.mem_cons.1 h with rfl | h
    · exact hc.1
    · exact chainB_size (b :: r) hc.2.2.2 k h
/-- What holds while the region goes on: m movers have run. -/
def StageInv (S : Nat → World → Prop) (ms : List Nat) (ops : Array Oper) (a0 : Act) (Φ : Nat → Value → World → Prop) (listed : Array Bool) (a : Act) (w : World) : Prop :=
  ∃ (vs : Nat → Value) (m : Nat), a = puts ops.toList 0 (fun k => listed.getD k true) vs a0 ∧ S m w ∧ m ≤ ms.length ∧ (∀ n k, ms[n]? = some k → (listed.getD k true = true ↔ n < m)) ∧
    (∀ i, i < ops.size → listed.getD i true = true → Φ i (vs i) w) ∧ ∀ i o, ops[i]? = some o → listed.getD i true = true → ∀ e ∈ o.after, Region.binds .any e = true → listed.getD e.on true = true
/-- What is asked of operation number j. -/
def StageOb (P : Program) (Rel : World → World → Prop) (S : Nat → World → Prop) (ms : List Nat) (ops : Array Oper) (a0 : Act) (Φ : Nat → Value → World → Prop) (j : Nat) (o : Oper) : Prop :=
  ∀ (vs : Nat → Value) (w : World) (m : Nat), S m w → (j ∈ ms → ms[m]? = some j) → (∀ k, waits o k = true → Φ k (vs k) w) →
    if Region.wanted o (yielded ops (puts ops.toList 0 (fun k => decide (k < j)) vs a0).tmps) = true then
      Leaves P (fun v w' => Rel w w' ∧ Φ j v w' ∧ ((j ∈ ms → S (m + 1) w') ∧ (j ∉ ms → S m w'))) ((execOp (puts ops.toList 0 (fun k => decide (k < j)) vs a0).eval o).run P w)
    else j ∉ ms ∧ Φ j undef w
theorem wpAny_stage {Rel : World → World → Prop} {S : Nat → World → Prop} {ms : List Nat} {a0 : Act} {Φ : Nat → Value → World → Prop} {Q : Exit → Act → World → Prop} (hB : growB ops = true) (hC : chainB ops ms = true) (hst : ∀ i v w w', Φ i v w → Rel w w' → Φ i v w')
    (hob : ∀ j o, ops[j]? = some o → StageOb P Rel S ms ops a0 Φ j o)
    (hend : ∀ vs w, S ms.length w → (∀ i, i < ops.size → Φ i (vs i) w) → Q .normal (puts ops.toList 0 (fun _ => true) vs a0) w) :
    ∀ (fuel : Nat) (listed : Array Bool) (a : Act) (w : World), listed.size = ops.size → unlisted listed (List.range ops.size) ≤ fuel → StageInv S ms ops a0 Φ listed a w → wpAny P .any ops Q fuel listed a w := by
  simp only [growB, Bool.and_eq_true] at hB
  obtain ⟨⟨⟨hB1, hB2⟩, hB3⟩, hB4⟩ := hB
  intro fuel
  have fin : ∀ (listed : Array Bool) (a : Act) (w : World), listed.size = ops.size → (∀ i, i < ops.size → listed.getD i true = true) → StageInv S ms ops a0 Φ listed a w → Q .normal a w := by
    rintro listed a w hsz hall ⟨vs, m, rfl, hS, hml, hmm, hΦ, _⟩
    have e : puts ops.toList 0 (fun k => listed.getD k true) vs a0 = puts ops.toList 0 (fun _ => true) vs a0 := puts_congr _ _ _ _ _ _ _ (fun i _ => by
      rcases Nat.lt_or_ge i ops.size with h | h
      · exact hall i h
      · simp [Array.getElem?_eq_none (show listed.size ≤ i by omega)]) (fun _ _ => rfl)
    rw [e]
    have hm : m = ms.length := by
      rcases Nat.lt_or_ge m ms.length with h | h
      · exfalso
        have hk := List.getElem?_eq_getElem h
        have := (hmm m _ hk).1 (hall _ (chainB_size ms hC _ (List.mem_of_getElem? hk)))
        omega
      · omega
    subst hm
    exact hend vs w hS (fun i hi => hΦ i hi (hall i hi))
  have at_ : ∀ {i : Nat} {o : Oper}, ops[i]? = some o → ops.toList[i]? = some o := fun h => by simpa using h
  have lt_ : ∀ {i : Nat} {o : Oper}, ops[i]? = some o → i < ops.size := fun h => by
    rcases Nat.lt_or_ge _ ops.size with h' | h'
    · exact h'
    · rw [Array.getElem?_eq_none h'] at h; cases h
  have back : ∀ i o, ops[i]? = some o → ∀ e ∈ o.after, Region.binds .any e = true → e.on < i := fun i o ho e he hb => by
    have := backFrom_spec ops.toList 0 hB4 i o (at_ ho) e he hb
    omega
  have toF : ∀ (listed : Array Bool) (k : Nat), listed.size = ops.size → k < ops.size → listed.getD k true = true → listed.getD k false = true := fun listed k hs hk h => by
    have h' : k < listed.size := by omega
    simp [h'] at h ⊢; exact h
  have all_of : ∀ (listed : Array Bool), listed.size = ops.size → Region.ready .any ops listed = [] → ∀ i, i < ops.size → listed.getD i true = true := by
    intro listed hsz hr i
    induction i using Nat.strongRecOn with
    | _ i ih =>
      intro hi
      cases hli : listed.getD i true with
      | true => rfl
      | false =>
        exfalso
        have : i ∈ Region.ready .any ops listed := mem_ready.2 ⟨hli, ops[i], by simp [hi], fun e he hb => by
          have hlt := back i ops[i] (by simp [hi]) e he hb
          exact toF listed e.on hsz (by omega) (ih e.on hlt (by omega))⟩
        rw [hr] at this
        cases this
  induction fuel with
  | zero =>
    intro listed a w hsz hc hI
    have hall : ∀ i, i < ops.size → listed.getD i true = true := by
      intro i hi
      have h0 : unlisted listed (List.range ops.size) = 0 := by omega
      unfold unlisted at h0
      rw [List.countP_eq_zero] at h0
      have := h0 i (by simpa using hi)
      simpa using this
    refine ⟨?_, fin listed a w hsz hall hI⟩
    unfold Region.ready
    rw [List.filter_eq_nil_iff]
    intro i hi
    have := hall i (by simpa using hi)
    simp [this]
  | succ fuel ih =>
    intro listed a w hsz hc hI
    refine ⟨fun h0 => fin listed a w hsz (all_of listed hsz h0) hI, fun i hi => ?_⟩
    obtain ⟨hun, o, ho, hdeps⟩ := mem_ready.1 hi
    obtain ⟨vs, m, rfl, hS, hml, hmm, hΦ, hdown⟩ := hI
    have hm := monoAll_spec ops.toList 0 hB3 i o (at_ ho)
    rw [Nat.zero_add] at hm
    have wspec : ∀ {x : Oper} {k : Nat}, waits x k = true → ∃ e ∈ x.after, Region.binds .any e = true ∧ e.on = k := fun h => by
      unfold waits at h
      rw [Array.any_eq_true'] at h
      obtain ⟨e, he, h⟩ := h
      simp only [Bool.and_eq_true, beq_iff_eq] at h
      exact ⟨e, he, h⟩
    have hag : Agree (o.looksAt ops) (puts ops.toList 0 (fun k => listed.getD k true) vs a0) (puts ops.toList 0 (fun k => decide (k < i)) vs a0) := by
      refine Agree.puts ops.toList 0 _ _ vs a0 a0 ⟨rfl, fun _ _ => rfl⟩ (fun k x hx hne d hd hmem => ?_)
      have hla := monoFrom_spec ops.toList 0 hm k x hx
      rw [Nat.zero_add] at hla hne
      unfold looksApart at hla
      rw [hd] at hla
      simp only [Bool.or_eq_true, Bool.not_eq_true', List.contains_eq_mem, decide_eq_false_iff_not] at hla
      rcases hla with hla | hla
      · exact hla hmem
      · by_cases h1 : k < i
        · rw [if_pos h1] at hla
          obtain ⟨e, he, hbi, rfl⟩ := wspec hla
          have := getD_le (hdeps e he hbi)
          exact hne (by rw [this]; simp [h1])
        · rw [if_neg h1] at hla
          by_cases h2 : i < k
          · rw [if_pos h2] at hla
            obtain ⟨e, he, hbi, rfl⟩ := wspec hla
            cases hl : listed.getD k true with
            | false => exact hne (by rw [hl]; simp; omega)
            | true =>
              have := hdown k x (by simpa using hx) hl e he hbi
              rw [hun] at this
              cases this
          · obtain rfl : k = i := by omega
            exact hne (by rw [hun]; simp)
    -- where a mover stands in the chain
    have hrank : i ∈ ms → ms[m]? = some i := by
      intro him
      obtain ⟨n, hn, hni⟩ := List.mem_iff_getElem.1 him
      have hn' : ms[n]? = some i := by rw [List.getElem?_eq_getElem hn, hni]
      have hge : ¬ n < m := fun h => by have := (hmm n i hn').2 h; rw [hun] at this; cases this
      have hle : n ≤ m := by
        cases n with
        | zero => omega
        | succ n =>
          have hk : ms[n]? = some (ms[n]'(by omega)) := List.getElem?_eq_getElem _
          obtain ⟨_, o', ho', hd⟩ := chainB_at ms hC n _ i hk hn'
          rw [ho] at ho'
          injection ho' with ho'
          subst ho'
          have hl := downs_spec (L := fun x => listed.getD x true = true) (ops := ops) (fun i o ho hi k hk => by
            obtain ⟨e, he, hb, rfl⟩ := depsOf_spec.1 hk
            exact hdown i o ho hi e he hb) i (depsOf o) (fun x hx => by
            obtain ⟨e, he, hb, rfl⟩ := depsOf_spec.1 hx
            exact getD_le (hdeps e he hb)) _ hd
          have := (hmm n _ hk).1 hl
          omega
      have : n = m := by omega
      subst this
      exact hn'
    have hob' := hob i o ho vs w m hS hrank (fun k hk => by
      obtain ⟨e, he, hbi, rfl⟩ := wspec hk
      exact hΦ e.on (by have := back i o ho e he hbi; have := lt_ ho; omega) (getD_le (hdeps e he hbi)))
    rw [← hag.wanted] at hob'
    have hsame : ∀ k, (listed.setIfInBounds i true).getD k true = if k = i then true else listed.getD k true := fun k => by
      by_cases hk : k = i
      · subst hk
        have : k < listed.size := by rw [hsz]; exact lt_ ho
        simp [this]
      · rw [if_neg hk, getD_set_ne true (Ne.symm hk)]
    have hinj : ∀ n n' : Nat, ms[n]? = some i → ms[n']? = some i → n = n' := by
      have key : ∀ d n k k', ms[n]? = some k → ms[n + d + 1]? = some k' → k < k' := by
        intro d
        induction d with
        | zero => intro n k k' h1 h2; exact (chainB_at ms hC n k k' h1 h2).1
        | succ d ihd =>
          intro n k k' h1 h2
          have hlt : n + d + 1 < ms.length := by
            have := (List.getElem?_eq_some_iff.1 h2).1
            omega
          have hx := List.getElem?_eq_getElem hlt
          have h3 := ihd n k _ h1 hx
          have h4 := (chainB_at ms hC (n + d + 1) _ k' hx (by rw [← h2]; rfl)).1
          omega
      intro n n' h1 h2
      rcases Nat.lt_trichotomy n n' with h | h | h
      · have := key (n' - n - 1) n i i h1 (by rw [show n + (n' - n - 1) + 1 = n' by omega]; exact h2); omega
      · exact h
      · have := key (n - n' - 1) n' i i h2 (by rw [show n' + (n - n' - 1) + 1 = n by omega]; exact h1); omega
    have next : ∀ v w', Rel w w' → Φ i v w' → ((i ∈ ms → S (m + 1) w') ∧ (i ∉ ms → S m w')) → wpAny P .any ops Q fuel (listed.setIfInBounds i true) ((puts ops.toList 0 (fun k => listed.getD k true) vs a0).put o.dst v) w' := by
      intro v w' hR hv hS'
      have hrest : ∀ k, k < ops.size → (listed.setIfInBounds i true).getD k true = true → Φ k (if k = i then v else vs k) w' := fun k hk hl => by
        by_cases hk' : k = i
        · subst hk'; rw [if_pos rfl]; exact hv
        · rw [if_neg hk']
          rw [hsame, if_neg hk'] at hl
          exact hst _ _ _ _ (hΦ k hk hl) hR
      have hdn : ∀ k x, ops[k]? = some x → (listed.setIfInBounds i true).getD k true = true → ∀ e ∈ x.after, Region.binds .any e = true → (listed.setIfInBounds i true).getD e.on true = true := fun k x hx hl e he hbi => by
        rw [hsame] at hl ⊢
        by_cases hk' : k = i
        · subst hk'
          rw [hx] at ho
          injection ho with ho
          subst ho
          split
          · rfl
          · exact getD_le (hdeps e he hbi)
        · rw [if_neg hk'] at hl
          split
          · rfl
          · exact hdown k x hx hl e he hbi
      have hun2 := unlisted_less listed i hun (List.range ops.size) (by simpa using lt_ ho)
      have hput : (puts ops.toList 0 (fun k => listed.getD k true) vs a0).put o.dst v = puts ops.toList 0 (fun k => (listed.setIfInBounds i true).getD k true) (fun k => if k = i then v else vs k) a0 := by
        rw [puts_put i o v ops.toList 0 _ vs a0 hB1 (Nat.zero_le _) (by simpa using ho) hun]
        exact puts_congr _ _ _ _ _ _ _ (fun k _ => (hsame k).symm) (fun _ _ => rfl)
      by_cases him : i ∈ ms
      · have hmi := hrank him
        have hlt := (List.getElem?_eq_some_iff.1 hmi).1
        refine ih _ _ w' (by simpa using hsz) (by omega) ⟨fun k => if k = i then v else vs k, m + 1, hput, hS'.1 him, by omega, fun n k hk => ?_, hrest, hdn⟩
        rw [hsame]
        by_cases hki : k = i
        · subst hki
          have := hinj n m hk hmi
          simp; omega
        · rw [if_neg hki, hmm n k hk]
          constructor
          · omega
          · intro h
            rcases Nat.lt_or_ge n m with h1 | h1
            · exact h1
            · have : n = m := by omega
              subst this
              rw [hk] at hmi
              injection hmi with hmi
              exact absurd hmi hki
      · refine ih _ _ w' (by simpa using hsz) (by omega) ⟨fun k => if k = i then v else vs k, m, hput, hS'.2 him, hml, fun n k hk => ?_, hrest, hdn⟩
        rw [hsame]
        have hki : k ≠ i := fun e => by subst e; exact him (List.mem_of_getElem? hk)
        rw [if_neg hki, hmm n k hk]
    unfold wpOp
    rw [ho]
    simp only
    split
    · rename_i hw
      rw [if_pos hw] at hob'
      exact .inl (wp_of_leaves (hag.exec (fun cs b => Region.noSelect_spec hB2 i o cs b ho)) hob' (fun v w' h => next v w' h.1 h.2.1 h.2.2))
    · rename_i hw
      rw [if_neg hw] at hob'
      -- what is not wanted leaves the world alone
      have hrest : ∀ k, k < ops.size → (listed.setIfInBounds i true).getD k true = true → Φ k (if k = i then undef else vs k) w := fun k hk hl => by
        by_cases hk' : k = i
        · subst hk'; rw [if_pos rfl]; exact hob'.2
        · rw [if_neg hk']
          rw [hsame, if_neg hk'] at hl
          exact hΦ k hk hl
      refine ih _ _ w (by simpa using hsz) (by have := unlisted_less listed i hun (List.range ops.size) (by simpa using lt_ ho); omega) ⟨fun k => if k = i then undef else vs k, m, ?_, hS, hml, fun n k hk => ?_, hrest, fun k x hx hl e he hbi => ?_⟩
      · rw [puts_put i o undef ops.toList 0 _ vs a0 hB1 (Nat.zero_le _) (by simpa using ho) hun]
        exact puts_congr _ _ _ _ _ _ _ (fun k _ => (hsame k).symm) (fun _ _ => rfl)
      · rw [hsame]
        have hki : k ≠ i := fun e => by subst e; exact hob'.1 (List.mem_of_getElem? hk)
        rw [if_neg hki, hmm n k hk]
      · rw [hsame] at hl ⊢
        by_cases hk' : k = i
        · subst hk'
          rw [hx] at ho
          injection ho with ho
          subst ho
          split
          · rfl
          · exact getD_le (hdeps e he hbi)
        · rw [if_neg hk'] at hl
          split
          · rfl
          · exact hdown k x hx hl e he hbi
abbrev Spec := Bool × Told
def moversFrom : Nat → List Spec → List Nat
  | _, [] => []
  | k, (true, _) :: s => k :: moversFrom (k + 1) s
  | k, (false, _) :: s => moversFrom (k + 1) s
def flags (s : List Spec) : Nat := s.countP (·.1)
theorem moversFrom_len : ∀ (s : List Spec) (k : Nat), (moversFrom k s).length = flags s
  | [], _ => rfl
  | (true, _) :: s, k => by simp [moversFrom, flags, moversFrom_len s (k + 1)]
  | (false, _) :: s, k => by simp [moversFrom, flags, moversFrom_len s (k + 1)]
theorem moversFrom_mem : ∀ (s : List Spec) (k j : Nat), j ∈ moversFrom k s ↔ k ≤ j ∧ (s[j - k]?.map (·.1)) = some true
  | [], k, j => by simp [moversFrom]
  | (true, t) :: s, k, j => by
    simp only [moversFrom, List.mem_cons, moversFrom_mem s (k + 1) j]
    constructor
    · rintro (rfl | ⟨h1, h2⟩)
      · simp
      · refine ⟨by omega, ?_⟩
        rw [show j - k = (j - (k + 1)) + 1 by omega, List.getElem?_cons_succ]; exact h2
    · rintro ⟨h1, h2⟩
      rcases Nat.lt_or_ge k j with h | h
      · refine .inr ⟨h, ?_⟩
        rw [show j - k = (j - (k + 1)) + 1 by omega, List.getElem?_cons_succ] at h2; exact h2
      · exact .inl (by omega)
  | (false, t) :: s, k, j => by
    simp only [moversFrom, moversFrom_mem s (k + 1) j]
    constructor
    · rintro ⟨h1, h2⟩
      refine ⟨by omega, ?_⟩
      rw [show j - k = (j - (k + 1)) + 1 by omega, List.getElem?_cons_succ]; exact h2
    · rintro ⟨h1, h2⟩
      rcases Nat.lt_or_ge k j with h | h
      · refine ⟨h, ?_⟩
        rw [show j - k = (j - (k + 1)) + 1 by omega, List.getElem?_cons_succ] at h2; exact h2
      · rw [show j - k = 0 by omega] at h2
        simp at h2
theorem moversFrom_at : ∀ (s : List Spec) (k m j : Nat), (moversFrom k s)[m]? = some j → k ≤ j ∧ m = flags (s.take (j - k))
  | [], k, m, j, h => by simp [moversFrom] at h
  | (true, t) :: s, k, m, j, h => by
    cases m with
    | zero =>
      simp only [moversFrom, List.getElem?_cons_zero, Option.some.injEq] at h
      subst h
      exact ⟨Nat.le_refl _, by simp [flags]⟩
    | succ m =>
      have h2 := moversFrom_at s (k + 1) m j (by simpa [moversFrom] using h)
      refine ⟨by omega, ?_⟩
      rw [show j - k = (j - (k + 1)) + 1 by omega, List.take_succ_cons]
      simp only [flags, List.countP_cons, if_true]
      have := h2.2
      simp only [flags] at this
      omega
  | (false, t) :: s, k, m, j, h => by
    have h2 := moversFrom_at s (k + 1) m j (by simpa [moversFrom] using h)
    refine ⟨by omega, ?_⟩
    rw [show j - k = (j - (k + 1)) + 1 by omega, List.take_succ_cons]
    simp only [flags, List.countP_cons, Bool.false_eq_true, if_false, Nat.add_zero]
    exact h2.2
def Told.isVal : Told → Value → Prop
  | .exact u, v => v = u
  | .grows _, _ => True
def Told.fact : Told → Value → Option (Value × (Value → World → Prop))
  | .exact _, _ => none
  | .grows R, v => some (v, R)
def Told.val : Told → Value → Value
  | .exact u, _ => u
  | .grows _, v => v
theorem Told.isVal_val (t : Told) (v : Value) : t.isVal (t.val v) := by cases t <;> simp [Told.isVal, Told.val]
def StageWalk (P : Program) (Rel : World → World → Prop) (S : Nat → World → Prop) (ops : Array Oper) (Q : Act → World → Prop) : List Oper → List Spec → Nat → Act → List (Option (Value × (Value → World → Prop))) → Prop
  | [], _, n, b, F => ∀ w, S n w → factsAll w F → Q b w
  | _ :: _, [], _, _, _ => False
  | o :: r, (mv, t) :: s, n, b, F =>
    (∀ w m, S m w → (mv = true → m = n) → leans o w 0 F → if Region.wanted o (yielded ops b.tmps) = true then Leaves P (fun u w' => Rel w w' ∧ t.holds u w' ∧ S (if mv = true then m + 1 else m) w') ((execOp b.eval o).run P w) else mv = false ∧ t.holds undef w) ∧
    ∀ v, t.isVal v → StageWalk P Rel S ops Q r s (if mv = true then n + 1 else n) (b.put o.dst v) (F ++ [t.fact v])
def lastsR (Rel : World → World → Prop) : List Spec → Prop
  | [] => True
  | (_, .exact _) :: s => lastsR Rel s
  | (_, .grows R) :: s => (∀ v w w', R v w → Rel w w' → R v w') ∧ lastsR Rel s
theorem lastsR_of {Rel : World → World → Prop} : ∀ (s : List Spec), lastsR Rel s → ∀ x ∈ s, ∀ v w w', x.2.holds v w → Rel w w' → x.2.holds v w'
  | [], _, _, h => by simp at h
  | (_, .exact u) :: s, h, x, hx => by
    simp only [List.mem_cons] at hx
    rcases hx with rfl | hx
    · intro v w w' hv _; exact hv
    · exact lastsR_of s h x hx
  | (_, .grows R) :: s, h, x, hx => by
    simp only [List.mem_cons] at hx
    rcases hx with rfl | hx
    · exact h.1
    · exact lastsR_of s h.2 x hx
def toldsOf (s : List Spec) : List Told := s.map (·.2)
theorem laidV_of {s : List Spec} {vs : Nat → Value} {k : Nat} {mv : Bool} {t : Told} (h : s[k]? = some (mv, t)) : laidV (toldsOf s) vs k = t.val (vs k) := by
  unfold laidV toldsOf
  rw [List.getElem?_map, h]
  cases t <;> rfl
theorem factOf_of {s : List Spec} {vs : Nat → Value} {k : Nat} {mv : Bool} {t : Told} (h : s[k]? = some (mv, t)) : factOf (toldsOf s) vs k = t.fact (t.val (vs k)) := by
  unfold factOf toldsOf
  rw [List.getElem?_map, h]
  cases t <;> rfl
theorem stageWalk_at {Rel : World → World → Prop} {S : Nat → World → Prop} {Q : Act → World → Prop} {specs : List Spec} (vs : Nat → Value) : ∀ (l : List Oper) (s : List Spec) (k n : Nat) (b : Act), l.length = s.length → (∀ i, s[i]? = specs[k + i]?) →
    StageWalk P Rel S ops Q l s n b ((List.range k).map fun i => factOf (toldsOf specs) vs (0 + i)) →
    (∀ j o mv t, l[j]? = some o → s[j]? = some (mv, t) → ∀ w m, S m w → (mv = true → m = n + flags (s.take j)) → leans o w 0 ((List.range (k + j)).map fun i => factOf (toldsOf specs) vs (0 + i)) →
      if Region.wanted o (yielded ops (puts l k (fun i => decide (i < k + j)) (laidV (toldsOf specs) vs) b).tmps) = true then Leaves P (fun u w' => Rel w w' ∧ t.holds u w' ∧ S (if mv = true then m + 1 else m) w') ((execOp (puts l k (fun i => decide (i < k + j)) (laidV (toldsOf specs) vs) b).eval o).run P w) else mv = false ∧ t.holds undef w) ∧
    (∀ w, S (n + flags s) w → factsAll w ((List.range (k + l.length)).map fun i => factOf (toldsOf specs) vs (0 + i)) → Q (puts l k (fun _ => true) (laidV (toldsOf specs) vs) b) w)
  | [], s, k, n, b, hl, hs, h => ⟨fun j o mv t hj => by simp at hj, by
    have : s = [] := List.eq_nil_of_length_eq_zero (by simpa using hl.symm)
    subst this
    simpa [flags, StageWalk, puts] using h⟩
  | o :: r, [], k, n, b, hl, hs, h => by simp at hl
  | o :: r, (mv0, t0) :: s, k, n, b, hl, hs, h => by
    have hk : specs[k]? = some (mv0, t0) := by have := hs 0; simpa using this.symm
    have hF : ((List.range (k + 1)).map fun i => factOf (toldsOf specs) vs (0 + i)) = ((List.range k).map fun i => factOf (toldsOf specs) vs (0 + i)) ++ [t0.fact (t0.val (vs k))] := by
      rw [List.range_succ, List.map_append]; simp [factOf_of hk]
    obtain ⟨key1, key2⟩ := h
    have key2 := key2 _ (t0.isVal_val (vs k))
    rw [← hF] at key2
    have ih := stageWalk_at (specs := specs) vs r s (k + 1) (if mv0 = true then n + 1 else n) (b.put o.dst (t0.val (vs k))) (by simpa using hl) (fun i => by have := hs (i + 1); rw [show k + (i + 1) = k + 1 + i by omega] at this; simpa using this) key2
    have hfl : ∀ s' : List Spec, (if mv0 = true then n + 1 else n) + flags s' = n + flags ((mv0, t0) :: s') := fun s' => by
      cases mv0 <;> simp [flags] <;> omega
    constructor
    · intro j oj mv t hj htj w m hS hm hle
      cases j with
      | zero =>
        simp only [List.getElem?_cons_zero, Option.some.injEq, Prod.mk.injEq] at hj htj
        obtain ⟨rfl, rfl⟩ := htj
        subst hj
        have e : puts (o :: r) k (fun i => decide (i < k + 0)) (laidV (toldsOf specs) vs) b = b := by
          have : ∀ (l : List Oper) (m : Nat) (a : Act), k ≤ m → puts l m (fun i => decide (i < k + 0)) (laidV (toldsOf specs) vs) a = a := by
            intro l
            induction l with
            | nil => intros; rfl
            | cons o r ih =>
              intro m a hm
              unfold puts
              rw [if_neg (by simp; omega)]
              exact ih (m + 1) a (by omega)
          exact this _ k b (Nat.le_refl _)
        rw [e]
        exact key1 w m hS (by simpa [flags] using hm) hle
      | succ j =>
        have := ih.1 j oj mv t (by simpa using hj) (by simpa using htj) w m hS (fun h => by rw [hm h, hfl, List.take_succ_cons]) (by rw [show k + 1 + j = k + (j + 1) by omega]; exact hle)
        have e : puts (o :: r) k (fun i => decide (i < k + (j + 1))) (laidV (toldsOf specs) vs) b = puts r (k + 1) (fun i => decide (i < k + 1 + j)) (laidV (toldsOf specs) vs) (b.put o.dst (t0.val (vs k))) := by
          conv => lhs; unfold puts
          rw [if_pos (by simp), show k + (j + 1) = k + 1 + j by omega, laidV_of hk]
        rw [e]
        exact this
    · intro w hS hall
      have := ih.2 w (by rw [hfl]; exact hS) (by rw [show k + 1 + r.length = k + (o :: r).length by simp; omega]; exact hall)
      have e : puts (o :: r) k (fun _ => true) (laidV (toldsOf specs) vs) b = puts r (k + 1) (fun _ => true) (laidV (toldsOf specs) vs) (b.put o.dst (t0.val (vs k))) := by
        conv => lhs; unfold puts
        rw [if_pos rfl, laidV_of hk]
      rw [e]
      exact this
/-- THE REGION, WALKED ONCE IN THE ORDER OF THE TEXT, WHATEVER ORDER IS DRAWN; its movers move a state S. -/
theorem wp_region_stage (Rel : World → World → Prop) (S : Nat → World → Prop) {id : Nat} {a0 : Act} {w : World} {l : List Oper} {Q : Exit → Act → World → Prop} (specs : List Spec) (hm : P.follows .mixedOrders = true) (hB : growB l.toArray = true) (hC : chainB l.toArray (moversFrom 0 specs) = true)
    (hlen : l.length = specs.length) (hst0 : lastsR Rel specs) (h0 : S 0 w.drew) (h : StageWalk P Rel S l.toArray (Q .normal) l specs 0 a0 []) : (Code.region id l.toArray true).wp P Q a0 w := by
  have hst := lastsR_of specs hst0
  have hB' := hB
  simp only [growB, Bool.and_eq_true] at hB'
  obtain ⟨⟨⟨hB1, hB2⟩, hB3⟩, hB4⟩ := hB'
  have hmem : ∀ j mv t, specs[j]? = some (mv, t) → (j ∈ moversFrom 0 specs ↔ mv = true) := fun j mv t hj => by
    rw [moversFrom_mem, Nat.sub_zero, hj]
    simp
  refine wp_region_any hm (wpAny_stage (Rel := Rel) (S := S) (ms := moversFrom 0 specs) (a0 := a0) (Φ := fun i v w' => match specs[i]? with | some x => x.2.holds v w' | none => True) hB hC ?_ ?_ ?_ _ _ _ _ (by simp) ?_ ⟨fun _ => undef, 0, ?_, h0, Nat.zero_le _, fun n k hk => ?_, fun i hi h => ?_, fun i o hi h => ?_⟩)
  · intro i v w1 w2 hv hr
    cases hs : specs[i]? with
    | none => simp [hs]
    | some x =>
      simp only [hs] at hv ⊢
      exact hst x (List.mem_of_getElem? hs) v w1 w2 hv hr
  · intro j o hj
    have hj' : l[j]? = some o := by simpa using hj
    have hjl : j < l.length := (List.getElem?_eq_some_iff.1 hj').1
    obtain ⟨mv, t, hsj⟩ : ∃ mv t, specs[j]? = some (mv, t) := ⟨_, _, List.getElem?_eq_getElem (by omega)⟩
    intro vs w1 m hS hmv hf
    have hwalk := stageWalk_at (specs := specs) vs l specs 0 0 a0 hlen (fun i => by simp) (by simpa using h)
    have hob := hwalk.1 j o mv t hj' hsj w1 m hS (fun hmt => by
      have := (moversFrom_at specs 0 m j (hmv ((hmem j mv t hsj).2 hmt))).2
      rw [Nat.sub_zero] at this
      omega) (by
      rw [Nat.zero_add]
      refine leans_of j 0 (fun i _ hi hw u hu => ?_)
      have hi2 := hf i hw
      unfold toldsOf at hu
      rw [List.getElem?_map] at hu
      cases hsi : specs[i]? with
      | none => rw [hsi] at hu; cases hu
      | some x =>
        rw [hsi] at hu
        simp only [Option.map_some, Option.some.injEq] at hu
        subst hu
        simp only [hsi] at hi2
        exact hi2)
    have hm3 := monoAll_spec l.toArray.toList 0 hB3 j o (by simpa using hj')
    rw [Nat.zero_add] at hm3
    have hag : Agree (o.looksAt l.toArray) (puts l.toArray.toList 0 (fun k => decide (k < j)) vs a0) (puts l 0 (fun i => decide (i < 0 + j)) (laidV (toldsOf specs) vs) a0) := by
      have gen : ∀ (r : List Oper) (k : Nat) (a b : Act), (∀ i x, r[i]? = some x → l[k + i]? = some x) → Agree (o.looksAt l.toArray) a b → Agree (o.looksAt l.toArray) (puts r k (fun k => decide (k < j)) vs a) (puts r k (fun i => decide (i < 0 + j)) (laidV (toldsOf specs) vs) b) := by
        intro r
        induction r with
        | nil => intro k a b _ hab; exact hab
        | cons x r ih =>
          intro k a b hr hab
          unfold puts
          refine ih (k + 1) _ _ (fun i y hy => by have := hr (i + 1) y (by simpa using hy); rwa [show k + 1 + i = k + (i + 1) by omega]) ?_
          rw [Nat.zero_add]
          by_cases hkj : k < j
          · rw [if_pos (by simpa using hkj), if_pos (by simpa using hkj)]
            have hx := hr 0 x (by simp)
            rw [Nat.add_zero] at hx
            by_cases hw : waits o k = true
            · have hk := hf k hw
              have e : laidV (toldsOf specs) vs k = vs k := by
                obtain ⟨mvk, tk, hsk⟩ : ∃ mv t, specs[k]? = some (mv, t) := ⟨_, _, List.getElem?_eq_getElem (by omega)⟩
                rw [laidV_of hsk]
                simp only [hsk] at hk
                cases tk with
                | exact u => exact hk.symm
                | grows R => rfl
              rw [e]
              exact hab.put _ _
            · have hla := monoFrom_spec l.toArray.toList 0 hm3 k x (by simpa using hx)
              rw [Nat.zero_add] at hla
              have hno : ∀ d, x.dst = some d → d ∉ o.looksAt l.toArray := by
                intro d hd hmem
                unfold looksApart at hla
                rw [hd] at hla
                simp only [Bool.or_eq_true, Bool.not_eq_true', List.contains_eq_mem, decide_eq_false_iff_not] at hla
                rcases hla with hla | hla
                · exact hla hmem
                · rw [if_pos hkj] at hla; exact hw hla
              exact ((hab.left _ _ hno).symm.left _ _ hno).symm
          · rw [if_neg (by simpa using hkj), if_neg (by simpa using hkj)]
            exact hab
      have := gen l 0 a0 a0 (fun i x hx => by rwa [Nat.zero_add]) ⟨rfl, fun _ _ => rfl⟩
      simpa using this
    have hmj := hmem j mv t hsj
    have hs2 : (match specs[j]? with | some x => x.2.holds undef w1 | none => True) = t.holds undef w1 := by rw [hsj]
    have hs3 : ∀ (v : Value) (w' : World), (Rel w1 w' ∧ t.holds v w' ∧ S (if mv = true then m + 1 else m) w') → (Rel w1 w' ∧ (match specs[j]? with | some x => x.2.holds v w' | none => True) ∧ ((j ∈ moversFrom 0 specs → S (m + 1) w') ∧ (j ∉ moversFrom 0 specs → S m w'))) := by
      rintro v w' ⟨h1, h2, h3⟩
      refine ⟨h1, by rw [hsj]; exact h2, fun hin => ?_, fun hin => ?_⟩
      · rw [if_pos (hmj.1 hin)] at h3; exact h3
      · rw [if_neg (fun e => hin (hmj.2 e))] at h3; exact h3
    rw [hag.wanted, hag.exec (fun cs b => Region.noSelect_spec hB2 j o cs b hj)]
    split at hob
    · rename_i hw
      rw [if_pos hw]
      generalize (execOp (puts l 0 (fun i => decide (i < 0 + j)) (laidV (toldsOf specs) vs) a0).eval o).run P w1 = rr at hob
      cases rr with
      | ok nx w' =>
        cases nx <;> simp only [Leaves] at hob ⊢
        case value v => exact hs3 _ _ hob
        case skip => exact hs3 _ _ hob
        case enter f args => exact hob.mono fun e w'' ⟨v, he, hv⟩ => ⟨v, he, hs3 _ _ hv⟩
      | halt x w' => simp only [Leaves] at hob
    · rename_i hw
      rw [if_neg hw]
      refine ⟨fun hin => ?_, by show (match specs[j]? with | some x => x.2.holds undef w1 | none => True); rw [hs2]; exact hob.2⟩
      rw [hmj.1 hin] at hob
      cases hob.1
  · intro vs w' hS hall
    have hwalk := stageWalk_at (specs := specs) vs l specs 0 0 a0 hlen (fun i => by simp) (by simpa using h)
    rw [moversFrom_len] at hS
    have hend := hwalk.2 w' (by rw [Nat.zero_add]; exact hS) (factsAll_of _ 0 (fun i _ hi u hu => by
      have hi2 := hall i (by simpa using hi)
      unfold toldsOf at hu
      rw [List.getElem?_map] at hu
      cases hsi : specs[i]? with
      | none => rw [hsi] at hu; cases hu
      | some x =>
        rw [hsi] at hu
        simp only [Option.map_some, Option.some.injEq] at hu
        subst hu
        simp only [hsi] at hi2
        exact hi2))
    have e : puts l.toArray.toList 0 (fun _ => true) vs a0 = puts l 0 (fun _ => true) (laidV (toldsOf specs) vs) a0 := by
      have gen : ∀ (r : List Oper) (k : Nat) (a : Act), k + r.length ≤ l.length → puts r k (fun _ => true) vs a = puts r k (fun _ => true) (laidV (toldsOf specs) vs) a := by
        intro r
        induction r with
        | nil => intros; rfl
        | cons x r ih =>
          intro k a hk
          unfold puts
          simp only [List.length_cons] at hk
          have e : laidV (toldsOf specs) vs k = vs k := by
            obtain ⟨mvk, tk, hsk⟩ : ∃ mv t, specs[k]? = some (mv, t) := ⟨_, _, List.getElem?_eq_getElem (by omega)⟩
            rw [laidV_of hsk]
            have := hall k (by simp; omega)
            simp only [hsk] at this
            cases tk with
            | exact u => exact this.symm
            | grows R => rfl
          rw [e]
          exact ih (k + 1) _ (by omega)
      have := gen l 0 a0 (by omega)
      simpa using this
    rw [e]
    exact hend
  · have : ∀ (l : List Nat) (L : Array Bool), unlisted L l ≤ l.length := fun l L => List.countP_le_length
    have := this (List.range l.toArray.size) (Array.replicate l.toArray.size false)
    simpa using this
  · have : ∀ (l : List Oper) (k : Nat) (L : Nat → Bool) (vs : Nat → Value) (a : Act), (∀ i, i < l.length → L (k + i) = false) → puts l k L vs a = a := by
      intro l
      induction l with
      | nil => intros; rfl
      | cons o r ih =>
        intro k L vs a h
        unfold puts
        have h0 := h 0 (by simp)
        rw [Nat.add_zero] at h0
        rw [h0, if_neg (by decide)]
        exact ih (k + 1) L vs a (fun i hi => by have := h (i + 1) (by simpa using hi); rwa [show k + 1 + i = k + (i + 1) by omega])
    exact (this l.toArray.toList 0 _ _ a0 (fun i hi => by simp at hi; simp [hi])).symm
  · have hk' := chainB_size _ hC k (List.mem_of_getElem? hk)
    simp at hk'
    simp [hk']
  · have hi' : i < l.length := by simpa using hi
    exfalso
    simp [hi'] at h
  · have hi' : i < l.length := by
      have := (Array.getElem?_eq_some_iff.1 hi).1
      simpa using this
    exfalso
    simp [hi'] at h
section
variable {Rel : World → World → Prop} {S : Nat → World → Prop} {Q : Act → World → Prop} {o : Oper} {r : List Oper} {s : List Spec} {n : Nat} {b : Act} {F : List (Option (Value × (Value → World → Prop)))}
/-- What yields, and leaves the world alone, at whatever stage. -/
theorem stage_pure {v : Value} (hw : Region.wanted o (yielded ops b.tmps) = true) (hr : ∀ w, Rel w w) (h1 : ∀ w m, S m w → leans o w 0 F → (execOp b.eval o).run P w = .ok (.value v) w)
    (h2 : StageWalk P Rel S ops Q r s n (b.put o.dst v) (F ++ [none])) : StageWalk P Rel S ops Q (o :: r) ((false, .exact v) :: s) n b F := by
  refine ⟨fun w m hS _ hl => ?_, fun u hu => ?_⟩
  · rw [if_pos hw, h1 w m hS hl]
    exact ⟨hr w, rfl, by simpa using hS⟩
  · obtain rfl : u = v := hu
    simpa [Told.fact] using h2
/-- What moves the state, and yields a value that is known. -/
theorem stage_move {v : Value} (hw : Region.wanted o (yielded ops b.tmps) = true) (h1 : ∀ w, S n w → leans o w 0 F → Leaves P (fun u w' => Rel w w' ∧ u = v ∧ S (n + 1) w') ((execOp b.eval o).run P w))
    (h2 : StageWalk P Rel S ops Q r s (n + 1) (b.put o.dst v) (F ++ [none])) : StageWalk P Rel S ops Q (o :: r) ((true, .exact v) :: s) n b F := by
  refine ⟨fun w m hS hm hl => ?_, fun u hu => ?_⟩
  · obtain rfl := hm rfl
    rw [if_pos hw]
    simpa [Told.holds] using h1 w hS hl
  · obtain rfl : u = v := hu
    simpa [Told.fact] using h2
theorem stage_nil (h : ∀ w, S n w → factsAll w F → Q b w) : StageWalk P Rel S ops Q [] [] n b F := h
end
end
end Go.Proofs.Ytkjlmibjpfmfnaa.Words
