/-
  Of the texts Stage, ChS, ChF, ChC, ChWays, ChRd, Cks, TmR1: what the laws reach.
-/
import Derived.Test.YtfgfiiknbkakaaaTB2
import Derived.Lib.SlBytesConst
import Derived.Lib.AppendZerosOnto
import Derived.Laws.ResultCell
import Derived.StillTailTactics

set_option linter.unusedVariables false
set_option linter.unusedSimpArgs false
namespace Go.Proofs.Ytfgfiiknbkakaaa.Words
open Go.ChangeShapes Go.WideShapes Go.ChangeAt Go.RowKit
section
variable {P : Program} {ops : Array Oper}
def depsOf (o : Oper) : List Nat := (o.after.toList.filter fun e => Region.binds .any e).map (·.on)
/-- All that a set of operations waits for, through whatever stands between. -/
def downs (ops : Array Oper) : Nat → List Nat → List Nat
  | 0, S => S
  | i + 1, S => downs ops i (if S.contains i then (match ops[i]? with | some o => depsOf o ++ S | none => S) else S)
theorem depsOf_spec {o : Oper} {k : Nat} : k ∈ depsOf o ↔ ∃ e ∈ o.after, Region.binds .any e = true ∧ e.on = k := by
  unfold depsOf
  simp only [List.mem_map, List.mem_filter, Array.mem_toList_iff]
  exact ⟨fun ⟨e, ⟨h1, h2⟩, h3⟩ => ⟨e, h1, h2, h3⟩, fun ⟨e, h1, h2, h3⟩ => ⟨e, ⟨h1, h2⟩, h3⟩⟩
theorem downs_spec {L : Nat → Prop} (hL : ∀ i o, ops[i]? = some o → L i → ∀ k ∈ depsOf o, L k) : ∀ (n : Nat) (S : List Nat), (∀ x ∈ S, L x) → ∀ x ∈ downs ops n S, L x
  | 0, S, h => h
  | i + 1, S, h => by
    unfold downs
    refine downs_spec hL i _ ?_
    split
    · rename_i hc
      have hi : L i := h i (by simpa using hc)
      split
      · rename_i o ho
        intro x hx
        rcases List.mem_append.1 hx with hx | hx
        · exact hL i o ho hi x hx
        · exact h x hx
      · exact h
    · exact h
/-- The movers: each waits for the one ahead of it. -/
def chainB (ops : Array Oper) : List Nat → Bool
  | [] => true
  | [i] => decide (i < ops.size)
  | k :: i :: r => decide (k < ops.size) && (decide (k < i) && ((match ops[i]? with | some o => (downs ops i (depsOf o)).contains k | none => false) && chainB ops (i :: r)))
theorem chainB_at : ∀ (ms : List Nat), chainB ops ms = true → ∀ n k i, ms[n]? = some k → ms[n + 1]? = some i → k < i ∧ ∃ o, ops[i]? = some o ∧ k ∈ downs ops i (depsOf o)
  | [], _, n, k, i, h, _ => by simp at h
  | [a], _, n, k, i, _, h => by simp at h
  | a :: b :: r, hc, n, k, i, h1, h2 => by
    simp only [chainB, Bool.and_eq_true, decide_eq_true_eq] at hc
    obtain ⟨_, hlt, hd, hr⟩ := hc
    cases n with
    | zero =>
      simp only [List.getElem?_cons_zero, Option.some.injEq, Nat.zero_add, List.getElem?_cons_succ] at h1 h2
      subst h1 h2
      cases ho : ops[b]? with
      | none => rw [ho] at hd; cases hd
      | some o => rw [ho] at hd; exact ⟨hlt, o, rfl, by simpa using hd⟩
    | succ n => exact chainB_at (b :: r) hr n k i (by simpa using h1) (by simpa using h2)
theorem chainB_size : ∀ (ms : List Nat), chainB ops ms = true → ∀ k ∈ ms, k < ops.size
  | [], _, k, h => by simp at h
  | [a], hc, k, h => by
    simp only [chainB, decide_eq_true_eq] at hc
    simp only [List.mem_singleton] at h
    subst h; exact hc
  | a :: b :: r, hc, k, h => by
    simp only [chainB, Bool.and_eq_true, decide_eq_true_eq] at hc
    rcases List.mem_cons.1 h with rfl | h
    · exact hc.1
    · exact chainB_size (b :: r) hc.2.2.2 k h
/-- What holds while the region goes on: m movers have run. -/
def StageInv (S : Nat → World → Prop) (ms : List Nat) (ops : Array Oper) (a0 : Act) (Φ : Nat → Value → World → Prop) (listed : Array Bool) (a : Act) (w : World) : Prop :=
  ∃ (vs : Nat → Value) (m : Nat), a = puts ops.toList 0 (fun k => listed.getD k true) vs a0 ∧ S m w ∧ m ≤ ms.length ∧ (∀ n k, ms[n]? = some k → (listed.getD k true = true ↔ n < m)) ∧
    (∀ i, i < ops.size → listed.getD i true = true → Φ i (vs i) w) ∧ ∀ i o, ops[i]? = some o → listed.getD i true = true → ∀ e ∈ o.after, Region.binds .any e = true → listed.getD e.on true = true
/-- What is asked of operation number j. -/
def StageOb (P : Program) (Rel : World → World → Prop) (S : Nat → World → Prop) (ms : List Nat) (ops : Array Oper) (a0 : Act) (Φ : Nat → Value → World → Prop) (j : Nat) (o : Oper) : Prop :=
  ∀ (vs : Nat → Value) (w : World) (m : Nat), S m w → (j ∈ ms → ms[m]? = some j) → (∀ k, waits o k = true → Φ k (vs k) w) →
    if Region.wanted o (yielded ops (puts ops.toList 0 (fun k => decide (k < j)) vs a0).tmps) = true then
      Leaves P (fun v w' => Rel w w' ∧ Φ j v w' ∧ ((j ∈ ms → S (m + 1) w') ∧ (j ∉ ms → S m w'))) ((execOp (puts ops.toList 0 (fun k => decide (k < j)) vs a0).eval o).run P w)
    else j ∉ ms ∧ Φ j undef w
theorem wpAny_stage {Rel : World → World → Prop} {S : Nat → World → Prop} {ms : List Nat} {a0 : Act} {Φ : Nat → Value → World → Prop} {Q : Exit → Act → World → Prop} (hB : growB ops = true) (hC : chainB ops ms = true) (hst : ∀ i v w w', Φ i v w → Rel w w' → Φ i v w')
    (hob : ∀ j o, ops[j]? = some o → StageOb P Rel S ms ops a0 Φ j o)
    (hend : ∀ vs w, S ms.length w → (∀ i, i < ops.size → Φ i (vs i) w) → Q .normal (puts ops.toList 0 (fun _ => true) vs a0) w) :
    ∀ (fuel : Nat) (listed : Array Bool) (a : Act) (w : World), listed.size = ops.size → unlisted listed (List.range ops.size) ≤ fuel → StageInv S ms ops a0 Φ listed a w → wpAny P .any ops Q fuel listed a w := by
  simp only [growB, Bool.and_eq_true] at hB
  obtain ⟨⟨⟨hB1, hB2⟩, hB3⟩, hB4⟩ := hB
  intro fuel
  have fin : ∀ (listed : Array Bool) (a : Act) (w : World), listed.size = ops.size → (∀ i, i < ops.size → listed.getD i true = true) → StageInv S ms ops a0 Φ listed a w → Q .normal a w := by
    rintro listed a w hsz hall ⟨vs, m, rfl, hS, hml, hmm, hΦ, _⟩
    have e : puts ops.toList 0 (fun k => listed.getD k true) vs a0 = puts ops.toList 0 (fun _ => true) vs a0 := puts_congr _ _ _ _ _ _ _ (fun i _ => by
      rcases Nat.lt_or_ge i ops.size with h | h
      · exact hall i h
      · simp [Array.getElem?_eq_none (show listed.size ≤ i by omega)]) (fun _ _ => rfl)
    rw [e]
    have hm : m = ms.length := by
      rcases Nat.lt_or_ge m ms.length with h | h
      · exfalso
        have hk := List.getElem?_eq_getElem h
        have := (hmm m _ hk).1 (hall _ (chainB_size ms hC _ (List.mem_of_getElem? hk)))
        omega
      · omega
    subst hm
    exact hend vs w hS (fun i hi => hΦ i hi (hall i hi))
  have at_ : ∀ {i : Nat} {o : Oper}, ops[i]? = some o → ops.toList[i]? = some o := fun h => by simpa using h
  have lt_ : ∀ {i : Nat} {o : Oper}, ops[i]? = some o → i < ops.size := fun h => by
    rcases Nat.lt_or_ge _ ops.size with h' | h'
    · exact h'
    · rw [Array.getElem?_eq_none h'] at h; cases h
  have back : ∀ i o, ops[i]? = some o → ∀ e ∈ o.after, Region.binds .any e = true → e.on < i := fun i o ho e he hb => by
    have := backFrom_spec ops.toList 0 hB4 i o (at_ ho) e he hb
    omega
  have toF : ∀ (listed : Array Bool) (k : Nat), listed.size = ops.size → k < ops.size → listed.getD k true = true → listed.getD k false = true := fun listed k hs hk h => by
    have h' : k < listed.size := by omega
    simp [h'] at h ⊢; exact h
  have all_of : ∀ (listed : Array Bool), listed.size = ops.size → Region.ready .any ops listed = [] → ∀ i, i < ops.size → listed.getD i true = true := by
    intro listed hsz hr i
    induction i using Nat.strongRecOn with
    | _ i ih =>
      intro hi
      cases hli : listed.getD i true with
      | true => rfl
      | false =>
        exfalso
        have : i ∈ Region.ready .any ops listed := mem_ready.2 ⟨hli, ops[i], by simp [hi], fun e he hb => by
          have hlt := back i ops[i] (by simp [hi]) e he hb
          exact toF listed e.on hsz (by omega) (ih e.on hlt (by omega))⟩
        rw [hr] at this
        cases this
  induction fuel with
  | zero =>
    intro listed a w hsz hc hI
    have hall : ∀ i, i < ops.size → listed.getD i true = true := by
      intro i hi
      have h0 : unlisted listed (List.range ops.size) = 0 := by omega
      unfold unlisted at h0
      rw [List.countP_eq_zero] at h0
      have := h0 i (by simpa using hi)
      simpa using this
    refine ⟨?_, fin listed a w hsz hall hI⟩
    unfold Region.ready
    rw [List.filter_eq_nil_iff]
    intro i hi
    have := hall i (by simpa using hi)
    simp [this]
  | succ fuel ih =>
    intro listed a w hsz hc hI
    refine ⟨fun h0 => fin listed a w hsz (all_of listed hsz h0) hI, fun i hi => ?_⟩
    obtain ⟨hun, o, ho, hdeps⟩ := mem_ready.1 hi
    obtain ⟨vs, m, rfl, hS, hml, hmm, hΦ, hdown⟩ := hI
    have hm := monoAll_spec ops.toList 0 hB3 i o (at_ ho)
    rw [Nat.zero_add] at hm
    have wspec : ∀ {x : Oper} {k : Nat}, waits x k = true → ∃ e ∈ x.after, Region.binds .any e = true ∧ e.on = k := fun h => by
      unfold waits at h
      rw [Array.any_eq_true'] at h
      obtain ⟨e, he, h⟩ := h
      simp only [Bool.and_eq_true, beq_iff_eq] at h
      exact ⟨e, he, h⟩
    have hag : Agree (o.looksAt ops) (puts ops.toList 0 (fun k => listed.getD k true) vs a0) (puts ops.toList 0 (fun k => decide (k < i)) vs a0) := by
      refine Agree.puts ops.toList 0 _ _ vs a0 a0 ⟨rfl, fun _ _ => rfl⟩ (fun k x hx hne d hd hmem => ?_)
      have hla := monoFrom_spec ops.toList 0 hm k x hx
      rw [Nat.zero_add] at hla hne
      unfold looksApart at hla
      rw [hd] at hla
      simp only [Bool.or_eq_true, Bool.not_eq_true', List.contains_eq_mem, decide_eq_false_iff_not] at hla
      rcases hla with hla | hla
      · exact hla hmem
      · by_cases h1 : k < i
        · rw [if_pos h1] at hla
          obtain ⟨e, he, hbi, rfl⟩ := wspec hla
          have := getD_le (hdeps e he hbi)
          exact hne (by rw [this]; simp [h1])
        · rw [if_neg h1] at hla
          by_cases h2 : i < k
          · rw [if_pos h2] at hla
            obtain ⟨e, he, hbi, rfl⟩ := wspec hla
            cases hl : listed.getD k true with
            | false => exact hne (by rw [hl]; simp; omega)
            | true =>
              have := hdown k x (by simpa using hx) hl e he hbi
              rw [hun] at this
              cases this
          · obtain rfl : k = i := by omega
            exact hne (by rw [hun]; simp)
    -- where a mover stands in the chain
    have hrank : i ∈ ms → ms[m]? = some i := by
      intro him
      obtain ⟨n, hn, hni⟩ := List.mem_iff_getElem.1 him
      have hn' : ms[n]? = some i := by rw [List.getElem?_eq_getElem hn, hni]
      have hge : ¬ n < m := fun h => by have := (hmm n i hn').2 h; rw [hun] at this; cases this
      have hle : n ≤ m := by
        cases n with
        | zero => omega
        | succ n =>
          have hk : ms[n]? = some (ms[n]'(by omega)) := List.getElem?_eq_getElem _
          obtain ⟨_, o', ho', hd⟩ := chainB_at ms hC n _ i hk hn'
          rw [ho] at ho'
          injection ho' with ho'
          subst ho'
          have hl := downs_spec (L := fun x => listed.getD x true = true) (ops := ops) (fun i o ho hi k hk => by
            obtain ⟨e, he, hb, rfl⟩ := depsOf_spec.1 hk
            exact hdown i o ho hi e he hb) i (depsOf o) (fun x hx => by
            obtain ⟨e, he, hb, rfl⟩ := depsOf_spec.1 hx
            exact getD_le (hdeps e he hb)) _ hd
          have := (hmm n _ hk).1 hl
          omega
      have : n = m := by omega
      subst this
      exact hn'
    have hob' := hob i o ho vs w m hS hrank (fun k hk => by
      obtain ⟨e, he, hbi, rfl⟩ := wspec hk
      exact hΦ e.on (by have := back i o ho e he hbi; have := lt_ ho; omega) (getD_le (hdeps e he hbi)))
    rw [← hag.wanted] at hob'
    have hsame : ∀ k, (listed.setIfInBounds i true).getD k true = if k = i then true else listed.getD k true := fun k => by
      by_cases hk : k = i
      · subst hk
        have : k < listed.size := by rw [hsz]; exact lt_ ho
        simp [this]
      · rw [if_neg hk, getD_set_ne true (Ne.symm hk)]
    have hinj : ∀ n n' : Nat, ms[n]? = some i → ms[n']? = some i → n = n' := by
      have key : ∀ d n k k', ms[n]? = some k → ms[n + d + 1]? = some k' → k < k' := by
        intro d
        induction d with
        | zero => intro n k k' h1 h2; exact (chainB_at ms hC n k k' h1 h2).1
        | succ d ihd =>
          intro n k k' h1 h2
          have hlt : n + d + 1 < ms.length := by
            have := (List.getElem?_eq_some_iff.1 h2).1
            omega
          have hx := List.getElem?_eq_getElem hlt
          have h3 := ihd n k _ h1 hx
          have h4 := (chainB_at ms hC (n + d + 1) _ k' hx (by rw [← h2]; rfl)).1
          omega
      intro n n' h1 h2
      rcases Nat.lt_trichotomy n n' with h | h | h
      · have := key (n' - n - 1) n i i h1 (by rw [show n + (n' - n - 1) + 1 = n' by omega]; exact h2); omega
      · exact h
      · have := key (n - n' - 1) n' i i h2 (by rw [show n' + (n - n' - 1) + 1 = n by omega]; exact h1); omega
    have next : ∀ v w', Rel w w' → Φ i v w' → ((i ∈ ms → S (m + 1) w') ∧ (i ∉ ms → S m w')) → wpAny P .any ops Q fuel (listed.setIfInBounds i true) ((puts ops.toList 0 (fun k => listed.getD k true) vs a0).put o.dst v) w' := by
      intro v w' hR hv hS'
      have hrest : ∀ k, k < ops.size → (listed.setIfInBounds i true).getD k true = true → Φ k (if k = i then v else vs k) w' := fun k hk hl => by
        by_cases hk' : k = i
        · subst hk'; rw [if_pos rfl]; exact hv
        · rw [if_neg hk']
          rw [hsame, if_neg hk'] at hl
          exact hst _ _ _ _ (hΦ k hk hl) hR
      have hdn : ∀ k x, ops[k]? = some x → (listed.setIfInBounds i true).getD k true = true → ∀ e ∈ x.after, Region.binds .any e = true → (listed.setIfInBounds i true).getD e.on true = true := fun k x hx hl e he hbi => by
        rw [hsame] at hl ⊢
        by_cases hk' : k = i
        · subst hk'
          rw [hx] at ho
          injection ho with ho
          subst ho
          split
          · rfl
          · exact getD_le (hdeps e he hbi)
        · rw [if_neg hk'] at hl
          split
          · rfl
          · exact hdown k x hx hl e he hbi
      have hun2 := unlisted_less listed i hun (List.range ops.size) (by simpa using lt_ ho)
      have hput : (puts ops.toList 0 (fun k => listed.getD k true) vs a0).put o.dst v = puts ops.toList 0 (fun k => (listed.setIfInBounds i true).getD k true) (fun k => if k = i then v else vs k) a0 := by
        rw [puts_put i o v ops.toList 0 _ vs a0 hB1 (Nat.zero_le _) (by simpa using ho) hun]
        exact puts_congr _ _ _ _ _ _ _ (fun k _ => (hsame k).symm) (fun _ _ => rfl)
      by_cases him : i ∈ ms
      · have hmi := hrank him
        have hlt := (List.getElem?_eq_some_iff.1 hmi).1
        refine ih _ _ w' (by simpa using hsz) (by omega) ⟨fun k => if k = i then v else vs k, m + 1, hput, hS'.1 him, by omega, fun n k hk => ?_, hrest, hdn⟩
        rw [hsame]
        by_cases hki : k = i
        · subst hki
          have := hinj n m hk hmi
          simp; omega
        · rw [if_neg hki, hmm n k hk]
          constructor
          · omega
          · intro h
            rcases Nat.lt_or_ge n m with h1 | h1
            · exact h1
            · have : n = m := by omega
              subst this
              rw [hk] at hmi
              injection hmi with hmi
              exact absurd hmi hki
      · refine ih _ _ w' (by simpa using hsz) (by omega) ⟨fun k => if k = i then v else vs k, m, hput, hS'.2 him, hml, fun n k hk => ?_, hrest, hdn⟩
        rw [hsame]
        have hki : k ≠ i := fun e => by subst e; exact him (List.mem_of_getElem? hk)
        rw [if_neg hki, hmm n k hk]
    unfold wpOp
    rw [ho]
    simp only
    split
    · rename_i hw
      rw [if_pos hw] at hob'
      exact .inl (wp_of_leaves (hag.exec (fun cs b => Region.noSelect_spec hB2 i o cs b ho)) hob' (fun v w' h => next v w' h.1 h.2.1 h.2.2))
    · rename_i hw
      rw [if_neg hw] at hob'
      -- what is not wanted leaves the world alone
      have hrest : ∀ k, k < ops.size → (listed.setIfInBounds i true).getD k true = true → Φ k (if k = i then undef else vs k) w := fun k hk hl => by
        by_cases hk' : k = i
        · subst hk'; rw [if_pos rfl]; exact hob'.2
        · rw [if_neg hk']
          rw [hsame, if_neg hk'] at hl
          exact hΦ k hk hl
      refine ih _ _ w (by simpa using hsz) (by have := unlisted_less listed i hun (List.range ops.size) (by simpa using lt_ ho); omega) ⟨fun k => if k = i then undef else vs k, m, ?_, hS, hml, fun n k hk => ?_, hrest, fun k x hx hl e he hbi => ?_⟩
      · rw [puts_put i o undef ops.toList 0 _ vs a0 hB1 (Nat.zero_le _) (by simpa using ho) hun]
        exact puts_congr _ _ _ _ _ _ _ (fun k _ => (hsame k).symm) (fun _ _ => rfl)
      · rw [hsame]
        have hki : k ≠ i := fun e => by subst e; exact hob'.1 (List.mem_of_getElem? hk)
        rw [if_neg hki, hmm n k hk]
      · rw [hsame] at hl ⊢
        by_cases hk' : k = i
        · subst hk'
          rw [hx] at ho
          injection ho with ho
          subst ho
          split
          · rfl
          · exact getD_le (hdeps e he hbi)
        · rw [if_neg hk'] at hl
          split
          · rfl
          · exact hdown k x hx hl e he hbi
abbrev Spec := Bool × Told
def moversFrom : Nat → List Spec → List Nat
  | _, [] => []
  | k, (true, _) :: s => k :: moversFrom (k + 1) s
  | k, (false, _) :: s => moversFrom (k + 1) s
def flags (s : List Spec) : Nat := s.countP (·.1)
theorem moversFrom_len : ∀ (s : List Spec) (k : Nat), (moversFrom k s).length = flags s
  | [], _ => rfl
  | (true, _) :: s, k => by simp [moversFrom, flags, moversFrom_len s (k + 1)]
  | (false, _) :: s, k => by simp [moversFrom, flags, moversFrom_len s (k + 1)]
theorem moversFrom_mem : ∀ (s : List Spec) (k j : Nat), j ∈ moversFrom k s ↔ k ≤ j ∧ (s[j - k]?.map (·.1)) = some true
  | [], k, j => by simp [moversFrom]
  | (true, t) :: s, k, j => by
    simp only [moversFrom, List.mem_cons, moversFrom_mem s (k + 1) j]
    constructor
    · rintro (rfl | ⟨h1, h2⟩)
      · simp
      · refine ⟨by omega, ?_⟩
        rw [show j - k = (j - (k + 1)) + 1 by omega, List.getElem?_cons_succ]; exact h2
    · rintro ⟨h1, h2⟩
      rcases Nat.lt_or_ge k j with h | h
      · refine .inr ⟨h, ?_⟩
        rw [show j - k = (j - (k + 1)) + 1 by omega, List.getElem?_cons_succ] at h2; exact h2
      · exact .inl (by omega)
  | (false, t) :: s, k, j => by
    simp only [moversFrom, moversFrom_mem s (k + 1) j]
    constructor
    · rintro ⟨h1, h2⟩
      refine ⟨by omega, ?_⟩
      rw [show j - k = (j - (k + 1)) + 1 by omega, List.getElem?_cons_succ]; exact h2
    · rintro ⟨h1, h2⟩
      rcases Nat.lt_or_ge k j with h | h
      · refine ⟨h, ?_⟩
        rw [show j - k = (j - (k + 1)) + 1 by omega, List.getElem?_cons_succ] at h2; exact h2
      · rw [show j - k = 0 by omega] at h2
        simp at h2
theorem moversFrom_at : ∀ (s : List Spec) (k m j : Nat), (moversFrom k s)[m]? = some j → k ≤ j ∧ m = flags (s.take (j - k))
  | [], k, m, j, h => by simp [moversFrom] at h
  | (true, t) :: s, k, m, j, h => by
    cases m with
    | zero =>
      simp only [moversFrom, List.getElem?_cons_zero, Option.some.injEq] at h
      subst h
      exact ⟨Nat.le_refl _, by simp [flags]⟩
    | succ m =>
      have h2 := moversFrom_at s (k + 1) m j (by simpa [moversFrom] using h)
      refine ⟨by omega, ?_⟩
      rw [show j - k = (j - (k + 1)) + 1 by omega, List.take_succ_cons]
      simp only [flags, List.countP_cons, if_true]
      have := h2.2
      simp only [flags] at this
      omega
  | (false, t) :: s, k, m, j, h => by
    have h2 := moversFrom_at s (k + 1) m j (by simpa [moversFrom] using h)
    refine ⟨by omega, ?_⟩
    rw [show j - k = (j - (k + 1)) + 1 by omega, List.take_succ_cons]
    simp only [flags, List.countP_cons, Bool.false_eq_true, if_false, Nat.add_zero]
    exact h2.2
def Told.isVal : Told → Value → Prop
  | .exact u, v => v = u
  | .grows _, _ => True
def Told.fact : Told → Value → Option (Value × (Value → World → Prop))
  | .exact _, _ => none
  | .grows R, v => some (v, R)
def Told.val : Told → Value → Value
  | .exact u, _ => u
  | .grows _, v => v
theorem Told.isVal_val (t : Told) (v : Value) : t.isVal (t.val v) := by cases t <;> simp [Told.isVal, Told.val]
def StageWalk (P : Program) (Rel : World → World → Prop) (S : Nat → World → Prop) (ops : Array Oper) (Q : Act → World → Prop) : List Oper → List Spec → Nat → Act → List (Option (Value × (Value → World → Prop))) → Prop
  | [], _, n, b, F => ∀ w, S n w → factsAll w F → Q b w
  | _ :: _, [], _, _, _ => False
  | o :: r, (mv, t) :: s, n, b, F =>
    (∀ w m, S m w → (mv = true → m = n) → leans o w 0 F → if Region.wanted o (yielded ops b.tmps) = true then Leaves P (fun u w' => Rel w w' ∧ t.holds u w' ∧ S (if mv = true then m + 1 else m) w') ((execOp b.eval o).run P w) else mv = false ∧ t.holds undef w) ∧
    ∀ v, t.isVal v → StageWalk P Rel S ops Q r s (if mv = true then n + 1 else n) (b.put o.dst v) (F ++ [t.fact v])
def lastsR (Rel : World → World → Prop) : List Spec → Prop
  | [] => True
  | (_, .exact _) :: s => lastsR Rel s
  | (_, .grows R) :: s => (∀ v w w', R v w → Rel w w' → R v w') ∧ lastsR Rel s
theorem lastsR_of {Rel : World → World → Prop} : ∀ (s : List Spec), lastsR Rel s → ∀ x ∈ s, ∀ v w w', x.2.holds v w → Rel w w' → x.2.holds v w'
  | [], _, _, h => by simp at h
  | (_, .exact u) :: s, h, x, hx => by
    simp only [List.mem_cons] at hx
    rcases hx with rfl | hx
    · intro v w w' hv _; exact hv
    · exact lastsR_of s h x hx
  | (_, .grows R) :: s, h, x, hx => by
    simp only [List.mem_cons] at hx
    rcases hx with rfl | hx
    · exact h.1
    · exact lastsR_of s h.2 x hx
def toldsOf (s : List Spec) : List Told := s.map (·.2)
theorem laidV_of {s : List Spec} {vs : Nat → Value} {k : Nat} {mv : Bool} {t : Told} (h : s[k]? = some (mv, t)) : laidV (toldsOf s) vs k = t.val (vs k) := by
  unfold laidV toldsOf
  rw [List.getElem?_map, h]
  cases t <;> rfl
theorem factOf_of {s : List Spec} {vs : Nat → Value} {k : Nat} {mv : Bool} {t : Told} (h : s[k]? = some (mv, t)) : factOf (toldsOf s) vs k = t.fact (t.val (vs k)) := by
  unfold factOf toldsOf
  rw [List.getElem?_map, h]
  cases t <;> rfl
theorem stageWalk_at {Rel : World → World → Prop} {S : Nat → World → Prop} {Q : Act → World → Prop} {specs : List Spec} (vs : Nat → Value) : ∀ (l : List Oper) (s : List Spec) (k n : Nat) (b : Act), l.length = s.length → (∀ i, s[i]? = specs[k + i]?) →
    StageWalk P Rel S ops Q l s n b ((List.range k).map fun i => factOf (toldsOf specs) vs (0 + i)) →
    (∀ j o mv t, l[j]? = some o → s[j]? = some (mv, t) → ∀ w m, S m w → (mv = true → m = n + flags (s.take j)) → leans o w 0 ((List.range (k + j)).map fun i => factOf (toldsOf specs) vs (0 + i)) →
      if Region.wanted o (yielded ops (puts l k (fun i => decide (i < k + j)) (laidV (toldsOf specs) vs) b).tmps) = true then Leaves P (fun u w' => Rel w w' ∧ t.holds u w' ∧ S (if mv = true then m + 1 else m) w') ((execOp (puts l k (fun i => decide (i < k + j)) (laidV (toldsOf specs) vs) b).eval o).run P w) else mv = false ∧ t.holds undef w) ∧
    (∀ w, S (n + flags s) w → factsAll w ((List.range (k + l.length)).map fun i => factOf (toldsOf specs) vs (0 + i)) → Q (puts l k (fun _ => true) (laidV (toldsOf specs) vs) b) w)
  | [], s, k, n, b, hl, hs, h => ⟨fun j o mv t hj => by simp at hj, by
    have : s = [] := List.eq_nil_of_length_eq_zero (by simpa using hl.symm)
    subst this
    simpa [flags, StageWalk, puts] using h⟩
  | o :: r, [], k, n, b, hl, hs, h => by simp at hl
  | o :: r, (mv0, t0) :: s, k, n, b, hl, hs, h => by
    have hk : specs[k]? = some (mv0, t0) := by have := hs 0; simpa using this.symm
    have hF : ((List.range (k + 1)).map fun i => factOf (toldsOf specs) vs (0 + i)) = ((List.range k).map fun i => factOf (toldsOf specs) vs (0 + i)) ++ [t0.fact (t0.val (vs k))] := by
      rw [List.range_succ, List.map_append]; simp [factOf_of hk]
    obtain ⟨key1, key2⟩ := h
    have key2 := key2 _ (t0.isVal_val (vs k))
    rw [← hF] at key2
    have ih := stageWalk_at (specs := specs) vs r s (k + 1) (if mv0 = true then n + 1 else n) (b.put o.dst (t0.val (vs k))) (by simpa using hl) (fun i => by have := hs (i + 1); rw [show k + (i + 1) = k + 1 + i by omega] at this; simpa using this) key2
    have hfl : ∀ s' : List Spec, (if mv0 = true then n + 1 else n) + flags s' = n + flags ((mv0, t0) :: s') := fun s' => by
      cases mv0 <;> simp [flags] <;> omega
    constructor
    · intro j oj mv t hj htj w m hS hm hle
      cases j with
      | zero =>
        simp only [List.getElem?_cons_zero, Option.some.injEq, Prod.mk.injEq] at hj htj
        obtain ⟨rfl, rfl⟩ := htj
        subst hj
        have e : puts (o :: r) k (fun i => decide (i < k + 0)) (laidV (toldsOf specs) vs) b = b := by
          have : ∀ (l : List Oper) (m : Nat) (a : Act), k ≤ m → puts l m (fun i => decide (i < k + 0)) (laidV (toldsOf specs) vs) a = a := by
            intro l
            induction l with
            | nil => intros; rfl
            | cons o r ih =>
              intro m a hm
              unfold puts
              rw [if_neg (by simp; omega)]
              exact ih (m + 1) a (by omega)
          exact this _ k b (Nat.le_refl _)
        rw [e]
        exact key1 w m hS (by simpa [flags] using hm) hle
      | succ j =>
        have := ih.1 j oj mv t (by simpa using hj) (by simpa using htj) w m hS (fun h => by rw [hm h, hfl, List.take_succ_cons]) (by rw [show k + 1 + j = k + (j + 1) by omega]; exact hle)
        have e : puts (o :: r) k (fun i => decide (i < k + (j + 1))) (laidV (toldsOf specs) vs) b = puts r (k + 1) (fun i => decide (i < k + 1 + j)) (laidV (toldsOf specs) vs) (b.put o.dst (t0.val (vs k))) := by
          conv => lhs; unfold puts
          rw [if_pos (by simp), show k + (j + 1) = k + 1 + j by omega, laidV_of hk]
        rw [e]
        exact this
    · intro w hS hall
      have := ih.2 w (by rw [hfl]; exact hS) (by rw [show k + 1 + r.length = k + (o :: r).length by simp; omega]; exact hall)
      have e : puts (o :: r) k (fun _ => true) (laidV (toldsOf specs) vs) b = puts r (k + 1) (fun _ => true) (laidV (toldsOf specs) vs) (b.put o.dst (t0.val (vs k))) := by
        conv => lhs; unfold puts
        rw [if_pos rfl, laidV_of hk]
      rw [e]
      exact this
/-- THE REGION, WALKED ONCE IN THE ORDER OF THE TEXT, WHATEVER ORDER IS DRAWN; its movers move a state S. -/
theorem wp_region_stage (Rel : World → World → Prop) (S : Nat → World → Prop) {id : Nat} {a0 : Act} {w : World} {l : List Oper} {Q : Exit → Act → World → Prop} (specs : List Spec) (hm : P.follows .mixedOrders = true) (hB : growB l.toArray = true) (hC : chainB l.toArray (moversFrom 0 specs) = true)
    (hlen : l.length = specs.length) (hst0 : lastsR Rel specs) (h0 : S 0 w.drew) (h : StageWalk P Rel S l.toArray (Q .normal) l specs 0 a0 []) : (Code.region id l.toArray true).wp P Q a0 w := by
  have hst := lastsR_of specs hst0
  have hB' := hB
  simp only [growB, Bool.and_eq_true] at hB'
  obtain ⟨⟨⟨hB1, hB2⟩, hB3⟩, hB4⟩ := hB'
  have hmem : ∀ j mv t, specs[j]? = some (mv, t) → (j ∈ moversFrom 0 specs ↔ mv = true) := fun j mv t hj => by
    rw [moversFrom_mem, Nat.sub_zero, hj]
    simp
  refine wp_region_any hm (wpAny_stage (Rel := Rel) (S := S) (ms := moversFrom 0 specs) (a0 := a0) (Φ := fun i v w' => match specs[i]? with | some x => x.2.holds v w' | none => True) hB hC ?_ ?_ ?_ _ _ _ _ (by simp) ?_ ⟨fun _ => undef, 0, ?_, h0, Nat.zero_le _, fun n k hk => ?_, fun i hi h => ?_, fun i o hi h => ?_⟩)
  · intro i v w1 w2 hv hr
    cases hs : specs[i]? with
    | none => simp [hs]
    | some x =>
      simp only [hs] at hv ⊢
      exact hst x (List.mem_of_getElem? hs) v w1 w2 hv hr
  · intro j o hj
    have hj' : l[j]? = some o := by simpa using hj
    have hjl : j < l.length := (List.getElem?_eq_some_iff.1 hj').1
    obtain ⟨mv, t, hsj⟩ : ∃ mv t, specs[j]? = some (mv, t) := ⟨_, _, List.getElem?_eq_getElem (by omega)⟩
    intro vs w1 m hS hmv hf
    have hwalk := stageWalk_at (specs := specs) vs l specs 0 0 a0 hlen (fun i => by simp) (by simpa using h)
    have hob := hwalk.1 j o mv t hj' hsj w1 m hS (fun hmt => by
      have := (moversFrom_at specs 0 m j (hmv ((hmem j mv t hsj).2 hmt))).2
      rw [Nat.sub_zero] at this
      omega) (by
      rw [Nat.zero_add]
      refine leans_of j 0 (fun i _ hi hw u hu => ?_)
      have hi2 := hf i hw
      unfold toldsOf at hu
      rw [List.getElem?_map] at hu
      cases hsi : specs[i]? with
      | none => rw [hsi] at hu; cases hu
      | some x =>
        rw [hsi] at hu
        simp only [Option.map_some, Option.some.injEq] at hu
        subst hu
        simp only [hsi] at hi2
        exact hi2)
    have hm3 := monoAll_spec l.toArray.toList 0 hB3 j o (by simpa using hj')
    rw [Nat.zero_add] at hm3
    have hag : Agree (o.looksAt l.toArray) (puts l.toArray.toList 0 (fun k => decide (k < j)) vs a0) (puts l 0 (fun i => decide (i < 0 + j)) (laidV (toldsOf specs) vs) a0) := by
      have gen : ∀ (r : List Oper) (k : Nat) (a b : Act), (∀ i x, r[i]? = some x → l[k + i]? = some x) → Agree (o.looksAt l.toArray) a b → Agree (o.looksAt l.toArray) (puts r k (fun k => decide (k < j)) vs a) (puts r k (fun i => decide (i < 0 + j)) (laidV (toldsOf specs) vs) b) := by
        intro r
        induction r with
        | nil => intro k a b _ hab; exact hab
        | cons x r ih =>
          intro k a b hr hab
          unfold puts
          refine ih (k + 1) _ _ (fun i y hy => by have := hr (i + 1) y (by simpa using hy); rwa [show k + 1 + i = k + (i + 1) by omega]) ?_
          rw [Nat.zero_add]
          by_cases hkj : k < j
          · rw [if_pos (by simpa using hkj), if_pos (by simpa using hkj)]
            have hx := hr 0 x (by simp)
            rw [Nat.add_zero] at hx
            by_cases hw : waits o k = true
            · have hk := hf k hw
              have e : laidV (toldsOf specs) vs k = vs k := by
                obtain ⟨mvk, tk, hsk⟩ : ∃ mv t, specs[k]? = some (mv, t) := ⟨_, _, List.getElem?_eq_getElem (by omega)⟩
                rw [laidV_of hsk]
                simp only [hsk] at hk
                cases tk with
                | exact u => exact hk.symm
                | grows R => rfl
              rw [e]
              exact hab.put _ _
            · have hla := monoFrom_spec l.toArray.toList 0 hm3 k x (by simpa using hx)
              rw [Nat.zero_add] at hla
              have hno : ∀ d, x.dst = some d → d ∉ o.looksAt l.toArray := by
                intro d hd hmem
                unfold looksApart at hla
                rw [hd] at hla
                simp only [Bool.or_eq_true, Bool.not_eq_true', List.contains_eq_mem, decide_eq_false_iff_not] at hla
                rcases hla with hla | hla
                · exact hla hmem
                · rw [if_pos hkj] at hla; exact hw hla
              exact ((hab.left _ _ hno).symm.left _ _ hno).symm
          · rw [if_neg (by simpa using hkj), if_neg (by simpa using hkj)]
            exact hab
      have := gen l 0 a0 a0 (fun i x hx => by rwa [Nat.zero_add]) ⟨rfl, fun _ _ => rfl⟩
      simpa using this
    have hmj := hmem j mv t hsj
    have hs2 : (match specs[j]? with | some x => x.2.holds undef w1 | none => True) = t.holds undef w1 := by rw [hsj]
    have hs3 : ∀ (v : Value) (w' : World), (Rel w1 w' ∧ t.holds v w' ∧ S (if mv = true then m + 1 else m) w') → (Rel w1 w' ∧ (match specs[j]? with | some x => x.2.holds v w' | none => True) ∧ ((j ∈ moversFrom 0 specs → S (m + 1) w') ∧ (j ∉ moversFrom 0 specs → S m w'))) := by
      rintro v w' ⟨h1, h2, h3⟩
      refine ⟨h1, by rw [hsj]; exact h2, fun hin => ?_, fun hin => ?_⟩
      · rw [if_pos (hmj.1 hin)] at h3; exact h3
      · rw [if_neg (fun e => hin (hmj.2 e))] at h3; exact h3
    rw [hag.wanted, hag.exec (fun cs b => Region.noSelect_spec hB2 j o cs b hj)]
    split at hob
    · rename_i hw
      rw [if_pos hw]
      generalize (execOp (puts l 0 (fun i => decide (i < 0 + j)) (laidV (toldsOf specs) vs) a0).eval o).run P w1 = rr at hob
      cases rr with
      | ok nx w' =>
        cases nx <;> simp only [Leaves] at hob ⊢
        case value v => exact hs3 _ _ hob
        case skip => exact hs3 _ _ hob
        case enter f args => exact hob.mono fun e w'' ⟨v, he, hv⟩ => ⟨v, he, hs3 _ _ hv⟩
      | halt x w' => simp only [Leaves] at hob
    · rename_i hw
      rw [if_neg hw]
      refine ⟨fun hin => ?_, by show (match specs[j]? with | some x => x.2.holds undef w1 | none => True); rw [hs2]; exact hob.2⟩
      rw [hmj.1 hin] at hob
      cases hob.1
  · intro vs w' hS hall
    have hwalk := stageWalk_at (specs := specs) vs l specs 0 0 a0 hlen (fun i => by simp) (by simpa using h)
    rw [moversFrom_len] at hS
    have hend := hwalk.2 w' (by rw [Nat.zero_add]; exact hS) (factsAll_of _ 0 (fun i _ hi u hu => by
      have hi2 := hall i (by simpa using hi)
      unfold toldsOf at hu
      rw [List.getElem?_map] at hu
      cases hsi : specs[i]? with
      | none => rw [hsi] at hu; cases hu
      | some x =>
        rw [hsi] at hu
        simp only [Option.map_some, Option.some.injEq] at hu
        subst hu
        simp only [hsi] at hi2
        exact hi2))
    have e : puts l.toArray.toList 0 (fun _ => true) vs a0 = puts l 0 (fun _ => true) (laidV (toldsOf specs) vs) a0 := by
      have gen : ∀ (r : List Oper) (k : Nat) (a : Act), k + r.length ≤ l.length → puts r k (fun _ => true) vs a = puts r k (fun _ => true) (laidV (toldsOf specs) vs) a := by
        intro r
        induction r with
        | nil => intros; rfl
        | cons x r ih =>
          intro k a hk
          unfold puts
          simp only [List.length_cons] at hk
          have e : laidV (toldsOf specs) vs k = vs k := by
            obtain ⟨mvk, tk, hsk⟩ : ∃ mv t, specs[k]? = some (mv, t) := ⟨_, _, List.getElem?_eq_getElem (by omega)⟩
            rw [laidV_of hsk]
            have := hall k (by simp; omega)
            simp only [hsk] at this
            cases tk with
            | exact u => exact this.symm
            | grows R => rfl
          rw [e]
          exact ih (k + 1) _ (by omega)
      have := gen l 0 a0 (by omega)
      simpa using this
    rw [e]
    exact hend
  · have : ∀ (l : List Nat) (L : Array Bool), unlisted L l ≤ l.length := fun l L => List.countP_le_length
    have := this (List.range l.toArray.size) (Array.replicate l.toArray.size false)
    simpa using this
  · have : ∀ (l : List Oper) (k : Nat) (L : Nat → Bool) (vs : Nat → Value) (a : Act), (∀ i, i < l.length → L (k + i) = false) → puts l k L vs a = a := by
      intro l
      induction l with
      | nil => intros; rfl
      | cons o r ih =>
        intro k L vs a h
        unfold puts
        have h0 := h 0 (by simp)
        rw [Nat.add_zero] at h0
        rw [h0, if_neg (by decide)]
        exact ih (k + 1) L vs a (fun i hi => by have := h (i + 1) (by simpa using hi); rwa [show k + 1 + i = k + (i + 1) by omega])
    exact (this l.toArray.toList 0 _ _ a0 (fun i hi => by simp at hi; simp [hi])).symm
  · have hk' := chainB_size _ hC k (List.mem_of_getElem? hk)
    simp at hk'
    simp [hk']
  · have hi' : i < l.length := by simpa using hi
    exfalso
    simp [hi'] at h
  · have hi' : i < l.length := by
      have := (Array.getElem?_eq_some_iff.1 hi).1
      simpa using this
    exfalso
    simp [hi'] at h
section
variable {Rel : World → World → Prop} {S : Nat → World → Prop} {Q : Act → World → Prop} {o : Oper} {r : List Oper} {s : List Spec} {n : Nat} {b : Act} {F : List (Option (Value × (Value → World → Prop)))}
/-- What yields, and leaves the world alone, at whatever stage. -/
theorem stage_pure {v : Value} (hw : Region.wanted o (yielded ops b.tmps) = true) (hr : ∀ w, Rel w w) (h1 : ∀ w m, S m w → leans o w 0 F → (execOp b.eval o).run P w = .ok (.value v) w)
    (h2 : StageWalk P Rel S ops Q r s n (b.put o.dst v) (F ++ [none])) : StageWalk P Rel S ops Q (o :: r) ((false, .exact v) :: s) n b F := by
  refine ⟨fun w m hS _ hl => ?_, fun u hu => ?_⟩
  · rw [if_pos hw, h1 w m hS hl]
    exact ⟨hr w, rfl, by simpa using hS⟩
  · obtain rfl : u = v := hu
    simpa [Told.fact] using h2
/-- What moves the state, and yields a value that is known. -/
theorem stage_move {v : Value} (hw : Region.wanted o (yielded ops b.tmps) = true) (h1 : ∀ w, S n w → leans o w 0 F → Leaves P (fun u w' => Rel w w' ∧ u = v ∧ S (n + 1) w') ((execOp b.eval o).run P w))
    (h2 : StageWalk P Rel S ops Q r s (n + 1) (b.put o.dst v) (F ++ [none])) : StageWalk P Rel S ops Q (o :: r) ((true, .exact v) :: s) n b F := by
  refine ⟨fun w m hS hm hl => ?_, fun u hu => ?_⟩
  · obtain rfl := hm rfl
    rw [if_pos hw]
    simpa [Told.holds] using h1 w hS hl
  · obtain rfl : u = v := hu
    simpa [Told.fact] using h2
/-- What moves the state, and yields a value of which something is known that lasts. -/
theorem stage_move_grows {R : Value → World → Prop} (hw : Region.wanted o (yielded ops b.tmps) = true) (h1 : ∀ w, S n w → leans o w 0 F → Leaves P (fun u w' => Rel w w' ∧ R u w' ∧ S (n + 1) w') ((execOp b.eval o).run P w))
    (h2 : ∀ v, StageWalk P Rel S ops Q r s (n + 1) (b.put o.dst v) (F ++ [some (v, R)])) : StageWalk P Rel S ops Q (o :: r) ((true, .grows R) :: s) n b F := by
  refine ⟨fun w m hS hm hl => ?_, fun u hu => ?_⟩
  · obtain rfl := hm rfl
    rw [if_pos hw]
    simpa [Told.holds] using h1 w hS hl
  · simpa [Told.fact] using h2 u
/-- What leaves the state alone, at whatever stage, and yields a value of which something is known that lasts. -/
theorem stage_grows {R : Value → World → Prop} (hw : Region.wanted o (yielded ops b.tmps) = true) (h1 : ∀ w m, S m w → leans o w 0 F → Leaves P (fun u w' => Rel w w' ∧ R u w' ∧ S m w') ((execOp b.eval o).run P w))
    (h2 : ∀ v, StageWalk P Rel S ops Q r s n (b.put o.dst v) (F ++ [some (v, R)])) : StageWalk P Rel S ops Q (o :: r) ((false, .grows R) :: s) n b F := by
  refine ⟨fun w m hS hm hl => ?_, fun u hu => ?_⟩
  · rw [if_pos hw]
    simpa [Told.holds] using h1 w m hS hl
  · simpa [Told.fact] using h2 u
theorem stage_nil (h : ∀ w, S n w → factsAll w F → Q b w) : StageWalk P Rel S ops Q [] [] n b F := h
end
end
end Go.Proofs.Ytfgfiiknbkakaaa.Words

set_option linter.unusedVariables false
set_option linter.unusedSimpArgs false
namespace Go.Proofs.Ytfgfiiknbkakaaa.Chk
open Go.ChangeShapes Go.WideShapes Go.ChangeAt Go.RowKit Go.Deep Go.Proofs.Ytfgfiiknbkakaaa.Words Go.Proofs.Ytfgfiiknbkakaaa.Oct Go.Proofs.Ytfgfiiknbkakaaa.Par
/-- What a step of such a region may turn: at the append (stage a) the row's block, else the reader's. -/
def stRel (a p : Nat) (v : Value) (m : Nat) : World → World → Prop := Fr (fun i => (m = a ∧ some i = v.ownBlock) ∨ (m ≠ a ∧ i = p))
/-- A row just laid, beside another and the reader. -/
def Laid (t : TypeId) (cs : Array Value) (p : Nat) (v : Value) (u : Value) (V : World) : Prop := ∃ b, u = .slice (some ⟨b, 0, none⟩) 1 1 ∧ Blk V b t cs ∧ v.ownBlock ≠ some b ∧ b ≠ p
theorem Laid.lasts {a p : Nat} {t : TypeId} {cs : Array Value} {v u : Value} {m : Nat} {V V' : World} (h : Laid t cs p v u V) (k : stRel a p v m V V') : Laid t cs p v u V' := by
  obtain ⟨b, rfl, h1, h2, h3⟩ := h
  refine ⟨b, rfl, Fr.blk k h1 ?_, h2, h3⟩
  rintro (⟨_, e⟩ | ⟨_, e⟩)
  · exact h2 e.symm
  · exact h3 e
/-- A row that was appended to. -/
def Grew (B : Nat) (t : TypeId) (size p n : Nat) (xs : List Value) (u : Value) (V : World) : Prop := V.ownsRow B t size u n xs ∧ u.ownBlock ≠ some p
theorem Grew.lasts {a p B size n : Nat} {t : TypeId} {xs : List Value} {v u : Value} {m : Nat} {V V' : World} (hm : m ≠ a) (h : Grew B t size p n xs u V) (k : stRel a p v m V V') : Grew B t size p n xs u V' := by
  refine ⟨Fr.own k h.1 (fun g hg => ?_), h.2⟩
  rintro (⟨e, _⟩ | ⟨_, e⟩)
  · exact hm e
  · exact h.2 (by rw [hg, e])
section
variable {w V V' : World} {p G r g a m B size n : Nat} {l l' : List UInt8} {bad bad' wr : Bool} {cs : Array Value} {t : TypeId} {v : Value} {xs : List Value}
theorem RSr.rel (hm : m ≠ a) (f : Fr (At p) V V') : stRel a p v m V V' := f.mono fun x _ hx => .inr ⟨hm, hx⟩
end
theorem skC_snoc (l : List Skp) (s : Skp) : skC (l ++ [s]) = skC l ++ [.int .u16 (s.1 : Int), .bool s.2.1, .int .u32 (s.2.2 : Int)] := by simp [skC]
end Go.Proofs.Ytfgfiiknbkakaaa.Chk

set_option linter.unusedVariables false
set_option linter.unusedSimpArgs false
namespace Go.Proofs.Ytfgfiiknbkakaaa.Chk
open Go.ChangeShapes Go.WideShapes Go.ChangeAt Go.RowKit Go.Deep Go.Proofs.Ytfgfiiknbkakaaa.Words Go.Proofs.Ytfgfiiknbkakaaa.Oct Go.Proofs.Ytfgfiiknbkakaaa.Par
theorem sksN_snoc : ∀ (k : Nat) (l : List UInt8), sksN (k + 1) l = sksN k l ++ [(num ((l.drop (4 * k)).take 2), false, num (((l.drop (4 * k)).drop 2).take 2))]
  | 0, l => by simp [sksN]
  | k + 1, l => by
    have e : sksN (k + 1 + 1) l = (num (l.take 2), false, num ((l.drop 2).take 2)) :: sksN (k + 1) (l.drop 4) := rfl
    rw [e, sksN_snoc k (l.drop 4), List.drop_drop, show 4 + 4 * k = 4 * (k + 1) by omega]
    rfl
theorem sksV_snoc : ∀ (k : Nat) (l : List UInt8), sksV (k + 1) l = sksV k l ++ [(num ((l.drop (8 * k)).take 2), num (((l.drop (8 * k)).drop 2).take 2) == 1, num (((l.drop (8 * k)).drop 4).take 4))]
  | 0, l => by simp [sksV]
  | k + 1, l => by
    have e : sksV (k + 1 + 1) l = (num (l.take 2), num ((l.drop 2).take 2) == 1, num ((l.drop 4).take 4)) :: sksV (k + 1) (l.drop 8) := rfl
    rw [e, sksV_snoc k (l.drop 8), List.drop_drop, show 8 + 8 * k = 8 * (k + 1) by omega]
    rfl
theorem sksOk_snoc : ∀ (k : Nat) (l : List UInt8), sksOk (k + 1) l = (sksOk k l && decide (num (((l.drop (8 * k)).drop 2).take 2) ≤ 1))
  | 0, l => by simp [sksOk]
  | k + 1, l => by
    have e : sksOk (k + 1 + 1) l = (decide (num ((l.drop 2).take 2) ≤ 1) && sksOk (k + 1) (l.drop 8)) := rfl
    have e2 : (l.drop 8).drop (8 * k) = l.drop (8 * (k + 1)) := by rw [List.drop_drop, show 8 + 8 * k = 8 * (k + 1) by omega]
    rw [e, sksOk_snoc k (l.drop 8), e2, ← Bool.and_assoc]
    rfl
/-- How many bytes the reader behind the pointer to block p has left. -/
def lenAt (w : World) (p : Nat) : Nat := match w.cell? ⟨p, 0, none⟩ with | some (.slice _ n _) => n | _ => 0
/-- How far the rows of what is skipped are read. -/
def FwdAt (x : List UInt8) (bx : Bool) (y : List UInt8) (b : Bool) (n : Nat) (xs : List Value) : Prop :=
  (b = bx ∧ 4 * n ≤ x.length ∧ y = x.drop (4 * n) ∧ xs = skC (sksN n x)) ∨ (b = true ∧ y = [] ∧ x.length % 4 ≠ 0)
theorem FwdAt.step {x : List UInt8} {bx : Bool} {y : List UInt8} {b : Bool} {n : Nat} {xs : List Value} (h : FwdAt x bx y b n xs) (hy : y ≠ []) :
    FwdAt x bx (cutL 4 y) (cutB 4 y b) (n + 1) (xs ++ [.int .u16 ((val 2 y : Nat) : Int), .bool false, .int .u32 ((val 2 (cutL 2 y) : Nat) : Int)]) := by
  rcases h with ⟨rfl, hn, rfl, rfl⟩ | ⟨_, e, _⟩
  · have hl : (x.drop (4 * n)).length = x.length - 4 * n := List.length_drop
    have h0 : 0 < (x.drop (4 * n)).length := List.length_pos_iff.2 hy
    by_cases h4 : 4 ≤ (x.drop (4 * n)).length
    · refine .inl ⟨cutB_yes h4 _, by omega, ?_, ?_⟩
      · rw [cutL_yes h4, List.drop_drop, show 4 * n + 4 = 4 * (n + 1) by omega]
      · rw [sksN_snoc, skC_snoc, val_yes (by omega), val_cut (by omega)]
    · exact .inr ⟨cutB_no h4 _, by unfold cutL; rw [if_neg h4], by omega⟩
  · exact absurd e hy
/-- How far the rows of the wide kind are read. -/
def WideAt (x : List UInt8) (bx : Bool) (y : List UInt8) (b : Bool) (w0 w1 : Bool) (n : Nat) (xs : List Value) : Prop :=
  (b = bx ∧ 8 * n ≤ x.length ∧ y = x.drop (8 * n) ∧ xs = skC (sksV n x) ∧ w1 = (w0 || !sksOk n x)) ∨ (b = true ∧ y = [] ∧ x.length % 8 ≠ 0)
theorem WideAt.step {x : List UInt8} {bx : Bool} {y : List UInt8} {b w0 w1 : Bool} {n : Nat} {xs : List Value} (h : WideAt x bx y b w0 w1 n xs) (hy : y ≠ []) :
    WideAt x bx (cutL 8 y) (cutB 8 y b) w0 (w1 || decide (1 < val 2 (cutL 2 y))) (n + 1) (xs ++ [.int .u16 ((val 2 y : Nat) : Int), .bool (val 2 (cutL 2 y) == 1), .int .u32 ((val 4 (cutL 4 y) : Nat) : Int)]) := by
  rcases h with ⟨rfl, hn, rfl, rfl, rfl⟩ | ⟨_, e, _⟩
  · have hl : (x.drop (8 * n)).length = x.length - 8 * n := List.length_drop
    have h0 : 0 < (x.drop (8 * n)).length := List.length_pos_iff.2 hy
    by_cases h8 : 8 ≤ (x.drop (8 * n)).length
    · refine .inl ⟨cutB_yes h8 _, by omega, ?_, ?_, ?_⟩
      · rw [cutL_yes h8, List.drop_drop, show 8 * n + 8 = 8 * (n + 1) by omega]
      · rw [sksV_snoc, skC_snoc, val_yes (n := 2) (l := x.drop (8 * n)) (by omega), val_cut (a := 2) (b := 2) (l := x.drop (8 * n)) (by omega), val_cut (a := 4) (b := 4) (l := x.drop (8 * n)) (by omega)]
      · rw [sksOk_snoc, val_cut (a := 2) (b := 2) (l := x.drop (8 * n)) (by omega), Bool.or_assoc]
        congr 1
        cases sksOk n x
        · rfl
        · generalize num (((x.drop (8 * n)).drop 2).take 2) = z
          by_cases hz : z ≤ 1
          · have h1 : decide (1 < z) = false := by simp; omega
            have h2 : decide (z ≤ 1) = true := by simpa using hz
            rw [h1, h2]; rfl
          · have h1 : decide (1 < z) = true := by simp; omega
            have h2 : decide (z ≤ 1) = false := by simpa using hz
            rw [h1, h2]; rfl
    · exact .inr ⟨cutB_no h8 _, by unfold cutL; rw [if_neg h8], by omega⟩
  · exact absurd e hy
section
variable {w V V' : World} {p G r g gs n : Nat} {l l' : List UInt8} {b b' bw bw' : Bool} {cs : Array Value} {v : Value} {xs : List Value} {ss : Array Value}
end
end Go.Proofs.Ytfgfiiknbkakaaa.Chk

set_option linter.unusedVariables false
set_option linter.unusedSimpArgs false
namespace Go.Proofs.Ytfgfiiknbkakaaa.Chk
open Go.ChangeShapes Go.WideShapes Go.ChangeAt Go.RowKit Go.Deep Go.Proofs.Ytfgfiiknbkakaaa.Words Go.Proofs.Ytfgfiiknbkakaaa.Oct Go.Proofs.Ytfgfiiknbkakaaa.Par
/-- Cells of a chunk, its lists rows of the call's own. -/
def CkOwn (w : World) (B : Nat) (cs : Array Value) (c : Ck) : Prop :=
  ∃ gv dv sv pv bv, cs = ckArr c gv dv sv pv bv ∧ w.ownsRow B 42 2 gv c.gaps.length (gapC c.gaps) ∧ w.ownsRow B 22 1 dv c.dups.length (dupC c.dups) ∧
    w.ownsRow B 122 3 sv c.skips.length (skC c.skips) ∧ OwnPs w B pv c.ps ∧ Own w B bv c.body
section
variable {w w' : World} {B B' : Nat} {cs : Array Value} {c : Ck}
theorem CkOwn.fr {S : Nat → Prop} (h : CkOwn w B cs c) (k : Fr S w w') (hS : ∀ i, S i → i < w.heap.size → i < B) : CkOwn w' B cs c := by
  obtain ⟨gv, dv, sv, pv, bv, e, h1, h2, h3, h4, h5⟩ := h
  have o : ∀ {t : TypeId} {size n : Nat} {v : Value} {xs : List Value}, w.ownsRow B t size v n xs → w'.ownsRow B t size v n xs := fun hx => k.own hx (fun g hg hi => by have := hx.lt g hg; have := hS g hi this.2; omega)
  exact ⟨gv, dv, sv, pv, bv, e, o h1, o h2, o h3, h4.fr k hS, o h5⟩
theorem CkOwn.grows (h : CkOwn w B cs c) (k : Below w.heap.size w w') : CkOwn w' B cs c := h.fr (Fr.of_below k) (fun i hi hlt => by omega)
theorem CkOwn.mono (h : CkOwn w B cs c) (hB : B' ≤ B) : CkOwn w B' cs c := by
  obtain ⟨gv, dv, sv, pv, bv, e, h1, h2, h3, h4, h5⟩ := h
  exact ⟨gv, dv, sv, pv, bv, e, own_mono h1 hB, own_mono h2 hB, own_mono h3 hB, h4.mono hB, own_mono h5 hB⟩
end
/-- A chunk of which only the kind and the flags are known. -/
structure Bare (c : Ck) : Prop where
  gaps : c.gaps = []
  dups : c.dups = []
  skips : c.skips = []
  ps : c.ps = []
  body : c.body = []
end Go.Proofs.Ytfgfiiknbkakaaa.Chk

set_option linter.unusedVariables false
set_option linter.unusedSimpArgs false
namespace Go.Proofs.Ytfgfiiknbkakaaa.Chk
open Go.RowKit Go.Proofs.Ytfgfiiknbkakaaa.Words Go.Proofs.Ytfgfiiknbkakaaa.Oct Go.Proofs.Ytfgfiiknbkakaaa.Par
/-- What reading leaves alone. -/
structure Alike (c c' : Ck) : Prop where
  kind : c'.kind = c.kind
  bg : c'.bg = c.bg
  en : c'.en = c.en
  lo : c'.lo = c.lo
  ba : c'.ba = c.ba
section
variable {c : Ck} {x : List UInt8}
end
section
variable {c : Ck}
end
end Go.Proofs.Ytfgfiiknbkakaaa.Chk

set_option linter.unusedVariables false
set_option linter.unusedSimpArgs false
namespace Go.Proofs.Ytfgfiiknbkakaaa.Chk
open Go.ChangeShapes Go.WideShapes Go.ChangeAt Go.RowKit Go.Deep Go.Proofs.Ytfgfiiknbkakaaa.Words Go.Proofs.Ytfgfiiknbkakaaa.Oct Go.Proofs.Ytfgfiiknbkakaaa.Par
theorem head_of {w : World} {B size n : Nat} {t : TypeId} {v : Value} {xs : List Value} (h : w.ownsRow B t size v n xs) : ∃ hd : Hd, v = hd.v n ∧ hd.okN n ∧ Reads w w.heap.size size hd.A n xs := by
  obtain ⟨A, c, rfl, h1, h2⟩ := own_slice h
  exact ⟨⟨A, c⟩, rfl, ⟨h1, h2⟩, Reads.of_own h⟩
theorem CkOwn.at_ {w : World} {B : Nat} {cs : Array Value} {c : Ck} (h : CkOwn w B cs c) (ok : c.ok) : CkAt w w.heap.size cs c := by
  obtain ⟨gv, dv, sv, pv, bv, rfl, h1, h2, h3, h4, h5⟩ := h
  obtain ⟨g, rfl, g1, g2⟩ := head_of h1
  obtain ⟨d, rfl, d1, d2⟩ := head_of h2
  obtain ⟨s, rfl, s1, s2⟩ := head_of h3
  obtain ⟨b, rfl, b1, b2⟩ := head_of h5
  obtain ⟨A, cp, rfl, p1, p2⟩ := h4.slice
  exact ⟨ok, g, d, s, ⟨A, cp⟩, b, rfl, g1, d1, s1, ⟨p1, p2⟩, b1, g2, d2, s2, h4.ps, b2⟩
end Go.Proofs.Ytfgfiiknbkakaaa.Chk

set_option linter.unusedVariables false
set_option linter.unusedSimpArgs false
namespace Go.Proofs.Ytfgfiiknbkakaaa.Chk
open Go.ChangeShapes Go.WideShapes Go.ChangeAt Go.RowKit Go.Deep Go.Proofs.Ytfgfiiknbkakaaa.Words Go.Proofs.Ytfgfiiknbkakaaa.Oct Go.Proofs.Ytfgfiiknbkakaaa.Par
/-- A slice of chunks that reads as the list ls, below block B. -/
def Cks (w : World) (B : Nat) (A : Option Addr) (ls : List Ck) : Prop :=
  ∀ k c, ls[k]? = some c → ∃ (ad : Addr) (cs : Array Value), A = some ad ∧ ad.block < B ∧ CkAt w B cs c ∧ ∀ j v, cs[j]? = some v → w.cell? ((ad.add (k * 19)).add j) = some v
section
variable {w w' : World} {B B' : Nat} {A : Option Addr} {ls : List Ck}
theorem Cks.keep (h : Cks w B A ls) (hk : ∀ p : Addr, p.block < B → w'.cell? p = w.cell? p) : Cks w' B A ls := fun k c hc => by
  obtain ⟨ad, cs, h1, h2, h3, h4⟩ := h k c hc
  exact ⟨ad, cs, h1, h2, h3.keep hk, fun j v hv => (hk _ (by rw [block_of_add, block_of_add]; exact h2)).trans (h4 j v hv)⟩
theorem Cks.more (h : Cks w B A ls) (hB : B ≤ B') : Cks w B' A ls := fun k c hc => by
  obtain ⟨ad, cs, h1, h2, h3, h4⟩ := h k c hc
  exact ⟨ad, cs, h1, by omega, h3.more hB, h4⟩
theorem Cks.below (h : Cks w B A ls) (hb : Below B w w') : Cks w' B A ls := h.keep fun _ hp => hb.cell hp
theorem Cks.drewN (h : Cks w B A ls) (n : Nat) : Cks (w.drewN n) B A ls := h.keep fun _ _ => rfl
theorem Cks.nil (w : World) (B : Nat) (A : Option Addr) : Cks w B A [] := fun k c hc => by simp at hc
theorem Cks.ok (h : Cks w B A ls) : ∀ c ∈ ls, c.ok := fun c hc => by
  obtain ⟨k, hk, rfl⟩ := List.mem_iff_getElem.1 hc
  obtain ⟨_, _, _, _, h3, _⟩ := h k _ (List.getElem?_eq_getElem hk)
  exact h3.ok
end
instance : Inhabited Ck := ⟨zeroC 0⟩
end Go.Proofs.Ytfgfiiknbkakaaa.Chk

set_option linter.unusedVariables false
set_option linter.unusedSimpArgs false
set_option maxRecDepth 20000
namespace Go.Proofs.Ytfgfiiknbkakaaa.Tm
open Go.ChangeShapes Go.WideShapes Go.ChangeAt Go.RowKit Go.Deep Go.Proofs.Ytfgfiiknbkakaaa.Words
def tmC : List K → List Value
  | [] => []
  | x :: l => .int .i64 x.2 :: .int .u64 (x.1 : Int) :: tmC l
section
variable {w w' W V : World} {p n cap i B : Nat} {A : Option Addr} {L M l : List K} {G S : Nat → Prop} {k : Int} {x y : K} {a : Nat}
theorem tmC_app (l m : List K) : tmC (l ++ m) = tmC l ++ tmC m := by
  induction l with
  | nil => rfl
  | cons x l ih => simp [tmC, ih]
theorem tmC_at (h : l[i]? = some x) : (tmC l)[i * 2]? = some (.int .i64 x.2) ∧ (tmC l)[i * 2 + 1]? = some (.int .u64 (x.1 : Int)) := by
  induction l generalizing i with
  | nil => cases h
  | cons y l ih =>
    cases i with
    | zero =>
      injection h with h
      subst h
      exact ⟨rfl, rfl⟩
    | succ i =>
      have := ih (i := i) h
      rw [show (i + 1) * 2 = i * 2 + 1 + 1 by omega, show i * 2 + 1 + 1 + 1 = i * 2 + 1 + 1 + 1 from rfl]
      exact ⟨by simpa [tmC] using this.1, by simpa [tmC] using this.2⟩
theorem tmC_one (l : List K) : ∀ u ∈ tmC l, u.oneCell' = true := by
  induction l with
  | nil => intro u hu; cases hu
  | cons x l ih =>
    intro u hu
    rcases List.mem_cons.1 hu with rfl | hu
    · rfl
    · rcases List.mem_cons.1 hu with rfl | hu
      · rfl
      · exact ih u hu
/-- Timers that are read, one by one. -/
theorem tm_at (h : Reads V B 2 A n (tmC L)) (hn : n = L.length) (hi : i < n) : ∃ (ad : Addr) (x : K), A = some ad ∧ ad.block < B ∧ L[i]? = some x ∧ V.cell? (ad.add (i * 2)) = some (.int .i64 x.2) ∧ V.cell? ⟨(ad.add (i * 2)).block, (ad.add (i * 2)).off + 1, none⟩ = some (.int .u64 (x.1 : Int)) := by
  obtain ⟨h1, h2⟩ := h
  obtain ⟨ad, e, hB, hc⟩ := h2 (by omega)
  have hx := List.getElem?_eq_getElem (show i < L.length by omega)
  obtain ⟨c1, c2⟩ := tmC_at hx
  refine ⟨ad, _, e, hB, hx, hc _ _ c1, ?_⟩
  have := hc _ _ c2
  rw [← add_of_add, add_lit _ (by omega)] at this
  exact this
/-- The document's table in memory. -/
structure RTp (w : World) (G : Nat → Prop) (p : Nat) (L : List K) (A : Option Addr) (n cap : Nat) : Prop where
  blk : Blk w p 62 #[.slice A n cap]
  hn : n = L.length
  hc : n ≤ cap ∧ cap ≤ 9223372036854775807
  rd : Reads w w.heap.size 2 A n (tmC L)
  ok : Ok L
  few : L.length ≤ 1000000
  ne : ∀ ad, A = some ad → 0 < n → ad.block ≠ p
  g : ∀ i, G i ↔ (i = p ∨ (0 < n ∧ ∃ ad : Addr, A = some ad ∧ ad.block = i))
def RT : Mem := fun w G p L => ∃ A n cap, RTp w G p L A n cap
theorem RTp.lt (h : RTp w G p L A n cap) {i : Nat} (hi : G i) : i < w.heap.size := by
  rcases (h.g i).1 hi with rfl | ⟨h1, ad, e, rfl⟩
  · exact h.blk.lt
  · obtain ⟨_, h2⟩ := h.rd
    obtain ⟨ad', e', hB, _⟩ := h2 h1
    rw [e] at e'
    injection e' with e'
    rw [e']
    exact hB
theorem RTp.fr (h : RTp w G p L A n cap) (hf : Fr S w w') (hS : ∀ i, S i → ¬ G i) : RTp w' G p L A n cap := by
  refine ⟨hf.blk h.blk (fun e => hS p e ((h.g p).2 (.inl rfl))), h.hn, h.hc, ?_, h.ok, h.few, h.ne, h.g⟩
  have hrd := h.rd
  rcases Nat.eq_zero_or_pos n with h0 | h0
  · exact ⟨hrd.1, fun e => absurd e (by omega)⟩
  · exact (hf.reads hrd (Nat.le_refl _) (fun ad e hx => hS _ hx ((h.g _).2 (.inr ⟨h0, ad, e, rfl⟩)))).more hf.size
theorem rt_rep : Rep RT where
  fr := by
    rintro w w' G S p L ⟨A, n, cap, h⟩ hf hS
    exact ⟨A, n, cap, h.fr hf (fun i h1 h2 => hS i h1 (h.lt h2) h2)⟩
  lt := by
    rintro w G p L ⟨A, n, cap, h⟩ i hi
    exact h.lt hi
  ok := by
    rintro w G p L ⟨A, n, cap, h⟩
    exact ⟨h.ok, h.few⟩
theorem ref_zero (hb : Blk w p 62 #[.slice none 0 0]) : RT w (fun i => i = p) p [] :=
  ⟨none, 0, 0, hb, rfl, ⟨Nat.le_refl _, by decide⟩, ⟨rfl, fun h => absurd h (by omega)⟩, Ok.nil, Nat.zero_le _, fun ad e => (by cases e), fun i => ⟨fun h => .inl h, fun h => by
    rcases h with h | ⟨h, _⟩
    · exact h
    · omega⟩⟩
theorem stop_len : decide ((stop k L).length < L.length) = has k L := by
  have key : (stop k L).length < L.length ↔ has k L = true := by
    constructor
    · intro h
      cases hh : has k L with
      | true => rfl
      | false => rw [stop_none hh] at h; omega
    · intro h
      obtain ⟨z, hz, e⟩ := has_iff.1 h
      rcases Nat.lt_or_ge (stop k L).length L.length with h1 | h1
      · exact h1
      · have h2 : stop k L = L := List.Sublist.eq_of_length_le List.filter_sublist h1
        have h3 : z ∈ stop k L := by rw [h2]; exact hz
        exact absurd e (stop_mem.1 h3).2
  cases hh : has k L with
  | true => exact decide_eq_true (key.2 hh)
  | false => exact decide_eq_false (fun h => by rw [key.1 h] at hh; cases hh)
theorem tm_info : (Try.prog.info? 74).map (fun i => (i.zero, i.size, i.bytes)) = some (some (.agg #[.int .i64 0, .int .u64 0]), 2, 16) := by kernel_rfl
/-- A row of the call's own stands in the table's cell. -/
theorem RTp.laid {A' : Option Addr} {n' c' : Nat} {wb : World} (h : RTp wb G p L A n cap) (hb : Below w.heap.size w wb) (hGw : ∀ i, G i → i < w.heap.size) (ho : wb.ownsRow w.heap.size 74 2 (.slice A' n' c') n' (tmC M)) (hn : n' = M.length) (hok : Ok M) (hf : M.length ≤ 1000000) :
    ∃ G', RTp (wb.setCell ⟨p, 0, none⟩ (.slice A' n' c')) G' p M A' n' c' ∧ (∀ i, G' i → G i ∨ w.heap.size ≤ i) ∧ Fr G w (wb.setCell ⟨p, 0, none⟩ (.slice A' n' c')) := by
  have hGp : G p := (h.g p).2 (.inl rfl)
  obtain ⟨A2, c2, e2, h1, h2⟩ := own_slice ho
  injection e2 with e2 _ e3
  subst e2
  subst e3
  have hge : ∀ ad : Addr, A' = some ad → w.heap.size ≤ ad.block := fun ad e => (ho.lt ad.block (by rw [e]; rfl)).1
  have hpw := hGw p hGp
  refine ⟨fun i => i = p ∨ (0 < n' ∧ ∃ ad : Addr, A' = some ad ∧ ad.block = i), ⟨h.blk.set_ 0 _, hn, ⟨h1, h2⟩, ?_, hok, hf, fun ad e _ e2 => by have := hge ad e; omega, fun i => Iff.rfl⟩, fun i hi => ?_, ?_⟩
  · have hr := Reads.of_own ho
    exact ((Fr.refl (fun i => i = p) wb).setCell (p := ⟨p, 0, none⟩) (.inl rfl) (.slice A' n' c')).reads hr (Nat.le_refl _) (fun ad e e2 => by have := hge ad e; have e3 : ad.block = p := e2; omega) |>.more (by simp)
  · rcases hi with rfl | ⟨_, ad, e, rfl⟩
    · exact .inl hGp
    · exact .inr (hge ad e)
  · have hf1 : Fr (fun i => w.heap.size ≤ i) w wb := Fr.of_below hb
    exact (hf1.mono (T := G) (fun x hx h => by have h' : w.heap.size ≤ x := h; omega)).trans ((Fr.refl (fun i => i = p) wb).setCell (p := ⟨p, 0, none⟩) (.inl rfl) _) (fun x _ e => by rw [show x = p from e]; exact hGp)
def RStopDone (w : World) (G : Nat → Prop) (p : Nat) (L : List K) (k : Int) (e : Ending) (w' : World) : Prop := ∃ G', e = .returned (.bool (has k L)) ∧ RT w' G' p (stop k L) ∧ (∀ i, G' i → G i ∨ w.heap.size ≤ i) ∧ Fr G w w'
theorem stop_take (h : L[i]? = some x) : stop k (L.take (i + 1)) = stop k (L.take i) ++ (if x.2 = k then [] else [x]) := by
  have e : L.take (i + 1) = L.take i ++ [x] := by
    rw [List.take_add_one, h]
    rfl
  unfold stop
  rw [e, List.filter_append]
  by_cases hx : x.2 = k
  · rw [if_pos hx, List.filter_cons_of_neg (by simpa using hx)]
    rfl
  · rw [if_neg hx, List.filter_cons_of_pos (by simpa using hx)]
    rfl
/-- What is kept so far. -/
structure StS (w wr : World) (G : Nat → Prop) (p : Nat) (L : List K) (A : Option Addr) (n cap : Nat) (M : List K) (v : Value) : Prop where
  rep : RTp wr G p L A n cap
  bel : Below w.heap.size w wr
  own : wr.ownsRow w.heap.size 74 2 v M.length (tmC M)
theorem StS.grows (hG : ∀ i, G i → i < w.heap.size) {v : Value} (h : StS w W G p L A n cap M v) (hb : Below W.heap.size W V) : StS w V G p L A n cap M v :=
  ⟨h.rep.fr (Fr.of_below hb) (fun i h1 h2 => by have h1' : W.heap.size ≤ i := h1; have := h.rep.lt h2; omega), h.bel.trans (hb.mono h.bel.size), row_below hb h.own⟩
theorem StS.app (hG : ∀ i, G i → i < w.heap.size) {v v' : Value} {m : Nat} (h : StS w W G p L A n cap M v) (hg : W.grownBy V v.ownBlock) (hm : m = (M ++ l).length) (ho : V.ownsRow w.heap.size 74 2 v' m (tmC M ++ tmC l)) : StS w V G p L A n cap (M ++ l) v' := by
  have hf : Fr (fun i => v.ownBlock = some i) W V := (Fr.refl _ W).grown hg (fun g e => .inl e)
  have hge : ∀ i, v.ownBlock = some i → w.heap.size ≤ i := fun i e => (h.own.lt i e).1
  refine ⟨h.rep.fr hf (fun i h1 h2 => by have := hge i h1; have := hG i h2; omega), below_fr h.bel hf (Nat.le_refl _) hge, ?_⟩
  rw [tmC_app, ← hm]
  exact ho
end
end Go.Proofs.Ytfgfiiknbkakaaa.Tm
