/-
  Of the texts StageT, ChS, ChF, ChC, ChRd, ChGet, ChAll, CrcPlain, Cks, ChRf2: what the laws reach.
-/
import Derived.Test.YtkjlmibjpfmfnaaSA2
import Derived.StillTailTactics
import Derived.Test.YtkjlmibjpfmfnaaSA1
import Derived.Lib.SlBytesConst
import Derived.Lib.AppendZerosOnto
import Derived.Laws.ResultCell
import Derived.Test.YtkjlmibjpfmfnaaRows

set_option linter.unusedVariables false
set_option linter.unusedSimpArgs false
namespace Go.Proofs.Ytkjlmibjpfmfnaa.Words
open Go.ChangeShapes Go.WideShapes Go.ChangeAt Go.RowKit
section
variable {P : Program} {ops : Array Oper}
/-- The head is listed, the tail is not. -/
def headL (s n : Nat) : Array Bool := (List.replicate n true ++ List.replicate (s - n) false).toArray
theorem headL_eq {listed : Array Bool} {s n : Nat} (hs : listed.size = s) (hn : n ≤ s) (h1 : ∀ i, i < n → listed.getD i true = true) (h2 : ∀ k, n ≤ k → k < s → listed.getD k true = false) : listed = headL s n := by
  apply Array.ext
  · simp [headL]; omega
  · intro i hi1 hi2
    have e : listed.getD i true = listed[i] := by simp [hi1]
    rcases Nat.lt_or_ge i n with h | h
    · rw [← e, h1 i h]
      simp [headL, List.getElem_append, h]
    · rw [← e, h2 i h (by omega)]
      simp [headL, List.getElem_append, show ¬ i < n by omega]
/-- Each operation of the tail waits for all of the head. -/
def tailB (ops : Array Oper) (n : Nat) : Bool := (List.range ops.size).all fun i => decide (i < n) || (match ops[i]? with | some o => (List.range n).all fun k => (downs ops i (depsOf o)).contains k | none => true)
theorem tailB_spec {n : Nat} (h : tailB ops n = true) (i : Nat) (o : Oper) (hi : n ≤ i) (ho : ops[i]? = some o) : ∀ k, k < n → k ∈ downs ops i (depsOf o) := by
  have hlt : i < ops.size := (Array.getElem?_eq_some_iff.1 ho).1
  have h1 := List.all_eq_true.1 h i (by simpa using hlt)
  simp only [Bool.or_eq_true, decide_eq_true_eq] at h1
  rcases h1 with h1 | h1
  · omega
  · rw [ho] at h1
    intro k hk
    have := List.all_eq_true.1 h1 k (by simpa using hk)
    simpa using this
theorem unlisted_same (listed : Array Bool) (j : Nat) : ∀ l : List Nat, j ∉ l → unlisted (listed.setIfInBounds j true) l = unlisted listed l
  | [], _ => rfl
  | i :: l, h => by
    have ih := unlisted_same listed j l (fun hm => h (by simp [hm]))
    unfold unlisted at *
    simp only [List.countP_cons]
    rw [ih, getD_set_ne true (fun e => h (by simp [e]))]
theorem unlisted_one (listed : Array Bool) (j : Nat) (hj : listed.getD j true = false) (hlt : j < listed.size) : ∀ l : List Nat, l.Nodup → j ∈ l → unlisted (listed.setIfInBounds j true) l + 1 = unlisted listed l
  | [], _, h => by simp at h
  | i :: l, hd, h => by
    rw [List.nodup_cons] at hd
    by_cases e : i = j
    · subst e
      have ih := unlisted_same listed i l hd.1
      unfold unlisted at *
      simp only [List.countP_cons]
      rw [ih, hj]
      simp [hlt]
    · have ih := unlisted_one listed j hj hlt l hd.2 (by
        rcases List.mem_cons.1 h with h | h
        · exact absurd h.symm e
        · exact h)
      unfold unlisted at *
      simp only [List.countP_cons]
      rw [getD_set_ne true (fun h => e h.symm)]
      omega
theorem puts_congr2 : ∀ (l : List Oper) (k : Nat) (L L' : Nat → Bool) (vs : Nat → Value) (a : Act), (∀ i, k ≤ i → i < k + l.length → L i = L' i) → puts l k L vs a = puts l k L' vs a
  | [], _, _, _, _, _, _ => rfl
  | o :: r, k, L, L', vs, a, h => by
    unfold puts
    rw [h k (Nat.le_refl _) (by simp)]
    exact puts_congr2 r _ _ _ _ _ (fun i hi h2 => h i (by omega) (by simp only [List.length_cons]; omega))
/-- What is asked of operation number j. -/
def StageTOb (P : Program) (Rel : Nat → World → World → Prop) (S : Nat → World → Prop) (ms : List Nat) (ops : Array Oper) (a0 : Act) (Φ : Nat → Value → World → Prop) (j : Nat) (o : Oper) : Prop :=
  ∀ (vs : Nat → Value) (w : World) (m : Nat), S m w → (j ∈ ms → ms[m]? = some j) → (∀ k, waits o k = true → Φ k (vs k) w) →
    if Region.wanted o (yielded ops (puts ops.toList 0 (fun k => decide (k < j)) vs a0).tmps) = true then
      Leaves P (fun v w' => Rel m w w' ∧ Φ j v w' ∧ ((j ∈ ms → S (m + 1) w') ∧ (j ∉ ms → S m w'))) ((execOp (puts ops.toList 0 (fun k => decide (k < j)) vs a0).eval o).run P w)
    else j ∉ ms ∧ Φ j undef w
theorem wpAny_stage_tail {Rel : Nat → World → World → Prop} {S : Nat → World → Prop} {ms : List Nat} {a0 : Act} {Φ : Nat → Value → World → Prop} {Q : Exit → Act → World → Prop} (n : Nat) (hn : n ≤ ops.size) (hB : growB ops = true) (hC : chainB ops ms = true) (hms : ∀ k ∈ ms, k < n) (hT : tailB ops n = true) (hseq : Region.seqB .any ops (ops.size - n) n (headL ops.size n) = true) (hst : ∀ i v w w' m, (∀ n, ms[n]? = some i → n < m) → Φ i v w → Rel m w w' → Φ i v w')
    (hob : ∀ j o, ops[j]? = some o → j < n → StageTOb P Rel S ms ops a0 Φ j o)
    (hend : ∀ vs w, S ms.length w → (∀ i, i < n → Φ i (vs i) w) → wpList P ops Q (ops.toList.drop n) (puts ops.toList 0 (fun k => decide (k < n)) vs a0) w) :
    ∀ (h : Nat) (listed : Array Bool) (a : Act) (w : World), listed.size = ops.size → unlisted listed (List.range n) = h → (∀ k, n ≤ k → k < ops.size → listed.getD k true = false) → StageInv S ms ops a0 Φ listed a w → wpAny P .any ops Q (h + (ops.size - n)) listed a w := by
  simp only [growB, Bool.and_eq_true] at hB
  obtain ⟨⟨⟨hB1, hB2⟩, hB3⟩, hB4⟩ := hB
  intro h
  have at_ : ∀ {i : Nat} {o : Oper}, ops[i]? = some o → ops.toList[i]? = some o := fun h => by simpa using h
  have lt_ : ∀ {i : Nat} {o : Oper}, ops[i]? = some o → i < ops.size := fun h => by
    rcases Nat.lt_or_ge _ ops.size with h' | h'
    · exact h'
    · rw [Array.getElem?_eq_none h'] at h; cases h
  have back : ∀ i o, ops[i]? = some o → ∀ e ∈ o.after, Region.binds .any e = true → e.on < i := fun i o ho e he hb => by
    have := backFrom_spec ops.toList 0 hB4 i o (at_ ho) e he hb
    omega
  have toF : ∀ (listed : Array Bool) (k : Nat), listed.size = ops.size → k < ops.size → listed.getD k true = true → listed.getD k false = true := fun listed k hs hk h => by
    have h' : k < listed.size := by omega
    simp [h'] at h ⊢; exact h
  have all_of : ∀ (listed : Array Bool), listed.size = ops.size → Region.ready .any ops listed = [] → ∀ i, i < ops.size → listed.getD i true = true := by
    intro listed hsz hr i
    induction i using Nat.strongRecOn with
    | _ i ih =>
      intro hi
      cases hli : listed.getD i true with
      | true => rfl
      | false =>
        exfalso
        have : i ∈ Region.ready .any ops listed := mem_ready.2 ⟨hli, ops[i], by simp [hi], fun e he hb => by
          have hlt := back i ops[i] (by simp [hi]) e he hb
          exact toF listed e.on hsz (by omega) (ih e.on hlt (by omega))⟩
        rw [hr] at this
        cases this
  induction h with
  | zero =>
    intro listed a w hsz hc htl hI
    obtain ⟨vs, m, rfl, hS, hml, hmm, hΦ, _⟩ := hI
    have hall : ∀ i, i < n → listed.getD i true = true := by
      intro i hi
      unfold unlisted at hc
      rw [List.countP_eq_zero] at hc
      have := hc i (by simpa using hi)
      simpa using this
    have hL : listed = headL ops.size n := headL_eq hsz hn hall htl
    have hm : m = ms.length := by
      rcases Nat.lt_or_ge m ms.length with h | h
      · exfalso
        have hk := List.getElem?_eq_getElem h
        have := (hmm m _ hk).1 (hall _ (hms _ (List.mem_of_getElem? hk)))
        omega
      · omega
    subst hm
    have e : puts ops.toList 0 (fun k => listed.getD k true) vs a0 = puts ops.toList 0 (fun k => decide (k < n)) vs a0 := puts_congr2 _ _ _ _ _ _ (fun i _ hi => by
      have hi' : i < ops.size := by simpa using hi
      rcases Nat.lt_or_ge i n with h | h
      · rw [hall i h]; simp [h]
      · rw [htl i h hi']; simp; omega)
    rw [e, Nat.zero_add]
    have hlen : (ops.toList.drop n).length = ops.size - n := by simp
    have := wpAny_of_seq (P := P) (md := .any) (ops := ops) (Q' := Q) (ops.toList.drop n) n listed (puts ops.toList 0 (fun k => decide (k < n)) vs a0) w (fun j => by simp [List.getElem?_drop]) (by rw [hlen, hL]; exact hseq) (hend vs w hS (fun i hi => hΦ i (by omega) (hall i hi)))
    rwa [hlen] at this
  | succ h ih =>
    intro listed a w hsz hc htl hI
    rw [show h + 1 + (ops.size - n) = (h + (ops.size - n)) + 1 by omega]
    refine ⟨fun h0 => ?_, fun i hi => ?_⟩
    · exfalso
      have hz : unlisted listed (List.range n) = 0 := by
        unfold unlisted
        rw [List.countP_eq_zero]
        intro k hk
        have hk' : k < n := by simpa using hk
        have := all_of listed hsz h0 k (by omega)
        simpa using this
      omega
    obtain ⟨hun, o, ho, hdeps⟩ := mem_ready.1 hi
    obtain ⟨vs, m, rfl, hS, hml, hmm, hΦ, hdown⟩ := hI
    have hin : i < n := by
      rcases Nat.lt_or_ge i n with h1 | h1
      · exact h1
      · exfalso
        have hdn := tailB_spec hT i o h1 ho
        have hl := downs_spec (L := fun x => listed.getD x true = true) (ops := ops) (fun i o ho hi k hk => by
          obtain ⟨e, he, hb, rfl⟩ := depsOf_spec.1 hk
          exact hdown i o ho hi e he hb) i (depsOf o) (fun x hx => by
          obtain ⟨e, he, hb, rfl⟩ := depsOf_spec.1 hx
          exact getD_le (hdeps e he hb))
        have hz : unlisted listed (List.range n) = 0 := by
          unfold unlisted
          rw [List.countP_eq_zero]
          intro k hk
          have hk' : k < n := by simpa using hk
          have := hl k (hdn k hk')
          simpa using this
        omega
    have hun2 : unlisted (listed.setIfInBounds i true) (List.range n) = h := by
      have := unlisted_one listed i hun (by rw [hsz]; exact lt_ ho) (List.range n) List.nodup_range (by simpa using hin)
      omega
    have htl2 : ∀ k, n ≤ k → k < ops.size → (listed.setIfInBounds i true).getD k true = false := fun k h1 h2 => by
      rw [getD_set_ne true (by omega)]; exact htl k h1 h2
    have hm := monoAll_spec ops.toList 0 hB3 i o (at_ ho)
    rw [Nat.zero_add] at hm
    have wspec : ∀ {x : Oper} {k : Nat}, waits x k = true → ∃ e ∈ x.after, Region.binds .any e = true ∧ e.on = k := fun h => by
      unfold waits at h
      rw [Array.any_eq_true'] at h
      obtain ⟨e, he, h⟩ := h
      simp only [Bool.and_eq_true, beq_iff_eq] at h
      exact ⟨e, he, h⟩
    have hag : Agree (o.looksAt ops) (puts ops.toList 0 (fun k => listed.getD k true) vs a0) (puts ops.toList 0 (fun k => decide (k < i)) vs a0) := by
      refine Agree.puts ops.toList 0 _ _ vs a0 a0 ⟨rfl, fun _ _ => rfl⟩ (fun k x hx hne d hd hmem => ?_)
      have hla := monoFrom_spec ops.toList 0 hm k x hx
      rw [Nat.zero_add] at hla hne
      unfold looksApart at hla
      rw [hd] at hla
      simp only [Bool.or_eq_true, Bool.not_eq_true', List.contains_eq_mem, decide_eq_false_iff_not] at hla
      rcases hla with hla | hla
      · exact hla hmem
      · by_cases h1 : k < i
        · rw [if_pos h1] at hla
          obtain ⟨e, he, hbi, rfl⟩ := wspec hla
          have := getD_le (hdeps e he hbi)
          exact hne (by rw [this]; simp [h1])
        · rw [if_neg h1] at hla
          by_cases h2 : i < k
          · rw [if_pos h2] at hla
            obtain ⟨e, he, hbi, rfl⟩ := wspec hla
            cases hl : listed.getD k true with
            | false => exact hne (by rw [hl]; simp; omega)
            | true =>
              have := hdown k x (by simpa using hx) hl e he hbi
              rw [hun] at this
              cases this
          · obtain rfl : k = i := by omega
            exact hne (by rw [hun]; simp)
    -- where a mover stands in the chain
    have hrank : i ∈ ms → ms[m]? = some i := by
      intro him
      obtain ⟨n, hn, hni⟩ := List.mem_iff_getElem.1 him
      have hn' : ms[n]? = some i := by rw [List.getElem?_eq_getElem hn, hni]
      have hge : ¬ n < m := fun h => by have := (hmm n i hn').2 h; rw [hun] at this; cases this
      have hle : n ≤ m := by
        cases n with
        | zero => omega
        | succ n =>
          have hk : ms[n]? = some (ms[n]'(by omega)) := List.getElem?_eq_getElem _
          obtain ⟨_, o', ho', hd⟩ := chainB_at ms hC n _ i hk hn'
          rw [ho] at ho'
          injection ho' with ho'
          subst ho'
          have hl := downs_spec (L := fun x => listed.getD x true = true) (ops := ops) (fun i o ho hi k hk => by
            obtain ⟨e, he, hb, rfl⟩ := depsOf_spec.1 hk
            exact hdown i o ho hi e he hb) i (depsOf o) (fun x hx => by
            obtain ⟨e, he, hb, rfl⟩ := depsOf_spec.1 hx
            exact getD_le (hdeps e he hb)) _ hd
          have := (hmm n _ hk).1 hl
          omega
      have : n = m := by omega
      subst this
      exact hn'
    have hob' := hob i o ho hin vs w m hS hrank (fun k hk => by
      obtain ⟨e, he, hbi, rfl⟩ := wspec hk
      exact hΦ e.on (by have := back i o ho e he hbi; have := lt_ ho; omega) (getD_le (hdeps e he hbi)))
    rw [← hag.wanted] at hob'
    have hsame : ∀ k, (listed.setIfInBounds i true).getD k true = if k = i then true else listed.getD k true := fun k => by
      by_cases hk : k = i
      · subst hk
        have : k < listed.size := by rw [hsz]; exact lt_ ho
        simp [this]
      · rw [if_neg hk, getD_set_ne true (Ne.symm hk)]
    have hinj : ∀ n n' : Nat, ms[n]? = some i → ms[n']? = some i → n = n' := by
      have key : ∀ d n k k', ms[n]? = some k → ms[n + d + 1]? = some k' → k < k' := by
        intro d
        induction d with
        | zero => intro n k k' h1 h2; exact (chainB_at ms hC n k k' h1 h2).1
        | succ d ihd =>
          intro n k k' h1 h2
          have hlt : n + d + 1 < ms.length := by
            have := (List.getElem?_eq_some_iff.1 h2).1
            omega
          have hx := List.getElem?_eq_getElem hlt
          have h3 := ihd n k _ h1 hx
          have h4 := (chainB_at ms hC (n + d + 1) _ k' hx (by rw [← h2]; rfl)).1
          omega
      intro n n' h1 h2
      rcases Nat.lt_trichotomy n n' with h | h | h
      · have := key (n' - n - 1) n i i h1 (by rw [show n + (n' - n - 1) + 1 = n' by omega]; exact h2); omega
      · exact h
      · have := key (n - n' - 1) n' i i h2 (by rw [show n' + (n - n' - 1) + 1 = n by omega]; exact h1); omega
    have next : ∀ v w', Rel m w w' → Φ i v w' → ((i ∈ ms → S (m + 1) w') ∧ (i ∉ ms → S m w')) → wpAny P .any ops Q (h + (ops.size - n)) (listed.setIfInBounds i true) ((puts ops.toList 0 (fun k => listed.getD k true) vs a0).put o.dst v) w' := by
      intro v w' hR hv hS'
      have hrest : ∀ k, k < ops.size → (listed.setIfInBounds i true).getD k true = true → Φ k (if k = i then v else vs k) w' := fun k hk hl => by
        by_cases hk' : k = i
        · subst hk'; rw [if_pos rfl]; exact hv
        · rw [if_neg hk']
          rw [hsame, if_neg hk'] at hl
          exact hst _ _ _ _ m (fun n hn => (hmm n k hn).1 hl) (hΦ k hk hl) hR
      have hdn : ∀ k x, ops[k]? = some x → (listed.setIfInBounds i true).getD k true = true → ∀ e ∈ x.after, Region.binds .any e = true → (listed.setIfInBounds i true).getD e.on true = true := fun k x hx hl e he hbi => by
        rw [hsame] at hl ⊢
        by_cases hk' : k = i
        · subst hk'
          rw [hx] at ho
          injection ho with ho
          subst ho
          split
          · rfl
          · exact getD_le (hdeps e he hbi)
        · rw [if_neg hk'] at hl
          split
          · rfl
          · exact hdown k x hx hl e he hbi
      have hput : (puts ops.toList 0 (fun k => listed.getD k true) vs a0).put o.dst v = puts ops.toList 0 (fun k => (listed.setIfInBounds i true).getD k true) (fun k => if k = i then v else vs k) a0 := by
        rw [puts_put i o v ops.toList 0 _ vs a0 hB1 (Nat.zero_le _) (by simpa using ho) hun]
        exact puts_congr _ _ _ _ _ _ _ (fun k _ => (hsame k).symm) (fun _ _ => rfl)
      by_cases him : i ∈ ms
      · have hmi := hrank him
        have hlt := (List.getElem?_eq_some_iff.1 hmi).1
        refine ih _ _ w' (by simpa using hsz) hun2 htl2 ⟨fun k => if k = i then v else vs k, m + 1, hput, hS'.1 him, by omega, fun n k hk => ?_, hrest, hdn⟩
        rw [hsame]
        by_cases hki : k = i
        · subst hki
          have := hinj n m hk hmi
          simp; omega
        · rw [if_neg hki, hmm n k hk]
          constructor
          · omega
          · intro h
            rcases Nat.lt_or_ge n m with h1 | h1
            · exact h1
            · have : n = m := by omega
              subst this
              rw [hk] at hmi
              injection hmi with hmi
              exact absurd hmi hki
      · refine ih _ _ w' (by simpa using hsz) hun2 htl2 ⟨fun k => if k = i then v else vs k, m, hput, hS'.2 him, hml, fun n k hk => ?_, hrest, hdn⟩
        rw [hsame]
        have hki : k ≠ i := fun e => by subst e; exact him (List.mem_of_getElem? hk)
        rw [if_neg hki, hmm n k hk]
    unfold wpOp
    rw [ho]
    simp only
    split
    · rename_i hw
      rw [if_pos hw] at hob'
      exact .inl (wp_of_leaves (hag.exec (fun cs b => Region.noSelect_spec hB2 i o cs b ho)) hob' (fun v w' h => next v w' h.1 h.2.1 h.2.2))
    · rename_i hw
      rw [if_neg hw] at hob'
      -- what is not wanted leaves the world alone
      have hrest : ∀ k, k < ops.size → (listed.setIfInBounds i true).getD k true = true → Φ k (if k = i then undef else vs k) w := fun k hk hl => by
        by_cases hk' : k = i
        · subst hk'; rw [if_pos rfl]; exact hob'.2
        · rw [if_neg hk']
          rw [hsame, if_neg hk'] at hl
          exact hΦ k hk hl
      refine ih _ _ w (by simpa using hsz) hun2 htl2 ⟨fun k => if k = i then undef else vs k, m, ?_, hS, hml, fun n k hk => ?_, hrest, fun k x hx hl e he hbi => ?_⟩
      · rw [puts_put i o undef ops.toList 0 _ vs a0 hB1 (Nat.zero_le _) (by simpa using ho) hun]
        exact puts_congr _ _ _ _ _ _ _ (fun k _ => (hsame k).symm) (fun _ _ => rfl)
      · rw [hsame]
        have hki : k ≠ i := fun e => by subst e; exact hob'.1 (List.mem_of_getElem? hk)
        rw [if_neg hki, hmm n k hk]
      · rw [hsame] at hl ⊢
        by_cases hk' : k = i
        · subst hk'
          rw [hx] at ho
          injection ho with ho
          subst ho
          split
          · rfl
          · exact getD_le (hdeps e he hbi)
        · rw [if_neg hk'] at hl
          split
          · rfl
          · exact hdown k x hx hl e he hbi
def StageTWalk (P : Program) (Rel : Nat → World → World → Prop) (S : Nat → World → Prop) (ops : Array Oper) (Q : Act → World → Prop) : List Oper → List Spec → Nat → Act → List (Option (Value × (Value → World → Prop))) → Prop
  | [], _, n, b, F => ∀ w, S n w → factsAll w F → Q b w
  | _ :: _, [], _, _, _ => False
  | o :: r, (mv, t) :: s, n, b, F =>
    (∀ w m, S m w → (mv = true → m = n) → leans o w 0 F → if Region.wanted o (yielded ops b.tmps) = true then Leaves P (fun u w' => Rel m w w' ∧ t.holds u w' ∧ S (if mv = true then m + 1 else m) w') ((execOp b.eval o).run P w) else mv = false ∧ t.holds undef w) ∧
    ∀ v, t.isVal v → StageTWalk P Rel S ops Q r s (if mv = true then n + 1 else n) (b.put o.dst v) (F ++ [t.fact v])
def lastsT (Rel : Nat → World → World → Prop) : Nat → List Spec → Prop
  | _, [] => True
  | n, (mv, .exact _) :: s => lastsT Rel (if mv = true then n + 1 else n) s
  | n, (mv, .grows R) :: s => (∀ m v w w', (mv = true → n < m) → R v w → Rel m w w' → R v w') ∧ lastsT Rel (if mv = true then n + 1 else n) s
theorem lastsT_of {Rel : Nat → World → World → Prop} : ∀ (s : List Spec) (n : Nat), lastsT Rel n s → ∀ i x, s[i]? = some x → ∀ m v w w', (x.1 = true → n + flags (s.take i) < m) → x.2.holds v w → Rel m w w' → x.2.holds v w'
  | [], _, _, _, _, h => by simp at h
  | (mv, .exact u) :: s, n, h, i, x, hx => by
    cases i with
    | zero =>
      simp only [List.getElem?_cons_zero, Option.some.injEq] at hx
      subst hx
      intro m v w w' _ hv _
      exact hv
    | succ i =>
      intro m v w w' hm
      refine lastsT_of s _ h i x (by simpa using hx) m v w w' (fun e => ?_)
      have := hm e
      rw [List.take_succ_cons] at this
      cases mv <;> simp [flags] at this ⊢ <;> omega
  | (mv, .grows R) :: s, n, h, i, x, hx => by
    cases i with
    | zero =>
      simp only [List.getElem?_cons_zero, Option.some.injEq] at hx
      subst hx
      intro m v w w' hm hv hr
      exact h.1 m v w w' (fun e => by have := hm e; simpa [flags] using this) hv hr
    | succ i =>
      intro m v w w' hm
      refine lastsT_of s _ h.2 i x (by simpa using hx) m v w w' (fun e => ?_)
      have := hm e
      rw [List.take_succ_cons] at this
      cases mv <;> simp [flags] at this ⊢ <;> omega
theorem stageTWalk_at {Rel : Nat → World → World → Prop} {S : Nat → World → Prop} {Q : Act → World → Prop} {specs : List Spec} (vs : Nat → Value) : ∀ (l : List Oper) (s : List Spec) (k n : Nat) (b : Act), l.length = s.length → (∀ i, s[i]? = specs[k + i]?) →
    StageTWalk P Rel S ops Q l s n b ((List.range k).map fun i => factOf (toldsOf specs) vs (0 + i)) →
    (∀ j o mv t, l[j]? = some o → s[j]? = some (mv, t) → ∀ w m, S m w → (mv = true → m = n + flags (s.take j)) → leans o w 0 ((List.range (k + j)).map fun i => factOf (toldsOf specs) vs (0 + i)) →
      if Region.wanted o (yielded ops (puts l k (fun i => decide (i < k + j)) (laidV (toldsOf specs) vs) b).tmps) = true then Leaves P (fun u w' => Rel m w w' ∧ t.holds u w' ∧ S (if mv = true then m + 1 else m) w') ((execOp (puts l k (fun i => decide (i < k + j)) (laidV (toldsOf specs) vs) b).eval o).run P w) else mv = false ∧ t.holds undef w) ∧
    (∀ w, S (n + flags s) w → factsAll w ((List.range (k + l.length)).map fun i => factOf (toldsOf specs) vs (0 + i)) → Q (puts l k (fun _ => true) (laidV (toldsOf specs) vs) b) w)
  | [], s, k, n, b, hl, hs, h => ⟨fun j o mv t hj => by simp at hj, by
    have : s = [] := List.eq_nil_of_length_eq_zero (by simpa using hl.symm)
    subst this
    simpa [flags, StageTWalk, puts] using h⟩
  | o :: r, [], k, n, b, hl, hs, h => by simp at hl
  | o :: r, (mv0, t0) :: s, k, n, b, hl, hs, h => by
    have hk : specs[k]? = some (mv0, t0) := by have := hs 0; simpa using this.symm
    have hF : ((List.range (k + 1)).map fun i => factOf (toldsOf specs) vs (0 + i)) = ((List.range k).map fun i => factOf (toldsOf specs) vs (0 + i)) ++ [t0.fact (t0.val (vs k))] := by
      rw [List.range_succ, List.map_append]; simp [factOf_of hk]
    obtain ⟨key1, key2⟩ := h
    have key2 := key2 _ (t0.isVal_val (vs k))
    rw [← hF] at key2
    have ih := stageTWalk_at (specs := specs) vs r s (k + 1) (if mv0 = true then n + 1 else n) (b.put o.dst (t0.val (vs k))) (by simpa using hl) (fun i => by have := hs (i + 1); rw [show k + (i + 1) = k + 1 + i by omega] at this; simpa using this) key2
    have hfl : ∀ s' : List Spec, (if mv0 = true then n + 1 else n) + flags s' = n + flags ((mv0, t0) :: s') := fun s' => by
      cases mv0 <;> simp [flags] <;> omega
    constructor
    · intro j oj mv t hj htj w m hS hm hle
      cases j with
      | zero =>
        simp only [List.getElem?_cons_zero, Option.some.injEq, Prod.mk.injEq] at hj htj
        obtain ⟨rfl, rfl⟩ := htj
        subst hj
        have e : puts (o :: r) k (fun i => decide (i < k + 0)) (laidV (toldsOf specs) vs) b = b := by
          have : ∀ (l : List Oper) (m : Nat) (a : Act), k ≤ m → puts l m (fun i => decide (i < k + 0)) (laidV (toldsOf specs) vs) a = a := by
            intro l
            induction l with
            | nil => intros; rfl
            | cons o r ih =>
              intro m a hm
              unfold puts
              rw [if_neg (by simp; omega)]
              exact ih (m + 1) a (by omega)
          exact this _ k b (Nat.le_refl _)
        rw [e]
        exact key1 w m hS (by simpa [flags] using hm) hle
      | succ j =>
        have := ih.1 j oj mv t (by simpa using hj) (by simpa using htj) w m hS (fun h => by rw [hm h, hfl, List.take_succ_cons]) (by rw [show k + 1 + j = k + (j + 1) by omega]; exact hle)
        have e : puts (o :: r) k (fun i => decide (i < k + (j + 1))) (laidV (toldsOf specs) vs) b = puts r (k + 1) (fun i => decide (i < k + 1 + j)) (laidV (toldsOf specs) vs) (b.put o.dst (t0.val (vs k))) := by
          conv => lhs; unfold puts
          rw [if_pos (by simp), show k + (j + 1) = k + 1 + j by omega, laidV_of hk]
        rw [e]
        exact this
    · intro w hS hall
      have := ih.2 w (by rw [hfl]; exact hS) (by rw [show k + 1 + r.length = k + (o :: r).length by simp; omega]; exact hall)
      have e : puts (o :: r) k (fun _ => true) (laidV (toldsOf specs) vs) b = puts r (k + 1) (fun _ => true) (laidV (toldsOf specs) vs) (b.put o.dst (t0.val (vs k))) := by
        conv => lhs; unfold puts
        rw [if_pos rfl, laidV_of hk]
      rw [e]
      exact this
theorem puts_take (n : Nat) : ∀ (l : List Oper) (k : Nat) (L : Nat → Bool) (vs : Nat → Value) (a : Act), (∀ i, k + n ≤ i → i < k + l.length → L i = false) → puts l k L vs a = puts (l.take n) k L vs a := by
  induction n with
  | zero =>
    intro l
    induction l with
    | nil => intros; rfl
    | cons o r ih =>
      intro k L vs a h
      have h1 : puts (o :: r) k L vs a = puts r (k + 1) L vs a := by
        conv => lhs; unfold puts
        rw [h k (by omega) (by simp), if_neg (by decide)]
      rw [h1, ih (k + 1) L vs a (fun i hi h2 => h i (by omega) (by simp only [List.length_cons]; omega))]
      rfl
  | succ n ih =>
    intro l k L vs a h
    cases l with
    | nil => rfl
    | cons o r =>
      rw [List.take_succ_cons]
      unfold puts
      exact ih r (k + 1) L vs _ (fun i hi h2 => h i (by omega) (by simp only [List.length_cons]; omega))
/-- THE REGION, ITS HEAD WALKED ONCE IN THE ORDER OF THE TEXT, WHATEVER ORDER IS DRAWN (its movers move a state S); its tail as it stands. -/
theorem wp_region_stage_tail (n : Nat) (Rel : Nat → World → World → Prop) (S : Nat → World → Prop) {id : Nat} {a0 : Act} {w : World} {l : List Oper} {Q : Exit → Act → World → Prop} (specs : List Spec) (hm : P.follows .mixedOrders = true) (hB : growB l.toArray = true) (hC : chainB l.toArray (moversFrom 0 specs) = true)
    (hlen : specs.length = n) (hn : n ≤ l.length) (hT : tailB l.toArray n = true) (hseq : Region.seqB .any l.toArray (l.toArray.size - n) n (headL l.toArray.size n) = true) (hst0 : lastsT Rel 0 specs) (h0 : S 0 w.drew)
    (h : StageTWalk P Rel S l.toArray (fun b w' => wpList P l.toArray Q (l.drop n) b w') (l.take n) specs 0 a0 []) : (Code.region id l.toArray true).wp P Q a0 w := by
  have hlt : (l.take n).length = specs.length := by rw [List.length_take, hlen]; omega
  have hst := lastsT_of specs 0 hst0
  have hB' := hB
  simp only [growB, Bool.and_eq_true] at hB'
  obtain ⟨⟨⟨hB1, hB2⟩, hB3⟩, hB4⟩ := hB'
  have hmem : ∀ j mv t, specs[j]? = some (mv, t) → (j ∈ moversFrom 0 specs ↔ mv = true) := fun j mv t hj => by
    rw [moversFrom_mem, Nat.sub_zero, hj]
    simp
  have hms : ∀ k ∈ moversFrom 0 specs, k < n := fun k hk => by
    have := ((moversFrom_mem specs 0 k).1 hk).2
    rw [Nat.sub_zero] at this
    rcases Nat.lt_or_ge k specs.length with h1 | h1
    · omega
    · rw [List.getElem?_eq_none h1] at this; cases this
  have hun0 : unlisted (Array.replicate l.toArray.size false) (List.range n) = n := by
    unfold unlisted
    have : (List.range n).countP (fun i => !(Array.replicate l.toArray.size false).getD i true) = (List.range n).length := by
      rw [List.countP_eq_length]
      intro i hi
      have hi' : i < n := by simpa using hi
      have : i < l.length := by omega
      simp [this]
    rw [this, List.length_range]
  have hgo := wpAny_stage_tail (P := P) (ops := l.toArray) (Q := Q) (Rel := Rel) (S := S) (ms := moversFrom 0 specs) (a0 := a0) (Φ := fun i v w' => match specs[i]? with | some x => x.2.holds v w' | none => True) n (by simpa using hn) hB hC hms hT hseq ?_ ?_ ?_ n (Array.replicate l.toArray.size false) a0 w.drew (by simp) hun0 (fun k _ hk => ?_) ⟨fun _ => undef, 0, ?_, h0, Nat.zero_le _, fun n k hk => ?_, fun i hi h => ?_, fun i o hi h => ?_⟩
  · refine wp_region_any hm ?_
    rw [show n + (l.toArray.size - n) = l.toArray.size by simp; omega] at hgo
    exact hgo
  · intro i v w1 w2 m hrk hv hr
    cases hs : specs[i]? with
    | none => simp [hs]
    | some x =>
      simp only [hs] at hv ⊢
      refine hst i x hs m v w1 w2 (fun e => ?_) hv hr
      have him : i ∈ moversFrom 0 specs := (moversFrom_mem specs 0 i).2 ⟨Nat.zero_le _, by rw [Nat.sub_zero, hs]; simp [e]⟩
      obtain ⟨n', hn', hni⟩ := List.mem_iff_getElem.1 him
      have hn2 : (moversFrom 0 specs)[n']? = some i := by rw [List.getElem?_eq_getElem hn', hni]
      have h1 := (moversFrom_at specs 0 n' i hn2).2
      have h2 := hrk n' hn2
      rw [Nat.sub_zero] at h1
      omega
  · intro j o hj hjn
    have hj' : l[j]? = some o := by simpa using hj
    have hjt : (l.take n)[j]? = some o := by rw [List.getElem?_take, if_pos hjn]; exact hj'
    have hjl : j < l.length := (List.getElem?_eq_some_iff.1 hj').1
    obtain ⟨mv, t, hsj⟩ : ∃ mv t, specs[j]? = some (mv, t) := ⟨_, _, List.getElem?_eq_getElem (by omega)⟩
    intro vs w1 m hS hmv hf
    have hwalk := stageTWalk_at (specs := specs) vs (l.take n) specs 0 0 a0 hlt (fun i => by simp) (by simpa using h)
    have hob := hwalk.1 j o mv t hjt hsj w1 m hS (fun hmt => by
      have := (moversFrom_at specs 0 m j (hmv ((hmem j mv t hsj).2 hmt))).2
      rw [Nat.sub_zero] at this
      omega) (by
      rw [Nat.zero_add]
      refine leans_of j 0 (fun i _ hi hw u hu => ?_)
      have hi2 := hf i hw
      unfold toldsOf at hu
      rw [List.getElem?_map] at hu
      cases hsi : specs[i]? with
      | none => rw [hsi] at hu; cases hu
      | some x =>
        rw [hsi] at hu
        simp only [Option.map_some, Option.some.injEq] at hu
        subst hu
        simp only [hsi] at hi2
        exact hi2)
    rw [← puts_take n l 0 (fun i => decide (i < 0 + j)) (laidV (toldsOf specs) vs) a0 (fun i hi _ => by simp; omega)] at hob
    have hm3 := monoAll_spec l.toArray.toList 0 hB3 j o (by simpa using hj')
    rw [Nat.zero_add] at hm3
    have hag : Agree (o.looksAt l.toArray) (puts l.toArray.toList 0 (fun k => decide (k < j)) vs a0) (puts l 0 (fun i => decide (i < 0 + j)) (laidV (toldsOf specs) vs) a0) := by
      have gen : ∀ (r : List Oper) (k : Nat) (a b : Act), (∀ i x, r[i]? = some x → l[k + i]? = some x) → Agree (o.looksAt l.toArray) a b → Agree (o.looksAt l.toArray) (puts r k (fun k => decide (k < j)) vs a) (puts r k (fun i => decide (i < 0 + j)) (laidV (toldsOf specs) vs) b) := by
        intro r
        induction r with
        | nil => intro k a b _ hab; exact hab
        | cons x r ih =>
          intro k a b hr hab
          unfold puts
          refine ih (k + 1) _ _ (fun i y hy => by have := hr (i + 1) y (by simpa using hy); rwa [show k + 1 + i = k + (i + 1) by omega]) ?_
          rw [Nat.zero_add]
          by_cases hkj : k < j
          · rw [if_pos (by simpa using hkj), if_pos (by simpa using hkj)]
            have hx := hr 0 x (by simp)
            rw [Nat.add_zero] at hx
            by_cases hw : waits o k = true
            · have hk := hf k hw
              have e : laidV (toldsOf specs) vs k = vs k := by
                obtain ⟨mvk, tk, hsk⟩ : ∃ mv t, specs[k]? = some (mv, t) := ⟨_, _, List.getElem?_eq_getElem (by omega)⟩
                rw [laidV_of hsk]
                simp only [hsk] at hk
                cases tk with
                | exact u => exact hk.symm
                | grows R => rfl
              rw [e]
              exact hab.put _ _
            · have hla := monoFrom_spec l.toArray.toList 0 hm3 k x (by simpa using hx)
              rw [Nat.zero_add] at hla
              have hno : ∀ d, x.dst = some d → d ∉ o.looksAt l.toArray := by
                intro d hd hmem
                unfold looksApart at hla
                rw [hd] at hla
                simp only [Bool.or_eq_true, Bool.not_eq_true', List.contains_eq_mem, decide_eq_false_iff_not] at hla
                rcases hla with hla | hla
                · exact hla hmem
                · rw [if_pos hkj] at hla; exact hw hla
              exact ((hab.left _ _ hno).symm.left _ _ hno).symm
          · rw [if_neg (by simpa using hkj), if_neg (by simpa using hkj)]
            exact hab
      have := gen l 0 a0 a0 (fun i x hx => by rwa [Nat.zero_add]) ⟨rfl, fun _ _ => rfl⟩
      simpa using this
    have hmj := hmem j mv t hsj
    have hs2 : (match specs[j]? with | some x => x.2.holds undef w1 | none => True) = t.holds undef w1 := by rw [hsj]
    have hs3 : ∀ (v : Value) (w' : World), (Rel m w1 w' ∧ t.holds v w' ∧ S (if mv = true then m + 1 else m) w') → (Rel m w1 w' ∧ (match specs[j]? with | some x => x.2.holds v w' | none => True) ∧ ((j ∈ moversFrom 0 specs → S (m + 1) w') ∧ (j ∉ moversFrom 0 specs → S m w'))) := by
      rintro v w' ⟨h1, h2, h3⟩
      refine ⟨h1, by rw [hsj]; exact h2, fun hin => ?_, fun hin => ?_⟩
      · rw [if_pos (hmj.1 hin)] at h3; exact h3
      · rw [if_neg (fun e => hin (hmj.2 e))] at h3; exact h3
    rw [hag.wanted, hag.exec (fun cs b => Region.noSelect_spec hB2 j o cs b hj)]
    split at hob
    · rename_i hw
      rw [if_pos hw]
      generalize (execOp (puts l 0 (fun i => decide (i < 0 + j)) (laidV (toldsOf specs) vs) a0).eval o).run P w1 = rr at hob
      cases rr with
      | ok nx w' =>
        cases nx <;> simp only [Leaves] at hob ⊢
        case value v => exact hs3 _ _ hob
        case skip => exact hs3 _ _ hob
        case enter f args => exact hob.mono fun e w'' ⟨v, he, hv⟩ => ⟨v, he, hs3 _ _ hv⟩
      | halt x w' => simp only [Leaves] at hob
    · rename_i hw
      rw [if_neg hw]
      refine ⟨fun hin => ?_, by show (match specs[j]? with | some x => x.2.holds undef w1 | none => True); rw [hs2]; exact hob.2⟩
      rw [hmj.1 hin] at hob
      cases hob.1
  · intro vs w' hS hall
    have hwalk := stageTWalk_at (specs := specs) vs (l.take n) specs 0 0 a0 hlt (fun i => by simp) (by simpa using h)
    rw [moversFrom_len] at hS
    have hend := hwalk.2 w' (by rw [Nat.zero_add]; exact hS) (factsAll_of _ 0 (fun i _ hi u hu => by
      have hi2 := hall i (by simp only [List.length_take] at hi; omega)
      unfold toldsOf at hu
      rw [List.getElem?_map] at hu
      cases hsi : specs[i]? with
      | none => rw [hsi] at hu; cases hu
      | some x =>
        rw [hsi] at hu
        simp only [Option.map_some, Option.some.injEq] at hu
        subst hu
        simp only [hsi] at hi2
        exact hi2))
    have e : puts l.toArray.toList 0 (fun k => decide (k < n)) vs a0 = puts (l.take n) 0 (fun _ => true) (laidV (toldsOf specs) vs) a0 := by
      have gen : ∀ (r : List Oper) (k : Nat) (a : Act), k + r.length ≤ n → puts r k (fun _ => true) vs a = puts r k (fun _ => true) (laidV (toldsOf specs) vs) a := by
        intro r
        induction r with
        | nil => intros; rfl
        | cons x r ih =>
          intro k a hk
          unfold puts
          simp only [List.length_cons] at hk
          have e : laidV (toldsOf specs) vs k = vs k := by
            obtain ⟨mvk, tk, hsk⟩ : ∃ mv t, specs[k]? = some (mv, t) := ⟨_, _, List.getElem?_eq_getElem (by omega)⟩
            rw [laidV_of hsk]
            have := hall k (by omega)
            simp only [hsk] at this
            cases tk with
            | exact u => exact this.symm
            | grows R => rfl
          rw [e]
          exact ih (k + 1) _ (by omega)
      have h1 := puts_take n l 0 (fun k => decide (k < n)) vs a0 (fun i hi _ => by simp; omega)
      have h2 := puts_congr2 (l.take n) 0 (fun k => decide (k < n)) (fun _ => true) vs a0 (fun i _ hi => by rw [List.length_take] at hi; simp; omega)
      have h3 := gen (l.take n) 0 a0 (by rw [List.length_take]; omega)
      show puts l 0 (fun k => decide (k < n)) vs a0 = _
      rw [h1, h2, h3]
    rw [e]
    exact hend
  · have hk' : k < l.length := by simpa using hk
    simp [hk']
  · have : ∀ (l : List Oper) (k : Nat) (L : Nat → Bool) (vs : Nat → Value) (a : Act), (∀ i, i < l.length → L (k + i) = false) → puts l k L vs a = a := by
      intro l
      induction l with
      | nil => intros; rfl
      | cons o r ih =>
        intro k L vs a h
        unfold puts
        have h0 := h 0 (by simp)
        rw [Nat.add_zero] at h0
        rw [h0, if_neg (by decide)]
        exact ih (k + 1) L vs a (fun i hi => by have := h (i + 1) (by simpa using hi); rwa [show k + 1 + i = k + (i + 1) by omega])
    exact (this l.toArray.toList 0 _ _ a0 (fun i hi => by simp at hi; simp [hi])).symm
  · have hk' := chainB_size _ hC k (List.mem_of_getElem? hk)
    simp at hk'
    simp [hk']
  · have hi' : i < l.length := by simpa using hi
    exfalso
    simp [hi'] at h
  · have hi' : i < l.length := by
      have := (Array.getElem?_eq_some_iff.1 hi).1
      simpa using this
    exfalso
    simp [hi'] at h
section
variable {Rel : Nat → World → World → Prop} {S : Nat → World → Prop} {Q : Act → World → Prop} {o : Oper} {r : List Oper} {s : List Spec} {n : Nat} {b : Act} {F : List (Option (Value × (Value → World → Prop)))}
/-- What yields, and leaves the world alone, at whatever stage. -/
theorem stageT_pure {v : Value} (hw : Region.wanted o (yielded ops b.tmps) = true) (hr : ∀ m w, Rel m w w) (h1 : ∀ w m, S m w → leans o w 0 F → (execOp b.eval o).run P w = .ok (.value v) w)
    (h2 : StageTWalk P Rel S ops Q r s n (b.put o.dst v) (F ++ [none])) : StageTWalk P Rel S ops Q (o :: r) ((false, .exact v) :: s) n b F := by
  refine ⟨fun w m hS _ hl => ?_, fun u hu => ?_⟩
  · rw [if_pos hw, h1 w m hS hl]
    exact ⟨hr m w, rfl, by simpa using hS⟩
  · obtain rfl : u = v := hu
    simpa [Told.fact] using h2
/-- What leaves the state alone, at whatever stage, and yields a value of which something is known that lasts. -/
theorem stageT_grows {R : Value → World → Prop} (hw : Region.wanted o (yielded ops b.tmps) = true) (h1 : ∀ w m, S m w → leans o w 0 F → Leaves P (fun u w' => Rel m w w' ∧ R u w' ∧ S m w') ((execOp b.eval o).run P w))
    (h2 : ∀ v, StageTWalk P Rel S ops Q r s n (b.put o.dst v) (F ++ [some (v, R)])) : StageTWalk P Rel S ops Q (o :: r) ((false, .grows R) :: s) n b F := by
  refine ⟨fun w m hS hm hl => ?_, fun u hu => ?_⟩
  · rw [if_pos hw]
    simpa [Told.holds] using h1 w m hS hl
  · simpa [Told.fact] using h2 u
theorem stageT_nil (h : ∀ w, S n w → factsAll w F → Q b w) : StageTWalk P Rel S ops Q [] [] n b F := h
end
end
end Go.Proofs.Ytkjlmibjpfmfnaa.Words

set_option linter.unusedVariables false
set_option linter.unusedSimpArgs false
namespace Go.Proofs.Ytkjlmibjpfmfnaa.Chk
open Go.ChangeShapes Go.WideShapes Go.ChangeAt Go.RowKit Go.Deep Go.Proofs.Ytkjlmibjpfmfnaa.Words Go.Proofs.Ytkjlmibjpfmfnaa.Oct Go.Proofs.Ytkjlmibjpfmfnaa.Par
/-- What a step of such a region may turn: at the append (stage a) the row's block, else the reader's. -/
def stRel (a p : Nat) (v : Value) (m : Nat) : World → World → Prop := Fr (fun i => (m = a ∧ some i = v.ownBlock) ∨ (m ≠ a ∧ i = p))
/-- A row just laid, beside another and the reader. -/
def Laid (t : TypeId) (cs : Array Value) (p : Nat) (v : Value) (u : Value) (V : World) : Prop := ∃ b, u = .slice (some ⟨b, 0, none⟩) 1 1 ∧ Blk V b t cs ∧ v.ownBlock ≠ some b ∧ b ≠ p
theorem Laid.lasts {a p : Nat} {t : TypeId} {cs : Array Value} {v u : Value} {m : Nat} {V V' : World} (h : Laid t cs p v u V) (k : stRel a p v m V V') : Laid t cs p v u V' := by
  obtain ⟨b, rfl, h1, h2, h3⟩ := h
  refine ⟨b, rfl, Fr.blk k h1 ?_, h2, h3⟩
  rintro (⟨_, e⟩ | ⟨_, e⟩)
  · exact h2 e.symm
  · exact h3 e
/-- A row that was appended to. -/
def Grew (B : Nat) (t : TypeId) (size p n : Nat) (xs : List Value) (u : Value) (V : World) : Prop := V.ownsRow B t size u n xs ∧ u.ownBlock ≠ some p
theorem Grew.lasts {a p B size n : Nat} {t : TypeId} {xs : List Value} {v u : Value} {m : Nat} {V V' : World} (hm : m ≠ a) (h : Grew B t size p n xs u V) (k : stRel a p v m V V') : Grew B t size p n xs u V' := by
  refine ⟨Fr.own k h.1 (fun g hg => ?_), h.2⟩
  rintro (⟨e, _⟩ | ⟨_, e⟩)
  · exact hm e
  · exact h.2 (by rw [hg, e])
section
variable {w V V' : World} {p G r g a m B size n : Nat} {l l' : List UInt8} {bad bad' wr : Bool} {cs : Array Value} {t : TypeId} {v : Value} {xs : List Value}
theorem RSr.rel (hm : m ≠ a) (f : Fr (At p) V V') : stRel a p v m V V' := f.mono fun x _ hx => .inr ⟨hm, hx⟩
end
theorem skC_snoc (l : List Skp) (s : Skp) : skC (l ++ [s]) = skC l ++ [.int .u16 (s.1 : Int), .bool s.2.1, .int .u32 (s.2.2 : Int)] := by simp [skC]
theorem blk_reads {w : World} {b n size : Nat} {t : TypeId} {cs : Array Value} (h : Blk w b t cs) (hn : cs.toList.length = n * size) : Reads w (b + 1) size (some ⟨b, 0, none⟩) n cs.toList :=
  ⟨hn, fun _ => ⟨_, rfl, by simp, fun j u hu => by rw [h.cellAdd, ← hu]; simp⟩⟩
theorem own_beside {V V' : World} {B B' size size' n n' : Nat} {t t' : TypeId} {v v' : Value} {xs xs' : List Value} (h : V.ownsRow B t size v n xs) (h' : V.ownsRow B' t' size' v' n' xs') (hne : t ≠ t') (k : V.grownBy V' v'.ownBlock) : V'.ownsRow B t size v n xs :=
  (Fr.of_grown k).own h (fun b hb e => own_ne h h' hne b hb e.symm)
end Go.Proofs.Ytkjlmibjpfmfnaa.Chk

set_option linter.unusedVariables false
set_option linter.unusedSimpArgs false
namespace Go.Proofs.Ytkjlmibjpfmfnaa.Chk
open Go.ChangeShapes Go.WideShapes Go.ChangeAt Go.RowKit Go.Deep Go.Proofs.Ytkjlmibjpfmfnaa.Words Go.Proofs.Ytkjlmibjpfmfnaa.Oct Go.Proofs.Ytkjlmibjpfmfnaa.Par
theorem sksN_snoc : ∀ (k : Nat) (l : List UInt8), sksN (k + 1) l = sksN k l ++ [(num ((l.drop (4 * k)).take 2), false, num (((l.drop (4 * k)).drop 2).take 2))]
  | 0, l => by simp [sksN]
  | k + 1, l => by
    have e : sksN (k + 1 + 1) l = (num (l.take 2), false, num ((l.drop 2).take 2)) :: sksN (k + 1) (l.drop 4) := rfl
    rw [e, sksN_snoc k (l.drop 4), List.drop_drop, show 4 + 4 * k = 4 * (k + 1) by omega]
    rfl
theorem sksV_snoc : ∀ (k : Nat) (l : List UInt8), sksV (k + 1) l = sksV k l ++ [(num ((l.drop (8 * k)).take 2), num (((l.drop (8 * k)).drop 2).take 2) == 1, num (((l.drop (8 * k)).drop 4).take 4))]
  | 0, l => by simp [sksV]
  | k + 1, l => by
    have e : sksV (k + 1 + 1) l = (num (l.take 2), num ((l.drop 2).take 2) == 1, num ((l.drop 4).take 4)) :: sksV (k + 1) (l.drop 8) := rfl
    rw [e, sksV_snoc k (l.drop 8), List.drop_drop, show 8 + 8 * k = 8 * (k + 1) by omega]
    rfl
theorem sksOk_snoc : ∀ (k : Nat) (l : List UInt8), sksOk (k + 1) l = (sksOk k l && decide (num (((l.drop (8 * k)).drop 2).take 2) ≤ 1))
  | 0, l => by simp [sksOk]
  | k + 1, l => by
    have e : sksOk (k + 1 + 1) l = (decide (num ((l.drop 2).take 2) ≤ 1) && sksOk (k + 1) (l.drop 8)) := rfl
    have e2 : (l.drop 8).drop (8 * k) = l.drop (8 * (k + 1)) := by rw [List.drop_drop, show 8 + 8 * k = 8 * (k + 1) by omega]
    rw [e, sksOk_snoc k (l.drop 8), e2, ← Bool.and_assoc]
    rfl
/-- How far the rows of what is skipped are read. -/
def FwdAt (x : List UInt8) (bx : Bool) (y : List UInt8) (b : Bool) (n : Nat) (xs : List Value) : Prop :=
  (b = bx ∧ 4 * n ≤ x.length ∧ y = x.drop (4 * n) ∧ xs = skC (sksN n x)) ∨ (b = true ∧ y = [] ∧ x.length % 4 ≠ 0)
theorem FwdAt.step {x : List UInt8} {bx : Bool} {y : List UInt8} {b : Bool} {n : Nat} {xs : List Value} (h : FwdAt x bx y b n xs) (hy : y ≠ []) :
    FwdAt x bx (cutL 4 y) (cutB 4 y b) (n + 1) (xs ++ [.int .u16 ((val 2 y : Nat) : Int), .bool false, .int .u32 ((val 2 (cutL 2 y) : Nat) : Int)]) := by
  rcases h with ⟨rfl, hn, rfl, rfl⟩ | ⟨_, e, _⟩
  · have hl : (x.drop (4 * n)).length = x.length - 4 * n := List.length_drop
    have h0 : 0 < (x.drop (4 * n)).length := List.length_pos_iff.2 hy
    by_cases h4 : 4 ≤ (x.drop (4 * n)).length
    · refine .inl ⟨cutB_yes h4 _, by omega, ?_, ?_⟩
      · rw [cutL_yes h4, List.drop_drop, show 4 * n + 4 = 4 * (n + 1) by omega]
      · rw [sksN_snoc, skC_snoc, val_yes (by omega), val_cut (by omega)]
    · exact .inr ⟨cutB_no h4 _, by unfold cutL; rw [if_neg h4], by omega⟩
  · exact absurd e hy
/-- How far the rows of the wide kind are read. -/
def WideAt (x : List UInt8) (bx : Bool) (y : List UInt8) (b : Bool) (w0 w1 : Bool) (n : Nat) (xs : List Value) : Prop :=
  (b = bx ∧ 8 * n ≤ x.length ∧ y = x.drop (8 * n) ∧ xs = skC (sksV n x) ∧ w1 = (w0 || !sksOk n x)) ∨ (b = true ∧ y = [] ∧ x.length % 8 ≠ 0)
theorem WideAt.step {x : List UInt8} {bx : Bool} {y : List UInt8} {b w0 w1 : Bool} {n : Nat} {xs : List Value} (h : WideAt x bx y b w0 w1 n xs) (hy : y ≠ []) :
    WideAt x bx (cutL 8 y) (cutB 8 y b) w0 (w1 || decide (1 < val 2 (cutL 2 y))) (n + 1) (xs ++ [.int .u16 ((val 2 y : Nat) : Int), .bool (val 2 (cutL 2 y) == 1), .int .u32 ((val 4 (cutL 4 y) : Nat) : Int)]) := by
  rcases h with ⟨rfl, hn, rfl, rfl, rfl⟩ | ⟨_, e, _⟩
  · have hl : (x.drop (8 * n)).length = x.length - 8 * n := List.length_drop
    have h0 : 0 < (x.drop (8 * n)).length := List.length_pos_iff.2 hy
    by_cases h8 : 8 ≤ (x.drop (8 * n)).length
    · refine .inl ⟨cutB_yes h8 _, by omega, ?_, ?_, ?_⟩
      · rw [cutL_yes h8, List.drop_drop, show 8 * n + 8 = 8 * (n + 1) by omega]
      · rw [sksV_snoc, skC_snoc, val_yes (n := 2) (l := x.drop (8 * n)) (by omega), val_cut (a := 2) (b := 2) (l := x.drop (8 * n)) (by omega), val_cut (a := 4) (b := 4) (l := x.drop (8 * n)) (by omega)]
      · rw [sksOk_snoc, val_cut (a := 2) (b := 2) (l := x.drop (8 * n)) (by omega), Bool.or_assoc]
        congr 1
        cases sksOk n x
        · rfl
        · generalize num (((x.drop (8 * n)).drop 2).take 2) = z
          by_cases hz : z ≤ 1
          · have h1 : decide (1 < z) = false := by simp; omega
            have h2 : decide (z ≤ 1) = true := by simpa using hz
            rw [h1, h2]; rfl
          · have h1 : decide (1 < z) = true := by simp; omega
            have h2 : decide (z ≤ 1) = false := by simpa using hz
            rw [h1, h2]; rfl
    · exact .inr ⟨cutB_no h8 _, by unfold cutL; rw [if_neg h8], by omega⟩
  · exact absurd e hy
section
variable {w V V' : World} {p G r g gs n : Nat} {l l' : List UInt8} {b b' bw bw' : Bool} {cs : Array Value} {v : Value} {xs : List Value} {ss : Array Value}
end
end Go.Proofs.Ytkjlmibjpfmfnaa.Chk

set_option linter.unusedVariables false
set_option linter.unusedSimpArgs false
namespace Go.Proofs.Ytkjlmibjpfmfnaa.Chk
open Go.ChangeShapes Go.WideShapes Go.ChangeAt Go.RowKit Go.Deep Go.Proofs.Ytkjlmibjpfmfnaa.Words Go.Proofs.Ytkjlmibjpfmfnaa.Oct Go.Proofs.Ytkjlmibjpfmfnaa.Par
/-- Cells of a chunk, its lists rows of the call's own. -/
def CkOwn (w : World) (B : Nat) (cs : Array Value) (c : Ck) : Prop :=
  ∃ gv dv sv pv bv, cs = ckArr c gv dv sv pv bv ∧ w.ownsRow B 118 2 gv c.gaps.length (gapC c.gaps) ∧ w.ownsRow B 32 1 dv c.dups.length (dupC c.dups) ∧
    w.ownsRow B 120 3 sv c.skips.length (skC c.skips) ∧ OwnPs w B pv c.ps ∧ Own w B bv c.body
section
variable {w w' : World} {B B' : Nat} {cs : Array Value} {c : Ck}
theorem CkOwn.fr {S : Nat → Prop} (h : CkOwn w B cs c) (k : Fr S w w') (hS : ∀ i, S i → i < w.heap.size → i < B) : CkOwn w' B cs c := by
  obtain ⟨gv, dv, sv, pv, bv, e, h1, h2, h3, h4, h5⟩ := h
  have o : ∀ {t : TypeId} {size n : Nat} {v : Value} {xs : List Value}, w.ownsRow B t size v n xs → w'.ownsRow B t size v n xs := fun hx => k.own hx (fun g hg hi => by have := hx.lt g hg; have := hS g hi this.2; omega)
  exact ⟨gv, dv, sv, pv, bv, e, o h1, o h2, o h3, h4.fr k hS, o h5⟩
theorem CkOwn.grows (h : CkOwn w B cs c) (k : Below w.heap.size w w') : CkOwn w' B cs c := h.fr (Fr.of_below k) (fun i hi hlt => by omega)
theorem CkOwn.mono (h : CkOwn w B cs c) (hB : B' ≤ B) : CkOwn w B' cs c := by
  obtain ⟨gv, dv, sv, pv, bv, e, h1, h2, h3, h4, h5⟩ := h
  exact ⟨gv, dv, sv, pv, bv, e, own_mono h1 hB, own_mono h2 hB, own_mono h3 hB, h4.mono hB, own_mono h5 hB⟩
end
abbrev nilV : Value := .slice none 0 0
theorem nilG {w : World} {B : Nat} : w.ownsRow B 118 2 nilV ([] : List Gp).length (gapC []) := World.ownsRow_nil _ _ _ _
theorem nilD {w : World} {B : Nat} : w.ownsRow B 32 1 nilV ([] : List Nat).length (dupC []) := World.ownsRow_nil _ _ _ _
theorem nilS {w : World} {B : Nat} : w.ownsRow B 120 3 nilV ([] : List Skp).length (skC []) := World.ownsRow_nil _ _ _ _
/-- A chunk of which only the kind and the flags are known. -/
structure Bare (c : Ck) : Prop where
  gaps : c.gaps = []
  dups : c.dups = []
  skips : c.skips = []
  ps : c.ps = []
  body : c.body = []
end Go.Proofs.Ytkjlmibjpfmfnaa.Chk

set_option linter.unusedVariables false
set_option linter.unusedSimpArgs false
namespace Go.Proofs.Ytkjlmibjpfmfnaa.Chk
open Go.ChangeShapes Go.WideShapes Go.ChangeAt Go.RowKit Go.Deep Go.Proofs.Ytkjlmibjpfmfnaa.Words Go.Proofs.Ytkjlmibjpfmfnaa.Oct Go.Proofs.Ytkjlmibjpfmfnaa.Par
theorem head_of {w : World} {B size n : Nat} {t : TypeId} {v : Value} {xs : List Value} (h : w.ownsRow B t size v n xs) : ∃ hd : Hd, v = hd.v n ∧ hd.okN n ∧ Reads w w.heap.size size hd.A n xs := by
  obtain ⟨A, c, rfl, h1, h2⟩ := own_slice h
  exact ⟨⟨A, c⟩, rfl, ⟨h1, h2⟩, Reads.of_own h⟩
theorem CkOwn.at_ {w : World} {B : Nat} {cs : Array Value} {c : Ck} (h : CkOwn w B cs c) (ok : c.ok) : CkAt w w.heap.size cs c := by
  obtain ⟨gv, dv, sv, pv, bv, rfl, h1, h2, h3, h4, h5⟩ := h
  obtain ⟨g, rfl, g1, g2⟩ := head_of h1
  obtain ⟨d, rfl, d1, d2⟩ := head_of h2
  obtain ⟨s, rfl, s1, s2⟩ := head_of h3
  obtain ⟨b, rfl, b1, b2⟩ := head_of h5
  obtain ⟨A, cp, rfl, p1, p2⟩ := h4.slice
  exact ⟨ok, g, d, s, ⟨A, cp⟩, b, rfl, g1, d1, s1, ⟨p1, p2⟩, b1, g2, d2, s2, h4.ps, b2⟩
end Go.Proofs.Ytkjlmibjpfmfnaa.Chk

set_option linter.unusedVariables false
set_option linter.unusedSimpArgs false
namespace Go.Proofs.Ytkjlmibjpfmfnaa.Chk
open Go.ChangeShapes Go.WideShapes Go.ChangeAt Go.RowKit Go.Deep Go.Proofs.Ytkjlmibjpfmfnaa.Words Go.Proofs.Ytkjlmibjpfmfnaa.Oct Go.Proofs.Ytkjlmibjpfmfnaa.Par
section
variable {b : List UInt8} {m : Nat}
end
theorem wpList_build_as {P : Program} {ops : Array Oper} {rest : List Oper} {o : Oper} {a : Act} {w : World} {Q : Exit → Act → World → Prop} (hg : o.guard = none) (t : TypeId) (parts : Array (Nat × Operand)) (ho : o.op = .build t parts) (cells : Array Value)
    (hf : P.built t (parts.map fun (i, x) => (i, a.eval x)).toList = some cells) (h : wpList P ops Q rest (a.put o.dst (.agg cells)) w) : wpList P ops Q (o :: rest) a w :=
  wpList_build hg t parts ho (by rw [hf]; rfl) (by rw [hf]; exact h)
theorem ck_one (c : Ck) : (ckArr c nilV nilV nilV nilV nilV).all (·.oneCell') = true := by simp [ckArr, Value.oneCell']
abbrev zeroA : Array Value := ckArr (zeroC 0) nilV nilV nilV nilV nilV
theorem setRow_blk {w : World} {g : Nat} {cs cs' : Array Value} (h : CkBlk w g cs) : CkBlk (w.setRow g cs') g cs' := setRow_heap w g cs cs' _ (0, 0) h
theorem setRow_fr (w : World) (g : Nat) (cs' : Array Value) : Fr (fun i => i = g) w (w.setRow g cs') := ⟨rfl, rfl, rfl, by simp, fun k _ hn => setRow_other w g k cs' (fun e => hn e)⟩
end Go.Proofs.Ytkjlmibjpfmfnaa.Chk

set_option linter.unusedVariables false
set_option linter.unusedSimpArgs false
namespace Go.Proofs.Ytkjlmibjpfmfnaa.Chk
open Go.ChangeShapes Go.WideShapes Go.ChangeAt Go.RowKit Go.Deep Go.Proofs.Ytkjlmibjpfmfnaa.Words Go.Proofs.Ytkjlmibjpfmfnaa.Oct Go.Proofs.Ytkjlmibjpfmfnaa.Par
/-- How great a chunk is. -/
structure Small (c : Ck) : Prop where
  body : c.body.length ≤ 450000
  skips : 8 * c.skips.length ≤ 450000
  ps : sizeL c.ps ≤ 450000
end Go.Proofs.Ytkjlmibjpfmfnaa.Chk

set_option linter.unusedVariables false
set_option linter.unusedSimpArgs false
namespace Go.Proofs.Ytkjlmibjpfmfnaa.Crc
/-- One step of the register. -/
def T (r : Nat) : Nat := r / 2 ^^^ (if r % 2 = 1 then 2197175160 else 0)
def Tn : Nat → Nat → Nat
  | 0, r => r
  | k + 1, r => T (Tn k r)
def feed1 (r : Nat) (b : UInt8) : Nat := Tn 8 (r ^^^ b.toNat)
def feedL (r : Nat) (l : List UInt8) : Nat := l.foldl feed1 r
def sumL (l : List UInt8) : Nat := 4294967295 - feedL 4294967295 l
/-- The register after n bits, each laid into its lowest place ahead of the step. -/
def B2 (b : Bool) : Nat := if b then 1 else 0
def P (r : Nat) (f : Nat → Bool) : Nat → Nat
  | 0 => r
  | n + 1 => T (P r f n ^^^ B2 (f n))
/-- The bytes with zeros in the sum's place. -/
def zeroed (l : List UInt8) (k : Nat) : List UInt8 := l.take k ++ [0, 0, 0, 0] ++ l.drop (k + 4)
def byteOf (s m : Nat) : UInt8 := UInt8.ofNat (s / 256 ^ m)
def le4 (s : Nat) : List UInt8 := [byteOf s 0, byteOf s 1, byteOf s 2, byteOf s 3]
def sealL (l : List UInt8) (k : Nat) : List UInt8 := l.take k ++ le4 (sumL (zeroed l k)) ++ l.drop (k + 4)
def maskOf (m : Nat) : UInt8 := UInt8.ofNat (2 ^ m)
/-- The list with one bit turned. -/
def flip (l : List UInt8) (j : Nat) : List UInt8 := l.set (j / 8) (l.getD (j / 8) 0 ^^^ maskOf (j % 8))
/-- The first n bits of t, turned from place k on. -/
def turned (l : List UInt8) (k t : Nat) : Nat → List UInt8
  | 0 => l
  | n + 1 => if t.testBit n then flip (turned l k t n) (k + n) else turned l k t n
end Go.Proofs.Ytkjlmibjpfmfnaa.Crc

set_option linter.unusedVariables false
set_option linter.unusedSimpArgs false
namespace Go.Proofs.Ytkjlmibjpfmfnaa.Chk
open Go.ChangeShapes Go.WideShapes Go.ChangeAt Go.RowKit Go.Deep Go.Proofs.Ytkjlmibjpfmfnaa.Words Go.Proofs.Ytkjlmibjpfmfnaa.Oct Go.Proofs.Ytkjlmibjpfmfnaa.Par
theorem run_loadVar_any {P : Program} (w : World) (a : Addr) (ty : TypeId) (cs : Array Value) (d : TypeDesc) (hc : ∀ j v, cs[j]? = some v → w.cell? (a.add j) = some v)
    (hu : P.underlying ty = some d) (hd : d.isRow = true) (hi : (P.info? ty).map (·.size) = some cs.size) : (loadVar ty a).run P w = .ok (.agg cs) w := by
  have hl : (loadCells a cs.size).run P w = .ok cs w := by
    have := run_loadCells_list (P := P) w a cs.toList (fun j v hv => hc j v (by simpa using hv))
    simpa using this
  cases hq : P.info? ty with
  | none => simp [hq] at hi
  | some i =>
    have hs : i.size = cs.size := by simpa [hq] using hi
    have hagg : (isAgg ty).run P w = .ok true w := by
      unfold isAgg
      rw [Sem.run_bind, run_underlying hu w]
      cases d <;> simp_all
    simp [loadVar, Sem.run_bind, hagg, sizeOf, typeInfo, hq, hs, hl]
theorem wpList_load_any {P : Program} {ops : Array Oper} {rest : List Oper} {o : Oper} {a : Act} {w : World} {Q : Exit → Act → World → Prop} (hgd : o.guard = none) (ty : TypeId) (x : Operand) (ho : o.op = .load ty x)
    (ad : Addr) (hx : a.eval x = .pointer (some ad)) (cs : Array Value) (d : TypeDesc) (hc : ∀ j v, cs[j]? = some v → w.cell? (ad.add j) = some v)
    (hu : P.underlying ty = some d) (hd : d.isRow = true) (hi : (P.info? ty).map (·.size) = some cs.size)
    (h : wpList P ops Q rest (a.put o.dst (.agg cs)) w) : wpList P ops Q (o :: rest) a w :=
  wpList_plain hgd fun _ hK => by
    unfold Oper.wp execOp
    simp only [ho, hx, Instr.loadAt, Instr.sureAddr, Sem.run_bind, Sem.run_pure, Result.andThen_ok, run_loadVar_any w ad ty cs d hc hu hd hi]
    exact hK _ _ h
/-- A slice of chunks that reads as the list ls, below block B. -/
def Cks (w : World) (B : Nat) (A : Option Addr) (ls : List Ck) : Prop :=
  ∀ k c, ls[k]? = some c → ∃ (ad : Addr) (cs : Array Value), A = some ad ∧ ad.block < B ∧ CkAt w B cs c ∧ ∀ j v, cs[j]? = some v → w.cell? ((ad.add (k * 19)).add j) = some v
section
variable {w w' : World} {B B' : Nat} {A : Option Addr} {ls : List Ck}
theorem Cks.keep (h : Cks w B A ls) (hk : ∀ p : Addr, p.block < B → w'.cell? p = w.cell? p) : Cks w' B A ls := fun k c hc => by
  obtain ⟨ad, cs, h1, h2, h3, h4⟩ := h k c hc
  exact ⟨ad, cs, h1, h2, h3.keep hk, fun j v hv => (hk _ (by rw [block_of_add, block_of_add]; exact h2)).trans (h4 j v hv)⟩
theorem Cks.more (h : Cks w B A ls) (hB : B ≤ B') : Cks w B' A ls := fun k c hc => by
  obtain ⟨ad, cs, h1, h2, h3, h4⟩ := h k c hc
  exact ⟨ad, cs, h1, by omega, h3.more hB, h4⟩
theorem Cks.below (h : Cks w B A ls) (hb : Below B w w') : Cks w' B A ls := h.keep fun _ hp => hb.cell hp
theorem Cks.drewN (h : Cks w B A ls) (n : Nat) : Cks (w.drewN n) B A ls := h.keep fun _ _ => rfl
theorem Cks.nil (w : World) (B : Nat) (A : Option Addr) : Cks w B A [] := fun k c hc => by simp at hc
theorem Cks.ok (h : Cks w B A ls) : ∀ c ∈ ls, c.ok := fun c hc => by
  obtain ⟨k, hk, rfl⟩ := List.mem_iff_getElem.1 hc
  obtain ⟨_, _, _, _, h3, _⟩ := h k _ (List.getElem?_eq_getElem hk)
  exact h3.ok
end
instance : Inhabited Ck := ⟨zeroC 0⟩
end Go.Proofs.Ytkjlmibjpfmfnaa.Chk

set_option linter.unusedVariables false
set_option linter.unusedSimpArgs false
namespace Go.Proofs.Ytkjlmibjpfmfnaa.Chk
open Go.ChangeShapes Go.WideShapes Go.ChangeAt Go.RowKit Go.Deep Go.Proofs.Ytkjlmibjpfmfnaa.Words Go.Proofs.Ytkjlmibjpfmfnaa.Oct Go.Proofs.Ytkjlmibjpfmfnaa.Par
/-- Where Strip stands: the chunk's variable, the result's; the result's lists lie elsewhere. -/
structure StS (ea : Bool) (w V : World) (g0 g1 g2 : Nat) (cs : Array Value) (d : Ck) : Prop where
  b0 : CkBlk V g0 cs
  ex : ∃ g dd s p b : Hd, CkBlk V g1 (ckArr d (g.v d.gaps.length) (dd.v d.dups.length) (s.v d.skips.length) (p.v d.ps.length) (b.v d.body.length)) ∧ d.ok ∧ (∀ V' : World, (∀ q : Addr, q.block ≠ g1 → q.block ≠ g2 → V'.cell? q = V.cell? q) → Lists V' V.heap.size d g dd s p b) ∧ (ea = true → s = ⟨none, 0⟩)
  below : Below w.heap.size w V
  ne : g0 ≠ g1
  lo : w.heap.size ≤ g1
  lo0 : w.heap.size ≤ g0
  b2 : CkBlk V g2 zeroA
  ne2 : g2 ≠ g1
  ne3 : g2 ≠ g0
  lo2 : w.heap.size ≤ g2
/-- Where Strip stands in the loop over what is skipped. -/
structure SkS (w V : World) (g0 g1 g2 : Nat) (cs : Array Value) (kd tsn : Nat) (vg vd vp vb : Value) (A : Option Addr) (n cp : Nat) (l : List Skp) : Prop where
  b0 : CkBlk V g0 cs
  b1 : CkBlk V g1 (ckArr { zeroC kd with tsn := tsn } vg vd (.slice A n cp) vp vb)
  own : V.ownsRow w.heap.size 120 3 (.slice A n cp) n (skC l)
  len : n = l.length
  below : Below w.heap.size w V
  b2 : CkBlk V g2 zeroA
section
variable {w V V' : World} {g0 g1 g2 : Nat} {cs : Array Value} {kd tsn : Nat} {vg vd vp vb : Value} {A A' : Option Addr} {n cp cp' : Nat} {l : List Skp} {v' : Value}
theorem SkS.grows (h : SkS w V g0 g1 g2 cs kd tsn vg vd vp vb A n cp l) (k : Below V.heap.size V V') : SkS w V' g0 g1 g2 cs kd tsn vg vd vp vb A n cp l :=
  ⟨h.b0.below k h.b0.lt, h.b1.below k h.b1.lt, (Fr.of_below k).own h.own (fun g hg hi => by have := (h.own.lt g hg).2; omega), h.len, h.below.trans (k.mono h.below.size), h.b2.below k h.b2.lt⟩
/-- Behind the append and its store. -/
theorem SkS.more {s : Skp} {n' : Nat} (h : SkS w V g0 g1 g2 cs kd tsn vg vd vp vb A n cp l) (ho : V'.ownsRow w.heap.size 120 3 (.slice A' n' cp') n' (skC l ++ [.int .u16 (s.1 : Int), .bool s.2.1, .int .u32 (s.2.2 : Int)])) (hn : n' = n + 1) (hg : V.grownBy V' (Value.slice A n cp).ownBlock) (ne : g0 ≠ g1) (ne2 : g2 ≠ g1) (lo : w.heap.size ≤ g1) :
    SkS w (V'.setCell ⟨g1, 16, none⟩ (.slice A' n' cp')) g0 g1 g2 cs kd tsn vg vd vp vb A' n' cp' (l ++ [s]) := by
  have f0 := Blk.grown h.b0 hg (own_blk_ne h.own h.b0 (by decide)).symm
  have f1 := Blk.grown h.b1 hg (own_blk_ne h.own h.b1 (by decide)).symm
  have f2 := Blk.grown h.b2 hg (own_blk_ne h.own h.b2 (by decide)).symm
  have hb := h.below.grown hg h.below.size (fun g hg => (h.own.lt g hg).1)
  refine ⟨Blk.far f0 (p := ⟨g1, 16, none⟩) ne _, Blk.set_ f1 16 _, ?_, by rw [List.length_append, ← h.len]; exact hn, hb.setCell (p := ⟨g1, 16, none⟩) lo _, Blk.far f2 (p := ⟨g1, 16, none⟩) ne2 _⟩
  rw [skC_snoc]
  exact ((Fr.refl (fun k => k = g1) V').setCell (p := ⟨g1, 16, none⟩) (.inl rfl) _).own ho (fun g hg e => own_blk_ne ho f1 (by decide) (by rw [hg, e]))
end
end Go.Proofs.Ytkjlmibjpfmfnaa.Chk
