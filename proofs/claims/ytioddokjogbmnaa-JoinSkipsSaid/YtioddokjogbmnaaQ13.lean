/-
  Of the texts Jp22, Jp26, Jp27, Jp28, Jp23: what the laws reach.
-/
import Derived.Test.YtioddokjogbmnaaQ12

set_option linter.unusedVariables false
set_option linter.unusedSimpArgs false
set_option maxRecDepth 20000
namespace Go.Proofs.Ytioddokjogbmnaa.Chk
open Go.ChangeShapes Go.WideShapes Go.ChangeAt Go.RowKit Go.Deep Go.Maps Go.Proofs.Ytioddokjogbmnaa.Words Go.Proofs.Ytioddokjogbmnaa.Oct Go.Proofs.Ytioddokjogbmnaa.Par Go.Proofs.Ytioddokjogbmnaa.Mx
structure PcOk (inter : Bool) (q : Jo.Pc) : Prop where
  ne : q.body ≠ []
  st : q.st < 65536
  mid : MidOk inter q.mid
  idx : idxP inter q < 4294967296
  bg : inter = true → q.bg = decide (q.fr = 0)
  fr : inter = true → q.fr ≤ 65535
structure JRp (w : World) (T : Nat → Nat) (p bl bo : Nat) (inter : Bool) (rv : Value) (F : Gk → Option Nat) (Om : Nat → Option Nat) (Wb : Nat → Nat) (xs : List Mg) (s : Jo.JS) : Prop where
  jo : JO w T p inter bl bo rv (Jo.held s) xs Om Wb s.next s.wait
  ln : LinesR w T bl inter F s.pcs
  rd : s.ready = xs.map (fun x => msOf x.m)
  small : Jo.held s ≤ 2000000000
  pok : ∀ q ∈ s.pcs, PcOk inter q
def JRep (w : World) (G : Nat → Prop) (p : Nat) (inter : Bool) (s : Jo.JS) : Prop :=
  ∃ T bl bo rv F Om Wb xs, (∀ i, G i ↔ T i ≠ 0) ∧ JRp w T p bl bo inter rv F Om Wb xs s
section
variable {w w' : World} {T T' : Nat → Nat} {p bl bo h h' : Nat} {inter : Bool} {rv : Value} {F : Gk → Option Nat} {xs : List Mg} {Om : Nat → Option Nat} {Wb next : Nat → Nat} {wait wait' : List Jo.Ms} {S G : Nat → Prop} {s : Jo.JS}
theorem JRep.fr (k : JRep w G p inter s) (hf : Fr S w w') (hS : ∀ i, S i → i < w.heap.size → ¬ G i) : JRep w' G p inter s := by
  obtain ⟨T, bl, bo, rv, F, Om, Wb, xs, hG, k⟩ := k
  have hn : ∀ i, i < w.heap.size → T i ≠ 0 → ¬ S i := fun i hi e hs => hS i hs hi ((hG i).2 e)
  refine ⟨T, bl, bo, rv, F, Om, Wb, xs, hG, k.jo.fr hf (fun i hi e => hn i hi (by rcases e with e | e | e | e <;> (rw [e]; decide))) (Ext.same k.jo.out hf.size), k.ln.fr hf (fun i hi e => hn i hi (by rw [e]; decide)) (fun i hi e => hn i hi (by rw [e]; decide)) (fun _ _ => rfl), k.rd, k.small, k.pok⟩
theorem JRep.lt (k : JRep w G p inter s) (i : Nat) (hi : G i) : i < w.heap.size := by
  obtain ⟨T, bl, bo, rv, F, Om, Wb, xs, hG, k⟩ := k
  rcases Nat.lt_or_ge i w.heap.size with h | h
  · exact h
  · exact absurd (k.jo.out i h) ((hG i).1 hi)
/-- A held number of its own, and lines that turned. -/
theorem JO.reheld (k : JO w T p inter bl bo rv h xs Om Wb next wait) (hf : Fr (fun i => i < w.heap.size ∧ (T i = 2 ∨ i = p)) w w') (hj : JB w' p inter bl bo rv h') : JO w' T p inter bl bo rv h' xs Om Wb next wait := by
  have hn : ∀ i, i < w.heap.size → (T i = 3 ∨ T i = 4 ∨ T i = 5) → ¬ (i < w.heap.size ∧ (T i = 2 ∨ i = p)) := fun i hi e hx => by
    rcases hx.2 with h2 | h2
    · rw [h2] at e; rcases e with e | e | e <;> cases e
    · rw [h2, k.tp] at e; rcases e with e | e | e <;> cases e
  exact ⟨hj, k.tp, k.ord.fr hf (fun i hi e => hn i hi (.inl e)) (fun i hi e => hn i hi (.inr (.inr e))) (fun _ _ => rfl), k.rdy.fr hf (fun i hi e => hn i hi (.inr (.inl e))) (fun _ _ => rfl), fun x hx => (k.rok x hx).fr hf (fun i hi e => hn i hi (.inr (.inr e))) (fun _ _ => rfl), fun i hi => k.out i (by have := hf.size; omega)⟩
theorem JO.xlen (k : JO w T p inter bl bo rv h xs Om Wb next wait) : xs.length ≤ Jo.sizeM (xs.map fun x => msOf x.m) := by
  have : ∀ l : List Mg, (∀ x ∈ l, x.m.body ≠ []) → l.length ≤ Jo.sizeM (l.map fun x => msOf x.m) := fun l => by
    induction l with
    | nil => intro _; simp
    | cons a t ih =>
      intro hl
      have h1 := ih (fun x hx => hl x (List.mem_cons_of_mem _ hx))
      have h2 := hl a List.mem_cons_self
      have h3 : 0 < (msOf a.m).body.length := List.length_pos_iff.2 h2
      have ec : Jo.sizeM ((a :: t).map fun x => msOf x.m) = (msOf a.m).body.length + Jo.sizeM (t.map fun x => msOf x.m) := by simp [Jo.sizeM]
      rw [ec, List.length_cons]; omega
  exact this xs (fun x hx => (k.rok x hx).ne)
theorem JO.wlen (k : JO w T p inter bl bo rv h xs Om Wb next wait) : wait.length ≤ Jo.sizeM wait := by
  have hne : ∀ m ∈ wait, m.body ≠ [] := fun m hm => by
    cases ho : Om m.st with
    | none => exact absurd rfl ((k.ord.none_ m.st ho).2 m hm)
    | some b =>
      obtain ⟨W, h1, h2, h3⟩ := (k.ord.ord m.st b ho).ws
      obtain ⟨x, hx, e⟩ := h3 m hm rfl
      have := (h2 _ x hx).2.2.2.ne
      rw [← e]; exact this
  have : ∀ l : List Jo.Ms, (∀ x ∈ l, x.body ≠ []) → l.length ≤ Jo.sizeM l := fun l => by
    induction l with
    | nil => intro _; simp
    | cons a t ih =>
      intro hl
      have h1 := ih (fun x hx => hl x (List.mem_cons_of_mem _ hx))
      have h3 : 0 < a.body.length := List.length_pos_iff.2 (hl a List.mem_cons_self)
      have ec : Jo.sizeM (a :: t) = a.body.length + Jo.sizeM t := by simp [Jo.sizeM]
      rw [ec, List.length_cons]; omega
  exact this wait hne
theorem JRp.few (k : JRp w T p bl bo inter rv F Om Wb xs s) : xs.length + s.wait.length ≤ 2000000000 := by
  have h1 := k.jo.xlen
  have h2 := k.jo.wlen
  have h3 := k.small
  rw [← k.rd] at h1
  unfold Jo.held at h3
  omega
theorem AdvR.goes {st nx nx' : Nat} {xs' : List Mg} (k : AdvR inter st nx xs xs' wait wait' nx') (hw : waitB wait' st nx' = false) : Jo.Goes inter st wait wait' (xs.map fun x => msOf x.m) (xs'.map fun x => msOf x.m) nx nx' := by
  obtain ⟨ms, h1, h2, h3, h4⟩ := k.ex
  refine ⟨ms.map fun x => msOf x.m, by rw [h1, List.map_append], h2, fun i m hm => ?_, by rw [List.length_map]; exact h4, fun m hm e => ?_⟩
  · rw [List.getElem?_map] at hm
    cases hi : ms[i]? with
    | none => rw [hi] at hm; cases hm
    | some x => rw [hi] at hm; injection hm with hm; rw [← hm]; exact h3 i x hi
  · have := waitB_iff.2 ⟨m, hm, e.1, e.2⟩
    rw [hw] at this; cases this
theorem sizeM_perm {a b : List Jo.Ms} (h : a.Perm b) : Jo.sizeM a = Jo.sizeM b := by unfold Jo.sizeM; exact (h.map _).sum_nat
theorem AdvR.size {st nx nx' : Nat} {xs' : List Mg} (k : AdvR inter st nx xs xs' wait wait' nx') : Jo.sizeM wait' + Jo.sizeM (xs'.map fun x => msOf x.m) = Jo.sizeM wait + Jo.sizeM (xs.map fun x => msOf x.m) := by
  obtain ⟨ms, h1, h2, _⟩ := k.ex
  rw [sizeM_perm h2, h1, List.map_append, Jo.sizeM_append, Jo.sizeM_append]
  omega
theorem held_any (k : JRep w G p inter s) : Calls Try.prog 17 #[jptr p] w fun e w' => e = .returned (.int .i64 (Jo.held s : Int)) ∧ Below w.heap.size w w' := by
  obtain ⟨T, bl, bo, rv, F, Om, Wb, xs, hG, k⟩ := k
  have c4 := k.jo.jb.c4
  obtain ⟨n, hn⟩ : ∃ n, n = Jo.held s := ⟨_, rfl⟩
  rw [← hn] at c4 ⊢
  clear k hn hG
  go_enter Try.func17, Try.ntmps17
  go_wp2
  go_ret
  exact ⟨rfl, Below.refl _ _⟩
theorem joiner_built (inter : Bool) (g g2 : Nat) : Try.prog.built 76 [(0, .bool inter), (1, .map (some g)), (2, .map (some g2))] = some #[.bool inter, .map (some g), .map (some g2), .slice none 0 0, .int .i64 0] := by kernel_rfl
def newT (n i : Nat) : Nat := if i = n then 2 else if i = n + 1 then 3 else if i = n + 2 then 1 else 0
set_option maxHeartbeats 1000000 in
theorem new_any (w : World) (inter : Bool) : Calls Try.prog 14 #[.bool inter] w fun e w' => ∃ G p, e = .returned (jptr p) ∧ JRep w' G p inter js0 ∧ (∀ i, G i → w.heap.size ≤ i) ∧ Hid (Below w.heap.size w w') := by
  have hmm := @run_makeMap Try.prog
  go_enter Try.func14, Try.ntmps14
  go_wp2_with (refine wpList_build_as rfl 76 _ rfl _ (joiner_built _ _ _) ?_)
  go_ret
  obtain ⟨W, hW⟩ : ∃ W, W = ((w.alloc (.map #[] 0)).alloc (.map #[] 0)) := ⟨_, rfl⟩
  have hs : W.heap.size = w.heap.size + 2 := by rw [hW]; simp
  have hb := Blk.new W 76 #[.bool inter, .map (some w.heap.size), .map (some (w.heap.size + 1)), .slice none 0 0, .int .i64 0]
  rw [hs] at hb
  have hl : MapX grpX (W.alloc (.cells #[.bool inter, .map (some w.heap.size), .map (some (w.heap.size + 1)), .slice none 0 0, .int .i64 0] 76)) w.heap.size (fun _ => none) := by
    rw [hW]
    exact ((MapX.new grpX w).fr ((Fr.refl (fun _ => False) _).alloc _) (fun h => h)).fr ((Fr.refl (fun _ => False) _).alloc _) (fun h => h)
  have ho : MapX u16X (W.alloc (.cells #[.bool inter, .map (some w.heap.size), .map (some (w.heap.size + 1)), .slice none 0 0, .int .i64 0] 76)) (w.heap.size + 1) (fun _ => none) := by
    rw [hW]
    have h1 := MapX.new u16X (w.alloc (.map #[] 0))
    rw [World.size_alloc] at h1
    exact h1.fr ((Fr.refl (fun _ => False) _).alloc _) (fun h => h)
  have hBel : Below w.heap.size w (W.alloc (.cells #[.bool inter, .map (some w.heap.size), .map (some (w.heap.size + 1)), .slice none 0 0, .int .i64 0] 76)) := by
    rw [hW]
    exact (below_two w _ _).alloc (by simp; omega) _
  have hm0 : 0 < Jo.modN inter := modN_pos
  refine ⟨fun i => newT w.heap.size i ≠ 0, w.heap.size + 2, ?_, ⟨newT w.heap.size, w.heap.size, w.heap.size + 1, .slice none 0 0, fun _ => none, fun _ => none, fun _ => 0, [], fun i => Iff.rfl, ?_⟩, fun i hi => ?_, ?_⟩
  · rfl
  · rw [← hW]
    have t2 : newT w.heap.size w.heap.size = 2 := if_pos rfl
    have t3 : newT w.heap.size (w.heap.size + 1) = 3 := by unfold newT; rw [if_neg (by omega), if_pos rfl]
    have t1 : newT w.heap.size (w.heap.size + 2) = 1 := by unfold newT; rw [if_neg (by omega), if_neg (by omega), if_pos rfl]
    refine ⟨⟨hb, t1, ⟨t3, ho, fun st b h => (by cases h), fun st _ => ⟨rfl, fun m hm => by simp [js0] at hm⟩, fun s s' b h => (by cases h), fun s s' b b' h => (by cases h), fun m hm => by simp [js0] at hm, fun st => hm0, List.Pairwise.nil⟩, .inl ⟨rfl, rfl⟩, fun x hx => by simp at hx, fun i hi => ?_⟩, ⟨t2, hl, ⟨fun g b h => (by cases h), fun q hq => by simp [js0] at hq, fun g g' b h => (by cases h)⟩⟩, rfl, by simp [js0, Jo.held, Jo.sizeP, Jo.sizeM], fun q hq => by simp [js0] at hq⟩
    rw [World.size_alloc, hs] at hi
    unfold newT
    rw [if_neg (by omega), if_neg (by omega), if_neg (by omega)]
  · have hi' : newT w.heap.size i ≠ 0 := hi
    unfold newT at hi'
    rcases Nat.lt_or_ge i w.heap.size with h | h
    · rw [if_neg (by omega), if_neg (by omega), if_neg (by omega)] at hi'
      exact absurd rfl hi'
    · exact h
  · rw [← hW]; exact hBel
end
end Go.Proofs.Ytioddokjogbmnaa.Chk

set_option linter.unusedVariables false
set_option linter.unusedSimpArgs false
set_option maxRecDepth 20000
namespace Go.Proofs.Ytioddokjogbmnaa.Chk
open Go.ChangeShapes Go.WideShapes Go.ChangeAt Go.RowKit Go.Deep Go.Maps Go.Proofs.Ytioddokjogbmnaa.Words Go.Proofs.Ytioddokjogbmnaa.Oct Go.Proofs.Ytioddokjogbmnaa.Par Go.Proofs.Ytioddokjogbmnaa.Mx
section
variable {inter : Bool} {g : Gk} {L : Nat → Option Fg} {c : Jo.Pc} {pcs Lw : List Jo.Pc}
theorem fol_of {i : Nat} {x y : Fg} (h1 : L i = some x) (h2 : L ((i + 1) % 4294967296) = some y) (h3 : x.en = false) (h4 : y.bg = false) (h5 : togB x.m y.m = true) : folB L i = true := by
  unfold folB
  rw [h1, h2]
  simp [h3, h4, h5]
theorem same_key {p q : Jo.Pc} (h : Jo.same inter p q) : keyP inter q = keyP inter p := by
  unfold keyP keyC
  obtain ⟨h1, h2, h3⟩ := h
  cases inter
  · rfl
  · rw [if_pos rfl, if_pos rfl]
    rcases h3 with h3 | ⟨h3, _⟩
    · rw [h1, h2, h3]
    · cases h3
theorem same_tog {p q : Jo.Pc} (h : Jo.same inter p q) : togB (pcM p) (pcM q) = true := by
  obtain ⟨h1, h2, h3⟩ := h
  unfold togB pcM
  simp only [Bool.and_eq_true, decide_eq_true_eq, Bool.or_eq_true]
  refine ⟨h1, h2, ?_⟩
  rcases h3 with h3 | ⟨_, h3⟩
  · exact .inr h3
  · exact .inl h3
theorem whole_steps {k : Nat} (hW : Jo.Whole inter Lw) (hok : ∀ p ∈ Lw, PcOk inter p) (hk : k < Lw.length) (hL : LnOf (idxP inter) L (atK inter (keyP inter Lw[k]) (c :: pcs))) (hsub : ∀ p ∈ Lw, p ∈ c :: pcs) :
    (∀ j (h : j + 1 < Lw.length), idxP inter Lw[j + 1] = (idxP inter Lw[j] + 1) % 4294967296) ∧ (∀ j (h : j < Lw.length), ∃ x, L (idxP inter Lw[j]) = some x ∧ Fits x Lw[j]) := by
  have hlat : ∀ j (h : j + 1 < Lw.length), _ := fun j h => hW.later j Lw[j] Lw[j + 1] (List.getElem?_eq_getElem _) (List.getElem?_eq_getElem _)
  refine ⟨fun j h => ?_, ?_⟩
  · obtain ⟨_, _, h3, h4, _⟩ := hlat j h
    unfold idxP
    cases inter
    · simp only [Bool.false_eq_true, if_false]
      exact h4 rfl
    · simp only [if_true]
      rw [h3 rfl]
      have h5 := (hok _ (List.getElem_mem (show j < Lw.length by omega))).fr rfl
      omega
  · have hkey0 : ∀ j (h : j < Lw.length), keyP inter Lw[j] = keyP inter Lw[0] := by
      intro j
      induction j with
      | zero => intro _; rfl
      | succ j ih =>
        intro h
        rw [← ih (by omega)]
        exact same_key (hlat j h).2.2.2.2
    intro j h
    have hm : Lw[j] ∈ atK inter (keyP inter Lw[k]) (c :: pcs) := List.mem_filter.2 ⟨hsub _ (List.getElem_mem h), by rw [hkey0 j h, hkey0 k hk]; simp⟩
    exact hL.has _ hm
/-- Where none is found, none is whole. -/
theorem whole_none (hok : ∀ p ∈ c :: pcs, PcOk inter p) (hL : LnOf (idxP inter) L (atK inter (keyP inter c) (c :: pcs))) (hz : (atK inter (keyP inter c) (c :: pcs)).length ≤ 2000000000) (hno : ∀ a cc, a ≤ 2000000000 → ¬ Chain L (idxP inter c) a cc)
    (hW : Jo.Whole inter Lw) (hsub : ∀ p ∈ Lw, p ∈ c :: pcs) (hc : c ∈ Lw) : False := by
  obtain ⟨k, hk, hkc⟩ := List.mem_iff_getElem.1 hc
  subst hkc
  obtain ⟨s1, s2⟩ := whole_steps hW (fun p hp => hok p (hsub p hp)) hk hL hsub
  obtain ⟨i, hi⟩ : ∃ i, i = idxP inter Lw[k] := ⟨_, rfl⟩
  have hi32 : i < 4294967296 := by rw [hi]; exact (hok _ (hsub _ (List.getElem_mem hk))).idx
  rw [← hi] at hno
  have hup : ∀ q (h : k + q < Lw.length), idxP inter Lw[k + q] = up i q := by
    intro q
    induction q with
    | zero => intro _; show idxP inter Lw[k] = up i 0; unfold up; rw [← hi]; omega
    | succ q ih =>
      intro h
      rw [← up_up, ← ih (by omega)]
      exact s1 (k + q) h
  have hdn : ∀ q (h : q ≤ k), q ≤ 4294967295 → idxP inter (Lw[k - q]'(by omega)) = dn i q := by
    intro q
    induction q with
    | zero => intro _ _; unfold dn; rw [show idxP inter (Lw[k - 0]'(by omega)) = i from hi.symm]; omega
    | succ q ih =>
      intro h hq
      have h1 := s1 (k - (q + 1)) (by omega)
      have h2 := ih (by omega) (by omega)
      have e : k - (q + 1) + 1 = k - q := by omega
      have h3 : idxP inter (Lw[k - q]'(by omega)) = (idxP inter (Lw[k - (q + 1)]'(by omega)) + 1) % 4294967296 := by
        rw [← h1]; congr 2; exact e.symm
      have h4 := (hok _ (hsub _ (List.getElem_mem (show k - (q + 1) < Lw.length by omega)))).idx
      rw [h2] at h3
      unfold dn at h3 ⊢
      omega
  have hfol : ∀ j (h : j + 1 < Lw.length), folB L (idxP inter Lw[j]) = true := fun j h => by
    obtain ⟨x, x1, x2⟩ := s2 j (by omega)
    obtain ⟨y, y1, y2⟩ := s2 (j + 1) h
    obtain ⟨l1, l2, _, _, l5⟩ := hW.later j Lw[j] Lw[j + 1] (List.getElem?_eq_getElem _) (List.getElem?_eq_getElem _)
    rw [s1 j h] at y1
    exact fol_of x1 y1 (by rw [x2.en]; exact l1) (by rw [y2.bg]; exact l2) (by rw [x2.m, y2.m]; exact same_tog l5)
  have hgoes : ∀ a, a ≤ k → a ≤ 4294967295 → Goes2 L i a (Lw.length - 1 - k) := fun a ha ha2 => ⟨fun q hq => by
    have h1 := hfol (k - (q + 1)) (by omega)
    rw [hdn (q + 1) (by omega) (by omega)] at h1
    exact h1, fun q hq => by
    have h1 := hfol (k + q) (by omega)
    rw [hup q (by omega)] at h1
    exact h1⟩
  have hfew := hL.few hz
  have hk2 : k ≤ 2000000000 := by
    rcases Nat.lt_or_ge k 4294967295 with h | h
    · exact (hgoes k (Nat.le_refl _) (by omega)).few_dn hfew (by omega)
    · have := (hgoes 4294967295 h (Nat.le_refl _)).few_dn hfew (Nat.le_refl _)
      omega
  refine hno k (Lw.length - 1 - k) hk2 ⟨?_, ?_, hgoes k (Nat.le_refl _) (by omega)⟩
  · obtain ⟨x, x1, x2⟩ := s2 0 (by omega)
    have h1 := hdn k (Nat.le_refl _) (by omega)
    have h2 : idxP inter (Lw[0]'(by omega)) = dn i k := by rw [← h1]; congr 2; omega
    unfold bgB
    rw [← h2, x1]
    show x.bg = true
    rw [x2.bg]
    exact hW.first _ (List.getElem?_eq_getElem _)
  · obtain ⟨x, x1, x2⟩ := s2 (Lw.length - 1) (by omega)
    have h1 := hup (Lw.length - 1 - k) (by omega)
    have h2 : idxP inter (Lw[Lw.length - 1]'(by omega)) = up i (Lw.length - 1 - k) := by rw [← h1]; congr 2; omega
    unfold enB
    rw [← h2, x1]
    show x.en = true
    rw [x2.en]
    exact hW.last _ (List.getElem?_eq_getElem _)
end
end Go.Proofs.Ytioddokjogbmnaa.Chk

set_option linter.unusedVariables false
set_option linter.unusedSimpArgs false
set_option maxRecDepth 20000
namespace Go.Proofs.Ytioddokjogbmnaa.Chk
open Go.ChangeShapes Go.WideShapes Go.ChangeAt Go.RowKit Go.Deep Go.Maps Go.Proofs.Ytioddokjogbmnaa.Words Go.Proofs.Ytioddokjogbmnaa.Oct Go.Proofs.Ytioddokjogbmnaa.Par Go.Proofs.Ytioddokjogbmnaa.Mx
section
variable {inter : Bool} {g : Gk} {L : Nat → Option Fg} {c : Jo.Pc} {pcs Lw : List Jo.Pc}
theorem list_of {α : Type} {P : Nat → α → Prop} : ∀ n, (∀ j, j < n → ∃ z, P j z) → ∃ l : List α, l.length = n ∧ ∀ j z, l[j]? = some z → P j z
  | 0, _ => ⟨[], rfl, fun j z h => by simp at h⟩
  | n + 1, h => by
    obtain ⟨l, h1, h2⟩ := list_of n (fun j hj => h j (by omega))
    obtain ⟨z, hz⟩ := h n (by omega)
    refine ⟨l ++ [z], by simp [h1], fun j y hy => ?_⟩
    rcases Nat.lt_or_ge j n with hj | hj
    · rw [List.getElem?_append_left (by omega)] at hy
      exact h2 j y hy
    · have hj2 : j = n := by
        have := (List.getElem?_eq_some_iff.1 hy).1
        simp [h1] at this
        omega
      subst hj2
      rw [List.getElem?_append_right (by omega), h1, Nat.sub_self] at hy
      simp only [List.getElem?_cons_zero, Option.some.injEq] at hy
      subst hy
      exact hz
def inCut (f n i : Nat) : Bool := decide ((i + 4294967296 - f) % 4294967296 < n + 1)
/-- The pieces of a message that is whole, with what the line has of them. -/
structure CutL (inter : Bool) (L : Nat → Option Fg) (ps : List Jo.Pc) (f n : Nat) (zs : List (Fg × Jo.Pc)) : Prop where
  len : zs.length = n + 1
  at_ : ∀ j z, zs[j]? = some z → L (up f j) = some z.1 ∧ z.2 ∈ ps ∧ idxP inter z.2 = up f j ∧ Fits z.1 z.2
theorem chain_cut {a cc i : Nat} (hi : i < 4294967296) (hLi : ∃ x, L i = some x) {ps : List Jo.Pc} (hL : LnOf (idxP inter) L ps) (hz : ps.length ≤ 2000000000) (ha : a ≤ 2000000000) (hc : cc ≤ 2000000000) (h : Chain L i a cc) :
    a + cc ≤ 2000000000 ∧ ∃ zs, CutL inter L ps (dn i a) (a + cc) zs ∧ ∀ j, j < a + cc → folB L (up (dn i a) j) = true := by
  have hfol : ∀ j, j < a + cc → folB L (up (dn i a) j) = true := fun j hj => by
    rcases Nat.lt_or_ge j a with h1 | h1
    · have := h.go.gd (a - (j + 1)) (by omega)
      have e : up (dn i a) j = dn i (a - (j + 1) + 1) := by unfold up dn; omega
      rw [e]; exact this
    · have := h.go.gu (j - a) (by omega)
      have e : up (dn i a) j = up i (j - a) := by unfold up dn; omega
      rw [e]; exact this
  have hsome : ∀ j, j < a + cc + 1 → ∃ x, L (up (dn i a) j) = some x := fun j hj => by
    rcases Nat.lt_or_ge j (a + cc) with h1 | h1
    · obtain ⟨x, y, h2, _⟩ := folB_some (hfol j h1)
      exact ⟨x, h2⟩
    · rcases Nat.eq_zero_or_pos (a + cc) with h2 | h2
      · have e : up (dn i a) j = i := by unfold up dn; omega
        rw [e]; exact hLi
      · obtain ⟨x, y, _, h3, _⟩ := folB_some (hfol (a + cc - 1) (by omega))
        rw [up_up] at h3
        exact ⟨y, by rw [show j = a + cc - 1 + 1 by omega]; exact h3⟩
  obtain ⟨zs, z1, z2⟩ := list_of (α := Fg × Jo.Pc) (P := fun j z => L (up (dn i a) j) = some z.1 ∧ z.2 ∈ ps ∧ idxP inter z.2 = up (dn i a) j ∧ Fits z.1 z.2) (a + cc + 1) (fun j hj => by
    obtain ⟨x, hx⟩ := hsome j hj
    obtain ⟨p, p1, p2, p3⟩ := hL.at_ hx
    exact ⟨(x, p), hx, p1, p2, p3⟩)
  refine ⟨?_, zs, ⟨z1, z2⟩, hfol⟩
  have h1 := nodup_sub_len ((List.range (a + cc + 1)).map fun j => up (dn i a) j) (ps.map (idxP inter)) (range_map_nodup (fun x y hx hy e => by unfold up dn at e; omega)) (fun v hv => by
    obtain ⟨j, hj, rfl⟩ := List.mem_map.1 hv
    obtain ⟨x, hx⟩ := hsome j (List.mem_range.1 hj)
    obtain ⟨p, p1, p2, _⟩ := hL.at_ hx
    exact List.mem_map.2 ⟨p, p1, p2⟩)
  simp at h1
  omega
theorem tog_same {p q : Jo.Pc} (hk : keyP inter p = keyP inter q) (h : togB (pcM p) (pcM q) = true) : Jo.same inter p q := by
  unfold togB pcM at h
  simp only [Bool.and_eq_true, decide_eq_true_eq, Bool.or_eq_true] at h
  refine ⟨h.1, h.2.1, ?_⟩
  cases inter
  · rcases h.2.2 with h3 | h3
    · exact .inr ⟨rfl, h3⟩
    · exact .inl h3
  · unfold keyP keyC at hk
    rw [if_pos rfl, if_pos rfl] at hk
    injection hk with _ _ h3
    exact .inl h3
theorem CutL.whole {a cc i : Nat} (hi : i < 4294967296) {zs : List (Fg × Jo.Pc)} (hn : a + cc ≤ 2000000000) (k : CutL inter L (atK inter g pcs) (dn i a) (a + cc) zs) (h : Chain L i a cc) (hfol : ∀ j, j < a + cc → folB L (up (dn i a) j) = true) (hok : ∀ p ∈ pcs, PcOk inter p) :
    Jo.Whole inter (zs.map (·.2)) := by
  have hget : ∀ j p, (zs.map (·.2))[j]? = some p → ∃ x, L (up (dn i a) j) = some x ∧ p ∈ atK inter g pcs ∧ idxP inter p = up (dn i a) j ∧ Fits x p := fun j p hp => by
    rw [List.getElem?_map] at hp
    cases hz : zs[j]? with
    | none => rw [hz] at hp; cases hp
    | some z =>
      rw [hz] at hp
      injection hp with hp
      subst hp
      obtain ⟨h1, h2, h3, h4⟩ := k.at_ j z hz
      exact ⟨z.1, h1, h2, h3, h4⟩
  have hlen : (zs.map (·.2)).length = a + cc + 1 := by rw [List.length_map]; exact k.len
  refine ⟨by omega, fun p hp => ?_, fun j p q hp hq => ?_, fun p hp => ?_⟩
  · obtain ⟨x, x1, _, _, x4⟩ := hget 0 p hp
    have h1 := h.bg
    have e : up (dn i a) 0 = dn i a := by unfold up dn; omega
    rw [e] at x1
    unfold bgB at h1
    rw [x1] at h1
    rw [← x4.bg]; exact h1
  · obtain ⟨x, x1, x2, x3, x4⟩ := hget j p hp
    obtain ⟨y, y1, y2, y3, y4⟩ := hget (j + 1) q hq
    have hj : j < a + cc := by
      have := (List.getElem?_eq_some_iff.1 hq).1
      omega
    obtain ⟨x', y', f1, f2, f3, f4, f5⟩ := folB_some (hfol j hj)
    rw [up_up] at f2
    rw [x1] at f1
    rw [y1] at f2
    injection f1 with f1
    injection f2 with f2
    subst f1 f2
    have hkp : keyP inter p = g := by simpa using (List.mem_filter.1 x2).2
    have hkq : keyP inter q = g := by simpa using (List.mem_filter.1 y2).2
    have hidx : idxP inter q = (idxP inter p + 1) % 4294967296 := by rw [x3, y3]; exact (up_up j).symm
    refine ⟨by rw [← x4.en]; exact f3, by rw [← y4.bg]; exact f4, fun hI => ?_, fun hI => ?_, tog_same (hkp.trans hkq.symm) (by rw [← x4.m, ← y4.m]; exact f5)⟩
    · have h5 := (hok p (List.mem_filter.1 x2).1).fr hI
      unfold idxP at hidx
      rw [if_pos hI, if_pos hI] at hidx
      omega
    · unfold idxP at hidx
      subst hI
      exact hidx
  · rw [hlen] at hp
    obtain ⟨x, x1, _, _, x4⟩ := hget (a + cc + 1 - 1) p hp
    have h1 := h.en
    have e : up (dn i a) (a + cc + 1 - 1) = up i cc := by unfold up dn; omega
    rw [e] at x1
    unfold enB at h1
    rw [x1] at h1
    rw [← x4.en]; exact h1
/-- What is left. -/
def restP (inter : Bool) (g : Gk) (f n : Nat) (ps : List Jo.Pc) : List Jo.Pc := ps.filter fun q => !(decide (keyP inter q = g) && inCut f n (idxP inter q))
theorem CutL.perm {f n : Nat} {zs : List (Fg × Jo.Pc)} (hf : f < 4294967296) (hn : n ≤ 2000000000) (k : CutL inter L (atK inter g pcs) f n zs) (hL : LnOf (idxP inter) L (atK inter g pcs)) (hok : ∀ p ∈ pcs, PcOk inter p) :
    pcs.Perm (zs.map (·.2) ++ restP inter g f n pcs) := by
  have hsp : (pcs.filter (fun q => decide (keyP inter q = g) && inCut f n (idxP inter q)) ++ restP inter g f n pcs).Perm pcs := List.filter_append_perm _ _
  refine hsp.symm.trans (List.Perm.append_right _ ?_)
  have e1 : pcs.filter (fun q => decide (keyP inter q = g) && inCut f n (idxP inter q)) = (atK inter g pcs).filter fun q => inCut f n (idxP inter q) := by
    unfold atK
    rw [List.filter_filter]
    exact List.filter_congr fun q _ => by rw [Bool.and_comm]
  have n1 : (pcs.filter (fun q => decide (keyP inter q = g) && inCut f n (idxP inter q))).Nodup := by
    rw [e1]
    exact (hL.nd.imp (fun {a b} h e => h (by rw [e]))).filter _
  have hz : ∀ j (hj : j < (zs.map (·.2)).length), idxP inter (zs.map (·.2))[j] = up f j ∧ (zs.map (·.2))[j] ∈ atK inter g pcs := fun j hj => by
    have hj' : j < zs.length := by simpa using hj
    obtain ⟨_, h2, h3, _⟩ := k.at_ j zs[j] (List.getElem?_eq_getElem hj')
    rw [List.getElem_map]
    exact ⟨h3, h2⟩
  have hlen : (zs.map (·.2)).length = n + 1 := by rw [List.length_map]; exact k.len
  have n2 : (zs.map (·.2)).Nodup := by
    rw [List.nodup_iff_pairwise_ne, List.pairwise_iff_getElem]
    intro x y hx hy hxy e
    have h1 := (hz x hx).1
    rw [e, (hz y hy).1] at h1
    unfold up at h1
    omega
  refine (List.perm_ext_iff_of_nodup n1 n2).2 (fun q => ?_)
  rw [e1, List.mem_filter]
  constructor
  · rintro ⟨h1, h2⟩
    have h3 : (idxP inter q + 4294967296 - f) % 4294967296 < n + 1 := by simpa [inCut] using h2
    have h4 := (hok q (List.mem_filter.1 h1).1).idx
    have hj : (idxP inter q + 4294967296 - f) % 4294967296 < (zs.map (·.2)).length := by omega
    have h5 := hz _ hj
    have e : idxP inter q = idxP inter (zs.map (·.2))[(idxP inter q + 4294967296 - f) % 4294967296] := by
      rw [h5.1]; unfold up; omega
    rw [pw_inj hL.nd h1 h5.2 e]
    exact List.getElem_mem hj
  · intro h1
    obtain ⟨j, hj, rfl⟩ := List.mem_iff_getElem.1 h1
    refine ⟨(hz j hj).2, ?_⟩
    rw [(hz j hj).1]
    unfold inCut up
    simp only [decide_eq_true_eq]
    omega
theorem cut_ln {f n : Nat} (hf : f < 4294967296) (hn : n ≤ 2000000000) (hL : LnOf (idxP inter) L (atK inter g pcs)) (hok : ∀ p ∈ pcs, PcOk inter p) : LnOf (idxP inter) (cutL L f (n + 1)) (atK inter g (restP inter g f n pcs)) := by
  have e1 : atK inter g (restP inter g f n pcs) = (atK inter g pcs).filter fun q => !inCut f n (idxP inter q) := by
    unfold atK restP
    rw [List.filter_filter, List.filter_filter]
    refine List.filter_congr fun q _ => ?_
    by_cases e : keyP inter q = g <;> simp [e]
  rw [e1]
  refine ⟨fun p hp => ?_, fun i x hx => ?_, hL.nd.filter _⟩
  · obtain ⟨h1, h2⟩ := List.mem_filter.1 hp
    obtain ⟨x, h3, h4⟩ := hL.has p h1
    refine ⟨x, ?_, h4⟩
    unfold cutL
    rw [if_neg]
    · exact h3
    · simp [inCut] at h2; omega
  · have hx' := hx
    unfold cutL at hx
    split at hx
    · cases hx
    · rename_i hno
      obtain ⟨p, hp, e⟩ := hL.of i x hx
      refine ⟨p, List.mem_filter.2 ⟨hp, ?_⟩, e⟩
      have := (hok p (List.mem_filter.1 hp).1).idx
      rw [e] at this
      rw [e]
      simp [inCut]
      omega
theorem cut_other {g' : Gk} {f n : Nat} (hne : g' ≠ g) : atK inter g' (restP inter g f n pcs) = atK inter g' pcs := by
  unfold atK restP
  rw [List.filter_filter]
  refine List.filter_congr fun q _ => ?_
  by_cases e : keyP inter q = g'
  · have : ¬ keyP inter q = g := fun e' => hne (e.symm.trans e')
    simp [e, hne]
  · simp [e]
end
end Go.Proofs.Ytioddokjogbmnaa.Chk

set_option linter.unusedVariables false
set_option linter.unusedSimpArgs false
set_option maxRecDepth 20000
namespace Go.Proofs.Ytioddokjogbmnaa.Chk
open Go.ChangeShapes Go.WideShapes Go.ChangeAt Go.RowKit Go.Deep Go.Maps Go.Proofs.Ytioddokjogbmnaa.Words Go.Proofs.Ytioddokjogbmnaa.Oct Go.Proofs.Ytioddokjogbmnaa.Par Go.Proofs.Ytioddokjogbmnaa.Mx
section
variable {w w' : World} {T T' : Nat → Nat} {p bl bo h h' : Nat} {inter : Bool} {rv : Value} {F : Gk → Option Nat} {xs : List Mg} {Om : Nat → Option Nat} {Wb next : Nat → Nat} {wait wait' : List Jo.Ms} {S G : Nat → Prop} {s : Jo.JS} {pcs : List Jo.Pc}
theorem cells_mid {cs : Array Value} {c : Ck} {Hg Hd' Hs Hp Hb : Hd} (k : Cells cs c Hg Hd' Hs Hp Hb) (m : Nat) : Cells (cs.setIfInBounds 7 (.int .u32 (m : Int))) { c with mid := m } Hg Hd' Hs Hp Hb := by
  have hs := k.size
  have hg : ∀ i u, i ≠ 7 → cs[i]? = some u → (cs.setIfInBounds 7 (.int .u32 (m : Int)))[i]? = some u := fun i u hi hu => by
    rw [Array.getElem?_setIfInBounds, if_neg (fun e => hi e.symm)]; exact hu
  refine ⟨by simp [hs], hg _ _ (by decide) k.c0, hg _ _ (by decide) k.c1, hg _ _ (by decide) k.c2, hg _ _ (by decide) k.c3, hg _ _ (by decide) k.c4, hg _ _ (by decide) k.c5, hg _ _ (by decide) k.c6, ?_, hg _ _ (by decide) k.c8, hg _ _ (by decide) k.c9, hg _ _ (by decide) k.c10, hg _ _ (by decide) k.c11, hg _ _ (by decide) k.c12, hg _ _ (by decide) k.c13, hg _ _ (by decide) k.c14, hg _ _ (by decide) k.c15, hg _ _ (by decide) k.c16, hg _ _ (by decide) k.c17, hg _ _ (by decide) k.c18⟩
  rw [Array.getElem?_setIfInBounds, if_pos rfl, if_pos (by omega)]
set_option maxHeartbeats 1000000 in
theorem bclone_big (A : Option Addr) (l : List UInt8) (n c : Nat) (w : World) (hn : n = l.length) (hl : n ≤ 2000000000) (h : Byt w w.heap.size A l) :
    Calls Try.prog 32 #[.slice A n c] w fun e w' => (∃ v, e = .returned v ∧ Words.Own w' w.heap.size v l) ∧ Below w.heap.size w w' := by
  obtain ⟨i0, hi0, hz0, hz1, hz2⟩ := info_parts3 u8_info
  have hnil := fun (W : World) (a : Option Addr) (n c : Nat) => Lib.run_eql_slice_nil (P := Try.prog) W 39 5 a n c 0 0 Try.underlying39
  rcases A with _ | ad
  · have h0 : l = [] := by
      rcases Nat.eq_zero_or_pos l.length with h0 | h0
      · exact List.eq_nil_of_length_eq_zero h0
      · obtain ⟨ad, e, _⟩ := h.2 h0; cases e
    subst h0
    go_enter Try.func32, Try.ntmps32
    go_wp2
    go_ret
    exact ⟨⟨_, rfl, World.ownsRow_nil _ _ _ _⟩, Below.refl _ _⟩
  · have HB := Lib.hid h
    have HN := Lib.hid hn
    clear h hn
    go_enter Try.func32, Try.ntmps32
    go_wp2_with (at_builtin; refine wpList_append_any _ rfl (.tmp 5) (.tmp 6) _ rfl w.heap.size 5 i0 _ 1 1 Try.underlying39 hi0 hz0 hz1 hz2 rfl (by omega) (.slice (some ⟨w.heap.size, 0, none⟩) 0 0) 0 [] rfl (own_empty w _) w.heap.size (some ad) n c (u8s l) rfl (by have := HB.out; unfold Byt at this; rw [← HN.out] at this; exact this.alloc (Nat.le_refl _) _) (u8s_one l) (by simp only [maxLen]; omega) (by omega) (by simp) ?_; intro v1 w1 hown1 hg1 hat1)
    go_ret
    refine ⟨⟨v1, rfl, ?_⟩, ?_⟩
    · simp only [Nat.zero_add, List.nil_append] at hown1
      unfold Words.Own
      rw [← HN.out]
      exact hown1
    · exact ((Below.refl _ _).alloc (Nat.le_refl _) _).grown hg1 (by simp) (fun b e => by simp [Value.ownBlock] at e; omega)
/-- A body of one's own. -/
def bodT (w : World) (T : Nat → Nat) (A : Option Addr) (i : Nat) : Nat := if i < w.heap.size then T i else if A.map (·.block) = some i then 5 else 0
theorem own_body {B : Nat} {A : Option Addr} {cp n : Nat} {l : List UInt8} (h : Words.Own w' B (.slice A n cp) l) (hn : n = l.length) (hB : w.heap.size ≤ B) (hs : w.heap.size ≤ w'.heap.size) : BodT w' (bodT w T A) A cp l ∧ Ext w w' T (bodT w T A) := by
  obtain ⟨A', c', he, h1, h2⟩ := own_slice h
  injection he with e1 e2 e3
  subst e1 e3
  refine ⟨⟨h.byt, h1, h2, fun ad e => ?_⟩, ⟨fun i hi => if_pos hi, fun i hi => ?_⟩⟩
  · have h3 := World.ownsRow.lt h ad.block (by rw [e]; rfl)
    unfold bodT
    rw [if_neg (by omega), if_pos (by rw [e]; rfl)]
  · unfold bodT
    rw [if_neg (by omega)]
    split
    · rename_i e
      cases hA : A with
      | none => rw [hA] at e; cases e
      | some ad =>
        rw [hA] at e
        simp only [Option.map_some, Option.some.injEq] at e
        have h3 := World.ownsRow.lt h ad.block (by rw [hA]; rfl)
        omega
    · rfl
def OwnM (B : Nat) (l : List UInt8) (v : Value) (W : World) : Prop := Words.Own W B v l
theorem OwnM.grows {B : Nat} {l : List UInt8} {v : Value} {W W' : World} (h : OwnM B l v W) (k : Below W.heap.size W W') : OwnM B l v W' := by
  have h' : Words.Own W B v l := h
  exact (Fr.of_below k).own h' (fun g hg hi => by have := (h'.lt g hg).2; omega)
def BldM (B : Nat) (st : Nat) (lo : Bool) (mid pp : Nat) (l : List UInt8) (v : Value) (W : World) : Prop := ∃ A cp, v = .agg #[.int .u16 (st : Int), .bool lo, .int .u32 (mid : Int), .int .u32 (pp : Int), .slice A l.length cp] ∧ Words.Own W B (.slice A l.length cp) l
theorem BldM.grows {B st mid pp : Nat} {lo : Bool} {l : List UInt8} {v : Value} {W W' : World} (h : BldM B st lo mid pp l v W) (k : Below W.heap.size W W') : BldM B st lo mid pp l v W' := by
  obtain ⟨A, cp, rfl, h1⟩ := h
  exact ⟨A, cp, rfl, (Fr.of_below k).own h1 (fun g hg hi => by have := (h1.lt g hg).2; omega)⟩
def AlcM (B : Nat) (v : Value) (W : World) : Prop := ∃ g, v = .pointer (some ⟨g, 0, none⟩) ∧ B ≤ g ∧ Blk W g 43 #[.int .u16 0, .bool false, .int .u32 0, .int .u32 0, .slice none 0 0]
theorem AlcM.grows {B : Nat} {v : Value} {W W' : World} (h : AlcM B v W) (k : Below W.heap.size W W') : AlcM B v W' := by
  obtain ⟨g, rfl, h1, h2⟩ := h
  exact ⟨g, rfl, h1, (Fr.of_below k).blk h2 (fun e => by have e' : W.heap.size ≤ g := e; have := Blk.lt h2; omega)⟩
theorem exec_alloc_mg {ρ : Operand → Value} {o : Oper} {w : World} (ho : o.op = .alloc 43) : (execOp ρ o).run Try.prog w = .ok (.value (.pointer (some ⟨w.heap.size, 0, none⟩))) (w.alloc (.cells #[.int .u16 0, .bool false, .int .u32 0, .int .u32 0, .slice none 0 0] 43)) := by
  have h : ∀ W, (Instr.alloc 43 true (.tuple #[])).run Try.prog W = .ok (.pointer (some ⟨W.heap.size, 0, none⟩)) (W.alloc (.cells #[.int .u16 0, .bool false, .int .u32 0, .int .u32 0, .slice none 0 0] 43)) := fun W => by
    obtain ⟨i, hi, hz, hs, _⟩ := info_parts3 msg_whole
    go_simp
  unfold execOp
  simp [ho, h]
theorem msg_built5 (a : Nat) (b : Bool) (c d : Nat) (A : Option Addr) (n cp : Nat) : Try.prog.built 43 [(0, .int .u16 (a : Int)), (1, .bool b), (2, .int .u32 (c : Int)), (3, .int .u32 (d : Int)), (4, .slice A n cp)] = some #[.int .u16 (a : Int), .bool b, .int .u32 (c : Int), .int .u32 (d : Int), .slice A n cp] := by kernel_rfl
theorem exec_build5 {P : Program} {ρ : Operand → Value} {o : Oper} {w : World} (t : TypeId) {x0 x1 x2 x3 x4 : Operand} (ho : o.op = .build t #[(0, x0), (1, x1), (2, x2), (3, x3), (4, x4)]) (v0 v1 v2 v3 v4 : Value)
    (h0 : ρ x0 = v0) (h1 : ρ x1 = v1) (h2 : ρ x2 = v2) (h3 : ρ x3 = v3) (h4 : ρ x4 = v4) (cells : Array Value) (hf : P.built t [(0, v0), (1, v1), (2, v2), (3, v3), (4, v4)] = some cells) :
    (execOp ρ o).run P w = .ok (.value (.agg cells)) w := by
  subst h0 h1 h2 h3 h4
  exact exec_build ho (by simpa using hf)
/-- A line is made. -/
theorem LinesR.made (k : LinesR w T bl inter F pcs) (hT : ∀ i, w.heap.size ≤ i → T i = 0) {g : Gk} (hg : F g = none) {W w1 : World} (hW : W.heap = (w.alloc (.map #[] 0)).heap) (hm : MapX grpX w1 bl (putF (fun z => (F z).map lptr) g (lptr w.heap.size))) (hf : Fr (fun i => i = bl) W w1) (hWF : Fr (fun _ => False) w W) :
    LinesR w1 (extT w w1 T 2) bl inter (fun z => if z = g then some w.heap.size else F z) pcs ∧ LineAt w1 w.heap.size (fun _ => none) ∧ atK inter g pcs = [] := by
  have hf0 : Fr (fun i => i = bl) w w1 := (hWF.mono (T := fun i => i = bl) (fun _ _ e => e.elim)).same hf
  have hs : W.heap.size = w.heap.size + 1 := by rw [hW]; simp
  have hs1 : w.heap.size + 1 ≤ w1.heap.size := by have := hf.size; omega
  have hold : ∀ i, i < w.heap.size → extT w w1 T 2 i = T i := fun i hi => by unfold extT; rw [if_pos hi]
  have hbl := k.map.lt
  have h0 : atK inter g pcs = [] := List.filter_eq_nil_iff.2 (fun q hq e => by
    obtain ⟨b, hb⟩ := k.lns.all q hq
    simp only [decide_eq_true_eq] at e
    rw [e, hg] at hb; cases hb)
  have hl : LineAt w1 w.heap.size (fun _ => none) := by
    have h1 : MapX u32X W w.heap.size (fun _ => none) := by
      obtain ⟨D, h1, h2⟩ := (MapX.new u32X w).ex
      exact (MapX.new u32X w).same (by rw [hW])
    exact (h1.fr hf (by omega)).as_ (fun _ => rfl)
  refine ⟨⟨by rw [hold bl hbl]; exact k.tbl, hm.as_ (fun z => ?_), fun z b hz => ?_, fun q hq => ?_, fun z z' b hz hz' => ?_⟩, hl, h0⟩
  · unfold putF
    by_cases e : z = g
    · rw [if_pos e, if_pos e]; rfl
    · rw [if_neg e, if_neg e]
  · by_cases e : z = g
    · subst e
      rw [if_pos rfl] at hz
      injection hz with hz
      subst hz
      refine ⟨extT_new (Nat.le_refl _) hs1, by omega, _, hl, ?_, fun i x hx => by cases hx⟩
      rw [h0]
      exact ⟨fun p hp => (by simp at hp), fun i x hx => (by cases hx), List.Pairwise.nil⟩
    · rw [if_neg e] at hz
      obtain ⟨a1, a2, L, a3, a4, a5⟩ := k.lns.line z b hz
      refine ⟨by rw [hold b a3.lt]; exact a1, a2, L, a3.fr hf0 a2, a4, fun i x hx => ⟨(a5 i x hx).1.fr hf0 (fun j hj h5 ej => by rw [show j = bl from ej, k.tbl] at h5; cases h5) hold (a5 i x hx).2, (a5 i x hx).2⟩⟩
  · obtain ⟨b, hb⟩ := k.lns.all q hq
    by_cases e : keyP inter q = g
    · rw [e, hg] at hb; cases hb
    · exact ⟨b, by rw [if_neg e]; exact hb⟩
  · by_cases e : z = g
    · by_cases e' : z' = g
      · rw [e, e']
      · rw [if_pos e] at hz; rw [if_neg e'] at hz'
        injection hz with hz
        have := k.lns.lt hz'
        omega
    · by_cases e' : z' = g
      · rw [if_neg e] at hz; rw [if_pos e'] at hz'
        injection hz' with hz'
        have := k.lns.lt hz
        omega
      · rw [if_neg e] at hz; rw [if_neg e'] at hz'
        exact k.lns.inj z z' b hz hz'
/-- A piece is put into its line. -/
theorem LnsR.add (k : LnsR w T bl inter F pcs) {c : Jo.Pc} {b : Nat} {L : Nat → Option Fg} {x : Fg} (hF : F (keyP inter c) = some b) (hL1 : LineAt w b L) (hL2 : LnOf (idxP inter) L (atK inter (keyP inter c) pcs)) (hL3 : ∀ i x, L i = some x → BodT w T x.A x.cp x.m.body ∧ x.m.body ≠ []) (hno : L (idxP inter c) = none) (hx : Fits x c) (hb : BodT w T x.A x.cp x.m.body) (hne : x.m.body ≠ []) {w1 : World} (hm : LineAt w1 b (fun j => if j = idxP inter c then some x else L j)) (hf : Fr (fun i => i = b) w w1) :
    LnsR w1 T bl inter F (c :: pcs) ∧ LnOf (idxP inter) (fun j => if j = idxP inter c then some x else L j) (atK inter (keyP inter c) (c :: pcs)) ∧ ∀ i y, (if i = idxP inter c then some x else L i) = some y → BodT w1 T y.A y.cp y.m.body ∧ y.m.body ≠ [] := by
  have htb := (k.line _ b hF).1
  have hn5 : ∀ j, j < w.heap.size → T j = 5 → ¬ j = b := fun j hj h5 e => by rw [e, htb] at h5; cases h5
  have he : atK inter (keyP inter c) (c :: pcs) = c :: atK inter (keyP inter c) pcs := by unfold atK; rw [List.filter_cons_of_pos (by simp)]
  have hln : LnOf (idxP inter) (fun j => if j = idxP inter c then some x else L j) (atK inter (keyP inter c) (c :: pcs)) := by
    rw [he]
    have hne : ∀ q ∈ atK inter (keyP inter c) pcs, idxP inter q ≠ idxP inter c := fun q hq e => by
      obtain ⟨y, hy, _⟩ := hL2.has q hq
      rw [e, hno] at hy; cases hy
    refine ⟨fun q hq => ?_, fun i y hy => ?_, List.pairwise_cons.2 ⟨fun q hq e => hne q hq e.symm, hL2.nd⟩⟩
    · rcases List.mem_cons.1 hq with rfl | hq
      · exact ⟨x, if_pos rfl, hx⟩
      · obtain ⟨y, h1, h2⟩ := hL2.has q hq
        exact ⟨y, by show (if _ then _ else _) = _; rw [if_neg (hne q hq)]; exact h1, h2⟩
    · by_cases e : i = idxP inter c
      · exact ⟨c, List.mem_cons_self, e.symm⟩
      · have hy : (if i = idxP inter c then some x else L i) = some y := hy
        rw [if_neg e] at hy
        obtain ⟨q, h1, h2⟩ := hL2.of i y hy
        exact ⟨q, List.mem_cons_of_mem _ h1, h2⟩
  have hbod : ∀ i y, (if i = idxP inter c then some x else L i) = some y → BodT w1 T y.A y.cp y.m.body ∧ y.m.body ≠ [] := fun i y hy => by
    by_cases e : i = idxP inter c
    · rw [if_pos e] at hy
      injection hy with hy
      subst hy
      exact ⟨hb.fr hf hn5 (fun _ _ => rfl) hne, hne⟩
    · rw [if_neg e] at hy
      exact ⟨(hL3 i y hy).1.fr hf hn5 (fun _ _ => rfl) (hL3 i y hy).2, (hL3 i y hy).2⟩
  refine ⟨⟨fun z b' hz => ?_, fun q hq => ?_, k.inj⟩, hln, hbod⟩
  · by_cases e : z = keyP inter c
    · subst e
      rw [hF] at hz
      injection hz with hz
      subst hz
      exact ⟨htb, (k.line _ b hF).2.1, _, hm, hln, hbod⟩
    · obtain ⟨a1, a2, L', a3, a4, a5⟩ := k.line z b' hz
      have hbb : ¬ b' = b := fun e' => e (k.inj z _ b (by rw [← e']; exact hz) hF)
      have e2 : atK inter z (c :: pcs) = atK inter z pcs := by unfold atK; rw [List.filter_cons_of_neg (by simp; exact fun e' => e e'.symm)]
      rw [e2]
      exact ⟨a1, a2, L', a3.fr hf hbb, a4, fun i y hy => ⟨(a5 i y hy).1.fr hf hn5 (fun _ _ => rfl) (a5 i y hy).2, (a5 i y hy).2⟩⟩
  · rcases List.mem_cons.1 hq with rfl | hq
    · exact ⟨b, hF⟩
    · exact k.all q hq
/-- A message is cut out. -/
theorem LnsR.cut (k : LnsR w T bl inter F pcs) {g : Gk} {b : Nat} {L : Nat → Option Fg} {f n : Nat} (hg : F g = some b) (hf : f < 4294967296) (hn : n ≤ 2000000000) (hL : LnOf (idxP inter) L (atK inter g pcs)) (hok : ∀ p ∈ pcs, PcOk inter p) (h5 : ∀ i x, L i = some x → BodT w T x.A x.cp x.m.body ∧ x.m.body ≠ []) (hl : LineAt w' b (cutL L f (n + 1))) (hfr : Fr (fun i => i = b) w w') :
    LnsR w' T bl inter F (restP inter g f n pcs) := by
  obtain ⟨a1, a2, _⟩ := k.line g b hg
  have hn5 : ∀ i, i < w.heap.size → T i = 5 → ¬ i = b := fun i hi e e' => by rw [e', a1] at e; cases e
  have hsub : ∀ i x, cutL L f (n + 1) i = some x → L i = some x := fun i x hx => by
    unfold cutL at hx
    split at hx
    · cases hx
    · exact hx
  refine ⟨fun g' b' hg' => ?_, fun q hq => k.all q (List.mem_filter.1 hq).1, k.inj⟩
  by_cases e : g' = g
  · subst e
    rw [hg] at hg'
    injection hg' with hg'
    subst hg'
    exact ⟨a1, a2, _, hl, cut_ln hf hn hL hok, fun i x hx => by
      obtain ⟨c1, c2⟩ := h5 i x (hsub i x hx)
      exact ⟨c1.fr hfr hn5 (fun _ _ => rfl) c2, c2⟩⟩
  · obtain ⟨c1, c2, L', c3, c4, c5⟩ := k.line g' b' hg'
    exact ⟨c1, c2, L', c3.fr hfr (fun e' => e (k.inj g' g b (by rw [← e']; exact hg') hg)), by rw [cut_other e]; exact c4, fun i x hx => ⟨(c5 i x hx).1.fr hfr hn5 (fun _ _ => rfl) (c5 i x hx).2, (c5 i x hx).2⟩⟩
theorem whole_same {Lw : List Jo.Pc} (hW : Jo.Whole inter Lw) {p q : Jo.Pc} (hp : p ∈ Lw) (hq : q ∈ Lw) : p.st = q.st ∧ p.lo = q.lo ∧ (p.lo = false → p.mid = q.mid) := by
  have h0 : ∀ j (h : j < Lw.length), (Lw[0]'(by omega)).st = Lw[j].st ∧ (Lw[0]'(by omega)).lo = Lw[j].lo ∧ ((Lw[0]'(by omega)).lo = false → (Lw[0]'(by omega)).mid = Lw[j].mid) := by
    intro j
    induction j with
    | zero => intro _; exact ⟨rfl, rfl, fun _ => rfl⟩
    | succ j ih =>
      intro h
      obtain ⟨i1, i2, i3⟩ := ih (by omega)
      obtain ⟨_, _, _, _, s1, s2, s3⟩ := hW.later j Lw[j] Lw[j + 1] (List.getElem?_eq_getElem _) (List.getElem?_eq_getElem _)
      refine ⟨i1.trans s1, i2.trans s2, fun hl => ?_⟩
      rcases s3 with s3 | ⟨_, s3⟩
      · exact (i3 hl).trans s3
      · rw [← i2, hl] at s3; cases s3
  obtain ⟨i, hi, rfl⟩ := List.mem_iff_getElem.1 hp
  obtain ⟨j, hj, rfl⟩ := List.mem_iff_getElem.1 hq
  obtain ⟨a1, a2, a3⟩ := h0 i hi
  obtain ⟨b1, b2, b3⟩ := h0 j hj
  exact ⟨a1.symm.trans b1, a2.symm.trans b2, fun hl => (a3 (a2.trans hl)).symm.trans (b3 (a2.trans hl))⟩
theorem cut_bodies : ∀ zs : List (Fg × Jo.Pc), (∀ z ∈ zs, Fits z.1 z.2) → (zs.map (·.2)).flatMap (·.body) = catF (zs.map (·.1)) ∧ Jo.sizeP (zs.map (·.2)) = (catF (zs.map (·.1))).length
  | [], _ => ⟨rfl, rfl⟩
  | z :: t, h => by
    obtain ⟨i1, i2⟩ := cut_bodies t (fun y hy => h y (List.mem_cons_of_mem _ hy))
    have hz : z.1.m.body = z.2.body := by rw [(h z List.mem_cons_self).m]; rfl
    have e1 : catF ((z :: t).map (·.1)) = z.2.body ++ catF (t.map (·.1)) := by
      unfold catF
      rw [List.map_cons, List.map_cons, List.flatten_cons, hz]
    have ec : Jo.sizeP ((z :: t).map (·.2)) = z.2.body.length + Jo.sizeP (t.map (·.2)) := by simp [Jo.sizeP]
    refine ⟨?_, ?_⟩
    · rw [e1, List.map_cons, List.flatMap_cons, i1]
    · rw [e1, ec, i2, List.length_append]
theorem cut_msg {zs : List (Fg × Jo.Pc)} (h : ∀ z ∈ zs, Fits z.1 z.2) {z0 : Fg × Jo.Pc} (h0 : zs[0]? = some z0) : Jo.msgOf (zs.map (·.2)) = ⟨z0.1.m.st, z0.1.m.lo, z0.1.m.mid, z0.1.m.pp, catF (zs.map (·.1))⟩ := by
  cases zs with
  | nil => simp at h0
  | cons z t =>
    simp only [List.getElem?_cons_zero, Option.some.injEq] at h0
    subst h0
    have hb := (cut_bodies (z :: t) h).1
    have hm := (h z List.mem_cons_self).m
    show (⟨z.2.st, z.2.lo, z.2.mid, z.2.pp, _⟩ : Jo.Ms) = _
    rw [← hb, hm]
    rfl
end
end Go.Proofs.Ytioddokjogbmnaa.Chk

set_option linter.unusedVariables false
set_option linter.unusedSimpArgs false
set_option maxRecDepth 20000
namespace Go.Proofs.Ytioddokjogbmnaa.Chk
open Go.ChangeShapes Go.WideShapes Go.ChangeAt Go.RowKit Go.Deep Go.Maps Go.Proofs.Ytioddokjogbmnaa.Words Go.Proofs.Ytioddokjogbmnaa.Oct Go.Proofs.Ytioddokjogbmnaa.Par Go.Proofs.Ytioddokjogbmnaa.Mx
section
variable {w w' : World} {T T' : Nat → Nat} {p bl bo h h' : Nat} {inter : Bool} {rv : Value} {F : Gk → Option Nat} {xs : List Mg} {Om : Nat → Option Nat} {Wb next : Nat → Nat} {wait wait' : List Jo.Ms} {S G : Nat → Prop} {s : Jo.JS} {pcs : List Jo.Pc}
def skR (inter : Bool) (st : Nat) (lo : Bool) (mid : Nat) (q : Jo.Pc) : Bool := decide (q.st = st) && (decide (q.lo = lo) && reachB inter mid q.mid)
set_option maxHeartbeats 2000000 in
theorem skip1_any {W : World} {gs gj gm st mid mid0 : Nat} {lo : Bool} (bs : Blk W gs 53 #[.int .u16 (st : Int), .bool lo, .int .u32 (mid0 : Int)]) (cj : W.cell? ⟨gj, 0, none⟩ = some (jptr p)) (cm : W.cell? ⟨gm, 0, none⟩ = some (.int .u32 (mid : Int))) (c0 : W.cell? ⟨p, 0, none⟩ = some (.bool inter)) (hm : MidOk inter mid) {m : Msg} (hq : MidOk inter m.mid) (i : Value) (v : Value) :
    Calls Try.prog 38 #[i, .agg (mCells m v), .pointer (some ⟨gs, 0, none⟩), .pointer (some ⟨gj, 0, none⟩), .pointer (some ⟨gm, 0, none⟩)] W fun e w' => e = .returned (.bool (decide (m.st = st) && (decide (m.lo = lo) && reachB inter mid m.mid))) ∧ Below W.heap.size W w' := by
  obtain ⟨m1, m2, m3, m4, m5⟩ := m
  have hq' : MidOk inter m3 := hq
  show Calls _ _ _ _ fun e w' => e = .returned (.bool (decide (m1 = st) && (decide (m2 = lo) && reachB inter mid m3))) ∧ _
  simp only [mCells]
  have s0 := bs.cell 0
  have s1 := bs.cell 1
  simp only [List.getElem?_toArray, List.getElem?_cons_succ, List.getElem?_cons_zero] at s0 s1
  have ho : ∀ (o : Obj) (g k : Nat) (u : Value), W.cell? ⟨g, k, none⟩ = some u → (W.alloc o).cell? ⟨g, k, none⟩ = some u := fun o g k u hu => by
    rw [World.cell?_alloc_lt W o _ (World.block_lt_of_cell? W _ hu)]; exact hu
  obtain ⟨W1, hW1⟩ : ∃ W1, W1 = W.alloc (.cells #[.int .u16 (m1 : Int), .bool m2, .int .u32 (m3 : Int), .int .u32 (m4 : Int), v] 43) := ⟨_, rfl⟩
  obtain ⟨g1, hg1⟩ : ∃ g1, g1 = W.heap.size := ⟨_, rfl⟩
  have hb1 : Blk W1 g1 43 #[.int .u16 (m1 : Int), .bool m2, .int .u32 (m3 : Int), .int .u32 (m4 : Int), v] := by rw [hW1, hg1]; exact Blk.new _ _ _
  have f0 := hb1.cell 0
  have f1 := hb1.cell 1
  have f2 := hb1.cell 2
  simp only [List.getElem?_toArray, List.getElem?_cons_succ, List.getElem?_cons_zero] at f0 f1 f2
  have t0 : W1.cell? ⟨gs, 0, none⟩ = some (.int .u16 (st : Int)) := by rw [hW1]; exact ho _ _ _ _ s0
  have t1 : W1.cell? ⟨gs, 1, none⟩ = some (.bool lo) := by rw [hW1]; exact ho _ _ _ _ s1
  have t2 : W1.cell? ⟨gj, 0, none⟩ = some (jptr p) := by rw [hW1]; exact ho _ _ _ _ cj
  have t3 : W1.cell? ⟨gm, 0, none⟩ = some (.int .u32 (mid : Int)) := by rw [hW1]; exact ho _ _ _ _ cm
  have t4 : W1.cell? ⟨p, 0, none⟩ = some (.bool inter) := by rw [hW1]; exact ho _ _ _ _ c0
  have hre := reaches_any t4 hm hq'
  have HB : Hid (Below W.heap.size W W1) := by rw [hW1]; exact below_one W _
  obtain ⟨rb, hrb⟩ : ∃ rb, rb = reachB inter mid m3 := ⟨_, rfl⟩
  rw [← hrb] at hre ⊢
  clear s0 s1 bs cj cm c0 hm hq hq' ho hrb hb1
  go_enter Try.func38, Try.ntmps38
  go_upto_region 1 with (fail)
  rw [← hW1, ← hg1]
  clear hW1 hg1
  by_cases h1 : m1 = st
  · subst h1
    by_cases h2 : m2 = lo
    · subst h2
      go_wp2_with (go_at_call 39; refine hre.mono ?_; rintro e w' ⟨rfl, rfl⟩)
      go_ret
      exact ⟨ret_bool (by simp), HB.out⟩
    · cases m2 <;> cases lo <;> first
        | exact absurd rfl h2
        | (go_wp2_with fail
           go_ret
           exact ⟨ret_bool (by simp), HB.out⟩)
  · have h1' : ¬ ((m1 : Int) = (st : Int)) := by omega
    go_wp2_with fail
    go_ret
    exact ⟨ret_bool (by simp [h1]), HB.out⟩
theorem skip1_enters : ∀ args W, (callFunc 38 args).run Try.prog W = .ok (.enter 38 args) W := enters_of Try.func38 (by kernel_rfl) rfl
end
end Go.Proofs.Ytioddokjogbmnaa.Chk
