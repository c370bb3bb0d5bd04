/-
  Of the texts InTw: what the laws reach.
-/
import Derived.Test.YtioddokjogbmnaaP10
import Derived.Test.YtioddokjogbmnaaP11

set_option linter.unusedVariables false
set_option linter.unusedSimpArgs false
set_option maxRecDepth 20000
namespace Go.Proofs.Ytioddokjogbmnaa.In
open Go.ChangeShapes Go.WideShapes Go.ChangeAt Go.RowKit Go.Deep Go.Proofs.Ytioddokjogbmnaa.Words Go.Proofs.Ytioddokjogbmnaa.Oct Go.Proofs.Ytioddokjogbmnaa.Par Go.Proofs.Ytioddokjogbmnaa.Chk
def hadA (K : Nat → Bool) : Array Value := ((List.range 256).map fun j => Value.bool (K j)).toArray
theorem hadA_at (K : Nat → Bool) {j : Nat} (h : j < 256) : (hadA K)[j]? = some (.bool (K j)) := by
  unfold hadA
  simp [h]
theorem hadA_size (K : Nat → Bool) : (hadA K).size = 256 := by unfold hadA; simp
theorem hadA_set {K K' : Nat → Bool} {j : Nat} (h : j < 256) (h1 : K' j = true) (hK : ∀ x, x ≠ j → K' x = K x) : (hadA K).setIfInBounds j (.bool true) = hadA K' := by
  apply Array.ext_getElem?
  intro x
  rcases Nat.lt_or_ge x 256 with hx | hx
  · rw [hadA_at _ hx, Array.getElem?_setIfInBounds]
    by_cases e : j = x
    · subst e
      rw [if_pos rfl, if_pos (by rw [hadA_size]; exact h), h1]
    · rw [if_neg e, hadA_at _ hx, hK x (fun e' => e e'.symm)]
  · rw [Array.getElem?_eq_none (by simp [hadA_size]; exact hx), Array.getElem?_eq_none (by rw [hadA_size]; exact hx)]
theorem info_had : (Try.prog.info? 70).map (fun i => (i.zero, i.size)) = some (some (.agg (hadA fun _ => false)), 256) := by kernel_rfl
theorem alloc_had (w : World) : (Instr.alloc 70 true (.tuple #[])).run Try.prog w = .ok (.pointer (some ⟨w.heap.size, 0, none⟩)) (w.alloc (.cells (hadA fun _ => false) 70)) := run_alloc_agg info_had w
theorem one_self {K : Nat → Bool} {d : Nat} (h : K d = true) : one K d = K := by
  funext y
  unfold one
  by_cases e : y = d
  · subst e; simp [h]
  · simp [e]
theorem one_K0 : one (fun _ => false) 0 = K0 := by
  funext y
  simp [one, K0]
theorem u32_infoT : (Try.prog.info? 33).map (fun i => (i.zero, i.size, i.bytes)) = some (some (.int .u32 0), 1, 4) := by kernel_rfl
structure Tw (R : World → (Nat → Prop) → Nat → Bool → IS → Prop) (w : World) (M0 : Int) (p gh : Nat) (v : Value) (K K2 : Nat → Bool) (l l2 : List Int) (i : Nat) (V : World) : Prop where
  ex : ∃ G s, I1 R w V G p false s ∧ Tr M0 K s ∧ s.dups = l ∧ Jo.held s.js ≤ i ∧ ¬ G gh ∧ (∀ g, v.ownBlock = some g → ¬ G g)
  le : ∀ y, K y = true → y ≤ 255
  had : Blk V gh 70 (hadA K2)
  row : V.ownsRow w.heap.size 33 1 v l2.length (dupV l2)
  hgh : w.heap.size ≤ gh
section
variable {R : World → (Nat → Prop) → Nat → Bool → IS → Prop} {w V V' : World} {M0 : Int} {p gh i d : Nat} {v v' : Value} {K K2 : Nat → Bool} {l l2 : List Int}
theorem Tw.bel (h : Tw R w M0 p gh v K K2 l l2 i V) : Below w.heap.size w V := by obtain ⟨G, s, h, _⟩ := h.ex; exact h.bel
theorem Tw.cell (h : Tw R w M0 p gh v K K2 l l2 i V) (hd : d ≤ 255) : V.cell? ⟨gh, d, none⟩ = some (.bool (K2 d)) := (h.had.cell d).trans (hadA_at _ (by omega))
theorem row_ne (h : Tw R w M0 p gh v K K2 l l2 i V) : v.ownBlock ≠ some gh := fun e => by
  obtain ⟨cs, hb⟩ := own_blk h.row e
  exact blk_ne hb h.had (by decide) rfl
theorem Tw.grows (I : InI R) (h : Tw R w M0 p gh v K K2 l l2 i V) (hb : Below V.heap.size V V') : Tw R w M0 p gh v K K2 l l2 i V' := by
  obtain ⟨⟨G, s, h1, h2, h3, h4, h5, h6⟩, a, b, c, d⟩ := h
  exact ⟨⟨G, s, h1.grows I hb, h2, h3, h4, h5, h6⟩, a, blk_below b hb b.lt, (Fr.of_below hb).own c (fun g hg hx => by have e' : V.heap.size ≤ g := hx; have := (c.lt g hg).2; omega), d⟩
/-- The flag of a number is set. -/
theorem Tw.mark (I : InI R) (h : Tw R w M0 p gh v K K2 l l2 i V) (hd : d ≤ 255) : Tw R w M0 p gh v K (one K2 d) l l2 i (V.setCell ⟨gh, d, none⟩ (.bool true)) := by
  have hne := row_ne h
  obtain ⟨⟨G, s, h1, h2, h3, h4, h5, h6⟩, a, b, c, e⟩ := h
  have hf : Fr (fun i => i = gh) V (V.setCell ⟨gh, d, none⟩ (.bool true)) := (Fr.refl (fun i => i = gh) V).setCell (p := ⟨gh, d, none⟩) (.inl rfl) _
  refine ⟨⟨G, s, ⟨I.fr h1.rep hf (fun i h1 h2 h3 => h5 (h1 ▸ h3)), h1.own, below_fr h1.bel hf (Nat.le_refl _) (fun i hi => by rw [show i = gh from hi]; exact e)⟩, h2, h3, h4, h5, h6⟩, a, ?_, hf.own c (fun g hg hx => hne (by rw [hg, show g = gh from hx])), e⟩
  have := b.set_ d (.bool true)
  rw [hadA_set (K' := one K2 d) (by omega) (by simp [one]) (fun x hx => by simp [one, hx])] at this
  exact this
/-- The list has one number more. -/
theorem Tw.app (I : InI R) {t : Int} (h : Tw R w M0 p gh v K K2 l l2 i V) (hr : V'.ownsRow w.heap.size 33 1 v' (l2.length + 1) (dupV l2 ++ [.int .u32 t])) (hg : V.grownBy V' v.ownBlock) (hv : v'.ownBlock = v.ownBlock ∨ v'.ownBlock = some V.heap.size) : Tw R w M0 p gh v' K K2 l (l2 ++ [t]) i V' := by
  have hne := row_ne h
  obtain ⟨⟨G, s, h1, h2, h3, h4, h5, h6⟩, a, b, c, e⟩ := h
  have hf : Fr (fun i => v.ownBlock = some i) V V' := (Fr.refl _ V).grown hg (fun g hg => .inl hg)
  refine ⟨⟨G, s, ⟨I.fr h1.rep hf (fun i g1 g2 g3 => h6 i g1 g3), h1.own, below_fr h1.bel hf (Nat.le_refl _) (fun i hi => (c.lt i hi).1)⟩, h2, h3, h4, h5, fun g hg' => ?_⟩, a, hf.blk b hne, ?_, e⟩
  · rcases hv with hv | hv
    · exact h6 g (hv ▸ hg')
    · rw [hv] at hg'
      injection hg' with hg'
      subst hg'
      intro hx
      have := I.lt h1.rep _ hx
      omega
  · have e1 : dupV (l2 ++ [t]) = dupV l2 ++ [.int .u32 t] := by simp [dupV]
    rw [e1, List.length_append]
    exact hr
/-- A fragment comes. -/
theorem Tw.put (I : InI R) (hM : 0 ≤ M0 ∧ M0 ≤ 4294967295) (h : Tw R w M0 p gh v K K2 l l2 i V) (hi : i ≤ 100) (hd : d ≤ 255) {b : UInt8} {cs : Array Value} {tt : TypeId} {fr : Nat × Nat} (hcs : cs.toList.take 1 = u8s [b]) :
    Calls Try.prog 23 #[jptr p, .agg (inA 0 true true 0 (Span.adr M0 d).toNat [b] V.heap.size 1)] (V.alloc (.cells cs tt fr)) fun e w' =>
      (e = .returned (.int .i64 1) ∧ Hid (K d = true) ∧ Hid (Tw R w M0 p gh v K K2 (more l (Span.adr M0 d)) l2 (i + 1) w')) ∨ (e = .returned (.int .i64 0) ∧ Hid (K d = false) ∧ Hid (Tw R w M0 p gh v (one K d) K2 l l2 (i + 1) w')) := by
  have hne := row_ne h
  obtain ⟨⟨G, s, h1, h2, h3, h4, h5, h6⟩, a, hb, c, e⟩ := h
  obtain ⟨a1, a2⟩ := adr_nat M0 d
  refine (h1.give I (below_one V _) (Nat.le_refl _) (byt_new V cs tt fr [b] hcs) (by simp) (by simp) rfl (by decide) a2 (by simp) (by simp only [List.length_cons, List.length_nil]; omega)).mono ?_
  rintro e' w' ⟨n, s', G', rfl, g5, g6, g7, g8⟩
  have g6 := g6.out
  rw [a1] at g6
  have hb1 := blk_below hb (below_one V (.cells cs tt fr)) hb.lt
  have hb2 : Blk w' gh 70 (hadA K2) := g7.out.blk hb1 h5
  have hc1 := (Fr.of_below (below_one V (.cells cs tt fr))).own c (fun g hg hx => by have e' : V.heap.size ≤ g := hx; have := (c.lt g hg).2; omega)
  have hc2 := g7.out.own hc1 h6
  have hs := World.size_alloc V (.cells cs tt fr)
  have k5 : ¬ G' gh := fun hx => by
    rcases g8.out gh hx with e | e
    · exact h5 e
    · have := hb.lt; omega
  have k6 : ∀ g, v.ownBlock = some g → ¬ G' g := fun g hg hx => by
    rcases g8.out g hx with e | e
    · exact h6 g hg e
    · have := (c.lt g hg).2; omega
  rcases h2.data hM a (by omega) (x := d) (by omega) g6 with ⟨e1, rfl, rfl⟩ | ⟨_, _, _, e1, _⟩ | ⟨e1, rfl, g1, g2, _, r, g3⟩
  · exact .inl ⟨rfl, e1, ⟨G', _, g5.out, h2.same rfl rfl, by rw [← h3], Nat.le_succ_of_le h4, k5, k6⟩, a, hb2, hc2, e⟩
  · have : Jo.held s.js + 1 > 131072 := e1
    omega
  · refine .inr ⟨rfl, e1, ⟨G', _, g5.out, g1, g2.trans h3, ?_, k5, k6⟩, one_le a (by omega), hb2, hc2, e⟩
    have h7 : Jo.held s'.js ≤ Jo.held s.js + 1 := g3.held_le
    omega
/-- What a Sack tells. -/
theorem Tw.sack (I : InI R) (h : Tw R w M0 p gh v K K2 l l2 i V) :
    Calls Try.prog 25 #[jptr p] V fun e w' => ∃ (cs : Array Value) (c : Ck), e = .returned (.agg cs) ∧ Hid (CkAt w' w'.heap.size cs c) ∧ Hid ((c.dups.map fun d : Nat => (d : Int)) = l) ∧ Hid (Tw R w M0 p gh v K K2 [] l2 i w') := by
  obtain ⟨⟨G, s, h1, h2, h3, h4, h5, h6⟩, a, hb, c, e⟩ := h
  have hgp := I.self h1.rep
  refine (I.sack h1.rep).mono ?_
  rintro e' w' ⟨cs, ck, G', rfl, g1, _, _, _, _, g2, g3, g4, g5⟩
  have hfr := g5.mono (T := G) (fun i _ e => by rw [e]; exact hgp)
  refine ⟨cs, ck, rfl, g1, by rw [← h3]; exact g2, ⟨G', _, h1.step g3 g4 hfr, h2.same rfl rfl, rfl, h4, fun hx => ?_, fun g hg hx => ?_⟩, a, g5.blk hb (fun e => h5 (e ▸ hgp)), g5.own c (fun g hg e => h6 g hg (e ▸ hgp)), e⟩
  · rcases g4 gh hx with e | e
    · exact h5 e
    · have := hb.lt; omega
  · rcases g4 g hx with e | e
    · exact h6 g hg e
    · have := (c.lt g hg).2; omega
theorem Tw.new (I : InI R) (hM : 0 ≤ M0 ∧ M0 ≤ 4294967295) {G : Nat → Prop} (h : I1 R w V G p false ⟨M0, [], js0, []⟩) :
    Tw R w M0 p V.heap.size (.slice none 0 0) K0 (fun _ => false) [] [] 0 (V.alloc (.cells (hadA fun _ => false) 70)) := by
  have hb := below_one V (.cells (hadA fun _ => false) 70)
  refine ⟨⟨G, _, h.grows I hb, Tr.new hM js0 [], rfl, Nat.le_refl _, fun hx => ?_, fun g hg => by simp [Value.ownBlock] at hg⟩, K0_le, Blk.new V _ _, World.ownsRow_nil _ _ _ _, h.bel.size⟩
  have := I.lt h.rep _ hx
  omega
end
end Go.Proofs.Ytioddokjogbmnaa.In
