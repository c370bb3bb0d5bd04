/-
  The document's answers of layer 6 (flumeref06): Get.
-/
import Derived.Test.YtpgklhecmafnbaaChRf5
import Derived.Test.YtpgklhecmafnbaaChRf2
set_option linter.unusedVariables false
set_option linter.unusedSimpArgs false
namespace Go.Proofs.Ytpgklhecmafnbaa.Chk
open Go.ChangeShapes Go.WideShapes Go.ChangeAt Go.RowKit Go.Deep Go.Proofs.Ytpgklhecmafnbaa.Words Go.Proofs.Ytpgklhecmafnbaa.Oct Go.Proofs.Ytpgklhecmafnbaa.Par

theorem byte_at' {w : World} {B : Nat} {ad : Addr} {l : List UInt8} {k : Nat} (h : Byt w B (some ad) l) (hk : k < l.length) : w.cell? (ad.add k) = some (.int .u8 ((l[k]).toNat : Int)) := by
  obtain ⟨ad', e, _, hc⟩ := h.at_byte hk
  injection e with e
  subst e
  exact hc
theorem ckOwn_nil {w : World} {B : Nat} {d : Ck} (hb : Bare d) : CkOwn w B (ckArr d nilV nilV nilV nilV nilV) d := by
  obtain ⟨b1, b2, b3, b4, b5⟩ := hb
  refine ⟨nilV, nilV, nilV, nilV, nilV, rfl, ?_⟩
  rw [b1, b2, b3, b4, b5]
  exact ⟨World.ownsRow_nil _ _ _ _, World.ownsRow_nil _ _ _ _, World.ownsRow_nil _ _ _ _, OwnPs.nil _ _, World.ownsRow_nil _ _ _ _⟩
theorem ckOwn_size {w : World} {B : Nat} {cs : Array Value} {c : Ck} (h : CkOwn w B cs c) : cs.size = 19 := by obtain ⟨_, _, _, _, _, rfl, _⟩ := h; rfl
/-- Where Get stands: the tape, j of its bytes read; the chunk's variable, the result's. P: the chunk's lists are still empty. -/
structure GtS (P : Prop) (w V : World) (p g g2 : Nat) (A : Option Addr) (ct : Nat) (x : List UInt8) (j : Nat) (d : Ck) : Prop where
  tp : TapeAt V p A ct x j false
  gb : ∃ cs, CkBlk V g cs ∧ (∀ V' : World, Fr (fun k => k = g ∨ k = g2 ∨ k = p) V V' → CkOwn V' w.heap.size cs d ∧ d.ok) ∧ (P → cs = ckArr d nilV nilV nilV nilV nilV ∧ Bare d ∧ d.ok)
  b2 : CkBlk V g2 zeroA
  below : Below w.heap.size w V
  pg : p < g
  g2p : g2 < p
  lo : w.heap.size ≤ g2
section
variable {P : Prop} {w V V' : World} {p g g2 : Nat} {A : Option Addr} {ct : Nat} {x : List UInt8} {j n : Nat} {d d' : Ck} {e : Ending}
theorem GtS.plain (h : GtS P w V p g g2 A ct x j d) (hP : P) : CkBlk V g (ckArr d nilV nilV nilV nilV nilV) ∧ Bare d ∧ d.ok := by
  obtain ⟨cs, h1, _, h3⟩ := h.gb
  obtain ⟨rfl, hb, ho⟩ := h3 hP
  exact ⟨h1, hb, ho⟩
theorem GtS.mk' (tp : TapeAt V p A ct x j false) (hg : CkBlk V g (ckArr d nilV nilV nilV nilV nilV)) (hb : Bare d) (ho : d.ok) (b2 : CkBlk V g2 zeroA) (below : Below w.heap.size w V) (pg : p < g) (g2p : g2 < p) (lo : w.heap.size ≤ g2) : GtS P w V p g g2 A ct x j d :=
  ⟨tp, ⟨_, hg, fun V' _ => ⟨ckOwn_nil hb, ho⟩, fun _ => ⟨rfl, hb, ho⟩⟩, b2, below, pg, g2p, lo⟩
theorem tape_set (h : TapeAt V p A ct x j false) {f : Nat} {u : Value} (hg : p < g) : TapeAt (V.setCell ⟨g, f, none⟩ u) p A ct x j false :=
  h.keep (fun b hb => Below.heap_setCell V ⟨g, f, none⟩ u b (by show b ≠ g; omega))
theorem GtS.store (h : GtS P w V p g g2 A ct x j d) (hP : P) {f : Nat} {u : Value} (hs : (ckArr d nilV nilV nilV nilV nilV).setIfInBounds f u = ckArr d' nilV nilV nilV nilV nilV) (ho : d'.ok) (hb : Bare d') : GtS P w (V.setCell ⟨g, f, none⟩ u) p g g2 A ct x j d' := by
  obtain ⟨h1, _, _⟩ := h.plain hP
  exact GtS.mk' (tape_set h.tp h.pg) (by rw [← hs]; exact Blk.set_ h1 f u) hb ho (Blk.far h.b2 (p := ⟨g, f, none⟩) (by have := h.g2p; have := h.pg; show g2 ≠ g; omega) _) (h.below.setCell (p := ⟨g, f, none⟩) (by have := h.g2p; have := h.pg; have := h.lo; show _ ≤ g; omega) _) h.pg h.g2p h.lo
/-- Behind a number read. -/
theorem GtS.read (h : GtS P w V p g g2 A ct x j d) (hP : P) (k : Numbered V p A ct x j n e V') : e = .returned (.int .u64 ((num ((x.drop j).take n) : Nat) : Int)) ∧ Hid (GtS P w V' p g g2 A ct x (j + n) d) := by
  obtain ⟨he, ht, hg⟩ := k
  obtain ⟨h1, hb, ho⟩ := h.plain hP
  exact ⟨he, GtS.mk' ht (Blk.grown h1 hg (fun e => by injection e with e; have := h.pg; omega)) hb ho (Blk.grown h.b2 hg (fun e => by injection e with e; have := h.g2p; omega)) (h.below.grown hg h.below.size (fun b e => by injection e with e; have := h.g2p; have := h.lo; omega)) h.pg h.g2p h.lo⟩
theorem GtS.as (h : GtS P w V p g g2 A ct x j d) (e : d = d') : GtS P w V p g g2 A ct x j d' := e ▸ h
theorem GtS.weak {P' : Prop} (h : GtS P w V p g g2 A ct x j d) (e : P' → P) : GtS P' w V p g g2 A ct x j d := by
  obtain ⟨a1, ⟨cs, b1, b2, b3⟩, a3, a4, a5, a6, a7⟩ := h
  exact ⟨a1, ⟨cs, b1, b2, fun hp => b3 (e hp)⟩, a3, a4, a5, a6, a7⟩
end
/-! ### what was read, 'if' by 'if' -/
def E1 (k f : Nat) (x : List UInt8) : Ck := if k = 0 ∨ k = 64 then { withFrag (flagged k f) x with body := [] } else zeroC k
def J1 (k : Nat) : Nat := if k = 0 then 12 else if k = 64 then 16 else 0
def E2 (k f : Nat) (x : List UInt8) : Ck := if k = 6 ∨ k = 14 then { E1 k f x with ba := f % 2 == 1 } else E1 k f x
def E3 (k f : Nat) (x : List UInt8) : Ck := if k = 1 ∨ k = 2 then withGreet (E2 k f x) x else E2 k f x
def J3 (k : Nat) : Nat := if k = 1 ∨ k = 2 then 16 else J1 k
def F1f (k f : Nat) : Nat := if k = 0 ∨ k = 64 then f / 8 else f
def F2f (k f : Nat) : Nat := if k = 6 ∨ k = 14 then F1f k f / 2 else F1f k f
theorem F2_flags {k f : Nat} : F2f k f = 0 ↔ f = flagsN (flagged k f) := by
  rw [flags_of]
  unfold F2f F1f hasBody
  simp only [Bool.or_eq_true, beq_iff_eq]
  by_cases h0 : k = 0 ∨ k = 64
  · rw [if_neg (by omega), if_pos h0, if_pos h0]; omega
  · by_cases h6 : k = 6 ∨ k = 14
    · rw [if_pos h6, if_neg h0, if_neg h0, if_pos h6]; omega
    · rw [if_neg h6, if_neg h0, if_neg h0, if_neg h6]
theorem num_drop0 (x : List UInt8) (n : Nat) : num ((x.drop 0).take n) = num (x.take n) := by rw [List.drop_zero]
theorem dec_64_bad {f : Nat} {x : List UInt8} (h : num ((x.drop 6).take 2) ≠ 0) : decC 64 f x = none := by
  unfold decC
  split
  · rw [decB_64 (flagged_kindN 64 f), if_neg (fun e => h e.2)]
  · rfl
theorem dec_flags {k f : Nat} {x : List UInt8} (h : F2f k f ≠ 0) : decC k f x = none := by
  unfold decC
  rw [if_neg (fun e => h (F2_flags.2 e))]
theorem shape_len {k m : Nat} (h : ¬ badShape k m) : leastN k ≤ m := by
  rcases Nat.lt_or_ge m (leastN k) with h1 | h1
  · exact absurd (.inl h1) h
  · exact h1
theorem E1_0 (f : Nat) (x : List UInt8) : E1 0 f x = { zeroC 0 with en := (f % 2 == 1), bg := (f / 2 % 2 == 1), lo := (f / 4 % 2 == 1), tsn := num (x.take 4), st := num ((x.drop 4).take 2), mid := num ((x.drop 6).take 2), pp := num ((x.drop 8).take 4) } := by
  unfold E1
  rw [if_pos (.inl rfl)]
  unfold withFrag
  rw [if_pos (flagged_kindN 0 f)]
  rfl
theorem E1_64t (f : Nat) (x : List UInt8) (h : (f / 2 % 2 == 1) = true) : E1 64 f x = { zeroC 64 with en := (f % 2 == 1), bg := true, lo := (f / 4 % 2 == 1), tsn := num (x.take 4), st := num ((x.drop 4).take 2), mid := num ((x.drop 8).take 4), pp := num ((x.drop 12).take 4) } := by
  unfold E1
  rw [if_pos (.inr rfl)]
  unfold withFrag
  have hb : (flagged 64 f).bg = true := h
  rw [if_neg (by rw [flagged_kindN]; decide), if_pos hb, ← h]
  rfl
theorem E1_64f (f : Nat) (x : List UInt8) (h : (f / 2 % 2 == 1) = false) : E1 64 f x = { zeroC 64 with en := (f % 2 == 1), bg := false, lo := (f / 4 % 2 == 1), tsn := num (x.take 4), st := num ((x.drop 4).take 2), mid := num ((x.drop 8).take 4), fr := num ((x.drop 12).take 4) } := by
  unfold E1
  rw [if_pos (.inr rfl)]
  unfold withFrag
  have hb : ¬ (flagged 64 f).bg = true := by rw [show (flagged 64 f).bg = (f / 2 % 2 == 1) from rfl, h]; decide
  rw [if_neg (by rw [flagged_kindN]; decide), if_neg hb, ← h]
  rfl
def J4 (k m : Nat) : Nat := if k = 3 then m else J3 k
def E4 (k f : Nat) (x : List UInt8) : Ck := if k = 3 then withSack (E3 k f x) x else E3 k f x
def J5 (k m : Nat) : Nat := if k = 7 ∨ k = 192 ∨ k = 194 then 4 else J4 k m
def E5 (k f : Nat) (x : List UInt8) : Ck := if k = 7 ∨ k = 192 ∨ k = 194 then { E4 k f x with tsn := num (x.take 4) } else E4 k f x
def J6 (k m : Nat) : Nat := if k = 192 ∨ k = 194 then m else J5 k m
def E6 (k f : Nat) (x : List UInt8) : Ck := if k = 192 then { E5 k f x with skips := sksN ((x.length - 4) / 4) (x.drop 4) } else if k = 194 then { E5 k f x with skips := sksV ((x.length - 4) / 8) (x.drop 4) } else E5 k f x
def P6 (k : Nat) : Prop := k ≠ 3 ∧ k ≠ 192 ∧ k ≠ 194
def P7 (k : Nat) : Prop := P6 k ∧ k ≠ 1 ∧ k ≠ 2 ∧ k ≠ 6 ∧ k ≠ 9 ∧ k ≠ 130
def E7 (k f : Nat) (x : List UInt8) (ls : List Prm) : Ck := if k = 1 ∨ k = 2 ∨ k = 6 ∨ k = 9 ∨ k = 130 then { E6 k f x with ps := ls } else E6 k f x
def E8 (k f : Nat) (x : List UInt8) (ls : List Prm) : Ck := if byN k = 1 then { E7 k f x ls with body := x.drop (J1 k) } else E7 k f x ls
theorem dec_3_bad {f : Nat} {x : List UInt8} (h : ¬ (x.length - 12 = 4 * (num ((x.drop 8).take 2) + num ((x.drop 10).take 2)))) : decC 3 f x = none := by
  unfold decC
  split
  · rw [decB_3 (flagged_kindN 3 f), if_neg (fun e => h e.2)]
  · rfl
theorem dec_194_bad {f : Nat} {x : List UInt8} (h : sksOk ((x.length - 4) / 8) (x.drop 4) = false) : decC 194 f x = none := by
  unfold decC
  split
  · rw [decB_194 (flagged_kindN 194 f), if_neg (fun e => by rw [h] at e; exact absurd e.2.2 (by decide))]
  · rfl
theorem dec_ps_bad {k f e : Nat} {x : List UInt8} (hk : k = 1 ∨ k = 2 ∨ k = 6 ∨ k = 9 ∨ k = 130) (h : getL (x.drop (J3 k)) = .error e) : decC k f x = none := by
  unfold decC
  split
  rotate_left
  · rfl
  rcases hk with rfl | rfl | rfl | rfl | rfl
  · rw [decB_12 (.inl (flagged_kindN 1 f))]
    by_cases h16 : 16 ≤ x.length
    · rw [if_pos h16, show getL (x.drop 16) = .error e from h]; rfl
    · rw [if_neg h16]
  · rw [decB_12 (.inr (flagged_kindN 2 f))]
    by_cases h16 : 16 ≤ x.length
    · rw [if_pos h16, show getL (x.drop 16) = .error e from h]; rfl
    · rw [if_neg h16]
  · rw [decB_ps (by rw [flagged_kindN]; omega) (by rw [flagged_kindN]; rfl), show getL x = .error e from h]; rfl
  · rw [decB_ps (by rw [flagged_kindN]; omega) (by rw [flagged_kindN]; rfl), show getL x = .error e from h]; rfl
  · rw [decB_ps (by rw [flagged_kindN]; omega) (by rw [flagged_kindN]; rfl), show getL x = .error e from h]; rfl
/-- Where Get stands in the loops over gaps and repeats. -/
structure G4 (w V : World) (B p g g2 : Nat) (A : Option Addr) (ct : Nat) (x : List UInt8) (j : Nat) (d : Ck) (gv dv : Value) : Prop where
  tp : TapeAt V p A ct x j false
  b1 : CkBlk V g (ckArr d gv dv nilV nilV nilV)
  b2 : CkBlk V g2 zeroA
  below : Below w.heap.size w V
  pg : p < g
  g2p : g2 < p
  lo : w.heap.size ≤ g2
  gB : g < B
  size : B ≤ V.heap.size
section
variable {P : Prop} {w V V' : World} {B p g g2 : Nat} {A : Option Addr} {ct : Nat} {x : List UInt8} {j m n s f : Nat} {d : Ck} {gv dv v u : Value} {e : Ending} {t : TypeId} {xs : List Value}
theorem G4.start (h : GtS P w V p g g2 A ct x j d) (hP : P) : G4 w V V.heap.size p g g2 A ct x j d nilV nilV := by
  obtain ⟨h1, _, _⟩ := h.plain hP
  exact ⟨h.tp, h1, h.b2, h.below, h.pg, h.g2p, h.lo, h1.lt, Nat.le_refl _⟩
theorem G4.grown (h : G4 w V B p g g2 A ct x j d gv dv) {o : Option Nat} (hg : V.grownBy V' o) (ho : ∀ b, o = some b → B ≤ b) : G4 w V' B p g g2 A ct x j d gv dv := by
  have a1 := h.pg
  have a2 := h.g2p
  have a3 := h.lo
  have a4 := h.gB
  have a5 := h.size
  have ne : ∀ k, k < B → some k ≠ o := fun k hk e => by have := ho k e.symm; omega
  exact ⟨h.tp.keep (fun b hb => hg.block b (by have := h.tp.blk.lt; omega) (ne b (by omega))), Blk.grown h.b1 hg (ne g a4), Blk.grown h.b2 hg (ne g2 (by omega)), h.below.grown hg h.below.size (fun b hb => by have := ho b hb; omega), a1, a2, a3, a4, Nat.le_trans a5 hg.size⟩
theorem G4.grows (h : G4 w V B p g g2 A ct x j d gv dv) (k : Below V.heap.size V V') : G4 w V' B p g g2 A ct x j d gv dv :=
  ⟨h.tp.below k, h.b1.below k h.b1.lt, h.b2.below k h.b2.lt, h.below.trans (k.mono h.below.size), h.pg, h.g2p, h.lo, h.gB, Nat.le_trans h.size k.size⟩
theorem G4.drew (h : G4 w V B p g g2 A ct x j d gv dv) : G4 w V.drew B p g g2 A ct x j d gv dv := h.grows (Below.drew (Below.refl _ _))
theorem G4.num_ (h : G4 w V B p g g2 A ct x j d gv dv) (k : Numbered V p A ct x j m e V') : e = .returned (.int .u64 ((num ((x.drop j).take m) : Nat) : Int)) ∧ G4 w V' B p g g2 A ct x (j + m) d gv dv := by
  obtain ⟨he, ht, hg⟩ := k
  have a1 := h.pg
  have a2 := h.g2p
  have a3 := h.lo
  have a4 := h.gB
  exact ⟨he, ⟨ht, Blk.grown h.b1 hg (fun e => by injection e with e; omega), Blk.grown h.b2 hg (fun e => by injection e with e; omega), h.below.grown hg h.below.size (fun b e => by injection e with e; omega), h.pg, h.g2p, h.lo, h.gB, Nat.le_trans h.size hg.size⟩⟩
theorem num_own (k : Numbered V p A ct x j m e V') (hp : p < B) (ho : V.ownsRow B t s v n xs) : V'.ownsRow B t s v n xs :=
  (Fr.of_grown k.2.2).own ho (fun b hb e => by injection e with e; have := (ho.lt b hb).1; omega)
theorem num_rel (k : Numbered V p A ct x j m e V') {a : Nat} {i : Nat} (hi : i ≠ a) : stRel a p v i V V' :=
  (Fr.of_grown k.2.2).mono fun b _ hb => .inr ⟨hi, by injection hb⟩
theorem set_own (hg : g < B) (ho : V.ownsRow B t s v n xs) : (V.setCell ⟨g, f, none⟩ u).ownsRow B t s v n xs :=
  ((Fr.refl (fun k => k = g) V).setCell (p := ⟨g, f, none⟩) (.inl rfl) _).own ho (fun b hb e => by have := (ho.lt b hb).1; omega)
theorem G4.set_ (h : G4 w V B p g g2 A ct x j d gv dv) {gv' dv' : Value} (e : (ckArr d gv dv nilV nilV nilV).setIfInBounds f u = ckArr d gv' dv' nilV nilV nilV) : G4 w (V.setCell ⟨g, f, none⟩ u) B p g g2 A ct x j d gv' dv' := by
  have a1 := h.pg
  have a2 := h.g2p
  have a3 := h.lo
  have a4 := h.gB
  exact ⟨tape_set h.tp a1, by rw [← e]; exact Blk.set_ h.b1 f u, Blk.far h.b2 (p := ⟨g, f, none⟩) (by show g2 ≠ g; omega) _, h.below.setCell (p := ⟨g, f, none⟩) (by show _ ≤ g; omega) _, a1, a2, a3, a4, by simpa [World.setCell] using h.size⟩
theorem lay_ (h : G4 w V B p g g2 A ct x j d gv dv) {a i : Nat} (hi : i ≠ a) (ho : V.ownsRow B t s gv n xs) (t' : TypeId) (ys : Array Value) :
    stRel a p gv i V (V.alloc (.cells ys t')) ∧ Laid t' ys p gv (.slice (some ⟨V.heap.size, 0, none⟩) 1 1) (V.alloc (.cells ys t')) ∧ G4 w (V.alloc (.cells ys t')) B p g g2 A ct x j d gv dv ∧ (V.alloc (.cells ys t')).ownsRow B t s gv n xs := by
  have hb := (Below.refl V.heap.size V).alloc (Nat.le_refl _) (.cells ys t')
  refine ⟨(Fr.refl _ V).alloc _, ⟨_, rfl, Blk.new _ _ _, fun e => by have := (ho.lt _ e).2; omega, fun e => by have := h.tp.blk.lt; omega⟩, h.grows hb, (Fr.of_below hb).own ho (fun b hb' hi => by have := (ho.lt b hb').2; omega)⟩
theorem grow_ (h : G4 w V B p g g2 A ct x j d gv dv) (ho : V.ownsRow B t s gv n xs) {a n' : Nat} {u : Value} {ys : List Value} (h2 : V'.ownsRow B t s u n' ys) (hg : V.grownBy V' gv.ownBlock) :
    stRel a p gv a V V' ∧ Grew B t s p n' ys u V' ∧ G4 w V' B p g g2 A ct x j d gv dv := by
  have F : Fr (fun i => some i = gv.ownBlock) V V' := Fr.of_grown hg
  exact ⟨F.mono fun x _ hx => .inl ⟨rfl, hx⟩, ⟨h2, fun e => by have := (h2.lt p e).1; have := h.pg; have := h.gB; omega⟩, h.grown hg (fun b hb => (ho.lt b hb).1)⟩
theorem G4.done {n1 n2 c1 c2 : Nat} {A1 A2 : Option Addr} {l1 : List Gp} {l2 : List Nat} (h : G4 w V B p g g2 A ct x j d (.slice A1 n1 c1) (.slice A2 n2 c2)) (hbr : Bare d) (hok : d.ok)
    (h1 : V.ownsRow B 85 2 (.slice A1 n1 c1) n1 (gapC l1)) (h2 : V.ownsRow B 25 1 (.slice A2 n2 c2) n2 (dupC l2)) (e1 : n1 = l1.length) (e2 : n2 = l2.length)
    (k1 : n1 ≤ c1 ∧ c1 ≤ 9223372036854775807) (k2 : n2 ≤ c2 ∧ c2 ≤ 9223372036854775807) (o1 : ∀ q ∈ l1, q.1 < 65536 ∧ q.2 < 65536) (o2 : ∀ q ∈ l2, q < 4294967296) :
    GtS False w V p g g2 A ct x j { d with gaps := l1, dups := l2 } := by
  have a1 := h.pg
  have a2 := h.g2p
  have a4 := h.gB
  refine ⟨h.tp, ⟨ckArr { d with gaps := l1, dups := l2 } (.slice A1 n1 c1) (.slice A2 n2 c2) nilV nilV nilV, h.b1, fun V2 hf => ?_, fun e => e.elim⟩, h.b2, h.below, h.pg, h.g2p, h.lo⟩
  have r1 := hf.own h1 (fun b hb hi => by have := (h1.lt b hb).1; rcases hi with hi | hi | hi <;> omega)
  have r2 := hf.own h2 (fun b hb hi => by have := (h2.lt b hb).1; rcases hi with hi | hi | hi <;> omega)
  have a3 := h.lo
  clear h h1 h2
  subst e1 e2
  have e3 := hbr.skips
  have e4 := hbr.ps
  have e5 := hbr.body
  refine ⟨⟨.slice A1 l1.length c1, .slice A2 l2.length c2, nilV, nilV, nilV, rfl, ?_⟩, ⟨hok.kind, hok.tsn, hok.st, hok.mid, hok.pp, hok.fr, hok.tag, hok.win, hok.out, hok.inn, o1, o2, hok.skips, hok.ps⟩⟩
  simp only [e3, e4, e5]
  exact ⟨own_mono r1 (by omega), own_mono r2 (by omega), World.ownsRow_nil _ _ _ _, OwnPs.nil _ _, World.ownsRow_nil _ _ _ _⟩
end
/-- Where Get stands in the loop over what is skipped. -/
structure GkS (w V : World) (B q p g g2 : Nat) (A : Option Addr) (ct : Nat) (x : List UInt8) (j : Nat) (d : Ck) (As : Option Addr) (n cp : Nat) (l : List Skp) : Prop where
  tp : TapeAt V p A ct x j false
  b1 : CkBlk V g (ckArr d nilV nilV (.slice As n cp) nilV nilV)
  own : V.ownsRow B 87 3 (.slice As n cp) n (skC l)
  lt : ∀ b, (Value.slice As n cp).ownBlock = some b → b < q
  len : n = l.length
  oks : ∀ s ∈ l, s.1 < 65536 ∧ s.2.2 < 4294967296
  b2 : CkBlk V g2 zeroA
  below : Below w.heap.size w V
  pg : p < g
  g2p : g2 < p
  lo : w.heap.size ≤ g2
  gB : g < B
  Bq : B ≤ q
  qs : q ≤ V.heap.size
def posAt (w : World) (p : Nat) : Nat := (intOf ((w.cell? ⟨p, 1, none⟩).getD (.int .i64 0))).toNat
theorem posAt_tape {V : World} {p : Nat} {A : Option Addr} {ct : Nat} {x : List UInt8} {j : Nat} (h : TapeAt V p A ct x j false) : posAt V p = j := by
  unfold posAt
  rw [show V.cell? ⟨p, 1, none⟩ = some (.int .i64 (j : Int)) from h.blk.cell 1]
  simp [intOf]
section
variable {P : Prop} {w V V' : World} {B q p g g2 : Nat} {A As A' : Option Addr} {ct : Nat} {x : List UInt8} {j m n n' cp cp' : Nat} {d : Ck} {l : List Skp} {e : Ending}
theorem GkS.start (h : GtS P w V p g g2 A ct x j d) (hP : P) : GkS w V V.heap.size V.heap.size p g g2 A ct x j d none 0 0 [] := by
  obtain ⟨h1, _, _⟩ := h.plain hP
  exact ⟨h.tp, h1, World.ownsRow_nil _ _ _ _, fun b e => (by cases e), rfl, by simp, h.b2, h.below, h.pg, h.g2p, h.lo, h1.lt, Nat.le_refl _, Nat.le_refl _⟩
theorem GkS.bind_ (h : GkS w V B q p g g2 A ct x j d As n cp l) : GkS w V B V.heap.size p g g2 A ct x j d As n cp l :=
  ⟨h.tp, h.b1, h.own, fun b hb => (h.own.lt b hb).2, h.len, h.oks, h.b2, h.below, h.pg, h.g2p, h.lo, h.gB, Nat.le_trans h.Bq h.qs, Nat.le_refl _⟩
theorem GkS.grows (h : GkS w V B q p g g2 A ct x j d As n cp l) (k : Below V.heap.size V V') : GkS w V' B q p g g2 A ct x j d As n cp l :=
  ⟨h.tp.below k, h.b1.below k h.b1.lt, (Fr.of_below k).own h.own (fun b hb hi => by have := (h.own.lt b hb).2; omega), h.lt, h.len, h.oks, h.b2.below k h.b2.lt, h.below.trans (k.mono h.below.size), h.pg, h.g2p, h.lo, h.gB, h.Bq, Nat.le_trans h.qs k.size⟩
theorem GkS.num_ (h : GkS w V B q p g g2 A ct x j d As n cp l) (k : Numbered V p A ct x j m e V') : e = .returned (.int .u64 ((num ((x.drop j).take m) : Nat) : Int)) ∧ Hid (GkS w V' B q p g g2 A ct x (j + m) d As n cp l) := by
  obtain ⟨he, ht, hg⟩ := k
  have a1 := h.pg
  have a2 := h.g2p
  have a3 := h.lo
  have a4 := h.gB
  exact ⟨he, ⟨ht, Blk.grown h.b1 hg (fun e => by injection e with e; omega), (Fr.of_grown hg).own h.own (fun b hb e => by injection e with e; have := (h.own.lt b hb).1; omega), h.lt, h.len, h.oks, Blk.grown h.b2 hg (fun e => by injection e with e; omega), h.below.grown hg h.below.size (fun b e => by injection e with e; omega), h.pg, h.g2p, h.lo, h.gB, h.Bq, Nat.le_trans h.qs hg.size⟩⟩
theorem GkS.far (h : GkS w V B q p g g2 A ct x j d As n cp l) {g6 f : Nat} {u : Value} (hq : q ≤ g6) : GkS w (V.setCell ⟨g6, f, none⟩ u) B q p g g2 A ct x j d As n cp l := by
  have a1 := h.pg
  have a2 := h.g2p
  have a3 := h.lo
  have a4 := h.gB
  have a5 := h.Bq
  exact ⟨tape_set h.tp (by omega), Blk.far h.b1 (p := ⟨g6, f, none⟩) (by show g ≠ g6; omega) _, ((Fr.refl (fun k => k = g6) V).setCell (p := ⟨g6, f, none⟩) (.inl rfl) _).own h.own (fun b hb e => by have := h.lt b hb; omega), h.lt, h.len, h.oks, Blk.far h.b2 (p := ⟨g6, f, none⟩) (by show g2 ≠ g6; omega) _, h.below.setCell (p := ⟨g6, f, none⟩) (by show _ ≤ g6; omega) _, h.pg, h.g2p, h.lo, h.gB, h.Bq, by simpa [World.setCell] using h.qs⟩
theorem GkS.more {s : Skp} (h : GkS w V B q p g g2 A ct x j d As n cp l) (ho : V'.ownsRow B 87 3 (.slice A' n' cp') n' (skC l ++ [.int .u16 (s.1 : Int), .bool s.2.1, .int .u32 (s.2.2 : Int)])) (hn : n' = n + 1) (hg : V.grownBy V' (Value.slice As n cp).ownBlock) (hs : s.1 < 65536 ∧ s.2.2 < 4294967296) :
    GkS w (V'.setCell ⟨g, 16, none⟩ (.slice A' n' cp')) B (V'.setCell ⟨g, 16, none⟩ (.slice A' n' cp')).heap.size p g g2 A ct x j d A' n' cp' (l ++ [s]) := by
  have a1 := h.pg
  have a2 := h.g2p
  have a3 := h.lo
  have a4 := h.gB
  have ne : ∀ k, k < B → some k ≠ (Value.slice As n cp).ownBlock := fun k hk e => by have := (h.own.lt k e.symm).1; omega
  have hpl := h.tp.blk.lt
  have f1 := Blk.grown h.b1 hg (ne g a4)
  have f2 := Blk.grown h.b2 hg (ne g2 (by omega))
  have ft := h.tp.keep (fun b hb => hg.block b (by omega) (ne b (by omega)))
  have hb := h.below.grown hg h.below.size (fun b hb => by have := (h.own.lt b hb).1; omega)
  have hsz : (V'.setCell ⟨g, 16, none⟩ (.slice A' n' cp')).heap.size = V'.heap.size := by simp [World.setCell]
  refine ⟨tape_set ft a1, Blk.set_ f1 16 _, ?_, fun b hb => ?_, by rw [List.length_append, ← h.len]; exact hn, ?_, Blk.far f2 (p := ⟨g, 16, none⟩) (by show g2 ≠ g; omega) _, hb.setCell (p := ⟨g, 16, none⟩) (by show _ ≤ g; omega) _, a1, a2, a3, a4, ?_, Nat.le_refl _⟩
  · rw [skC_snoc]
    exact ((Fr.refl (fun k => k = g) V').setCell (p := ⟨g, 16, none⟩) (.inl rfl) _).own ho (fun b hb e => by have := (ho.lt b hb).1; omega)
  · rw [hsz]; exact (ho.lt b hb).2
  · intro r hr
    rcases List.mem_append.1 hr with hr | hr
    · exact h.oks r hr
    · rw [List.mem_singleton.1 hr]; exact hs
  · rw [hsz]; have := h.Bq; have := h.qs; have := hg.size; omega
theorem GkS.done (h : GkS w V B q p g g2 A ct x j d As n cp l) (hbr : Bare d) (hok : d.ok) (hc : n ≤ cp) (hm : cp ≤ 9223372036854775807) : GtS False w V p g g2 A ct x j { d with skips := l } := by
  have a1 := h.pg
  have a2 := h.g2p
  have a4 := h.gB
  refine ⟨h.tp, ⟨ckArr { d with skips := l } nilV nilV (.slice As n cp) nilV nilV, h.b1, fun V2 hf => ?_, fun e => e.elim⟩, h.b2, h.below, h.pg, h.g2p, h.lo⟩
  have ho2 := hf.own h.own (fun b hb hi => by have := (h.own.lt b hb).1; rcases hi with hi | hi | hi <;> omega)
  have hl := h.len
  have hoks := h.oks
  have a3 := h.lo
  clear h
  subst hl
  have e1 := hbr.gaps
  have e2 := hbr.dups
  have e4 := hbr.ps
  have e5 := hbr.body
  refine ⟨⟨nilV, nilV, .slice As l.length cp, nilV, nilV, rfl, ?_⟩, ⟨hok.kind, hok.tsn, hok.st, hok.mid, hok.pp, hok.fr, hok.tag, hok.win, hok.out, hok.inn, hok.gaps, hok.dups, hoks, hok.ps⟩⟩
  simp only [e1, e2, e4, e5]
  exact ⟨World.ownsRow_nil _ _ _ _, World.ownsRow_nil _ _ _ _, own_mono ho2 (by omega), OwnPs.nil _ _, World.ownsRow_nil _ _ _ _⟩
end
theorem sksOk_le {l : List UInt8} {k : Nat} : ∀ {K : Nat}, sksOk K l = true → k ≤ K → sksOk k l = true
  | 0, h, hk => by obtain rfl : k = 0 := by omega
                   exact h
  | K + 1, h, hk => by
    rcases Nat.lt_or_ge k (K + 1) with h1 | h1
    · rw [sksOk_snoc, Bool.and_eq_true] at h
      exact sksOk_le h.1 (by omega)
    · obtain rfl : k = K + 1 := by omega
      exact h
theorem sksOk_bad {l : List UInt8} {k K : Nat} (h : ¬ num (((l.drop (8 * k)).drop 2).take 2) ≤ 1) (hk : k < K) : sksOk K l = false := by
  rcases hs : sksOk K l with _ | _
  · rfl
  · have := sksOk_le hs (show k + 1 ≤ K by omega)
    rw [sksOk_snoc, Bool.and_eq_true, decide_eq_true_eq] at this
    exact absurd this.2 h
theorem shape_mod {k m : Nat} (h : ¬ badShape k m) (hb : 1 < byN k) : (m - leastN k) % byN k = 0 := by
  rcases Nat.eq_zero_or_pos ((m - leastN k) % byN k) with h1 | h1
  · exact h1
  · exact absurd (.inr (.inr ⟨hb, by omega⟩)) h
theorem ps_state {P : Prop} {w V V' : World} {p g g2 : Nat} {A : Option Addr} {ct : Nat} {x : List UInt8} {j : Nat} {d : Ck} {ls : List Prm} {Ap : Option Addr} {np cp : Nat} (h : GtS P w V p g g2 A ct x j d) (hP : P) (hb : Below V.heap.size V V') (ho : OwnPs V' V.heap.size (.slice Ap np cp) ls) (hn : np = ls.length) (hc : np ≤ cp) (hm : cp ≤ 9223372036854775807) :
    CkBlk V' g (ckArr d nilV nilV nilV nilV nilV) ∧ GtS False w (V'.setCell ⟨g, 17, none⟩ (.slice Ap np cp)) p g g2 A ct x j { d with ps := ls } := by
  obtain ⟨h1, hbr, hok⟩ := h.plain hP
  have hg := h1.below hb h1.lt
  have hg2 := h.b2.below hb h.b2.lt
  have hgl := h1.lt
  have hpg := h.pg
  have hgp := h.g2p
  refine ⟨hg, tape_set (h.tp.below hb) h.pg, ⟨ckArr { d with ps := ls } nilV nilV nilV (.slice Ap np cp) nilV, Blk.set_ hg 17 _, fun V2 hf => ?_, fun e => e.elim⟩, Blk.far hg2 (p := ⟨g, 17, none⟩) (by show g2 ≠ g; omega) _, (h.below.trans (hb.mono h.below.size)).setCell (p := ⟨g, 17, none⟩) (by have := h.lo; show _ ≤ g; omega) _, h.pg, h.g2p, h.lo⟩
  have hf0 : Fr (fun k => k = g ∨ k = g2 ∨ k = p) V' V2 := ((Fr.refl (fun k => k = g ∨ k = g2 ∨ k = p) V').setCell (p := ⟨g, 17, none⟩) (.inl (.inl rfl)) _).same hf
  have ho2 := ho.fr hf0 (fun i hi _ => by rcases hi with hi | hi | hi <;> omega)
  obtain ⟨xs, h3, h4⟩ := id ho2
  have okk : ∀ q ∈ ls, q.1 < 65536 := fun q hq => by
    obtain ⟨k, hk, rfl⟩ := List.mem_iff_getElem.1 hq
    exact (h4 k _ (List.getElem?_eq_getElem hk)).1
  subst hn
  have e1 := hbr.gaps
  have e2 := hbr.dups
  have e3 := hbr.skips
  have e5 := hbr.body
  refine ⟨⟨nilV, nilV, nilV, .slice Ap ls.length cp, nilV, rfl, ?_⟩, ⟨hok.kind, hok.tsn, hok.st, hok.mid, hok.pp, hok.fr, hok.tag, hok.win, hok.out, hok.inn, hok.gaps, hok.dups, hok.skips, okk⟩⟩
  simp only [e1, e2, e3, e5]
  exact ⟨World.ownsRow_nil _ _ _ _, World.ownsRow_nil _ _ _ _, World.ownsRow_nil _ _ _ _, ho2.mono h.below.size, World.ownsRow_nil _ _ _ _⟩
theorem body_state {P : Prop} {w V V' : World} {p g g2 : Nat} {A : Option Addr} {ct : Nat} {x y : List UInt8} {j : Nat} {d : Ck} {Ab : Option Addr} {nb cb : Nat} (h : GtS P w V p g g2 A ct x j d) (hP : P) (hb : Below V.heap.size V V') (ho : V'.ownsRow V.heap.size 5 1 (.slice Ab nb cb) nb (u8s y)) (hn : nb = y.length) (hc : nb ≤ cb) (hm : cb ≤ 9223372036854775807) :
    CkBlk V' g (ckArr d nilV nilV nilV nilV nilV) ∧ GtS False w (V'.setCell ⟨g, 18, none⟩ (.slice Ab nb cb)) p g g2 A ct x j { d with body := y } := by
  obtain ⟨h1, hbr, hok⟩ := h.plain hP
  have hg := h1.below hb h1.lt
  have hg2 := h.b2.below hb h.b2.lt
  have hgl := h1.lt
  have hpg := h.pg
  have hgp := h.g2p
  refine ⟨hg, tape_set (h.tp.below hb) h.pg, ⟨ckArr { d with body := y } nilV nilV nilV nilV (.slice Ab nb cb), Blk.set_ hg 18 _, fun V2 hf => ?_, fun e => e.elim⟩, Blk.far hg2 (p := ⟨g, 18, none⟩) (by show g2 ≠ g; omega) _, (h.below.trans (hb.mono h.below.size)).setCell (p := ⟨g, 18, none⟩) (by have := h.lo; show _ ≤ g; omega) _, h.pg, h.g2p, h.lo⟩
  have hf0 : Fr (fun k => k = g ∨ k = g2 ∨ k = p) V' V2 := ((Fr.refl (fun k => k = g ∨ k = g2 ∨ k = p) V').setCell (p := ⟨g, 18, none⟩) (.inl (.inl rfl)) _).same hf
  have ho2 := hf0.own ho (fun b hb' hi => by have := (ho.lt b hb').1; rcases hi with hi | hi | hi <;> omega)
  subst hn
  have e1 := hbr.gaps
  have e2 := hbr.dups
  have e3 := hbr.skips
  have e4 := hbr.ps
  refine ⟨⟨nilV, nilV, nilV, nilV, .slice Ab y.length cb, rfl, ?_⟩, ⟨hok.kind, hok.tsn, hok.st, hok.mid, hok.pp, hok.fr, hok.tag, hok.win, hok.out, hok.inn, hok.gaps, hok.dups, hok.skips, hok.ps⟩⟩
  simp only [e1, e2, e3, e4]
  exact ⟨World.ownsRow_nil _ _ _ _, World.ownsRow_nil _ _ _ _, World.ownsRow_nil _ _ _ _, OwnPs.nil _ _, own_mono ho2 h.below.size⟩
theorem lacks_body {c : Ck} (h : c.body ≠ []) : lacks c = false := by
  unfold lacks
  cases hb : c.body with
  | nil => exact absurd hb h
  | cons _ _ => simp
theorem drop_ne {x : List UInt8} {k : Nat} (h : k < x.length) : x.drop k ≠ [] := fun e => by
  have := congrArg List.length e
  rw [List.length_drop] at this
  simp at this
  omega
theorem dec_some {k f : Nat} {x : List UInt8} {c : Ck} (hf : f = flagsN (flagged k f)) (h : decB (flagged k f) x = some c) (hl : lacks c = false) : decC k f x = some c := by
  unfold decC
  rw [if_pos hf, h]
  simp only
  rw [hl]
  rfl
theorem dec_final {k f : Nat} {x : List UInt8} {ls : List Prm} (hk : known k = true) (hf : f = flagsN (flagged k f)) (hs : ¬ badShape k x.length) (h64 : k = 64 → num ((x.drop 6).take 2) = 0) (h3 : k = 3 → x.length - 12 = 4 * (num ((x.drop 8).take 2) + num ((x.drop 10).take 2)))
    (h194 : k = 194 → sksOk ((x.length - 4) / 8) (x.drop 4) = true) (hps : (k = 1 ∨ k = 2 ∨ k = 6 ∨ k = 9 ∨ k = 130) → getL (x.drop (J3 k)) = .ok ls) : decC k f x = some (E8 k f x ls) := by
  have hkd := flagged_kindN k f
  have hl := shape_len hs
  have h0 : byN k = 0 → x.length = leastN k := fun h => by
    rcases Nat.lt_or_ge (leastN k) x.length with h1 | h1
    · exact absurd (.inr (.inl ⟨h, h1⟩)) hs
    · omega
  have hm : 1 < byN k → (x.length - leastN k) % byN k = 0 := fun h => by
    rcases Nat.eq_zero_or_pos ((x.length - leastN k) % byN k) with h1 | h1
    · exact h1
    · exact absurd (.inr (.inr ⟨h, by omega⟩)) hs
  refine dec_some hf ?_ ?_
  · rcases kinds hk with rfl | rfl | rfl | rfl | rfl | rfl | rfl | rfl | rfl | rfl | rfl | rfl | rfl | rfl | rfl | rfl | rfl
    · rw [decB_0 hkd, if_pos (by have : 13 ≤ x.length := hl; omega)]
      have e : E8 0 f x ls = { E1 0 f x with body := x.drop 12 } := rfl
      rw [e, E1_0]
      unfold withFrag
      rw [if_pos hkd]
      rfl
    · rw [decB_12 (.inl hkd), if_pos (show 16 ≤ x.length from hl), show getL (x.drop 16) = .ok ls from hps (.inl rfl)]; rfl
    · rw [decB_12 (.inr hkd), if_pos (show 16 ≤ x.length from hl), show getL (x.drop 16) = .ok ls from hps (.inr (.inl rfl))]; rfl
    · rw [decB_3 hkd, if_pos ⟨hl, h3 rfl⟩]; rfl
    · rw [decB_4 (.inl hkd)]; rfl
    · rw [decB_4 (.inr (.inl hkd))]; rfl
    · rw [decB_ps (by rw [hkd]; omega) (by rw [hkd]; rfl), show getL x = .ok ls from hps (by omega)]; rfl
    · rw [decB_7 hkd, if_pos (show x.length = 4 from h0 rfl)]; rfl
    · rw [decB_no (by rw [hkd]; decide) (by rw [hkd]; decide) (by rw [hkd]; decide) (by rw [hkd]; decide) (by rw [hkd]; decide) (by rw [hkd]; decide) (by rw [hkd]; decide) (by rw [hkd]; decide) (by rw [hkd]; decide), if_pos (List.eq_nil_of_length_eq_zero (h0 rfl))]; rfl
    · rw [decB_ps (by rw [hkd]; omega) (by rw [hkd]; rfl), show getL x = .ok ls from hps (by omega)]; rfl
    · rw [decB_4 (.inr (.inr hkd))]; rfl
    · rw [decB_no (by rw [hkd]; decide) (by rw [hkd]; decide) (by rw [hkd]; decide) (by rw [hkd]; decide) (by rw [hkd]; decide) (by rw [hkd]; decide) (by rw [hkd]; decide) (by rw [hkd]; decide) (by rw [hkd]; decide), if_pos (List.eq_nil_of_length_eq_zero (h0 rfl))]; rfl
    · rw [decB_no (by rw [hkd]; decide) (by rw [hkd]; decide) (by rw [hkd]; decide) (by rw [hkd]; decide) (by rw [hkd]; decide) (by rw [hkd]; decide) (by rw [hkd]; decide) (by rw [hkd]; decide) (by rw [hkd]; decide), if_pos (List.eq_nil_of_length_eq_zero (h0 rfl))]; rfl
    · rw [decB_64 hkd, if_pos ⟨by have : 17 ≤ x.length := hl; omega, h64 rfl⟩]
      have e : E8 64 f x ls = { E1 64 f x with body := x.drop 16 } := rfl
      rw [e]
      unfold withFrag
      rw [if_neg (by rw [hkd]; decide)]
      cases hb : (f / 2 % 2 == 1) with
      | true =>
        have hb2 : (flagged 64 f).bg = true := hb
        rw [if_pos hb2, E1_64t f x hb, ← hb]; rfl
      | false =>
        have hb2 : ¬ (flagged 64 f).bg = true := by rw [show (flagged 64 f).bg = (f / 2 % 2 == 1) from rfl, hb]; decide
        rw [if_neg hb2, E1_64f f x hb, ← hb]; rfl
    · rw [decB_ps (by rw [hkd]; omega) (by rw [hkd]; rfl), show getL x = .ok ls from hps (by omega)]; rfl
    · rw [decB_192 hkd, if_pos ⟨hl, hm (by decide)⟩]; rfl
    · rw [decB_194 hkd, if_pos ⟨hl, hm (by decide), h194 rfl⟩]; rfl
  · rcases kinds hk with rfl | rfl | rfl | rfl | rfl | rfl | rfl | rfl | rfl | rfl | rfl | rfl | rfl | rfl | rfl | rfl | rfl
    · exact lacks_body (show x.drop 12 ≠ [] from drop_ne hl)
    · exact lacks_no rfl
    · exact lacks_no rfl
    · exact lacks_no rfl
    · exact lacks_no rfl
    · exact lacks_no rfl
    · exact lacks_no rfl
    · exact lacks_no rfl
    · exact lacks_no rfl
    · exact lacks_no rfl
    · exact lacks_no rfl
    · exact lacks_no rfl
    · exact lacks_no rfl
    · exact lacks_body (show x.drop 16 ≠ [] from drop_ne hl)
    · exact lacks_no rfl
    · exact lacks_no rfl
    · exact lacks_no rfl
theorem tail_byt {W w : World} {ad : Addr} {b x : List UInt8} {cap n m mm jv : Nat} (h : Byt W w.heap.size (some ad) b) (hx : x = (b.drop 4).take mm) (hn : n = b.length) (hm : 4 + mm ≤ n) (hj : jv ≤ mm) (hnc : n ≤ cap) : ∀ A', (A' = (some ad).map (·.add (4 + jv)) ∨ cap = 4 + jv) → Byt W w.heap.size A' (x.drop jv) := fun A' h' => by
  have e : x.drop jv = (b.drop (4 + jv)).take (mm - jv) := by rw [hx, List.drop_take, List.drop_drop]
  rw [e]
  rcases h' with h' | h'
  · subst h'
    exact (h.cut_map (by omega)).take_ _
  · have : b.drop (4 + jv) = [] := List.drop_of_length_le (by omega)
    rw [this]
    exact ⟨by simp [u8s], fun h => absurd h (by simp)⟩
set_option maxHeartbeats 8000000 in
set_option maxRecDepth 100000 in
theorem rget_k {w : World} {A : Option Addr} {b : List UInt8} {n cap : Nat} (hn : n = b.length) (hx : n ≤ 200000) (hnc : n ≤ cap) (hcm : cap ≤ 9223372036854775807) (hy : Byt w w.heap.size A b) :
    Calls Try.prog 12 #[.slice A n cap] w (RGetDone w b) := by
  obtain ⟨i0, hi0, hz0, hz1, hz2⟩ := info_parts3 u8_info
  have HN := Lib.hid hn
  have HX := Lib.hid hy
  clear hn hy
  go_enter Try.func12, Try.ntmps12
  go_upto_region 1 with fail
  obtain ⟨W0, hW0⟩ : ∃ W0, W0 = w.alloc (.cells zeroA 32) := ⟨_, rfl⟩
  have hW0' : W0 = w.alloc (.cells #[.int .u8 0, .bool false, .bool false, .bool false, .bool false, .int .u32 0, .int .u16 0, .int .u32 0, .int .u32 0, .int .u32 0, .int .u32 0, .int .u32 0, .int .u16 0, .int .u16 0, .slice none 0 0, .slice none 0 0, .slice none 0 0, .slice none 0 0, .slice none 0 0] 32) := hW0
  rw [← hW0']
  obtain ⟨g2, hg2⟩ : ∃ g, g = w.heap.size := ⟨_, rfl⟩
  rw [← hg2]
  have HG2 : Hid (CkBlk W0 g2 zeroA) := by rw [hW0, hg2]; exact Blk.new _ _ _
  have HB0 : Hid (Below w.heap.size w W0) := by rw [hW0]; exact (Below.refl _ w).alloc (Nat.le_refl _) _
  have hlo2 : w.heap.size ≤ g2 := by omega
  have ERR : Hid (∀ (V : World) (k : Nat) (z : Array Value), Below w.heap.size w V → CkBlk V g2 z → getC b = .error k → CkBlk (V.setRow g2 zeroA) g2 zeroA ∧ RGetDone w b (.returned (.tuple #[.agg zeroA, .int .i64 0, .int .i64 (k : Int)])) (V.setRow g2 zeroA)) :=
    fun V k z hb h2 he => ⟨setRow_blk h2, below_fr hb (setRow_fr V g2 zeroA) (Nat.le_refl _) (fun i e => by have e' : i = g2 := e; omega), .inr ⟨k, he, rfl⟩⟩
  have ERR : Hid (∀ (V : World) (k : Nat), Below w.heap.size w V → CkBlk V g2 zeroA → getC b = .error k → CkBlk (V.setRow g2 zeroA) g2 zeroA ∧ RGetDone w b (.returned (.tuple #[.agg zeroA, .int .i64 0, .int .i64 (k : Int)])) (V.setRow g2 zeroA)) := fun V k hb h2 he => ERR.out V k zeroA hb h2 he
  clear hW0 hW0' hg2
  by_cases h4 : (n : Int) < 4
  · have HE : Hid (getC b = .error 40) := getC_short (by rw [← HN.out]; omega)
    have HZ := Lib.hid (ERR.out W0 40 HB0.out HG2.out HE.out)
    go_wp2_with (first | refine wpList_build_none rfl 32 rfl _ built_none ?_ | refine wpList_store_row rfl 32 _ _ rfl g2 zeroA rfl rfl 32 _ HG2.out chunk_info rfl (ck_one _) ?_)
    (try simp only [Exit.inBlock, Exit.then])
    refine bodyPost_ret (res_ck rfl _ _ g2 _ rfl HZ.out.1 rfl) rfl ?_
    exact HZ.out.2
  have HN4 : Hid (¬ b.length < 4) := by rw [← HN.out]; show ¬ _; omega
  have hb0 : 0 < b.length := by rw [← HN.out]; omega
  have hb1 : 1 < b.length := by rw [← HN.out]; omega
  have hb2 : 2 < b.length := by rw [← HN.out]; omega
  have hb3 : 3 < b.length := by rw [← HN.out]; omega
  rcases A with _ | ad
  · exact absurd (HX.out.at_byte hb0) (by rintro ⟨ad, h, _⟩; cases h)
  have hc0 : w.cell? ad = some (.int .u8 ((b[0]).toNat : Int)) := byte_at' (k := 0) HX.out hb0
  have hc1 := byte_at' HX.out hb1
  have hc2 := byte_at' HX.out hb2
  have hc3 := byte_at' HX.out hb3
  rw [add_lit _ (by omega)] at hc1 hc2 hc3
  have had : ad.block < w.heap.size := World.block_lt_of_cell? w _ hc0
  obtain ⟨kd, hkd⟩ : ∃ k, k = (b[0]).toNat := ⟨_, rfl⟩
  obtain ⟨f, hf⟩ : ∃ k, k = (b[1]).toNat := ⟨_, rfl⟩
  obtain ⟨y2, hy2⟩ : ∃ k, k = (b[2]).toNat := ⟨_, rfl⟩
  obtain ⟨y3, hy3⟩ : ∃ k, k = (b[3]).toNat := ⟨_, rfl⟩
  have hkb : kd < 256 := by rw [hkd]; exact (b[0]).toNat_lt
  have hfb : f < 256 := by rw [hf]; exact (b[1]).toNat_lt
  have hy2b : y2 < 256 := by rw [hy2]; exact (b[2]).toNat_lt
  have hy3b : y3 < 256 := by rw [hy3]; exact (b[3]).toNat_lt
  have HKD : Hid (kd = num (b.take 1)) := by rw [num_one b (by omega), hkd]; rfl
  have HF : Hid (f = num ((b.drop 1).take 1)) := by rw [num_one _ (by rw [List.length_drop]; omega), List.getElem_drop, hf]; rfl
  have HM2 : Hid (256 * y2 + y3 = num ((b.drop 2).take 2)) := by rw [num_two _ (by rw [List.length_drop]; omega), List.getElem_drop, List.getElem_drop, hy2, hy3]; rfl
  rw [← hkd] at hc0
  rw [← hf] at hc1
  rw [← hy2] at hc2
  rw [← hy3] at hc3
  have k0 : W0.cell? ad = some (.int .u8 (kd : Int)) := (HB0.out.cell had).trans hc0
  have k1 : W0.cell? ⟨ad.block, ad.off + 1, none⟩ = some (.int .u8 (f : Int)) := (HB0.out.cell (p := ⟨ad.block, ad.off + 1, none⟩) had).trans hc1
  have w1 : IntKind.i64.wrap (kd : Int) = (kd : Int) := IntWalk.i64_in _ (by omega)
  have n0 : (0 : Int) < (n : Int) := by omega
  have n1 : (1 : Int) < (n : Int) := by omega
  have n2 : (2 : Int) < (n : Int) := by omega
  have n3 : (3 : Int) < (n : Int) := by omega
  clear hkd hf hy2 hy3 hb0 hb1 hb2 hb3 hc0 hc1
  go_upto_region 3 with fail
  go_quiet (fail)
  obtain ⟨W1, hW1⟩ : ∃ W, W = W0.drewN nq := ⟨_, rfl⟩
  have HB1 : Hid (Below w.heap.size w W1) := by rw [hW1]; exact below_drewN HB0.out _
  have HG21 : Hid (CkBlk W1 g2 zeroA) := by rw [hW1]; exact HG2.out.drewN _
  rw [← hW1]
  have k2 : W1.cell? ⟨ad.block, ad.off + 2, none⟩ = some (.int .u8 (y2 : Int)) := (HB1.out.cell (p := ⟨ad.block, ad.off + 2, none⟩) had).trans hc2
  have k3 : W1.cell? ⟨ad.block, ad.off + 3, none⟩ = some (.int .u8 (y3 : Int)) := (HB1.out.cell (p := ⟨ad.block, ad.off + 3, none⟩) had).trans hc3
  have w2 : IntKind.i64.wrap (y2 : Int) = (y2 : Int) := IntWalk.i64_in _ (by omega)
  have w3 : IntKind.i64.wrap (y3 : Int) = (y3 : Int) := IntWalk.i64_in _ (by omega)
  clear hW1 k0 k1 w1 HB0 HG2 hc2 hc3
  go_upto_region 4 with fail
  go_quiet (fail)
  obtain ⟨W2, hW2⟩ : ∃ W, W = W1.drewN nq := ⟨_, rfl⟩
  have HB2 : Hid (Below w.heap.size w W2) := by rw [hW2]; exact below_drewN HB1.out _
  have HG22 : Hid (CkBlk W2 g2 zeroA) := by rw [hW2]; exact HG21.out.drewN _
  obtain ⟨m, hm⟩ : ∃ m, m = 256 * y2 + y3 := ⟨_, rfl⟩
  rw [← hW2, show (256 : Int) * (y2 : Int) + (y3 : Int) = (m : Int) by omega]
  rw [← hm] at HM2
  have hmb : m ≤ 65535 := by omega
  clear hW2 hm k2 k3 w2 w3 HB1 HG21 hy2b hy3b n0 n1 n2 n3
  go_upto_region 6 with fail
  obtain ⟨al, hal⟩ : ∃ al, al = (m + 3) / 4 * 4 := ⟨_, rfl⟩
  have HAL := Lib.hid hal
  have hma : m ≤ al ∧ al ≤ m + 3 := by omega
  rw [show ((m : Int) + 3) / 4 * 4 = (al : Int) by omega]
  clear hal
  obtain ⟨ha1, ha2⟩ := hma
  by_cases hm4 : (m : Int) < 4
  · have HE : Hid (getC b = .error 42) := getC_small HN4.out (by rw [← HM2.out]; omega)
    have HZ := Lib.hid (ERR.out W2 42 HB2.out HG22.out HE.out)
    go_wp2_with (first | refine wpList_build_none rfl 32 rfl _ built_none ?_ | refine wpList_store_row rfl 32 _ _ rfl g2 zeroA rfl rfl 32 _ HG22.out chunk_info rfl (ck_one _) ?_)
    (try simp only [Exit.inBlock, Exit.then])
    refine bodyPost_ret (res_ck rfl _ _ g2 _ rfl HZ.out.1 rfl) rfl ?_
    exact HZ.out.2
  have HM4 : Hid (¬ m < 4) := by show ¬ _; omega
  by_cases hcut : (n : Int) < (al : Int)
  · have HE : Hid (getC b = .error 40) := getC_cut HN4.out HM2.out HM4.out (by rw [← HN.out, ← HAL.out]; omega)
    have HZ := Lib.hid (ERR.out W2 40 HB2.out HG22.out HE.out)
    go_wp2_with (first | refine wpList_build_none rfl 32 rfl _ built_none ?_ | refine wpList_store_row rfl 32 _ _ rfl g2 zeroA rfl rfl 32 _ HG22.out chunk_info rfl (ck_one _) ?_)
    (try simp only [Exit.inBlock, Exit.then])
    refine bodyPost_ret (res_ck rfl _ _ g2 _ rfl HZ.out.1 rfl) rfl ?_
    exact HZ.out.2
  have HNC : Hid (¬ b.length < (m + 3) / 4 * 4) := by rw [← HN.out, ← HAL.out]; show ¬ _; omega
  have han : al ≤ n := by omega
  have hm4n : 4 ≤ m := by omega
  clear hcut hm4 h4
  go_upto_region 10 with (fail)
  have e3 : (m : Int) ≤ (al : Int) := by omega
  have e4 : (al : Int) ≤ (cap : Int) := by omega
  have e5 : (0 : Int) ≤ (m : Int) := by omega
  have HX2 : Hid (Byt W2 w.heap.size (some ad) b) := HX.out.below HB2.out
  obtain ⟨z, hz⟩ : ∃ z, z = (b.drop m).take (al - m) := ⟨_, rfl⟩
  have HZL : Hid (z.length = al - m) := by rw [hz, List.length_take, List.length_drop, ← HN.out]; show _ = _; omega
  have HZ := Lib.hid hz
  obtain ⟨pn, hpn⟩ : ∃ pn, pn = al - m := ⟨_, rfl⟩
  have hpn3 : pn ≤ 3 := by omega
  rw [← hpn] at HZL
  have HPN := Lib.hid hpn
  have hpni : (al : Int) - (m : Int) = (pn : Int) := by omega
  clear hz
  go_cut [64, 65, 66] from 59 to 66 (fun s64 s65 s66 wx => ∃ A' c', s64 = .slice A' pn c' ∧ s65 = .int .i64 (pn : Int) ∧ s66 = .int .i64 0 ∧ Hid (Byt W2 w.heap.size A' z) ∧ wx = W2)
  case first =>
    have HCM : Hid (∀ A', (A' = (some ad).map (·.add m) ∨ cap = m) → Byt W2 w.heap.size A' z) := fun A' h => by
      rw [HZ.out]
      rcases h with h | h
      · subst h
        exact (HX2.out.cut_map (by rw [← HN.out]; omega)).take_ _
      · have : b.drop m = [] := List.drop_of_length_le (by rw [← HN.out]; omega)
        rw [this]
        exact ⟨by simp [u8s], fun h => absurd h (by simp)⟩
    by_cases hcjm : cap = m
    · obtain rfl : al = m := by omega
      subst hcjm
      go_wp2_with fail
      go_meet
      refine ⟨some ad, 0, ?_, ?_, rfl, HCM.out _ (.inr (by first | rfl | trivial)), rfl⟩
      · first | rfl | (congr 1) <;> omega
      · first | rfl | (congr 1; omega)
    · go_wp2_with fail
      go_meet
      refine ⟨some (ad.add m), cap - m, ?_, ?_, rfl, HCM.out _ (.inl rfl), rfl⟩
      · first | rfl | (congr 1) <;> omega
      · first | rfl | (congr 1; omega)
  case rest =>
  obtain ⟨A', c', rfl, rfl, rfl, HZB, hwc⟩ := hcut
  rw [hwc]
  clear hwc e3 e4 e5 hpn hpni
  go_upto_block 0 with (fail)
  go_cut [] from 66 to 73 (fun wx => Hid (z.any (· != 0) = false) ∧ wx = W2)
  case first =>
    go_wp2_with fail
    go_loopw [10, 66] (fun _ i wr2 => ∃ k : Nat, k ≤ pn ∧ i = .int .i64 k ∧ Hid ((z.take k).any (· != 0) = false) ∧ W2 = wr2) (fun _ i _ => pn - (intOf i).toNat)
    case atStart => exact ⟨0, by omega, rfl, rfl, rfl⟩
    case round =>
      obtain ⟨k, hk, rfl, HAZ, rfl⟩ := hrel
      by_cases hlt : k < pn
      · have hkz : k < z.length := by rw [HZL.out]; exact hlt
        obtain ⟨az, hAz, _, hcz⟩ := HZB.out.at_byte hkz
        subst hAz
        obtain ⟨yz, hyz⟩ : ∃ y, y = z[k] := ⟨_, rfl⟩
        rw [← hyz] at hcz
        have byz := u8_bd yz
        by_cases hzz : yz = 0
        · have HY0 : Hid (z[k] = 0) := by rw [← hyz]; exact hzz
          rw [hzz] at hcz
          have hcz : W2.cell? (az.add k) = some (.int .u8 0) := hcz
          have HA2 : Hid ((z.take (k + 1)).any (· != 0) = false) := any_take hkz HAZ.out HY0.out
          clear hzz hyz byz
          go_wp2_with fail
          go_roundw
          case rel => exact ⟨k + 1, by omega, by go_num, HA2, by first | rfl | trivial⟩
          case measure => simp [intOf]; omega
        · have hne : ((yz.toNat : Int) != 0) = true := by
            have : yz.toNat ≠ 0 := fun h => hzz (UInt8.toNat_inj.1 (by rw [h]; rfl))
            simp; omega
          have HE : Hid (getC b = .error 42) := getC_pad HN4.out HM2.out HM4.out HNC.out (by have h1 := any_at hkz (by rw [← hyz]; exact hzz); rw [HZ.out] at h1; rw [← HAL.out]; exact h1)
          clear hzz hyz
          have HZ := Lib.hid (ERR.out W2 42 HB2.out HG22.out HE.out)
          go_wp2_with (first | refine wpList_build_none rfl 32 rfl _ built_none ?_ | refine wpList_store_row rfl 32 _ _ rfl g2 zeroA rfl rfl 32 _ HG22.out chunk_info rfl (ck_one _) ?_)
          (try simp only [Exit.inBlock, Exit.then])
          refine bodyPost_ret (res_ck rfl _ _ g2 _ rfl HZ.out.1 rfl) rfl ?_
          exact HZ.out.2
      · obtain rfl : k = pn := by omega
        have HA2 : Hid (z.any (· != 0) = false) := by have := HAZ.out; rw [List.take_of_length_le (by rw [HZL.out]; exact Nat.le_refl _)] at this; exact this
        go_wp2_with fail
        go_meet
        exact ⟨HA2, rfl⟩
  case rest =>
  obtain ⟨HAZ, hwc⟩ := hcut
  rw [hwc]
  clear hwc
  have HPZ : Hid (((b.drop m).take ((m + 3) / 4 * 4 - m)).any (· != 0) = false) := by rw [← HAL.out]; have := HAZ.out; rw [HZ.out] at this; exact this
  clear HAZ HZB HZ HZL HPN hpn3
  go_wp2_with fail
  refine (rknown_any kd hkb W2).mono ?_
  rintro e V ⟨rfl, rfl⟩
  by_cases hK : known kd = true
  rotate_left
  · have hK : known kd = false := by simpa using hK
    have HE : Hid (getC b = .error 60) := getC_unknown HN4.out HM2.out HM4.out HNC.out HPZ.out (by rw [← HKD.out]; exact hK)
    rw [hK]
    clear hK
    have HZ := Lib.hid (ERR.out W2 60 HB2.out HG22.out HE.out)
    go_wp2_with (first | refine wpList_build_none rfl 32 rfl _ built_none ?_ | refine wpList_store_row rfl 32 _ _ rfl g2 zeroA rfl rfl 32 _ HG22.out chunk_info rfl (ck_one _) ?_)
    (try simp only [Exit.inBlock, Exit.then])
    refine bodyPost_ret (res_ck rfl _ _ g2 _ rfl HZ.out.1 rfl) rfl ?_
    exact HZ.out.2
  have HK := Lib.hid hK
  rw [hK]
  clear hK
  obtain ⟨mm, hmm⟩ : ∃ k, k = m - 4 := ⟨_, rfl⟩
  have HMM := Lib.hid hmm
  obtain ⟨x, hx⟩ : ∃ x, x = (b.drop 4).take mm := ⟨_, rfl⟩
  have HXL : Hid (mm = x.length) := by rw [hx, List.length_take, List.length_drop, ← HN.out]; show _ = _; omega
  have HXE := Lib.hid hx
  have HRES : Hid (getC b = match decC kd f x with | none => .error 42 | some c => .ok (c, al)) := by rw [getC_rest HN4.out HM2.out HM4.out HNC.out HPZ.out (by rw [← HKD.out]; exact HK.out), ← HKD.out, ← HF.out, HXE.out, HMM.out, ← HAL.out]; cases decC kd f ((b.drop 4).take (m - 4)) <;> rfl
  have HE42 : Hid (decC kd f x = none → getC b = .error 42) := fun h => by rw [HRES.out, h]
  have hm4i : (m : Int) - 4 = (mm : Int) := by omega
  have hmm6 : mm ≤ 65535 := by omega
  clear hmm hx
  go_upto_region 18 with fail
  go_wp2_with fail
  refine (rshape_any kd HK.out W2).mono ?_
  rintro e V ⟨rfl, rfl⟩
  obtain ⟨L, hL⟩ : ∃ L, L = leastN kd := ⟨_, rfl⟩
  obtain ⟨Y, hY⟩ : ∃ Y, Y = byN kd := ⟨_, rfl⟩
  rw [← hL, ← hY]
  have HLE := Lib.hid hL
  have HYE := Lib.hid hY
  have hL17 : L ≤ 17 := by rw [hL]; unfold leastN; repeat (first | omega | split)
  have hY8 : Y ≤ 8 := by rw [hY]; unfold byN; repeat (first | omega | split)
  clear hL hY
  go_upto_region 20 with fail
  clear hm4i
  go_cut [108] from 108 to 108 (fun s wx => ∃ r, s = .bool r ∧ Hid (r = decide (badShape kd mm)) ∧ wx = W2)
  case first =>
    have HBS : Hid (badShape kd mm ↔ (mm < L ∨ (Y = 0 ∧ L < mm) ∨ (1 < Y ∧ (mm - L) % Y ≠ 0))) := by unfold badShape; rw [← HLE.out, ← HYE.out]; exact Iff.rfl
    by_cases h1 : (mm : Int) < (L : Int)
    · have d1 : decide ((mm : Int) < (L : Int)) = true := decide_eq_true h1
      have HQ : Hid (badShape kd mm) := HBS.out.2 (.inl (by omega))
      go_wp2_with fail
      go_meet
      exact ⟨_, rfl, (decide_eq_true HQ.out).symm, rfl⟩
    have d1 : decide ((mm : Int) < (L : Int)) = false := decide_eq_false h1
    by_cases h0 : Y = 0
    · subst h0
      by_cases h2 : (L : Int) < (mm : Int)
      · have d2 : decide ((L : Int) < (mm : Int)) = true := decide_eq_true h2
        have HQ : Hid (badShape kd mm) := HBS.out.2 (.inr (.inl ⟨rfl, by omega⟩))
        go_wp2_with fail
        go_meet
        exact ⟨_, rfl, (decide_eq_true HQ.out).symm, rfl⟩
      · have d2 : decide ((L : Int) < (mm : Int)) = false := decide_eq_false h2
        have HQ : Hid (¬ badShape kd mm) := fun h => by have := HBS.out.1 h; omega
        go_wp2_with fail
        go_meet
        exact ⟨_, rfl, (decide_eq_false HQ.out).symm, rfl⟩
    have d0 : ((Y : Int) == 0) = false := beq_no (by omega)
    by_cases h3 : (1 : Int) < (Y : Int)
    · have d3 : decide ((1 : Int) < (Y : Int)) = true := decide_eq_true h3
      obtain ⟨q, hq⟩ : ∃ q, q = (mm - L) % Y := ⟨_, rfl⟩
      have e1 : ((mm : Int) - (L : Int)).tmod (Y : Int) = (q : Int) := by rw [show (mm : Int) - (L : Int) = ((mm - L : Nat) : Int) by omega, hq]; exact (Int.ofNat_tmod _ _).symm
      have e2 : ((mm : Int) - (L : Int)) % (Y : Int) = (q : Int) := by rw [show (mm : Int) - (L : Int) = ((mm - L : Nat) : Int) by omega, hq]; rfl
      have e3 : (wrap64 ((mm : Int) - (L : Int))).tmod (Y : Int) = (q : Int) := by rw [IntWalk.wrap64_in _ ⟨by omega, by omega⟩]; exact e1
      have hyz : ¬ (Y : Int) = 0 := by omega
      have hQ : Hid (badShape kd mm ↔ q ≠ 0) := by
        rw [Hid, HBS.out, hq]
        constructor
        · rintro (h | h | h)
          · omega
          · omega
          · exact h.2
        · intro h; exact .inr (.inr ⟨by omega, h⟩)
      have hql : q < Y := by rw [hq]; exact Nat.mod_lt _ (by omega)
      clear hq HBS
      by_cases hq0 : q = 0
      · subst hq0
        have HQ : Hid (¬ badShape kd mm) := fun h => (hQ.out.1 h) rfl
        go_wp2_with fail
        go_meet
        exact ⟨_, rfl, (decide_eq_false HQ.out).symm, rfl⟩
      · have hqb : ((q : Int) != 0) = true := by simp; omega
        have HQ : Hid (badShape kd mm) := hQ.out.2 hq0
        go_wp2_with fail
        go_meet
        exact ⟨_, rfl, (decide_eq_true HQ.out).symm, rfl⟩
    · have d3 : decide ((1 : Int) < (Y : Int)) = false := decide_eq_false h3
      have HQ : Hid (¬ badShape kd mm) := fun h => by have := HBS.out.1 h; omega
      go_wp2_with fail
      go_meet
      exact ⟨_, rfl, (decide_eq_false HQ.out).symm, rfl⟩
  case rest =>
    obtain ⟨r, rfl, HRS, hwc⟩ := hcut
    rw [hwc]
    clear hwc
    cases r
    rotate_left
    · have HE : Hid (getC b = .error 42) := HE42.out (dec_shape HK.out (by rw [← HXL.out]; exact of_decide_eq_true HRS.out.symm))
      clear HRS
      have HZ := Lib.hid (ERR.out W2 42 HB2.out HG22.out HE.out)
      go_wp2_with (first | refine wpList_build_none rfl 32 rfl _ built_none ?_ | refine wpList_store_row rfl 32 _ _ rfl g2 zeroA rfl rfl 32 _ HG22.out chunk_info rfl (ck_one _) ?_)
      (try simp only [Exit.inBlock, Exit.then])
      refine bodyPost_ret (res_ck rfl _ _ g2 _ rfl HZ.out.1 rfl) rfl ?_
      exact HZ.out.2
    have HSHP : Hid (¬ badShape kd mm) := of_decide_eq_false HRS.out.symm
    clear HRS
    have e4 : (4 : Int) ≤ (m : Int) := by omega
    have e5 : (m : Int) ≤ (cap : Int) := by omega
    have e6 : (m : Int) - 4 = (mm : Int) := by have := HMM.out; omega
    have e7 : m - 4 = mm := HMM.out.symm
    have e8 : ¬ cap = 4 ∨ cap = 4 := by omega
    have HXY : Hid (∀ A', (A' = (some ad).map (·.add 4) ∨ cap = 4) → Byt W2 w.heap.size A' x) := fun A' h => by
      rw [HXE.out]
      rcases h with h | h
      · subst h
        exact (HX2.out.cut_map (by rw [← HN.out]; omega)).take_ _
      · have : b.drop 4 = [] := List.drop_of_length_le (by rw [← HN.out]; omega)
        rw [this]
        exact ⟨by simp [u8s], fun h => absurd h (by simp)⟩
    have hbk := built_kind kd
    have wk8 : IntKind.u8.wrap (kd : Int) = (kd : Int) := by simp [IntKind.wrap, IntKind.bits, IntKind.signed]; omega
    have wk8b : (kd : Int) % 256 = (kd : Int) := by omega
    clear e8
    go_upto_region 22 with fail
    go_cut [14] from 14 to 14 (fun s wx => ∃ (p : Nat) (A : Option Addr) (ct : Nat), s = .pointer (some ⟨p, 0, none⟩) ∧ Hid (TapeAt wx p A ct x 0 false) ∧ Hid (Below w.heap.size w wx) ∧ Hid (CkBlk wx g2 zeroA) ∧ Hid (g2 < p) ∧ Hid (Below W2.heap.size W2 wx))
    case first =>
      have TPK : Hid (∀ (A' : Option Addr) (ct : Nat), mm ≤ ct → ct ≤ 9223372036854775807 → (A' = (some ad).map (·.add 4) ∨ cap = 4) → ∀ V, V = W2.alloc (.cells #[.slice A' mm ct, .int .i64 0, .bool false] 81) → TapeAt V W2.heap.size A' ct x 0 false ∧ Below w.heap.size w V ∧ CkBlk V g2 zeroA ∧ g2 < W2.heap.size ∧ Below W2.heap.size W2 V) := fun A' ct h1 h2 h3 V hV => by
        have hb := (Below.refl W2.heap.size W2).alloc (Nat.le_refl _) (.cells #[.slice A' mm ct, .int .i64 0, .bool false] 81)
        rw [← hV] at hb
        refine ⟨⟨by rw [hV, ← HXL.out]; exact Blk.new _ _ _, ((HXY.out A' h3).below (hb.mono HB2.out.size)).more HB2.out.size, Nat.zero_le _, by rw [← HXL.out]; exact h1, h2⟩, HB2.out.trans (hb.mono HB2.out.size), HG22.out.below hb HG22.out.lt, HG22.out.lt, hb⟩
      by_cases hc4 : cap = 4
      · have hmm0 : mm = 0 := by omega
        have hm4e : m = 4 := by omega
        have HC4 := Lib.hid hc4
        subst hmm0 hm4e hc4
        go_wp2_with fail
        go_meet
        obtain ⟨q1, q2, q3, q4, q5⟩ := TPK.out (some ad) 0 (by omega) (by omega) (by first | exact .inr rfl | exact .inr trivial | trivial) _ (by first | rfl | trivial)
        exact ⟨_, _, _, rfl, q1, q2, q3, q4, q5⟩
      · go_wp2_with fail
        go_meet
        obtain ⟨q1, q2, q3, q4, q5⟩ := TPK.out (some (ad.add 4)) (cap - 4) (by omega) (by omega) (by first | exact .inl rfl | exact .inl trivial | trivial) _ rfl
        exact ⟨_, _, _, rfl, q1, q2, q3, q4, q5⟩
    case rest =>
      obtain ⟨p, At, ct, rfl, HTP, HB3, HG3, HGP, HB23⟩ := hcut
      obtain ⟨W3, hW3⟩ : ∃ W, W = wc := ⟨_, rfl⟩
      rw [← hW3] at HTP HB3 HG3 HB23 ⊢
      clear hW3 e4 e5 e6 e7 HXY
      go_upto_region 24 with (first | (refine wpList_build_one rfl 32 _ rfl _ rfl _ hbk ?_) | (refine wpList_store_row rfl 32 _ _ rfl W3.heap.size (ckArr (zeroC kd) nilV nilV nilV nilV nilV) rfl rfl 32 _ (Blk.new W3 32 _) chunk_info rfl (ck_one (zeroC kd)) ?_))
      obtain ⟨W0, hW0⟩ : ∃ W, W = (W3.alloc (.cells zeroA 32)).setRow W3.heap.size (ckArr (zeroC kd) nilV nilV nilV nilV nilV) := ⟨_, rfl⟩
      have hW0' : W0 = (W3.alloc (.cells #[.int .u8 0, .bool false, .bool false, .bool false, .bool false, .int .u32 0, .int .u16 0, .int .u32 0, .int .u32 0, .int .u32 0, .int .u32 0, .int .u32 0, .int .u16 0, .int .u16 0, .slice none 0 0, .slice none 0 0, .slice none 0 0, .slice none 0 0, .slice none 0 0] 32)).setRow W3.heap.size (ckArr (zeroC kd) nilV nilV nilV nilV nilV) := hW0
      obtain ⟨g, hg⟩ : ∃ g, g = W3.heap.size := ⟨_, rfl⟩
      have HS0 : Hid (GtS True w W0 p g g2 At ct x 0 (zeroC kd)) := by
        have hk := kept_ck W3 zeroA (ckArr (zeroC kd) nilV nilV nilV nilV nilV)
        rw [← hW0, ← hg] at hk
        exact GtS.mk' (HTP.out.below (by rw [← hg]; exact hk.2)) hk.1 ⟨rfl, rfl, rfl, rfl, rfl⟩ (zero_ok hkb) (HG3.out.below hk.2 (by rw [hg]; exact HG3.out.lt)) (HB3.out.trans (hk.2.mono (by rw [hg]; exact HB3.out.size))) (by rw [hg]; exact HTP.out.blk.lt) HGP.out hlo2
      have HX0 : Hid (∀ V, Below w.heap.size w V → Byt V w.heap.size (some ad) b) := fun V hb => HX.out.below hb
      rw [← hW0', ← hg]
      dsimp only [Act.put]
      clear hW0 hW0' hg hbk wk8 wk8b HTP HB3 HG3 HGP HB23 HB2 HG22 HX2
      go_cut [123] from 123 to 123 (fun s wx => ∃ r, s = .bool r ∧ Hid (r = decide (kd = 0 ∨ kd = 64)) ∧ wx = W0)
      case first =>
        by_cases h0 : kd = 0
        · have d0b : ((kd : Int) == 0) = true := by rw [h0]; rfl
          have HQ : Hid (kd = 0 ∨ kd = 64) := by first | exact .inl h0 | exact .inr h0 | exact .inr (.inl h0) | exact .inr (.inr h0) | exact .inr (.inr (.inl h0)) | exact .inr (.inr (.inr h0)) | exact .inr (.inr (.inr (.inl h0))) | exact .inr (.inr (.inr (.inr h0)))
          clear h0
          go_wp2_with fail
          go_meet
          exact ⟨_, rfl, (decide_eq_true HQ.out).symm, rfl⟩
        have d0b : ((kd : Int) == 0) = false := beq_no (by omega)
        have HN0 := Lib.hid h0
        clear h0
        by_cases h1 : kd = 64
        · have d1b : ((kd : Int) == 64) = true := by rw [h1]; rfl
          have HQ : Hid (kd = 0 ∨ kd = 64) := by first | exact .inl h1 | exact .inr h1 | exact .inr (.inl h1) | exact .inr (.inr h1) | exact .inr (.inr (.inl h1)) | exact .inr (.inr (.inr h1)) | exact .inr (.inr (.inr (.inl h1))) | exact .inr (.inr (.inr (.inr h1)))
          clear h1
          go_wp2_with fail
          go_meet
          exact ⟨_, rfl, (decide_eq_true HQ.out).symm, rfl⟩
        have d1b : ((kd : Int) == 64) = false := beq_no (by omega)
        have HN1 := Lib.hid h1
        clear h1
        have HQ : Hid (¬ (kd = 0 ∨ kd = 64)) := by
          have := HN0.out
          have := HN1.out
          show ¬ _
          omega
        go_wp2_with fail
        go_meet
        exact ⟨_, rfl, (decide_eq_false HQ.out).symm, rfl⟩
      case rest =>
        obtain ⟨r, rfl, HR, hwc⟩ := hcut
        rw [hwc]
        clear hwc
        go_upto_if 123 with (fail)
        go_cut [6] from 123 to 123 (fun s6 wx => s6 = .int .u8 (F1f kd f : Int) ∧ Hid (GtS True w wx p g g2 At ct x (J1 kd) (E1 kd f x)) ∧ Hid (kd = 64 → Oct.num ((x.drop 6).take 2) = 0))
        case first => as_aux_lemma =>
          cases r
          rotate_left
          · have hc : kd = 0 ∨ kd = 64 := of_decide_eq_true HR.out.symm
            clear HR
            have HC := Lib.hid hc
            clear hc
            obtain ⟨d0, hd0⟩ : ∃ d, d = zeroC kd := ⟨_, rfl⟩
            rw [← hd0] at HS0
            have HD0 := Lib.hid hd0
            clear hd0
            obtain ⟨b1, hb1⟩ : ∃ b : Bool, b = (f % 2 == 1) := ⟨_, rfl⟩
            obtain ⟨b2, hb2⟩ : ∃ b : Bool, b = (f / 2 % 2 == 1) := ⟨_, rfl⟩
            obtain ⟨b3, hb3⟩ : ∃ b : Bool, b = (f / 4 % 2 == 1) := ⟨_, rfl⟩
            have t1 : ((f : Int) % 2 == 1) = b1 := by rw [hb1, Bool.eq_iff_iff]; simp; omega
            have t2 : ((f : Int) / 2 % 2 == 1) = b2 := by rw [hb2, Bool.eq_iff_iff]; simp; omega
            have t3 : ((f : Int) / 4 % 2 == 1) = b3 := by rw [hb3, Bool.eq_iff_iff]; simp; omega
            have HB1 := Lib.hid hb1
            have HB2 := Lib.hid hb2
            have HB3 := Lib.hid hb3
            clear hb1 hb2 hb3
            have HLEN : Hid (13 ≤ x.length ∧ (kd = 64 → 17 ≤ x.length)) := by
              have h1 := shape_len HSHP.out
              rw [HXL.out] at h1
              have h2 := HC.out
              unfold leastN at h1
              refine ⟨?_, fun h => ?_⟩
              · rcases h2 with h2 | h2 <;> simp [h2] at h1 <;> omega
              · simp [h] at h1; omega
            have hgx := (HS0.out.plain trivial).1
            have x2 := CkBlk.at (i := 2) hgx rfl
            have z2 := Blk.frozen hgx 2
            clear hgx
            go_upto_region 26 with fail
            obtain ⟨W1, hW⟩ : ∃ W, W = W0.setCell ⟨g, 2, none⟩ (.bool b1) := ⟨_, rfl⟩
            rw [← hW]
            obtain ⟨d1, hd⟩ : ∃ d, d = { d0 with en := b1 } := ⟨_, rfl⟩
            have HD1 := Lib.hid hd
            have HS1 : Hid (GtS True w W1 p g g2 At ct x 0 d1) := by
              have k := (HS0.out.plain trivial).2.2
              have kb := (HS0.out.plain trivial).2.1
              rw [hW]
              exact HS0.out.store trivial (d' := d1) (by rw [hd]; rfl) (by rw [hd]; exact ⟨k.kind, k.tsn, k.st, k.mid, k.pp, k.fr, k.tag, k.win, k.out, k.inn, k.gaps, k.dups, k.skips, k.ps⟩) (by rw [hd]; exact ⟨kb.gaps, kb.dups, kb.skips, kb.ps, kb.body⟩)
            clear hW hd x2 z2 HS0
            clear t1
            have hgx := (HS1.out.plain trivial).1
            have x1 := CkBlk.at (i := 1) hgx rfl
            have z1 := Blk.frozen hgx 1
            clear hgx
            go_upto_region 27 with fail
            obtain ⟨W2, hW⟩ : ∃ W, W = W1.setCell ⟨g, 1, none⟩ (.bool b2) := ⟨_, rfl⟩
            rw [← hW]
            obtain ⟨d2, hd⟩ : ∃ d, d = { d1 with bg := b2 } := ⟨_, rfl⟩
            have HD2 := Lib.hid hd
            have HS2 : Hid (GtS True w W2 p g g2 At ct x 0 d2) := by
              have k := (HS1.out.plain trivial).2.2
              have kb := (HS1.out.plain trivial).2.1
              rw [hW]
              exact HS1.out.store trivial (d' := d2) (by rw [hd]; rfl) (by rw [hd]; exact ⟨k.kind, k.tsn, k.st, k.mid, k.pp, k.fr, k.tag, k.win, k.out, k.inn, k.gaps, k.dups, k.skips, k.ps⟩) (by rw [hd]; exact ⟨kb.gaps, kb.dups, kb.skips, kb.ps, kb.body⟩)
            clear hW hd x1 z1 HS1
            clear t2
            have hgx := (HS2.out.plain trivial).1
            have x3 := CkBlk.at (i := 3) hgx rfl
            have z3 := Blk.frozen hgx 3
            clear hgx
            go_upto_region 28 with fail
            obtain ⟨W3, hW⟩ : ∃ W, W = W2.setCell ⟨g, 3, none⟩ (.bool b3) := ⟨_, rfl⟩
            rw [← hW]
            obtain ⟨d3, hd⟩ : ∃ d, d = { d2 with lo := b3 } := ⟨_, rfl⟩
            have HD3 := Lib.hid hd
            have HS3 : Hid (GtS True w W3 p g g2 At ct x 0 d3) := by
              have k := (HS2.out.plain trivial).2.2
              have kb := (HS2.out.plain trivial).2.1
              rw [hW]
              exact HS2.out.store trivial (d' := d3) (by rw [hd]; rfl) (by rw [hd]; exact ⟨k.kind, k.tsn, k.st, k.mid, k.pp, k.fr, k.tag, k.win, k.out, k.inn, k.gaps, k.dups, k.skips, k.ps⟩) (by rw [hd]; exact ⟨kb.gaps, kb.dups, kb.skips, kb.ps, kb.body⟩)
            clear hW hd x3 z3 HS2
            clear t3
            obtain ⟨f8, hf8⟩ : ∃ k, k = f / 8 := ⟨_, rfl⟩
            have hf8i : (f : Int) / 8 = (f8 : Int) := by omega
            have HF8 : Hid (f8 = F1f kd f) := by rw [hf8]; unfold F1f; rw [if_pos HC.out]; rfl
            clear hf8
            go_upto_region 29 with fail
            clear hf8i
            go_wp2_with fail
            refine (num_yes (n := 4) HS3.out.tp (by have := HLEN.out; have := HC.out; omega) (by omega)).mono ?_
            rintro e Va hd
            obtain ⟨rfl, HRa⟩ := HS3.out.read trivial hd
            obtain ⟨va, hv⟩ : ∃ v, v = Oct.num ((x.drop (0)).take 4) := ⟨_, rfl⟩
            rw [← hv]
            have HVa := Lib.hid hv
            have hvba : va < 4294967296 := by rw [hv]; exact take4 x (0)
            clear hd hv
            have wv : IntKind.u32.wrap (va : Int) = (va : Int) := by simp [IntKind.wrap, IntKind.bits, IntKind.signed]; omega
            have hgx := (HRa.out.plain trivial).1
            have x5 := CkBlk.at (i := 5) hgx rfl
            have z5 := Blk.frozen hgx 5
            clear hgx
            go_upto_region 30 with fail
            obtain ⟨W4, hW⟩ : ∃ W, W = Va.setCell ⟨g, 5, none⟩ (.int .u32 (va : Int)) := ⟨_, rfl⟩
            rw [← hW]
            obtain ⟨d4, hd⟩ : ∃ d, d = { d3 with tsn := va } := ⟨_, rfl⟩
            have HD4 := Lib.hid hd
            have HS4 : Hid (GtS True w W4 p g g2 At ct x (0 + 4) d4) := by
              have k := (HRa.out.plain trivial).2.2
              have kb := (HRa.out.plain trivial).2.1
              rw [hW]
              exact HRa.out.store trivial (d' := d4) (by rw [hd]; rfl) (by rw [hd]; exact ⟨k.kind, by show va < _; omega, k.st, k.mid, k.pp, k.fr, k.tag, k.win, k.out, k.inn, k.gaps, k.dups, k.skips, k.ps⟩) (by rw [hd]; exact ⟨kb.gaps, kb.dups, kb.skips, kb.ps, kb.body⟩)
            clear hW hd x5 z5 wv HS3 HRa
            go_wp2_with fail
            refine (num_yes (n := 2) HS4.out.tp (by have := HLEN.out; have := HC.out; omega) (by omega)).mono ?_
            rintro e Vb hd
            obtain ⟨rfl, HRb⟩ := HS4.out.read trivial hd
            obtain ⟨vb, hv⟩ : ∃ v, v = Oct.num ((x.drop (0 + 4)).take 2) := ⟨_, rfl⟩
            rw [← hv]
            have HVb := Lib.hid hv
            have hvbb : vb < 65536 := by rw [hv]; exact take2 x (0 + 4)
            clear hd hv
            have wv : IntKind.u16.wrap (vb : Int) = (vb : Int) := by simp [IntKind.wrap, IntKind.bits, IntKind.signed]; omega
            have hgx := (HRb.out.plain trivial).1
            have x6 := CkBlk.at (i := 6) hgx rfl
            have z6 := Blk.frozen hgx 6
            clear hgx
            go_upto_region 31 with fail
            obtain ⟨W5, hW⟩ : ∃ W, W = Vb.setCell ⟨g, 6, none⟩ (.int .u16 (vb : Int)) := ⟨_, rfl⟩
            rw [← hW]
            obtain ⟨d5, hd⟩ : ∃ d, d = { d4 with st := vb } := ⟨_, rfl⟩
            have HD5 := Lib.hid hd
            have HS5 : Hid (GtS True w W5 p g g2 At ct x (0 + 4 + 2) d5) := by
              have k := (HRb.out.plain trivial).2.2
              have kb := (HRb.out.plain trivial).2.1
              rw [hW]
              exact HRb.out.store trivial (d' := d5) (by rw [hd]; rfl) (by rw [hd]; exact ⟨k.kind, k.tsn, by show vb < _; omega, k.mid, k.pp, k.fr, k.tag, k.win, k.out, k.inn, k.gaps, k.dups, k.skips, k.ps⟩) (by rw [hd]; exact ⟨kb.gaps, kb.dups, kb.skips, kb.ps, kb.body⟩)
            clear hW hd x6 z6 wv HS4 HRb
            have hc := HC.out
            rcases hc with hc | hc
            · have HC := Lib.hid hc
              clear hc
              have q0 : ((kd : Int) == 0) = true := by rw [HC.out]; rfl
              have q64 : ((kd : Int) == 64) = false := by rw [HC.out]; rfl
              go_wp2_with fail
              refine (num_yes (n := 2) HS5.out.tp (by have := HLEN.out; have := HC.out; omega) (by omega)).mono ?_
              rintro e Vc hd
              obtain ⟨rfl, HRc⟩ := HS5.out.read trivial hd
              obtain ⟨vc, hv⟩ : ∃ v, v = Oct.num ((x.drop (0 + 4 + 2)).take 2) := ⟨_, rfl⟩
              rw [← hv]
              have HVc := Lib.hid hv
              have hvbc : vc < 65536 := by rw [hv]; exact take2 x (0 + 4 + 2)
              clear hd hv
              have wv : IntKind.u32.wrap (vc : Int) = (vc : Int) := by simp [IntKind.wrap, IntKind.bits, IntKind.signed]; omega
              have hgx := (HRc.out.plain trivial).1
              have x7 := CkBlk.at (i := 7) hgx rfl
              have z7 := Blk.frozen hgx 7
              clear hgx
              go_upto_region 36 with fail
              obtain ⟨W6, hW⟩ : ∃ W, W = Vc.setCell ⟨g, 7, none⟩ (.int .u32 (vc : Int)) := ⟨_, rfl⟩
              rw [← hW]
              obtain ⟨d6, hd⟩ : ∃ d, d = { d5 with mid := vc } := ⟨_, rfl⟩
              have HD6 := Lib.hid hd
              have HS6 : Hid (GtS True w W6 p g g2 At ct x (0 + 4 + 2 + 2) d6) := by
                have k := (HRc.out.plain trivial).2.2
                have kb := (HRc.out.plain trivial).2.1
                rw [hW]
                exact HRc.out.store trivial (d' := d6) (by rw [hd]; rfl) (by rw [hd]; exact ⟨k.kind, k.tsn, k.st, by show vc < _; omega, k.pp, k.fr, k.tag, k.win, k.out, k.inn, k.gaps, k.dups, k.skips, k.ps⟩) (by rw [hd]; exact ⟨kb.gaps, kb.dups, kb.skips, kb.ps, kb.body⟩)
              clear hW hd x7 z7 wv HS5 HRc
              go_wp2_with fail
              refine (num_yes (n := 4) HS6.out.tp (by have := HLEN.out; have := HC.out; omega) (by omega)).mono ?_
              rintro e Vd hd
              obtain ⟨rfl, HRd⟩ := HS6.out.read trivial hd
              obtain ⟨vd, hv⟩ : ∃ v, v = Oct.num ((x.drop (0 + 4 + 2 + 2)).take 4) := ⟨_, rfl⟩
              rw [← hv]
              have HVd := Lib.hid hv
              have hvbd : vd < 4294967296 := by rw [hv]; exact take4 x (0 + 4 + 2 + 2)
              clear hd hv
              have wv : IntKind.u32.wrap (vd : Int) = (vd : Int) := by simp [IntKind.wrap, IntKind.bits, IntKind.signed]; omega
              have hgx := (HRd.out.plain trivial).1
              have x8 := CkBlk.at (i := 8) hgx rfl
              have z8 := Blk.frozen hgx 8
              clear hgx
              go_upto_region 40 with fail
              obtain ⟨W7, hW⟩ : ∃ W, W = Vd.setCell ⟨g, 8, none⟩ (.int .u32 (vd : Int)) := ⟨_, rfl⟩
              rw [← hW]
              obtain ⟨d7, hd⟩ : ∃ d, d = { d6 with pp := vd } := ⟨_, rfl⟩
              have HD7 := Lib.hid hd
              have HS7 : Hid (GtS True w W7 p g g2 At ct x (0 + 4 + 2 + 2 + 4) d7) := by
                have k := (HRd.out.plain trivial).2.2
                have kb := (HRd.out.plain trivial).2.1
                rw [hW]
                exact HRd.out.store trivial (d' := d7) (by rw [hd]; rfl) (by rw [hd]; exact ⟨k.kind, k.tsn, k.st, k.mid, by show vd < _; omega, k.fr, k.tag, k.win, k.out, k.inn, k.gaps, k.dups, k.skips, k.ps⟩) (by rw [hd]; exact ⟨kb.gaps, kb.dups, kb.skips, kb.ps, kb.body⟩)
              clear hW hd x8 z8 wv HS6 HRd
              have HF : Hid (GtS True w W7 p g g2 At ct x (J1 kd) (E1 kd f x)) := by
                have e : d7 = E1 kd f x := by
                  rw [HC.out, E1_0]
                  rw [HD7.out]
                  rw [HD6.out]
                  dsimp only
                  rw [HD5.out]
                  dsimp only
                  rw [HD4.out]
                  dsimp only
                  rw [HD3.out]
                  dsimp only
                  rw [HD2.out]
                  dsimp only
                  rw [HD1.out]
                  dsimp only
                  rw [HD0.out, HC.out, HVa.out, HVb.out, HVc.out, HVd.out, HB1.out, HB2.out, HB3.out, List.drop_zero]
                have h := HS7.out
                rw [e] at h
                have ej : J1 kd = 0 + 4 + 2 + 2 + 4 := by rw [HC.out]; rfl
                rw [ej]
                exact h
              have HXX : True := trivial
              have H64 : Hid (kd = 64 → Oct.num ((x.drop 6).take 2) = 0) := fun h => by have := HC.out; omega
              go_wp2_with fail
              go_meet
              exact ⟨by rw [HF8.out], HF, H64⟩
            · have HC := Lib.hid hc
              clear hc
              have q0 : ((kd : Int) == 0) = false := by rw [HC.out]; rfl
              have q64 : ((kd : Int) == 64) = true := by rw [HC.out]; rfl
              go_wp2_with fail
              refine (num_yes (n := 2) HS5.out.tp (by have := HLEN.out; have := HC.out; omega) (by omega)).mono ?_
              rintro e Vc hd
              obtain ⟨rfl, HRc⟩ := HS5.out.read trivial hd
              obtain ⟨vc, hv⟩ : ∃ v, v = Oct.num ((x.drop (0 + 4 + 2)).take 2) := ⟨_, rfl⟩
              rw [← hv]
              have HVc := Lib.hid hv
              have hvbc : vc < 65536 := by rw [hv]; exact take2 x (0 + 4 + 2)
              clear hd hv
              obtain ⟨rb, hrb⟩ : ∃ r : Bool, r = ((vc : Int) != 0) := ⟨_, rfl⟩
              have hrb2 : ((vc : Int) != 0) = rb := hrb.symm
              have HRB := Lib.hid hrb
              clear hrb
              go_upto_region 34 with fail
              clear hrb2
              obtain ⟨W5, hW5⟩ : ∃ W, W = Vc := ⟨_, rfl⟩
              rw [← hW5] at HRc ⊢
              have HS5 := HRc
              clear hW5 HRc
              go_wp2_with fail
              refine (num_yes (n := 4) HS5.out.tp (by have := HLEN.out; have := HC.out; omega) (by omega)).mono ?_
              rintro e Vd hd
              obtain ⟨rfl, HRd⟩ := HS5.out.read trivial hd
              obtain ⟨vd, hv⟩ : ∃ v, v = Oct.num ((x.drop (0 + 4 + 2 + 2)).take 4) := ⟨_, rfl⟩
              rw [← hv]
              have HVd := Lib.hid hv
              have hvbd : vd < 4294967296 := by rw [hv]; exact take4 x (0 + 4 + 2 + 2)
              clear hd hv
              have wv : IntKind.u32.wrap (vd : Int) = (vd : Int) := by simp [IntKind.wrap, IntKind.bits, IntKind.signed]; omega
              have hgx := (HRd.out.plain trivial).1
              have x7 := CkBlk.at (i := 7) hgx rfl
              have z7 := Blk.frozen hgx 7
              clear hgx
              go_upto_region 36 with fail
              obtain ⟨W6, hW⟩ : ∃ W, W = Vd.setCell ⟨g, 7, none⟩ (.int .u32 (vd : Int)) := ⟨_, rfl⟩
              rw [← hW]
              obtain ⟨d6, hd⟩ : ∃ d, d = { d5 with mid := vd } := ⟨_, rfl⟩
              have HD6 := Lib.hid hd
              have HS6 : Hid (GtS True w W6 p g g2 At ct x (0 + 4 + 2 + 2 + 4) d6) := by
                have k := (HRd.out.plain trivial).2.2
                have kb := (HRd.out.plain trivial).2.1
                rw [hW]
                exact HRd.out.store trivial (d' := d6) (by rw [hd]; rfl) (by rw [hd]; exact ⟨k.kind, k.tsn, k.st, by show vd < _; omega, k.pp, k.fr, k.tag, k.win, k.out, k.inn, k.gaps, k.dups, k.skips, k.ps⟩) (by rw [hd]; exact ⟨kb.gaps, kb.dups, kb.skips, kb.ps, kb.body⟩)
              clear hW hd x7 z7 wv HS5 HRd
              go_wp2_with fail
              refine (num_yes (n := 4) HS6.out.tp (by have := HLEN.out; have := HC.out; omega) (by omega)).mono ?_
              rintro e Ve hd
              obtain ⟨rfl, HRe⟩ := HS6.out.read trivial hd
              obtain ⟨ve, hv⟩ : ∃ v, v = Oct.num ((x.drop (0 + 4 + 2 + 2 + 4)).take 4) := ⟨_, rfl⟩
              rw [← hv]
              have HVe := Lib.hid hv
              have hvbe : ve < 4294967296 := by rw [hv]; exact take4 x (0 + 4 + 2 + 2 + 4)
              clear hd hv
              have wv : IntKind.u32.wrap (ve : Int) = (ve : Int) := by simp [IntKind.wrap, IntKind.bits, IntKind.signed]; omega
              have HLV : Hid (d6.bg = b2) := by
                show _ = _
                rw [HD6.out]
                dsimp only
                rw [HD5.out]
                dsimp only
                rw [HD4.out]
                dsimp only
                rw [HD3.out]
                dsimp only
                rw [HD2.out]
              rcases hb2v : b2 with _ | _
              · have HB2V := Lib.hid hb2v
                have hgy := (HRe.out.plain trivial).1
                have o1 : Ve.cell? ⟨g, 1, none⟩ = some (.bool false) := by have := CkBlk.at (i := 1) (v := .bool d6.bg) hgy rfl; rw [HLV.out, hb2v] at this; exact this
                clear hgy hb2v
                have hgx := (HRe.out.plain trivial).1
                have x9 := CkBlk.at (i := 9) hgx rfl
                have z9 := Blk.frozen hgx 9
                clear hgx
                go_upto_region 40 with fail
                clear o1
                obtain ⟨W7, hW⟩ : ∃ W, W = Ve.setCell ⟨g, 9, none⟩ (.int .u32 (ve : Int)) := ⟨_, rfl⟩
                rw [← hW]
                obtain ⟨d7, hd⟩ : ∃ d, d = { d6 with fr := ve } := ⟨_, rfl⟩
                have HD7 := Lib.hid hd
                have HS7 : Hid (GtS True w W7 p g g2 At ct x (0 + 4 + 2 + 2 + 4 + 4) d7) := by
                  have k := (HRe.out.plain trivial).2.2
                  have kb := (HRe.out.plain trivial).2.1
                  rw [hW]
                  exact HRe.out.store trivial (d' := d7) (by rw [hd]; rfl) (by rw [hd]; exact ⟨k.kind, k.tsn, k.st, k.mid, k.pp, by show ve < _; omega, k.tag, k.win, k.out, k.inn, k.gaps, k.dups, k.skips, k.ps⟩) (by rw [hd]; exact ⟨kb.gaps, kb.dups, kb.skips, kb.ps, kb.body⟩)
                clear hW hd x9 z9 wv HS6 HRe
                rcases hrbv : rb with _ | _
                · have HZ0 : Hid (vc = 0) := by have h := HRB.out; rw [hrbv] at h; show vc = 0; simpa using h.symm
                  clear hrbv
                  have HF : Hid (GtS True w W7 p g g2 At ct x (J1 kd) (E1 kd f x)) := by
                    have e : d7 = E1 kd f x := by
                      rw [HC.out, E1_64f f x (by rw [← HB2.out, HB2V.out])]
                      rw [HD7.out]
                      rw [HD6.out]
                      dsimp only
                      rw [HD5.out]
                      dsimp only
                      rw [HD4.out]
                      dsimp only
                      rw [HD3.out]
                      dsimp only
                      rw [HD2.out]
                      dsimp only
                      rw [HD1.out]
                      dsimp only
                      rw [HD0.out, HC.out, HVa.out, HVb.out, HVd.out, HVe.out, HB1.out, HB2.out, HB3.out, List.drop_zero]
                      rw [← HB2.out, HB2V.out]
                    have h := HS7.out
                    rw [e] at h
                    have ej : J1 kd = 0 + 4 + 2 + 2 + 4 + 4 := by rw [HC.out]; rfl
                    rw [ej]
                    exact h
                  have H64 : Hid (kd = 64 → Oct.num ((x.drop 6).take 2) = 0) := fun _ => by rw [← HZ0.out, HVc.out]
                  go_wp2_with fail
                  go_meet
                  exact ⟨by rw [HF8.out], HF, H64⟩
                · have hv0 : ¬ vc = 0 := by intro h; have := HRB.out; rw [hrbv, h] at this; simp at this
                  have HE : Hid (getC b = .error 42) := HE42.out (by rw [HC.out]; exact dec_64_bad (by rw [HVc.out] at hv0; exact hv0))
                  clear hrbv hv0
                  have HZ := Lib.hid (ERR.out W7 42 HS7.out.below HS7.out.b2 HE.out)
                  go_wp2_with (first | refine wpList_build_none rfl 32 rfl _ built_none ?_ | refine wpList_store_row rfl 32 _ _ rfl g2 zeroA rfl rfl 32 _ HS7.out.b2 chunk_info rfl (ck_one _) ?_)
                  (try simp only [Exit.inBlock, Exit.then])
                  refine bodyPost_ret (res_ck rfl _ _ g2 _ rfl HZ.out.1 rfl) rfl ?_
                  exact HZ.out.2
              · have HB2V := Lib.hid hb2v
                have hgy := (HRe.out.plain trivial).1
                have o1 : Ve.cell? ⟨g, 1, none⟩ = some (.bool true) := by have := CkBlk.at (i := 1) (v := .bool d6.bg) hgy rfl; rw [HLV.out, hb2v] at this; exact this
                clear hgy hb2v
                have hgx := (HRe.out.plain trivial).1
                have x8 := CkBlk.at (i := 8) hgx rfl
                have z8 := Blk.frozen hgx 8
                clear hgx
                go_upto_region 40 with fail
                clear o1
                obtain ⟨W7, hW⟩ : ∃ W, W = Ve.setCell ⟨g, 8, none⟩ (.int .u32 (ve : Int)) := ⟨_, rfl⟩
                rw [← hW]
                obtain ⟨d7, hd⟩ : ∃ d, d = { d6 with pp := ve } := ⟨_, rfl⟩
                have HD7 := Lib.hid hd
                have HS7 : Hid (GtS True w W7 p g g2 At ct x (0 + 4 + 2 + 2 + 4 + 4) d7) := by
                  have k := (HRe.out.plain trivial).2.2
                  have kb := (HRe.out.plain trivial).2.1
                  rw [hW]
                  exact HRe.out.store trivial (d' := d7) (by rw [hd]; rfl) (by rw [hd]; exact ⟨k.kind, k.tsn, k.st, k.mid, by show ve < _; omega, k.fr, k.tag, k.win, k.out, k.inn, k.gaps, k.dups, k.skips, k.ps⟩) (by rw [hd]; exact ⟨kb.gaps, kb.dups, kb.skips, kb.ps, kb.body⟩)
                clear hW hd x8 z8 wv HS6 HRe
                rcases hrbv : rb with _ | _
                · have HZ0 : Hid (vc = 0) := by have h := HRB.out; rw [hrbv] at h; show vc = 0; simpa using h.symm
                  clear hrbv
                  have HF : Hid (GtS True w W7 p g g2 At ct x (J1 kd) (E1 kd f x)) := by
                    have e : d7 = E1 kd f x := by
                      rw [HC.out, E1_64t f x (by rw [← HB2.out, HB2V.out])]
                      rw [HD7.out]
                      rw [HD6.out]
                      dsimp only
                      rw [HD5.out]
                      dsimp only
                      rw [HD4.out]
                      dsimp only
                      rw [HD3.out]
                      dsimp only
                      rw [HD2.out]
                      dsimp only
                      rw [HD1.out]
                      dsimp only
                      rw [HD0.out, HC.out, HVa.out, HVb.out, HVd.out, HVe.out, HB1.out, HB2.out, HB3.out, List.drop_zero]
                      rw [← HB2.out, HB2V.out]
                    have h := HS7.out
                    rw [e] at h
                    have ej : J1 kd = 0 + 4 + 2 + 2 + 4 + 4 := by rw [HC.out]; rfl
                    rw [ej]
                    exact h
                  have H64 : Hid (kd = 64 → Oct.num ((x.drop 6).take 2) = 0) := fun _ => by rw [← HZ0.out, HVc.out]
                  go_wp2_with fail
                  go_meet
                  exact ⟨by rw [HF8.out], HF, H64⟩
                · have hv0 : ¬ vc = 0 := by intro h; have := HRB.out; rw [hrbv, h] at this; simp at this
                  have HE : Hid (getC b = .error 42) := HE42.out (by rw [HC.out]; exact dec_64_bad (by rw [HVc.out] at hv0; exact hv0))
                  clear hrbv hv0
                  have HZ := Lib.hid (ERR.out W7 42 HS7.out.below HS7.out.b2 HE.out)
                  go_wp2_with (first | refine wpList_build_none rfl 32 rfl _ built_none ?_ | refine wpList_store_row rfl 32 _ _ rfl g2 zeroA rfl rfl 32 _ HS7.out.b2 chunk_info rfl (ck_one _) ?_)
                  (try simp only [Exit.inBlock, Exit.then])
                  refine bodyPost_ret (res_ck rfl _ _ g2 _ rfl HZ.out.1 rfl) rfl ?_
                  exact HZ.out.2
          · have hc : ¬ (kd = 0 ∨ kd = 64) := of_decide_eq_false HR.out.symm
            have HC := Lib.hid hc
            clear hc HR
            have hj : Hid (J1 kd = 0) := by have := HC.out; unfold J1; rw [if_neg (by omega), if_neg (by omega)]; rfl
            have hf1 : Hid (F1f kd f = f) := by unfold F1f; rw [if_neg HC.out]; rfl
            have HF : Hid (GtS True w W0 p g g2 At ct x (J1 kd) (E1 kd f x)) := by rw [hj.out]; exact HS0.out.as (by unfold E1; rw [if_neg HC.out])
            have H64 : Hid (kd = 64 → Oct.num ((x.drop 6).take 2) = 0) := fun h => by have := HC.out; omega
            go_wp2_with fail
            go_meet
            exact ⟨by rw [hf1.out], HF, H64⟩
        case rest =>
          obtain ⟨rfl, HS0, H64⟩ := hcut
          obtain ⟨W0, hW0⟩ : ∃ W, W = wc := ⟨_, rfl⟩
          rw [← hW0] at HS0 ⊢
          clear hW0
          obtain ⟨f1, hf1⟩ : ∃ k, k = F1f kd f := ⟨_, rfl⟩
          have hf1b : f1 < 256 := by rw [hf1]; unfold F1f; split <;> omega
          rw [← hf1]
          have HF1 := Lib.hid hf1
          clear hf1
          go_upto_region 42 with fail
          go_cut [182] from 182 to 182 (fun s wx => ∃ r, s = .bool r ∧ Hid (r = decide (kd = 6 ∨ kd = 14)) ∧ wx = W0)
          case first =>
            by_cases h0 : kd = 6
            · have d0b : ((kd : Int) == 6) = true := by rw [h0]; rfl
              have HQ : Hid (kd = 6 ∨ kd = 14) := by first | exact .inl h0 | exact .inr h0 | exact .inr (.inl h0) | exact .inr (.inr h0) | exact .inr (.inr (.inl h0)) | exact .inr (.inr (.inr h0)) | exact .inr (.inr (.inr (.inl h0))) | exact .inr (.inr (.inr (.inr h0)))
              clear h0
              go_wp2_with fail
              go_meet
              exact ⟨_, rfl, (decide_eq_true HQ.out).symm, rfl⟩
            have d0b : ((kd : Int) == 6) = false := beq_no (by omega)
            have HN0 := Lib.hid h0
            clear h0
            by_cases h1 : kd = 14
            · have d1b : ((kd : Int) == 14) = true := by rw [h1]; rfl
              have HQ : Hid (kd = 6 ∨ kd = 14) := by first | exact .inl h1 | exact .inr h1 | exact .inr (.inl h1) | exact .inr (.inr h1) | exact .inr (.inr (.inl h1)) | exact .inr (.inr (.inr h1)) | exact .inr (.inr (.inr (.inl h1))) | exact .inr (.inr (.inr (.inr h1)))
              clear h1
              go_wp2_with fail
              go_meet
              exact ⟨_, rfl, (decide_eq_true HQ.out).symm, rfl⟩
            have d1b : ((kd : Int) == 14) = false := beq_no (by omega)
            have HN1 := Lib.hid h1
            clear h1
            have HQ : Hid (¬ (kd = 6 ∨ kd = 14)) := by
              have := HN0.out
              have := HN1.out
              show ¬ _
              omega
            go_wp2_with fail
            go_meet
            exact ⟨_, rfl, (decide_eq_false HQ.out).symm, rfl⟩
          case rest =>
            obtain ⟨r, rfl, HR, hwc⟩ := hcut
            rw [hwc]
            clear hwc
            go_upto_if 182 with (fail)
            go_cut [6] from 182 to 182 (fun s6 wx => s6 = .int .u8 (F2f kd f : Int) ∧ Hid (GtS True w wx p g g2 At ct x (J1 kd) (E2 kd f x)))
            case first => as_aux_lemma =>
              cases r
              rotate_left
              · have hc : kd = 6 ∨ kd = 14 := of_decide_eq_true HR.out.symm
                clear HR
                have HC := Lib.hid hc
                clear hc
                obtain ⟨d0, hd0⟩ : ∃ d, d = E1 kd f x := ⟨_, rfl⟩
                rw [← hd0] at HS0
                have HD0 := Lib.hid hd0
                clear hd0
                have hff : Hid (f1 = f) := by rw [HF1.out]; unfold F1f; exact if_neg (by have := HC.out; omega)
                obtain ⟨b4, hb4⟩ : ∃ b : Bool, b = (f1 % 2 == 1) := ⟨_, rfl⟩
                have t4 : ((f1 : Int) % 2 == 1) = b4 := by rw [hb4, Bool.eq_iff_iff]; simp; omega
                have HB4 := Lib.hid hb4
                clear hb4
                obtain ⟨f2, hf2⟩ : ∃ k, k = f1 / 2 := ⟨_, rfl⟩
                have hf2i : (f1 : Int) / 2 = (f2 : Int) := by omega
                have HF2 : Hid (f2 = F2f kd f) := by rw [hf2, HF1.out]; unfold F2f; rw [if_pos HC.out]; rfl
                clear hf2
                have hgx := (HS0.out.plain trivial).1
                have x4 := CkBlk.at (i := 4) hgx rfl
                have z4 := Blk.frozen hgx 4
                clear hgx
                go_upto_region 44 with fail
                obtain ⟨W1, hW⟩ : ∃ W, W = W0.setCell ⟨g, 4, none⟩ (.bool b4) := ⟨_, rfl⟩
                rw [← hW]
                obtain ⟨d1, hd⟩ : ∃ d, d = { d0 with ba := b4 } := ⟨_, rfl⟩
                have HD1 := Lib.hid hd
                have HS1 : Hid (GtS True w W1 p g g2 At ct x (J1 kd) d1) := by
                  have k := (HS0.out.plain trivial).2.2
                  have kb := (HS0.out.plain trivial).2.1
                  rw [hW]
                  exact HS0.out.store trivial (d' := d1) (by rw [hd]; rfl) (by rw [hd]; exact ⟨k.kind, k.tsn, k.st, k.mid, k.pp, k.fr, k.tag, k.win, k.out, k.inn, k.gaps, k.dups, k.skips, k.ps⟩) (by rw [hd]; exact ⟨kb.gaps, kb.dups, kb.skips, kb.ps, kb.body⟩)
                clear hW hd x4 z4 HS0
                clear t4
                have HF : Hid (GtS True w W1 p g g2 At ct x (J1 kd) (E2 kd f x)) := HS1.out.as (by rw [HD1.out, HD0.out, HB4.out, hff.out]; unfold E2; rw [if_pos HC.out])
                go_wp2_with fail
                go_meet
                exact ⟨by rw [HF2.out], HF⟩
              · have hc : ¬ (kd = 6 ∨ kd = 14) := of_decide_eq_false HR.out.symm
                have HC := Lib.hid hc
                clear hc HR
                have HF2 : Hid (f1 = F2f kd f) := by rw [HF1.out]; unfold F2f; rw [if_neg HC.out]; rfl
                have HF : Hid (GtS True w W0 p g g2 At ct x (J1 kd) (E2 kd f x)) := HS0.out.as (by unfold E2; rw [if_neg HC.out])
                go_wp2_with fail
                go_meet
                exact ⟨by rw [HF2.out], HF⟩
            case rest =>
              obtain ⟨rfl, HS0⟩ := hcut
              obtain ⟨W0, hW0⟩ : ∃ W, W = wc := ⟨_, rfl⟩
              rw [← hW0] at HS0 ⊢
              clear hW0 HF1 hf1b
              obtain ⟨f2, hf2⟩ : ∃ k, k = F2f kd f := ⟨_, rfl⟩
              rw [← hf2]
              have HF2 := Lib.hid hf2
              clear hf2
              by_cases hfz : f2 = 0
              rotate_left
              · have hfb : ((f2 : Int) != 0) = true := by simp; omega
                have HE : Hid (getC b = .error 42) := HE42.out (dec_flags (by rw [← HF2.out]; exact hfz))
                clear hfz
                have HZ := Lib.hid (ERR.out W0 42 HS0.out.below HS0.out.b2 HE.out)
                go_wp2_with (first | refine wpList_build_none rfl 32 rfl _ built_none ?_ | refine wpList_store_row rfl 32 _ _ rfl g2 zeroA rfl rfl 32 _ HS0.out.b2 chunk_info rfl (ck_one _) ?_)
                (try simp only [Exit.inBlock, Exit.then])
                refine bodyPost_ret (res_ck rfl _ _ g2 _ rfl HZ.out.1 rfl) rfl ?_
                exact HZ.out.2
              have HFL : Hid (f = flagsN (flagged kd f)) := F2_flags.1 (HF2.out.symm.trans hfz)
              have hf0b : ((f2 : Int) != 0) = false := by rw [hfz]; rfl
              clear HF2 hfz
              go_upto_region 47 with fail
              go_cut [197] from 197 to 197 (fun s wx => ∃ r, s = .bool r ∧ Hid (r = decide (kd = 1 ∨ kd = 2)) ∧ wx = W0)
              case first =>
                by_cases h0 : kd = 1
                · have d0b : ((kd : Int) == 1) = true := by rw [h0]; rfl
                  have HQ : Hid (kd = 1 ∨ kd = 2) := by first | exact .inl h0 | exact .inr h0 | exact .inr (.inl h0) | exact .inr (.inr h0) | exact .inr (.inr (.inl h0)) | exact .inr (.inr (.inr h0)) | exact .inr (.inr (.inr (.inl h0))) | exact .inr (.inr (.inr (.inr h0)))
                  clear h0
                  go_wp2_with fail
                  go_meet
                  exact ⟨_, rfl, (decide_eq_true HQ.out).symm, rfl⟩
                have d0b : ((kd : Int) == 1) = false := beq_no (by omega)
                have HN0 := Lib.hid h0
                clear h0
                by_cases h1 : kd = 2
                · have d1b : ((kd : Int) == 2) = true := by rw [h1]; rfl
                  have HQ : Hid (kd = 1 ∨ kd = 2) := by first | exact .inl h1 | exact .inr h1 | exact .inr (.inl h1) | exact .inr (.inr h1) | exact .inr (.inr (.inl h1)) | exact .inr (.inr (.inr h1)) | exact .inr (.inr (.inr (.inl h1))) | exact .inr (.inr (.inr (.inr h1)))
                  clear h1
                  go_wp2_with fail
                  go_meet
                  exact ⟨_, rfl, (decide_eq_true HQ.out).symm, rfl⟩
                have d1b : ((kd : Int) == 2) = false := beq_no (by omega)
                have HN1 := Lib.hid h1
                clear h1
                have HQ : Hid (¬ (kd = 1 ∨ kd = 2)) := by
                  have := HN0.out
                  have := HN1.out
                  show ¬ _
                  omega
                go_wp2_with fail
                go_meet
                exact ⟨_, rfl, (decide_eq_false HQ.out).symm, rfl⟩
              case rest =>
                obtain ⟨r, rfl, HR, hwc⟩ := hcut
                rw [hwc]
                clear hwc
                go_upto_if 197 with (fail)
                go_cut [] from 197 to 197 (fun wx => Hid (GtS True w wx p g g2 At ct x (J3 kd) (E3 kd f x)))
                case first => as_aux_lemma =>
                  cases r
                  rotate_left
                  · have hc : kd = 1 ∨ kd = 2 := of_decide_eq_true HR.out.symm
                    clear HR
                    have HC := Lib.hid hc
                    clear hc
                    have HLEN : Hid (16 ≤ x.length) := by
                      show 16 ≤ x.length
                      have h1 := shape_len HSHP.out
                      rw [HXL.out] at h1
                      have h2 := HC.out
                      unfold leastN at h1
                      rcases h2 with h2 | h2 <;> simp [h2] at h1 <;> omega
                    have hj0 : Hid (J1 kd = 0) := by have := HC.out; unfold J1; rw [if_neg (by omega), if_neg (by omega)]; rfl
                    have HS0 : Hid (GtS True w W0 p g g2 At ct x 0 (E2 kd f x)) := by have := HS0.out; rw [hj0.out] at this; exact this
                    obtain ⟨d0, hd0⟩ : ∃ d, d = E2 kd f x := ⟨_, rfl⟩
                    rw [← hd0] at HS0
                    have HD0 := Lib.hid hd0
                    clear hd0
                    go_wp2_with fail
                    refine (num_yes (n := 4) HS0.out.tp (by have := HLEN.out; have := HC.out; omega) (by omega)).mono ?_
                    rintro e Va hd
                    obtain ⟨rfl, HRa⟩ := HS0.out.read trivial hd
                    obtain ⟨va, hv⟩ : ∃ v, v = Oct.num ((x.drop (0)).take 4) := ⟨_, rfl⟩
                    rw [← hv]
                    have HVa := Lib.hid hv
                    have hvba : va < 4294967296 := by rw [hv]; exact take4 x (0)
                    clear hd hv
                    have wv : IntKind.u32.wrap (va : Int) = (va : Int) := by simp [IntKind.wrap, IntKind.bits, IntKind.signed]; omega
                    have hgx := (HRa.out.plain trivial).1
                    have x10 := CkBlk.at (i := 10) hgx rfl
                    have z10 := Blk.frozen hgx 10
                    clear hgx
                    go_upto_region 49 with fail
                    obtain ⟨W1, hW⟩ : ∃ W, W = Va.setCell ⟨g, 10, none⟩ (.int .u32 (va : Int)) := ⟨_, rfl⟩
                    rw [← hW]
                    obtain ⟨d1, hd⟩ : ∃ d, d = { d0 with tag := va } := ⟨_, rfl⟩
                    have HD1 := Lib.hid hd
                    have HS1 : Hid (GtS True w W1 p g g2 At ct x (0 + 4) d1) := by
                      have k := (HRa.out.plain trivial).2.2
                      have kb := (HRa.out.plain trivial).2.1
                      rw [hW]
                      exact HRa.out.store trivial (d' := d1) (by rw [hd]; rfl) (by rw [hd]; exact ⟨k.kind, k.tsn, k.st, k.mid, k.pp, k.fr, by show va < _; omega, k.win, k.out, k.inn, k.gaps, k.dups, k.skips, k.ps⟩) (by rw [hd]; exact ⟨kb.gaps, kb.dups, kb.skips, kb.ps, kb.body⟩)
                    clear hW hd x10 z10 wv HS0 HRa
                    go_wp2_with fail
                    refine (num_yes (n := 4) HS1.out.tp (by have := HLEN.out; have := HC.out; omega) (by omega)).mono ?_
                    rintro e Vb hd
                    obtain ⟨rfl, HRb⟩ := HS1.out.read trivial hd
                    obtain ⟨vb, hv⟩ : ∃ v, v = Oct.num ((x.drop (0 + 4)).take 4) := ⟨_, rfl⟩
                    rw [← hv]
                    have HVb := Lib.hid hv
                    have hvbb : vb < 4294967296 := by rw [hv]; exact take4 x (0 + 4)
                    clear hd hv
                    have wv : IntKind.u32.wrap (vb : Int) = (vb : Int) := by simp [IntKind.wrap, IntKind.bits, IntKind.signed]; omega
                    have hgx := (HRb.out.plain trivial).1
                    have x11 := CkBlk.at (i := 11) hgx rfl
                    have z11 := Blk.frozen hgx 11
                    clear hgx
                    go_upto_region 50 with fail
                    obtain ⟨W2, hW⟩ : ∃ W, W = Vb.setCell ⟨g, 11, none⟩ (.int .u32 (vb : Int)) := ⟨_, rfl⟩
                    rw [← hW]
                    obtain ⟨d2, hd⟩ : ∃ d, d = { d1 with win := vb } := ⟨_, rfl⟩
                    have HD2 := Lib.hid hd
                    have HS2 : Hid (GtS True w W2 p g g2 At ct x (0 + 4 + 4) d2) := by
                      have k := (HRb.out.plain trivial).2.2
                      have kb := (HRb.out.plain trivial).2.1
                      rw [hW]
                      exact HRb.out.store trivial (d' := d2) (by rw [hd]; rfl) (by rw [hd]; exact ⟨k.kind, k.tsn, k.st, k.mid, k.pp, k.fr, k.tag, by show vb < _; omega, k.out, k.inn, k.gaps, k.dups, k.skips, k.ps⟩) (by rw [hd]; exact ⟨kb.gaps, kb.dups, kb.skips, kb.ps, kb.body⟩)
                    clear hW hd x11 z11 wv HS1 HRb
                    go_wp2_with fail
                    refine (num_yes (n := 2) HS2.out.tp (by have := HLEN.out; have := HC.out; omega) (by omega)).mono ?_
                    rintro e Vc hd
                    obtain ⟨rfl, HRc⟩ := HS2.out.read trivial hd
                    obtain ⟨vc, hv⟩ : ∃ v, v = Oct.num ((x.drop (0 + 4 + 4)).take 2) := ⟨_, rfl⟩
                    rw [← hv]
                    have HVc := Lib.hid hv
                    have hvbc : vc < 65536 := by rw [hv]; exact take2 x (0 + 4 + 4)
                    clear hd hv
                    have wv : IntKind.u16.wrap (vc : Int) = (vc : Int) := by simp [IntKind.wrap, IntKind.bits, IntKind.signed]; omega
                    have hgx := (HRc.out.plain trivial).1
                    have x12 := CkBlk.at (i := 12) hgx rfl
                    have z12 := Blk.frozen hgx 12
                    clear hgx
                    go_upto_region 51 with fail
                    obtain ⟨W3, hW⟩ : ∃ W, W = Vc.setCell ⟨g, 12, none⟩ (.int .u16 (vc : Int)) := ⟨_, rfl⟩
                    rw [← hW]
                    obtain ⟨d3, hd⟩ : ∃ d, d = { d2 with out := vc } := ⟨_, rfl⟩
                    have HD3 := Lib.hid hd
                    have HS3 : Hid (GtS True w W3 p g g2 At ct x (0 + 4 + 4 + 2) d3) := by
                      have k := (HRc.out.plain trivial).2.2
                      have kb := (HRc.out.plain trivial).2.1
                      rw [hW]
                      exact HRc.out.store trivial (d' := d3) (by rw [hd]; rfl) (by rw [hd]; exact ⟨k.kind, k.tsn, k.st, k.mid, k.pp, k.fr, k.tag, k.win, by show vc < _; omega, k.inn, k.gaps, k.dups, k.skips, k.ps⟩) (by rw [hd]; exact ⟨kb.gaps, kb.dups, kb.skips, kb.ps, kb.body⟩)
                    clear hW hd x12 z12 wv HS2 HRc
                    go_wp2_with fail
                    refine (num_yes (n := 2) HS3.out.tp (by have := HLEN.out; have := HC.out; omega) (by omega)).mono ?_
                    rintro e Vd hd
                    obtain ⟨rfl, HRd⟩ := HS3.out.read trivial hd
                    obtain ⟨vd, hv⟩ : ∃ v, v = Oct.num ((x.drop (0 + 4 + 4 + 2)).take 2) := ⟨_, rfl⟩
                    rw [← hv]
                    have HVd := Lib.hid hv
                    have hvbd : vd < 65536 := by rw [hv]; exact take2 x (0 + 4 + 4 + 2)
                    clear hd hv
                    have wv : IntKind.u16.wrap (vd : Int) = (vd : Int) := by simp [IntKind.wrap, IntKind.bits, IntKind.signed]; omega
                    have hgx := (HRd.out.plain trivial).1
                    have x13 := CkBlk.at (i := 13) hgx rfl
                    have z13 := Blk.frozen hgx 13
                    clear hgx
                    go_upto_region 52 with fail
                    obtain ⟨W4, hW⟩ : ∃ W, W = Vd.setCell ⟨g, 13, none⟩ (.int .u16 (vd : Int)) := ⟨_, rfl⟩
                    rw [← hW]
                    obtain ⟨d4, hd⟩ : ∃ d, d = { d3 with inn := vd } := ⟨_, rfl⟩
                    have HD4 := Lib.hid hd
                    have HS4 : Hid (GtS True w W4 p g g2 At ct x (0 + 4 + 4 + 2 + 2) d4) := by
                      have k := (HRd.out.plain trivial).2.2
                      have kb := (HRd.out.plain trivial).2.1
                      rw [hW]
                      exact HRd.out.store trivial (d' := d4) (by rw [hd]; rfl) (by rw [hd]; exact ⟨k.kind, k.tsn, k.st, k.mid, k.pp, k.fr, k.tag, k.win, k.out, by show vd < _; omega, k.gaps, k.dups, k.skips, k.ps⟩) (by rw [hd]; exact ⟨kb.gaps, kb.dups, kb.skips, kb.ps, kb.body⟩)
                    clear hW hd x13 z13 wv HS3 HRd
                    go_wp2_with fail
                    refine (num_yes (n := 4) HS4.out.tp (by have := HLEN.out; have := HC.out; omega) (by omega)).mono ?_
                    rintro e Ve hd
                    obtain ⟨rfl, HRe⟩ := HS4.out.read trivial hd
                    obtain ⟨ve, hv⟩ : ∃ v, v = Oct.num ((x.drop (0 + 4 + 4 + 2 + 2)).take 4) := ⟨_, rfl⟩
                    rw [← hv]
                    have HVe := Lib.hid hv
                    have hvbe : ve < 4294967296 := by rw [hv]; exact take4 x (0 + 4 + 4 + 2 + 2)
                    clear hd hv
                    have wv : IntKind.u32.wrap (ve : Int) = (ve : Int) := by simp [IntKind.wrap, IntKind.bits, IntKind.signed]; omega
                    have hgx := (HRe.out.plain trivial).1
                    have x5 := CkBlk.at (i := 5) hgx rfl
                    have z5 := Blk.frozen hgx 5
                    clear hgx
                    go_wp2_with fail
                    obtain ⟨W5, hW⟩ : ∃ W, W = Ve.setCell ⟨g, 5, none⟩ (.int .u32 (ve : Int)) := ⟨_, rfl⟩
                    rw [← hW]
                    obtain ⟨d5, hd⟩ : ∃ d, d = { d4 with tsn := ve } := ⟨_, rfl⟩
                    have HD5 := Lib.hid hd
                    have HS5 : Hid (GtS True w W5 p g g2 At ct x (0 + 4 + 4 + 2 + 2 + 4) d5) := by
                      have k := (HRe.out.plain trivial).2.2
                      have kb := (HRe.out.plain trivial).2.1
                      rw [hW]
                      exact HRe.out.store trivial (d' := d5) (by rw [hd]; rfl) (by rw [hd]; exact ⟨k.kind, by show ve < _; omega, k.st, k.mid, k.pp, k.fr, k.tag, k.win, k.out, k.inn, k.gaps, k.dups, k.skips, k.ps⟩) (by rw [hd]; exact ⟨kb.gaps, kb.dups, kb.skips, kb.ps, kb.body⟩)
                    clear hW hd x5 z5 wv HS4 HRe
                    have HF : Hid (GtS True w W5 p g g2 At ct x (J3 kd) (E3 kd f x)) := by
                      have e : d5 = E3 kd f x := by
                        unfold E3 withGreet
                        rw [if_pos HC.out, ← HD0.out]
                        rw [HD5.out]
                        rw [HD4.out]
                        dsimp only
                        rw [HD3.out]
                        dsimp only
                        rw [HD2.out]
                        dsimp only
                        rw [HD1.out]
                        dsimp only
                        rw [HVa.out, HVb.out, HVc.out, HVd.out, HVe.out, List.drop_zero]
                      have h := HS5.out
                      rw [e] at h
                      have ej : J3 kd = 0 + 4 + 4 + 2 + 2 + 4 := by unfold J3; rw [if_pos HC.out]
                      rw [ej]
                      exact h
                    go_meet
                    exact HF
                  · have hc : ¬ (kd = 1 ∨ kd = 2) := of_decide_eq_false HR.out.symm
                    have HC := Lib.hid hc
                    clear hc HR
                    have HF : Hid (GtS True w W0 p g g2 At ct x (J3 kd) (E3 kd f x)) := by have h := HS0.out.as (d' := E3 kd f x) (by unfold E3; rw [if_neg HC.out]); unfold J3; rw [if_neg HC.out]; exact h
                    go_wp2_with fail
                    go_meet
                    exact HF
                case rest =>
                  have HS0 := hcut
                  obtain ⟨W0, hW0⟩ : ∃ W, W = wc := ⟨_, rfl⟩
                  rw [← hW0] at HS0 ⊢
                  clear hW0 hcut
                  go_upto_if 219 with (fail)
                  go_cut [] from 219 to 219 (fun wx => Hid (GtS (kd ≠ 3) w wx p g g2 At ct x (J4 kd mm) (E4 kd f x)) ∧ Hid (kd = 3 → x.length - 12 = 4 * (Oct.num ((x.drop 8).take 2) + Oct.num ((x.drop 10).take 2))))
                  case first => as_aux_lemma =>
                    by_cases hc : kd = 3
                    · have dt : ((kd : Int) == 3) = true := by rw [hc]; rfl
                      have HC := Lib.hid hc
                      clear hc
                      have HLEN : Hid (12 ≤ x.length) := by
                        show 12 ≤ x.length
                        have h1 := shape_len HSHP.out
                        rw [HXL.out, HC.out] at h1
                        exact h1
                      have hj0 : Hid (J3 kd = 0) := by have := HC.out; unfold J3 J1; rw [if_neg (by omega), if_neg (by omega), if_neg (by omega)]; rfl
                      have HS0 : Hid (GtS True w W0 p g g2 At ct x 0 (E3 kd f x)) := by have := HS0.out; rw [hj0.out] at this; exact this
                      obtain ⟨d0, hd0⟩ : ∃ d, d = E3 kd f x := ⟨_, rfl⟩
                      rw [← hd0] at HS0
                      have HD0 := Lib.hid hd0
                      clear hd0 hj0
                      go_wp2_with fail
                      refine (num_yes (n := 4) HS0.out.tp (by have := HLEN.out; have := HC.out; omega) (by omega)).mono ?_
                      rintro e Va hd
                      obtain ⟨rfl, HRa⟩ := HS0.out.read trivial hd
                      obtain ⟨va, hv⟩ : ∃ v, v = Oct.num ((x.drop (0)).take 4) := ⟨_, rfl⟩
                      rw [← hv]
                      have HVa := Lib.hid hv
                      have hvba : va < 4294967296 := by rw [hv]; exact take4 x (0)
                      clear hd hv
                      have wv : IntKind.u32.wrap (va : Int) = (va : Int) := by simp [IntKind.wrap, IntKind.bits, IntKind.signed]; omega
                      have hgx := (HRa.out.plain trivial).1
                      have x5 := CkBlk.at (i := 5) hgx rfl
                      have z5 := Blk.frozen hgx 5
                      clear hgx
                      go_upto_region 55 with fail
                      obtain ⟨W1, hW⟩ : ∃ W, W = Va.setCell ⟨g, 5, none⟩ (.int .u32 (va : Int)) := ⟨_, rfl⟩
                      rw [← hW]
                      obtain ⟨d1, hd⟩ : ∃ d, d = { d0 with tsn := va } := ⟨_, rfl⟩
                      have HD1 := Lib.hid hd
                      have HS1 : Hid (GtS True w W1 p g g2 At ct x (0 + 4) d1) := by
                        have k := (HRa.out.plain trivial).2.2
                        have kb := (HRa.out.plain trivial).2.1
                        rw [hW]
                        exact HRa.out.store trivial (d' := d1) (by rw [hd]; rfl) (by rw [hd]; exact ⟨k.kind, by show va < _; omega, k.st, k.mid, k.pp, k.fr, k.tag, k.win, k.out, k.inn, k.gaps, k.dups, k.skips, k.ps⟩) (by rw [hd]; exact ⟨kb.gaps, kb.dups, kb.skips, kb.ps, kb.body⟩)
                      clear hW hd x5 z5 wv HS0 HRa
                      go_wp2_with fail
                      refine (num_yes (n := 4) HS1.out.tp (by have := HLEN.out; have := HC.out; omega) (by omega)).mono ?_
                      rintro e Vb hd
                      obtain ⟨rfl, HRb⟩ := HS1.out.read trivial hd
                      obtain ⟨vb, hv⟩ : ∃ v, v = Oct.num ((x.drop (0 + 4)).take 4) := ⟨_, rfl⟩
                      rw [← hv]
                      have HVb := Lib.hid hv
                      have hvbb : vb < 4294967296 := by rw [hv]; exact take4 x (0 + 4)
                      clear hd hv
                      have wv : IntKind.u32.wrap (vb : Int) = (vb : Int) := by simp [IntKind.wrap, IntKind.bits, IntKind.signed]; omega
                      have hgx := (HRb.out.plain trivial).1
                      have x11 := CkBlk.at (i := 11) hgx rfl
                      have z11 := Blk.frozen hgx 11
                      clear hgx
                      go_upto_region 56 with fail
                      obtain ⟨W2, hW⟩ : ∃ W, W = Vb.setCell ⟨g, 11, none⟩ (.int .u32 (vb : Int)) := ⟨_, rfl⟩
                      rw [← hW]
                      obtain ⟨d2, hd⟩ : ∃ d, d = { d1 with win := vb } := ⟨_, rfl⟩
                      have HD2 := Lib.hid hd
                      have HS2 : Hid (GtS True w W2 p g g2 At ct x (0 + 4 + 4) d2) := by
                        have k := (HRb.out.plain trivial).2.2
                        have kb := (HRb.out.plain trivial).2.1
                        rw [hW]
                        exact HRb.out.store trivial (d' := d2) (by rw [hd]; rfl) (by rw [hd]; exact ⟨k.kind, k.tsn, k.st, k.mid, k.pp, k.fr, k.tag, by show vb < _; omega, k.out, k.inn, k.gaps, k.dups, k.skips, k.ps⟩) (by rw [hd]; exact ⟨kb.gaps, kb.dups, kb.skips, kb.ps, kb.body⟩)
                      clear hW hd x11 z11 wv HS1 HRb
                      go_wp2_with fail
                      refine (num_yes (n := 2) HS2.out.tp (by have := HLEN.out; have := HC.out; omega) (by omega)).mono ?_
                      rintro e Vc hd
                      obtain ⟨rfl, HRc⟩ := HS2.out.read trivial hd
                      obtain ⟨vc, hv⟩ : ∃ v, v = Oct.num ((x.drop (0 + 4 + 4)).take 2) := ⟨_, rfl⟩
                      rw [← hv]
                      have HVc := Lib.hid hv
                      have hvbc : vc < 65536 := by rw [hv]; exact take2 x (0 + 4 + 4)
                      clear hd hv
                      have wv : IntKind.i64.wrap (vc : Int) = (vc : Int) := IntWalk.i64_in _ (by omega)
                      go_upto_region 57 with fail
                      clear wv
                      obtain ⟨W3, hW⟩ : ∃ W, W = Vc := ⟨_, rfl⟩
                      rw [← hW] at HRc ⊢
                      have HS3 := HRc
                      obtain ⟨d3, hd⟩ : ∃ d, d = d2 := ⟨_, rfl⟩
                      rw [← hd] at HS3
                      have HD3 := Lib.hid hd
                      clear hW hd HRc HS2
                      go_wp2_with fail
                      refine (num_yes (n := 2) HS3.out.tp (by have := HLEN.out; have := HC.out; omega) (by omega)).mono ?_
                      rintro e Vd hd
                      obtain ⟨rfl, HRd⟩ := HS3.out.read trivial hd
                      obtain ⟨vd, hv⟩ : ∃ v, v = Oct.num ((x.drop (0 + 4 + 4 + 2)).take 2) := ⟨_, rfl⟩
                      rw [← hv]
                      have HVd := Lib.hid hv
                      have hvbd : vd < 65536 := by rw [hv]; exact take2 x (0 + 4 + 4 + 2)
                      clear hd hv
                      have wv : IntKind.i64.wrap (vd : Int) = (vd : Int) := IntWalk.i64_in _ (by omega)
                      go_upto_region 58 with fail
                      clear wv
                      obtain ⟨W4, hW⟩ : ∃ W, W = Vd := ⟨_, rfl⟩
                      rw [← hW] at HRd ⊢
                      have HS4 := HRd
                      obtain ⟨d4, hd⟩ : ∃ d, d = d3 := ⟨_, rfl⟩
                      rw [← hd] at HS4
                      have HD4 := Lib.hid hd
                      clear hW hd HRd HS3
                      have HVc2 : Hid (vc = Oct.num ((x.drop 8).take 2)) := HVc.out
                      have HVd2 : Hid (vd = Oct.num ((x.drop 10).take 2)) := HVd.out
                      by_cases hq : mm = 12 + 4 * (vc + vd)
                      rotate_left
                      · have hne : ((mm : Int) != 12 + 4 * ((vc : Int) + (vd : Int))) = true := by simp; omega
                        have HE : Hid (getC b = .error 42) := HE42.out (by rw [HC.out]; exact dec_3_bad (by rw [← HVc2.out, ← HVd2.out, ← HXL.out]; have h1 := HLEN.out; rw [← HXL.out] at h1; omega))
                        clear hq
                        have HZ := Lib.hid (ERR.out W4 42 HS4.out.below HS4.out.b2 HE.out)
                        go_wp2_with (first | refine wpList_build_none rfl 32 rfl _ built_none ?_ | refine wpList_store_row rfl 32 _ _ rfl g2 zeroA rfl rfl 32 _ HS4.out.b2 chunk_info rfl (ck_one _) ?_)
                        (try simp only [Exit.inBlock, Exit.then])
                        refine bodyPost_ret (res_ck rfl _ _ g2 _ rfl HZ.out.1 rfl) rfl ?_
                        exact HZ.out.2
                      have hne : ((mm : Int) != 12 + 4 * ((vc : Int) + (vd : Int))) = false := by simp; omega
                      have H3 : Hid (kd = 3 → x.length - 12 = 4 * (Oct.num ((x.drop 8).take 2) + Oct.num ((x.drop 10).take 2))) := fun _ => by rw [← HVc2.out, ← HVd2.out, ← HXL.out]; omega
                      have hpl := HS4.out.plain trivial
                      have HBR := Lib.hid hpl.2.1
                      have HOK := Lib.hid hpl.2.2
                      have HG0 := Lib.hid (G4.start HS4.out trivial)
                      obtain ⟨B0, hB0⟩ : ∃ B, B = W4.heap.size := ⟨_, rfl⟩
                      have HG0 : Hid (G4 w W4 B0 p g g2 At ct x (12 + 4 * 0) d4 nilV nilV) := by rw [hB0]; exact HG0
                      clear hpl hB0 HS4
                      obtain ⟨j0, hj0, hjz0, hjz1, hjz2⟩ := info_parts3 gap_info
                      obtain ⟨k0, hk0, hkz0, hkz1, hkz2⟩ := info_parts3 u32_info
                      have hxl : 12 + 4 * (vc + vd) ≤ x.length := by rw [← HXL.out]; omega
                      have HQ2 : Hid (mm = 12 + 4 * (vc + vd)) := hq
                      clear hq
                      go_upto_region 60 with fail
                      clear hne
                      go_wp2_with fail
                      go_loopw [20, 21] (fun i _ wr => ∃ (k : Nat) (gv : Value), k ≤ vc ∧ i = .int .i64 k ∧ Hid (G4 w wr B0 p g g2 At ct x (12 + 4 * k) d4 gv nilV) ∧ Hid (wr.ownsRow B0 85 2 gv k (gapC (gapsN k (x.drop 12))))) (fun i _ _ => vc - (intOf i).toNat)
                      case atStart => exact ⟨0, nilV, by omega, rfl, HG0, World.ownsRow_nil _ _ _ _⟩
                      case round =>
                        obtain ⟨k, gv, hk, rfl, HG, HO⟩ := hrel
                        by_cases hlt : k < vc
                        · obtain ⟨j, hj⟩ : ∃ j, j = 12 + 4 * k := ⟨_, rfl⟩
                          rw [← hj] at HG
                          have hjl : j + 4 ≤ x.length := by omega
                          have HSN : Hid (gapsN (k + 1) (x.drop 12) = gapsN k (x.drop 12) ++ [(Oct.num ((x.drop j).take 2), Oct.num ((x.drop (j + 2)).take 2))]) := by rw [hj, gapsN_snoc, List.drop_drop, List.drop_drop]; rfl
                          obtain ⟨xs, hxs⟩ : ∃ xs, xs = gapC (gapsN k (x.drop 12)) := ⟨_, rfl⟩
                          have HXS := Lib.hid hxs
                          rw [← hxs] at HO
                          have HJ := Lib.hid hj
                          clear hj hxs
                          obtain ⟨va2, hva2⟩ : ∃ v, v = Oct.num ((x.drop j).take 2) := ⟨_, rfl⟩
                          obtain ⟨vb2, hvb2⟩ : ∃ v, v = Oct.num ((x.drop (j + 2)).take 2) := ⟨_, rfl⟩
                          have ba : va2 < 65536 := by rw [hva2]; exact take2 x j
                          have bb : vb2 < 65536 := by rw [hvb2]; exact take2 x (j + 2)
                          have HVA := Lib.hid hva2
                          have HVB := Lib.hid hvb2
                          clear hva2 hvb2
                          go_wp2_with fail
                          refine (num_yes (n := 2) HG.out.tp (by omega) (by omega)).mono ?_
                          rintro e V1 hd
                          have HO1 := Lib.hid (num_own hd (Nat.lt_trans HG.out.pg HG.out.gB) HO.out)
                          obtain ⟨rfl, hg1⟩ := HG.out.num_ hd
                          have HG1 := Lib.hid hg1
                          rw [← HVA.out]
                          clear hd hg1 HG HO
                          have wa : IntKind.u16.wrap (va2 : Int) = (va2 : Int) := by simp [IntKind.wrap, IntKind.bits, IntKind.signed]; omega
                          have wb : IntKind.u16.wrap (vb2 : Int) = (vb2 : Int) := by simp [IntKind.wrap, IntKind.bits, IntKind.signed]; omega
                          have HS0 : Hid (G4 w V1.drew B0 p g g2 At ct x (j + 2) d4 gv nilV ∧ V1.drew.ownsRow B0 85 2 gv k xs) := ⟨HG1.out.drew, (Fr.refl (fun _ => False) V1).drew.own HO1.out (fun _ _ h => h)⟩
                          have HPB : Hid (p < B0) := Nat.lt_trans HG1.out.pg HG1.out.gB
                          go_upto_region 64 with (fail)
                          clear HG1 HO1 wa
                          refine wp_region_stage_tail 10 (fun m => stRel 2 p gv m) (fun m V => Hid (G4 w V B0 p g g2 At ct x (if m = 0 then j + 2 else j + 2 + 2) d4 gv nilV ∧ (m ≤ 2 → V.ownsRow B0 85 2 gv k xs))) [(false, .exact (.pointer (some ⟨g, 14, none⟩))),
                              (false, .exact (gv)),
                              (false, .exact (.int .u16 ((va2 : Nat) : Int))),
                              (false, .exact (.pointer (some ⟨p, 0, none⟩))),
                              (true, .exact (.int .u64 ((vb2 : Nat) : Int))),
                              (false, .exact (.int .u16 ((vb2 : Nat) : Int))),
                              (false, .exact (.agg #[.int .u16 ((va2 : Nat) : Int), .int .u16 ((vb2 : Nat) : Int)])),
                              (true, .grows (Laid 85 #[.int .u16 ((va2 : Nat) : Int), .int .u16 ((vb2 : Nat) : Int)] p gv)),
                              (true, .grows (Grew B0 85 2 p (k + 1) (xs ++ [.int .u16 ((va2 : Nat) : Int), .int .u16 ((vb2 : Nat) : Int)]))),
                              (false, .exact (.pointer (some ⟨g, 14, none⟩)))] (by kernel_rfl) (by kernel_rfl) (by kernel_rfl) rfl (of_decide_eq_true (by kernel_rfl)) (by kernel_rfl) (by kernel_rfl) ?lasts ?start ?walk
                          case lasts => exact ⟨fun m v V V' _ h k => h.lasts k, fun m v V V' hm h k => h.lasts (fun e => by subst e; exact absurd (hm rfl) (by decide)) k, trivial⟩
                          case start => exact ⟨HS0.out.1, fun _ => HS0.out.2⟩
                          case walk =>
                            simp only [List.take_succ_cons, List.take_zero, List.drop_succ_cons, List.drop_zero]
                            refine stageT_pure rfl (fun m V => Fr.refl _ _) (fun V m hS hl => by go_simp) ?_
                            simp only [Act.put, List.setIfInBounds_toArray, List.set_cons_zero, List.set_cons_succ, List.cons_append, List.nil_append]
                            refine stageT_pure rfl (fun m V => Fr.refl _ _) (fun V m hS hl => by
                                have hc : V.cell? ⟨g, 14, none⟩ = some gv := CkBlk.at hS.out.1.b1 rfl
                                go_simp) ?_
                            simp only [Act.put, List.setIfInBounds_toArray, List.set_cons_zero, List.set_cons_succ, List.cons_append, List.nil_append]
                            refine stageT_pure rfl (fun m V => Fr.refl _ _) (fun V m hS hl => by go_simp) ?_
                            simp only [Act.put, List.setIfInBounds_toArray, List.set_cons_zero, List.set_cons_succ, List.cons_append, List.nil_append]
                            refine stageT_pure rfl (fun m V => Fr.refl _ _) (fun V m hS hl => by go_simp) ?_
                            simp only [Act.put, List.setIfInBounds_toArray, List.set_cons_zero, List.set_cons_succ, List.cons_append, List.nil_append]
                            refine stageT_move rfl (fun V hS hl => by
                                go_simp
                                refine (num_yes (n := 2) (show TapeAt V p At ct x (j + 2) false from hS.out.1.tp) (by omega) (by omega)).mono ?_
                                rintro e V' hd
                                have r1 := num_rel (v := gv) hd (show (0 : Nat) ≠ 2 by decide)
                                have r2 := num_own hd HPB.out (hS.out.2 (by decide))
                                obtain ⟨rfl, r3⟩ := (show G4 w V B0 p g g2 At ct x (j + 2) d4 gv nilV from hS.out.1).num_ hd
                                exact ⟨_, rfl, r1, by rw [HVB.out], r3, by first | exact r2 | exact fun _ => r2⟩) ?_
                            simp only [Act.put, List.setIfInBounds_toArray, List.set_cons_zero, List.set_cons_succ, List.cons_append, List.nil_append]
                            refine stageT_pure rfl (fun m V => Fr.refl _ _) (fun V m hS hl => by go_simp) ?_
                            simp only [Act.put, List.setIfInBounds_toArray, List.set_cons_zero, List.set_cons_succ, List.cons_append, List.nil_append]
                            refine stageT_pure rfl (fun m V => Fr.refl _ _) (fun V m hS hl => by go_simp) ?_
                            simp only [Act.put, List.setIfInBounds_toArray, List.set_cons_zero, List.set_cons_succ, List.cons_append, List.nil_append]
                            refine stageT_move_grows rfl (fun V hS hl => by
                                go_simp
                                have h3 := lay_ hS.out.1 (show (1 : Nat) ≠ 2 by decide) (hS.out.2 (by decide)) 85 #[.int .u16 ((va2 : Nat) : Int), .int .u16 ((vb2 : Nat) : Int)]
                                exact ⟨h3.1, h3.2.1, h3.2.2.1, by first | exact h3.2.2.2 | exact fun _ => h3.2.2.2⟩) (fun v257 => ?_)
                            simp only [Act.put, List.setIfInBounds_toArray, List.set_cons_zero, List.set_cons_succ, List.cons_append, List.nil_append]
                            refine stageT_move_grows rfl (fun V hS hl => by
                                obtain ⟨b, rfl, hbl, hb1, hb2⟩ := (hl.1 (by kernel_rfl))
                                exact leaves_append (.tmp 251) (.tmp 257) _ rfl B0 85 j0 _ 2 4 Try.underlying27 hj0 hjz0 hjz1 hjz2 rfl (by omega) gv k xs rfl (hS.out.2 (Nat.le_refl _)) (b + 1) (some ⟨b, 0, none⟩) 1 1 [.int .u16 ((va2 : Nat) : Int), .int .u16 ((vb2 : Nat) : Int)] rfl (blk_reads hbl rfl) (by simp [Value.oneCell']) (by simp only [maxLen]; omega) (by omega) hS.out.1.size (fun v' V' ho hg _ => have h3 := grow_ (a := 2) hS.out.1 (hS.out.2 (Nat.le_refl _)) ho hg; ⟨h3.1, h3.2.1, h3.2.2, by first | trivial | exact fun h => absurd h (by decide)⟩)) (fun v258 => ?_)
                            simp only [Act.put, List.setIfInBounds_toArray, List.set_cons_zero, List.set_cons_succ, List.cons_append, List.nil_append]
                            refine stageT_pure rfl (fun m V => Fr.refl _ _) (fun V m hS hl => by go_simp) ?_
                            simp only [Act.put, List.setIfInBounds_toArray, List.set_cons_zero, List.set_cons_succ, List.cons_append, List.nil_append]
                            refine stageT_nil (fun V2 hS hF => ?_)
                            have hF2 : Laid 85 #[.int .u16 ((va2 : Nat) : Int), .int .u16 ((vb2 : Nat) : Int)] p gv v257 V2 ∧ Grew B0 85 2 p (k + 1) (xs ++ [.int .u16 ((va2 : Nat) : Int), .int .u16 ((vb2 : Nat) : Int)]) v258 V2 ∧ True := hF
                            have HG2 : Hid (G4 w V2 B0 p g g2 At ct x (j + 2 + 2) d4 gv nilV) := hS.out.1
                            have HO2 := Lib.hid hF2.2.1.1
                            obtain ⟨A7, c7, rfl, h7a, h7b⟩ := own_slice HO2.out
                            have kc : V2.cell? ⟨g, 14, none⟩ = some gv := CkBlk.at HG2.out.b1 rfl
                            have kf := Blk.frozen HG2.out.b1 14
                            clear hS hF hF2 HS0
                            show wpList _ _ _ _ _ _
                            go_wp2_with fail
                            go_roundw
                            case rel =>
                              refine ⟨k + 1, .slice A7 (k + 1) c7, by omega, by go_num, ?_, ?_⟩
                              · have h := HG2.out.set_ (f := 14) (u := .slice A7 (k + 1) c7) (gv' := .slice A7 (k + 1) c7) (dv' := nilV) rfl
                                have e : j + 2 + 2 = 12 + 4 * (k + 1) := by have := HJ.out; omega
                                rw [e] at h
                                exact h
                              · have h := set_own (f := 14) (u := .slice A7 (k + 1) c7) HG2.out.gB HO2.out
                                rw [HSN.out, gapC_snoc, ← HXS.out, ← HVA.out, ← HVB.out]
                                exact h
                            case measure => simp [intOf]; omega
                        · obtain rfl : k = vc := by omega
                          obtain ⟨A5, c5, hgv, h5a, h5b⟩ := own_slice HO.out
                          subst hgv
                          go_wp2_with fail
                          go_loopw [22, 23] (fun i _ wr2 => ∃ (m0 : Nat) (dv : Value), m0 ≤ vd ∧ i = .int .i64 m0 ∧ Hid (G4 w wr2 B0 p g g2 At ct x (12 + 4 * k + 4 * m0) d4 (.slice A5 k c5) dv) ∧ Hid (wr2.ownsRow B0 85 2 (.slice A5 k c5) k (gapC (gapsN k (x.drop 12)))) ∧ Hid (wr2.ownsRow B0 25 1 dv m0 (dupC (dupsN m0 ((x.drop 12).drop (4 * k)))))) (fun i _ _ => vd - (intOf i).toNat)
                          case atStart => exact ⟨0, nilV, by omega, rfl, HG, HO, World.ownsRow_nil _ _ _ _⟩
                          case round =>
                            obtain ⟨m0, dv, hm0, rfl, HG, HO, HOD⟩ := hrel
                            by_cases hlt2 : m0 < vd
                            · obtain ⟨j, hj⟩ : ∃ j, j = 12 + 4 * k + 4 * m0 := ⟨_, rfl⟩
                              rw [← hj] at HG
                              have hjl : j + 4 ≤ x.length := by omega
                              have HSN : Hid (dupsN (m0 + 1) ((x.drop 12).drop (4 * k)) = dupsN m0 ((x.drop 12).drop (4 * k)) ++ [Oct.num ((x.drop j).take 4)]) := by rw [hj, dupsN_snoc, List.drop_drop, List.drop_drop]; rfl
                              obtain ⟨xs, hxs⟩ : ∃ xs, xs = dupC (dupsN m0 ((x.drop 12).drop (4 * k))) := ⟨_, rfl⟩
                              have HXS := Lib.hid hxs
                              rw [← hxs] at HOD
                              obtain ⟨ys, hys⟩ : ∃ ys, ys = gapC (gapsN k (x.drop 12)) := ⟨_, rfl⟩
                              have HYS := Lib.hid hys
                              rw [← hys] at HO
                              have HJ := Lib.hid hj
                              clear hj hxs hys
                              obtain ⟨va2, hva2⟩ : ∃ v, v = Oct.num ((x.drop j).take 4) := ⟨_, rfl⟩
                              have ba : va2 < 4294967296 := by rw [hva2]; exact take4 x j
                              have HVA := Lib.hid hva2
                              clear hva2
                              go_wp2_with fail
                              refine (num_yes (n := 4) HG.out.tp (by omega) (by omega)).mono ?_
                              rintro e V1 hd
                              have HPB : Hid (p < B0) := Nat.lt_trans HG.out.pg HG.out.gB
                              have HO1 := Lib.hid (num_own hd HPB.out HO.out)
                              have HOD1 := Lib.hid (num_own hd HPB.out HOD.out)
                              obtain ⟨rfl, hg1⟩ := HG.out.num_ hd
                              have HG1 := Lib.hid hg1
                              rw [← HVA.out]
                              clear hd hg1 HG HO HOD
                              have wa : IntKind.u32.wrap (va2 : Int) = (va2 : Int) := by simp [IntKind.wrap, IntKind.bits, IntKind.signed]; omega
                              go_upto_region 69 with (fail)
                              clear wa
                              have f15 : V1.cell? ⟨g, 15, none⟩ = some dv := CkBlk.at HG1.out.b1 rfl
                              obtain ⟨Ad, cd, hdv, h6a, h6b⟩ := own_slice HOD1.out
                              subst hdv
                              have hBs := HG1.out.size
                              go_wp2_with (at_builtin; refine wpList_append_any _ rfl (.tmp 269) (.tmp 271) _ rfl B0 25 k0 _ 1 4 Try.underlying28 hk0 hkz0 hkz1 hkz2 rfl (by omega) (.slice Ad m0 cd) m0 xs rfl (HOD1.out.alloc _) (V1.heap.size + 1) (some ⟨V1.heap.size, 0, none⟩) 1 1 [.int .u32 ((va2 : Nat) : Int)] rfl (blk_reads (Blk.new V1 25 #[.int .u32 ((va2 : Nat) : Int)]) rfl) (by simp [Value.oneCell']) (by simp only [maxLen]; omega) (by omega) (Nat.le_trans hBs (by simp)) ?_; intro v7 w7 hown7 hg7 hat7; obtain ⟨A7, c7, rfl, h7a, h7b⟩ := own_slice hown7; have hb8 := (Below.refl V1.heap.size V1).alloc (Nat.le_refl _) (.cells #[.int .u32 ((va2 : Nat) : Int)] 25); have HGA := Lib.hid (HG1.out.grows hb8); have HOA := Lib.hid (own_up HO1.out hb8); have HODA := Lib.hid (own_up HOD1.out hb8); have HG7 := Lib.hid (HGA.out.grown hg7 (fun b hb => (HODA.out.lt b hb).1)); have HO7 := Lib.hid (own_beside HOA.out HODA.out (by decide) hg7); have HOD7 := Lib.hid hown7; have f15b : w7.cell? ⟨g, 15, none⟩ = some (.slice Ad m0 cd) := CkBlk.at HG7.out.b1 rfl; have z15 := Blk.frozen HG7.out.b1 15; clear hown7 hg7 hat7 hb8 HGA HOA HODA)
                              go_roundw
                              case rel =>
                                refine ⟨m0 + 1, .slice A7 (m0 + 1) c7, by omega, by go_num, ?_, ?_, ?_⟩
                                · have h := HG7.out.set_ (f := 15) (u := .slice A7 (m0 + 1) c7) (gv' := .slice A5 k c5) (dv' := .slice A7 (m0 + 1) c7) rfl
                                  have e : j + 4 = 12 + 4 * k + 4 * (m0 + 1) := by have := HJ.out; omega
                                  rw [e] at h
                                  exact h
                                · rw [← HYS.out]
                                  exact set_own (f := 15) (u := .slice A7 (m0 + 1) c7) HG7.out.gB HO7.out
                                · have h := set_own (f := 15) (u := .slice A7 (m0 + 1) c7) HG7.out.gB HOD7.out
                                  rw [HSN.out, dupC_snoc, ← HXS.out, ← HVA.out]
                                  exact h
                              case measure => simp [intOf]; omega
                            · obtain rfl : m0 = vd := by omega
                              obtain ⟨A6, c6, hdv, h6a, h6b⟩ := own_slice HOD.out
                              subst hdv
                              have HF : Hid (GtS (kd ≠ 3) w wr p g g2 At ct x (J4 kd mm) (E4 kd f x)) := by
                                have e1 := enc_gapsN k (x.drop 12) (by rw [List.length_drop]; omega)
                                have e2 := enc_dupsN m0 ((x.drop 12).drop (4 * k)) (by rw [List.length_drop, List.length_drop]; omega)
                                have h := (HG.out.done HBR.out HOK.out HO.out HOD.out e1.2.1.symm e2.2.1.symm ⟨h5a, h5b⟩ ⟨h6a, h6b⟩ e1.2.2 e2.2.2).weak (P' := kd ≠ 3) (fun e => e HC.out)
                                have ed : ({ d4 with gaps := gapsN k (x.drop 12), dups := dupsN m0 ((x.drop 12).drop (4 * k)) } : Ck) = E4 kd f x := by
                                  unfold E4 withSack
                                  rw [if_pos HC.out, ← HVc2.out, ← HVd2.out, HD4.out, HD3.out, HD2.out, HD1.out, HVa.out, HVb.out, List.drop_zero, HD0.out]
                                rw [ed] at h
                                unfold J4
                                rw [if_pos HC.out, HQ2.out, show 12 + 4 * (k + m0) = 12 + 4 * k + 4 * m0 by omega]
                                exact h
                              go_wp2_with fail
                              go_meet
                              exact ⟨HF, H3⟩
                    · have dt : ((kd : Int) == 3) = false := beq_no (by omega)
                      have HC := Lib.hid hc
                      clear hc
                      have HF : Hid (GtS (kd ≠ 3) w W0 p g g2 At ct x (J4 kd mm) (E4 kd f x)) := by have h := (HS0.out.as (d' := E4 kd f x) (by unfold E4; rw [if_neg HC.out])).weak (P' := kd ≠ 3) (fun _ => trivial); unfold J4; rw [if_neg HC.out]; exact h
                      have H3 : Hid (kd = 3 → x.length - 12 = 4 * (Oct.num ((x.drop 8).take 2) + Oct.num ((x.drop 10).take 2))) := fun h => absurd h HC.out
                      go_wp2_with fail
                      go_meet
                      exact ⟨HF, H3⟩
                  case rest =>
                    obtain ⟨HS0, H3⟩ := hcut
                    obtain ⟨W0, hW0⟩ : ∃ W, W = wc := ⟨_, rfl⟩
                    rw [← hW0] at HS0 ⊢
                    clear hW0
                    go_upto_region 70 with fail
                    go_cut [283] from 283 to 283 (fun s wx => ∃ r, s = .bool r ∧ Hid (r = decide (kd = 7 ∨ kd = 192 ∨ kd = 194)) ∧ wx = W0)
                    case first =>
                      by_cases h0 : kd = 7
                      · have d0b : ((kd : Int) == 7) = true := by rw [h0]; rfl
                        have HQ : Hid (kd = 7 ∨ kd = 192 ∨ kd = 194) := by first | exact .inl h0 | exact .inr h0 | exact .inr (.inl h0) | exact .inr (.inr h0) | exact .inr (.inr (.inl h0)) | exact .inr (.inr (.inr h0)) | exact .inr (.inr (.inr (.inl h0))) | exact .inr (.inr (.inr (.inr h0)))
                        clear h0
                        go_wp2_with fail
                        go_meet
                        exact ⟨_, rfl, (decide_eq_true HQ.out).symm, rfl⟩
                      have d0b : ((kd : Int) == 7) = false := beq_no (by omega)
                      have HN0 := Lib.hid h0
                      clear h0
                      by_cases h1 : kd = 192
                      · have d1b : ((kd : Int) == 192) = true := by rw [h1]; rfl
                        have HQ : Hid (kd = 7 ∨ kd = 192 ∨ kd = 194) := by first | exact .inl h1 | exact .inr h1 | exact .inr (.inl h1) | exact .inr (.inr h1) | exact .inr (.inr (.inl h1)) | exact .inr (.inr (.inr h1)) | exact .inr (.inr (.inr (.inl h1))) | exact .inr (.inr (.inr (.inr h1)))
                        clear h1
                        go_wp2_with fail
                        go_meet
                        exact ⟨_, rfl, (decide_eq_true HQ.out).symm, rfl⟩
                      have d1b : ((kd : Int) == 192) = false := beq_no (by omega)
                      have HN1 := Lib.hid h1
                      clear h1
                      by_cases h2 : kd = 194
                      · have d2b : ((kd : Int) == 194) = true := by rw [h2]; rfl
                        have HQ : Hid (kd = 7 ∨ kd = 192 ∨ kd = 194) := by first | exact .inl h2 | exact .inr h2 | exact .inr (.inl h2) | exact .inr (.inr h2) | exact .inr (.inr (.inl h2)) | exact .inr (.inr (.inr h2)) | exact .inr (.inr (.inr (.inl h2))) | exact .inr (.inr (.inr (.inr h2)))
                        clear h2
                        go_wp2_with fail
                        go_meet
                        exact ⟨_, rfl, (decide_eq_true HQ.out).symm, rfl⟩
                      have d2b : ((kd : Int) == 194) = false := beq_no (by omega)
                      have HN2 := Lib.hid h2
                      clear h2
                      have HQ : Hid (¬ (kd = 7 ∨ kd = 192 ∨ kd = 194)) := by
                        have := HN0.out
                        have := HN1.out
                        have := HN2.out
                        show ¬ _
                        omega
                      go_wp2_with fail
                      go_meet
                      exact ⟨_, rfl, (decide_eq_false HQ.out).symm, rfl⟩
                    case rest =>
                      obtain ⟨r, rfl, HR, hwc⟩ := hcut
                      rw [hwc]
                      clear hwc
                      go_upto_if 283 with (fail)
                      go_cut [] from 283 to 283 (fun wx => Hid (GtS (kd ≠ 3) w wx p g g2 At ct x (J5 kd mm) (E5 kd f x)))
                      case first => as_aux_lemma =>
                        cases r
                        rotate_left
                        · have hc : kd = 7 ∨ kd = 192 ∨ kd = 194 := of_decide_eq_true HR.out.symm
                          clear HR
                          have HC := Lib.hid hc
                          clear hc
                          have HLEN : Hid (4 ≤ x.length) := by
                            show 4 ≤ x.length
                            have h1 := shape_len HSHP.out
                            rw [HXL.out] at h1
                            have h2 := HC.out
                            unfold leastN at h1
                            rcases h2 with h2 | h2 | h2 <;> simp [h2] at h1 <;> omega
                          have hj0 : Hid (J4 kd mm = 0) := by have := HC.out; unfold J4 J3 J1; rw [if_neg (by omega), if_neg (by omega), if_neg (by omega), if_neg (by omega)]; rfl
                          have HS0 : Hid (GtS (kd ≠ 3) w W0 p g g2 At ct x 0 (E4 kd f x)) := by have := HS0.out; rw [hj0.out] at this; exact this
                          obtain ⟨d0, hd0⟩ : ∃ d, d = E4 kd f x := ⟨_, rfl⟩
                          rw [← hd0] at HS0
                          have HD0 := Lib.hid hd0
                          clear hd0
                          go_wp2_with fail
                          refine (num_yes (n := 4) HS0.out.tp (by have := HLEN.out; have := HC.out; omega) (by omega)).mono ?_
                          rintro e Va hd
                          obtain ⟨rfl, HRa⟩ := HS0.out.read (fun e => by have := HC.out; omega) hd
                          obtain ⟨va, hv⟩ : ∃ v, v = Oct.num ((x.drop (0)).take 4) := ⟨_, rfl⟩
                          rw [← hv]
                          have HVa := Lib.hid hv
                          have hvba : va < 4294967296 := by rw [hv]; exact take4 x (0)
                          clear hd hv
                          have wv : IntKind.u32.wrap (va : Int) = (va : Int) := by simp [IntKind.wrap, IntKind.bits, IntKind.signed]; omega
                          have hgx := (HRa.out.plain (fun e => by have := HC.out; omega)).1
                          have x5 := CkBlk.at (i := 5) hgx rfl
                          have z5 := Blk.frozen hgx 5
                          clear hgx
                          go_wp2_with fail
                          obtain ⟨W1, hW⟩ : ∃ W, W = Va.setCell ⟨g, 5, none⟩ (.int .u32 (va : Int)) := ⟨_, rfl⟩
                          rw [← hW]
                          obtain ⟨d1, hd⟩ : ∃ d, d = { d0 with tsn := va } := ⟨_, rfl⟩
                          have HD1 := Lib.hid hd
                          have HS1 : Hid (GtS (kd ≠ 3) w W1 p g g2 At ct x (0 + 4) d1) := by
                            have k := (HRa.out.plain (fun e => by have := HC.out; omega)).2.2
                            have kb := (HRa.out.plain (fun e => by have := HC.out; omega)).2.1
                            rw [hW]
                            exact HRa.out.store (fun e => by have := HC.out; omega) (d' := d1) (by rw [hd]; rfl) (by rw [hd]; exact ⟨k.kind, by show va < _; omega, k.st, k.mid, k.pp, k.fr, k.tag, k.win, k.out, k.inn, k.gaps, k.dups, k.skips, k.ps⟩) (by rw [hd]; exact ⟨kb.gaps, kb.dups, kb.skips, kb.ps, kb.body⟩)
                          clear hW hd x5 z5 wv HS0 HRa
                          have HF : Hid (GtS (kd ≠ 3) w W1 p g g2 At ct x (J5 kd mm) (E5 kd f x)) := by
                            have h := HS1.out.as (d' := E5 kd f x) (by unfold E5; rw [if_pos HC.out, HD1.out, HVa.out, List.drop_zero, HD0.out])
                            unfold J5
                            rw [if_pos HC.out]
                            exact h
                          go_meet
                          exact HF
                        · have hc : ¬ (kd = 7 ∨ kd = 192 ∨ kd = 194) := of_decide_eq_false HR.out.symm
                          have HC := Lib.hid hc
                          clear hc HR
                          have HF : Hid (GtS (kd ≠ 3) w W0 p g g2 At ct x (J5 kd mm) (E5 kd f x)) := by have h := HS0.out.as (d' := E5 kd f x) (by unfold E5; rw [if_neg HC.out]); unfold J5; rw [if_neg HC.out]; exact h
                          go_wp2_with fail
                          go_meet
                          exact HF
                      case rest =>
                        have HS0 := hcut
                        obtain ⟨W0, hW0⟩ : ∃ W, W = wc := ⟨_, rfl⟩
                        rw [← hW0] at HS0 ⊢
                        clear hW0 hcut
                        go_upto_block 6 with (fail)
                        go_cut [] from 24 to 25 (fun wx => Hid (GtS (P6 kd) w wx p g g2 At ct x (J6 kd mm) (E6 kd f x)) ∧ Hid (kd = 194 → sksOk ((x.length - 4) / 8) (x.drop 4) = true))
                        case first => as_aux_lemma =>
                          have hkc : kd = 192 ∨ kd = 194 ∨ (kd ≠ 192 ∧ kd ≠ 194) := by omega
                          rcases hkc with hc | hc | hc
                          · have HC := Lib.hid hc
                            clear hc
                            obtain ⟨K, hK⟩ : ∃ K, K = (mm - 4) / 4 := ⟨_, rfl⟩
                            have HKX : Hid (K = (x.length - 4) / 4) := by rw [← HXL.out]; exact hK
                            have hKm : mm = 4 + 4 * K := by have h1 := shape_len HSHP.out; have h2 := shape_mod HSHP.out (by rw [HC.out]; decide); rw [HC.out] at h1 h2; have h1 : 4 ≤ mm := h1; have h2 : (mm - 4) % 4 = 0 := h2; omega
                            have hKm1 : mm ≤ 4 + 4 * K := by omega
                            have hKm2 : 4 + 4 * K ≤ mm := by omega
                            clear hK hKm
                            have hY4 : Y = 4 := by rw [HYE.out, HC.out]; rfl
                            have d4 : decide ((Y : Int) ≥ 4) = true := by rw [hY4]; rfl
                            have dk : decide ((kd : Int) ≥ 192) = true := by rw [HC.out]; rfl
                            have hY4i : (4 : Int) ≤ (Y : Int) := by omega
                            have dki : (192 : Int) ≤ (kd : Int) := by rw [HC.out]; decide
                            clear hY4
                            have d192 : ((kd : Int) == 192) = true := by rw [HC.out]; rfl
                            have HS0 : Hid (GtS (kd ≠ 3) w W0 p g g2 At ct x 4 (E5 kd f x)) := by have := HS0.out; unfold J5 at this; rw [if_pos (by have := HC.out; omega)] at this; exact this
                            obtain ⟨d0, hd0⟩ : ∃ d, d = E5 kd f x := ⟨_, rfl⟩
                            rw [← hd0] at HS0
                            have HD0 := Lib.hid hd0
                            have hpl := HS0.out.plain (by have := HC.out; omega)
                            have HBR := Lib.hid hpl.2.1
                            have HOK := Lib.hid hpl.2.2
                            have HG0 := Lib.hid (GkS.start HS0.out (by have := HC.out; omega))
                            obtain ⟨B0, hB0⟩ : ∃ B, B = W0.heap.size := ⟨_, rfl⟩
                            have HG0 : Hid (GkS w W0 B0 W0.heap.size p g g2 At ct x 4 d0 none 0 0 []) := by rw [hB0]; exact HG0
                            clear hd0 hpl hB0 HS0
                            obtain ⟨j0, hj0, hjz0, hjz1, hjz2⟩ := info_parts3 skip_info
                            have hK5 : K ≤ 16384 := by omega
                            go_wp2_with fail
                            go_loopw [3, 4, 24, 25] (fun _ _ _ _ wr => ∃ (k cp : Nat) (As : Option Addr), k ≤ K ∧ k ≤ cp ∧ cp ≤ 9223372036854775807 ∧ Hid (GkS w wr B0 wr.heap.size p g g2 At ct x (4 + 4 * k) d0 As k cp (sksN k (x.drop 4)))) (fun _ _ _ _ wr => mm - posAt wr p)
                            case atStart => exact ⟨0, 0, none, by omega, by omega, by omega, HG0⟩
                            case round =>
                              obtain ⟨k, cp, As, hk, hkc, hcm, HG⟩ := hrel
                              obtain ⟨j, hj⟩ : ∃ j, j = 4 + 4 * k := ⟨_, rfl⟩
                              rw [← hj] at HG
                              have HJ := Lib.hid hj
                              have hj1 : j ≤ 4 + 4 * k := by omega
                              have hj2 : 4 + 4 * k ≤ j := by omega
                              clear hj
                              have o1 : wr.cell? ⟨p, 1, none⟩ = some (.int .i64 (j : Int)) := HG.out.tp.blk.cell 1
                              by_cases hlt : k < K
                              · have hjm : (j : Int) < (mm : Int) := by omega
                                go_upto_region 74 with fail
                                clear o1
                                obtain ⟨g6, hg6⟩ : ∃ g, g = wr.heap.size := ⟨_, rfl⟩
                                obtain ⟨W2, hW2⟩ : ∃ W, W = wr.alloc (.cells #[.int .u16 0, .bool false, .int .u32 0] 87) := ⟨_, rfl⟩
                                have HBK2 : Hid (Blk W2 g6 87 #[.int .u16 0, .bool false, .int .u32 0]) := by rw [hW2, hg6]; exact Blk.new _ _ _
                                have HK2 := Lib.hid (HG.out.grows (show Below wr.heap.size wr W2 by rw [hW2]; exact (Below.refl _ wr).alloc (Nat.le_refl _) _))
                                rw [← hW2, ← hg6]
                                have hq6 : wr.heap.size ≤ g6 := by omega
                                have HPO : Hid (posAt wr p = j) := posAt_tape HG.out.tp
                                clear hW2 hg6 HG hjm
                                go_wp2_with fail
                                refine (num_yes (n := 2) HK2.out.tp (by have := HXL.out; omega) (by omega)).mono ?_
                                rintro e Va hd
                                have HVab := Lib.hid (Blk.grown HBK2.out hd.2.2 (fun e => by injection e with e; have := HK2.out.pg; have := HK2.out.gB; have := HK2.out.Bq; omega))
                                obtain ⟨rfl, HRa⟩ := HK2.out.num_ hd
                                obtain ⟨va, hv⟩ : ∃ v, v = Oct.num ((x.drop (j)).take 2) := ⟨_, rfl⟩
                                rw [← hv]
                                have HVa := Lib.hid hv
                                have hvba : va < 65536 := by rw [hv]; exact take2 x (j)
                                clear hd hv
                                have wv : IntKind.u16.wrap (va : Int) = (va : Int) := by simp [IntKind.wrap, IntKind.bits, IntKind.signed]; omega
                                have xs0 := (Blk.cell HVab.out 0)
                                have zs0 := Blk.frozen HVab.out 0
                                go_upto_region 76 with fail
                                obtain ⟨W3, hW⟩ : ∃ W, W = Va.setCell ⟨g6, 0, none⟩ (.int .u16 (va : Int)) := ⟨_, rfl⟩
                                rw [← hW]
                                have HK3 := Lib.hid (HRa.out.far (g6 := g6) (f := 0) (u := .int .u16 (va : Int)) hq6)
                                have HBK3 := Lib.hid (Blk.set_ HVab.out 0 (.int .u16 (va : Int)))
                                rw [← hW] at HK3 HBK3
                                clear hW xs0 zs0 HRa HVab wv HK2 HBK2
                                go_wp2_with fail
                                refine (num_yes (n := 2) HK3.out.tp (by have := HXL.out; omega) (by omega)).mono ?_
                                rintro e Vb hd
                                have HVbb := Lib.hid (Blk.grown HBK3.out hd.2.2 (fun e => by injection e with e; have := HK3.out.pg; have := HK3.out.gB; have := HK3.out.Bq; omega))
                                obtain ⟨rfl, HRb⟩ := HK3.out.num_ hd
                                obtain ⟨vb, hv⟩ : ∃ v, v = Oct.num ((x.drop (j + 2)).take 2) := ⟨_, rfl⟩
                                rw [← hv]
                                have HVb := Lib.hid hv
                                have hvbb : vb < 65536 := by rw [hv]; exact take2 x (j + 2)
                                clear hd hv
                                have wv : IntKind.u32.wrap (vb : Int) = (vb : Int) := by simp [IntKind.wrap, IntKind.bits, IntKind.signed]; omega
                                have xs2 := (Blk.cell HVbb.out 2)
                                have zs2 := Blk.frozen HVbb.out 2
                                go_upto_region 82 with fail
                                obtain ⟨W4, hW⟩ : ∃ W, W = Vb.setCell ⟨g6, 2, none⟩ (.int .u32 (vb : Int)) := ⟨_, rfl⟩
                                rw [← hW]
                                have HK4 := Lib.hid (HRb.out.far (g6 := g6) (f := 2) (u := .int .u32 (vb : Int)) hq6)
                                have HBK4 := Lib.hid (Blk.set_ HVbb.out 2 (.int .u32 (vb : Int)))
                                rw [← hW] at HK4 HBK4
                                clear hW xs2 zs2 HRb HVbb wv HK3 HBK3
                                have HSD : Hid (sksN (k + 1) (x.drop 4) = sksN k (x.drop 4) ++ [(va, false, vb)]) := by show _ = _; rw [sksN_snoc, HVa.out, HVb.out, HJ.out, List.drop_drop, List.drop_drop]
                                have c0 : W4.cell? ⟨g6, 0, none⟩ = some (.int .u16 (va : Int)) := HBK4.out.cell 0
                                have c1 : W4.cell? ⟨g6, 1, none⟩ = some (.bool false) := HBK4.out.cell 1
                                have c2 : W4.cell? ⟨g6, 2, none⟩ = some (.int .u32 (vb : Int)) := HBK4.out.cell 2
                                have f16 : W4.cell? ⟨g, 16, none⟩ = some (.slice As k cp) := CkBlk.at HK4.out.b1 rfl
                                have hBs := Nat.le_trans HK4.out.Bq HK4.out.qs
                                clear HBK4
                                go_wp2_with (at_builtin; refine wpList_append_any _ rfl (.tmp 325) (.tmp 327) _ rfl B0 87 j0 _ 3 8 Try.underlying29 hj0 hjz0 hjz1 hjz2 rfl (by omega) (.slice As k cp) k (skC (sksN k (x.drop 4))) rfl (HK4.out.own.alloc _) (W4.heap.size + 1) (some ⟨W4.heap.size, 0, none⟩) 1 1 [.int .u16 (va : Int), .bool false, .int .u32 (vb : Int)] rfl (three_reads W4 _ _ _ _) (fun u hu => by simp only [List.mem_cons, List.not_mem_nil, or_false] at hu; rcases hu with rfl | rfl | rfl <;> rfl) (by simp only [maxLen]; omega) (by omega) (Nat.le_trans hBs (by simp)) ?_; intro v7 w7 hown7 hg7 hat7; obtain ⟨A7, c7, rfl, h7a, h7b⟩ := own_slice hown7; have HKA := Lib.hid (HK4.out.grows ((Below.refl _ W4).alloc (Nat.le_refl _) (.cells #[.int .u16 (va : Int), .bool false, .int .u32 (vb : Int)] 87))); have HKM := Lib.hid (HKA.out.more (s := (va, false, vb)) hown7 rfl hg7 (by first | exact ⟨by omega, by omega⟩ | (constructor <;> simp <;> omega))); have fb := Blk.grown HKA.out.b1 hg7 (fun e => by have := (HKA.out.own.lt g e.symm).1; have := HKA.out.gB; omega); have f16b : w7.cell? ⟨g, 16, none⟩ = some (.slice As k cp) := CkBlk.at fb rfl; have z16 := Blk.frozen fb 16; clear hown7 hg7 hat7 fb HKA)
                                skip
                                have HMEA : Hid (mm - posAt (w7.setCell ⟨g, 16, none⟩ (.slice A7 (k + 1) c7)) p < mm - posAt wr p) := by show _ < _; rw [posAt_tape HKM.out.tp, HPO.out]; omega
                                have HREL : Hid (GkS w (w7.setCell ⟨g, 16, none⟩ (.slice A7 (k + 1) c7)) B0 (w7.setCell ⟨g, 16, none⟩ (.slice A7 (k + 1) c7)).heap.size p g g2 At ct x (4 + 4 * (k + 1)) d0 A7 (k + 1) c7 (sksN (k + 1) (x.drop 4))) := by rw [HSD.out]; have h := HKM.out; rw [show j + 2 + 2 = 4 + 4 * (k + 1) by omega] at h; exact h
                                go_roundw
                                case rel => exact ⟨k + 1, c7, A7, by omega, h7a, h7b, HREL⟩
                                case measure => first | exact HMEA.out | (have := HMEA.out; omega)
                              · obtain rfl : k = K := by omega
                                have HJM : Hid (j = mm) := by show j = mm; omega
                                have hjmi : ¬ (j : Int) < (mm : Int) := by omega
                                have HF : Hid (GtS (P6 kd) w wr p g g2 At ct x (J6 kd mm) (E6 kd f x)) := by
                                  have h := (HG.out.done HBR.out HOK.out hkc hcm).as (d' := E6 kd f x) (by unfold E6; rw [if_pos HC.out, ← HKX.out, ← HD0.out])
                                  have h := h.weak (P' := P6 kd) (fun e => e.2.1 HC.out)
                                  unfold J6
                                  rw [if_pos (by have := HC.out; omega), ← HJM.out]
                                  exact h
                                have H194 : Hid (kd = 194 → sksOk ((x.length - 4) / 8) (x.drop 4) = true) := fun e => absurd (HC.out.symm.trans e) (by decide)
                                go_wp2_with fail
                                go_meet
                                exact ⟨HF, H194⟩
                          · have HC := Lib.hid hc
                            clear hc
                            obtain ⟨K, hK⟩ : ∃ K, K = (mm - 4) / 8 := ⟨_, rfl⟩
                            have HKX : Hid (K = (x.length - 4) / 8) := by rw [← HXL.out]; exact hK
                            have hKm : mm = 4 + 8 * K := by have h1 := shape_len HSHP.out; have h2 := shape_mod HSHP.out (by rw [HC.out]; decide); rw [HC.out] at h1 h2; have h1 : 4 ≤ mm := h1; have h2 : (mm - 4) % 8 = 0 := h2; omega
                            have hKm1 : mm ≤ 4 + 8 * K := by omega
                            have hKm2 : 4 + 8 * K ≤ mm := by omega
                            clear hK hKm
                            have hY4 : Y = 8 := by rw [HYE.out, HC.out]; rfl
                            have d4 : decide ((Y : Int) ≥ 4) = true := by rw [hY4]; rfl
                            have dk : decide ((kd : Int) ≥ 192) = true := by rw [HC.out]; rfl
                            have hY4i : (4 : Int) ≤ (Y : Int) := by omega
                            have dki : (192 : Int) ≤ (kd : Int) := by rw [HC.out]; decide
                            clear hY4
                            have d192 : ((kd : Int) == 192) = false := by rw [HC.out]; rfl
                            have HS0 : Hid (GtS (kd ≠ 3) w W0 p g g2 At ct x 4 (E5 kd f x)) := by have := HS0.out; unfold J5 at this; rw [if_pos (by have := HC.out; omega)] at this; exact this
                            obtain ⟨d0, hd0⟩ : ∃ d, d = E5 kd f x := ⟨_, rfl⟩
                            rw [← hd0] at HS0
                            have HD0 := Lib.hid hd0
                            have hpl := HS0.out.plain (by have := HC.out; omega)
                            have HBR := Lib.hid hpl.2.1
                            have HOK := Lib.hid hpl.2.2
                            have HG0 := Lib.hid (GkS.start HS0.out (by have := HC.out; omega))
                            obtain ⟨B0, hB0⟩ : ∃ B, B = W0.heap.size := ⟨_, rfl⟩
                            have HG0 : Hid (GkS w W0 B0 W0.heap.size p g g2 At ct x 4 d0 none 0 0 []) := by rw [hB0]; exact HG0
                            clear hd0 hpl hB0 HS0
                            obtain ⟨j0, hj0, hjz0, hjz1, hjz2⟩ := info_parts3 skip_info
                            have hK5 : K ≤ 16384 := by omega
                            go_wp2_with fail
                            go_loopw [3, 4, 24, 25] (fun _ _ _ _ wr => ∃ (k cp : Nat) (As : Option Addr), k ≤ K ∧ k ≤ cp ∧ cp ≤ 9223372036854775807 ∧ Hid (GkS w wr B0 wr.heap.size p g g2 At ct x (4 + 8 * k) d0 As k cp (sksV k (x.drop 4))) ∧ Hid (sksOk k (x.drop 4) = true)) (fun _ _ _ _ wr => mm - posAt wr p)
                            case atStart => exact ⟨0, 0, none, by omega, by omega, by omega, HG0, rfl⟩
                            case round =>
                              obtain ⟨k, cp, As, hk, hkc, hcm, HG, HSO⟩ := hrel
                              obtain ⟨j, hj⟩ : ∃ j, j = 4 + 8 * k := ⟨_, rfl⟩
                              rw [← hj] at HG
                              have HJ := Lib.hid hj
                              have hj1 : j ≤ 4 + 8 * k := by omega
                              have hj2 : 4 + 8 * k ≤ j := by omega
                              clear hj
                              have o1 : wr.cell? ⟨p, 1, none⟩ = some (.int .i64 (j : Int)) := HG.out.tp.blk.cell 1
                              by_cases hlt : k < K
                              · have hjm : (j : Int) < (mm : Int) := by omega
                                go_upto_region 74 with fail
                                clear o1
                                obtain ⟨g6, hg6⟩ : ∃ g, g = wr.heap.size := ⟨_, rfl⟩
                                obtain ⟨W2, hW2⟩ : ∃ W, W = wr.alloc (.cells #[.int .u16 0, .bool false, .int .u32 0] 87) := ⟨_, rfl⟩
                                have HBK2 : Hid (Blk W2 g6 87 #[.int .u16 0, .bool false, .int .u32 0]) := by rw [hW2, hg6]; exact Blk.new _ _ _
                                have HK2 := Lib.hid (HG.out.grows (show Below wr.heap.size wr W2 by rw [hW2]; exact (Below.refl _ wr).alloc (Nat.le_refl _) _))
                                rw [← hW2, ← hg6]
                                have hq6 : wr.heap.size ≤ g6 := by omega
                                have HPO : Hid (posAt wr p = j) := posAt_tape HG.out.tp
                                clear hW2 hg6 HG hjm
                                go_wp2_with fail
                                refine (num_yes (n := 2) HK2.out.tp (by have := HXL.out; omega) (by omega)).mono ?_
                                rintro e Va hd
                                have HVab := Lib.hid (Blk.grown HBK2.out hd.2.2 (fun e => by injection e with e; have := HK2.out.pg; have := HK2.out.gB; have := HK2.out.Bq; omega))
                                obtain ⟨rfl, HRa⟩ := HK2.out.num_ hd
                                obtain ⟨va, hv⟩ : ∃ v, v = Oct.num ((x.drop (j)).take 2) := ⟨_, rfl⟩
                                rw [← hv]
                                have HVa := Lib.hid hv
                                have hvba : va < 65536 := by rw [hv]; exact take2 x (j)
                                clear hd hv
                                have wv : IntKind.u16.wrap (va : Int) = (va : Int) := by simp [IntKind.wrap, IntKind.bits, IntKind.signed]; omega
                                have xs0 := (Blk.cell HVab.out 0)
                                have zs0 := Blk.frozen HVab.out 0
                                go_upto_region 77 with fail
                                obtain ⟨W3, hW⟩ : ∃ W, W = Va.setCell ⟨g6, 0, none⟩ (.int .u16 (va : Int)) := ⟨_, rfl⟩
                                rw [← hW]
                                have HK3 := Lib.hid (HRa.out.far (g6 := g6) (f := 0) (u := .int .u16 (va : Int)) hq6)
                                have HBK3 := Lib.hid (Blk.set_ HVab.out 0 (.int .u16 (va : Int)))
                                rw [← hW] at HK3 HBK3
                                clear hW xs0 zs0 HRa HVab wv HK2 HBK2
                                go_wp2_with fail
                                refine (num_yes (n := 2) HK3.out.tp (by have := HXL.out; omega) (by omega)).mono ?_
                                rintro e Vb hd
                                have HVbb := Lib.hid (Blk.grown HBK3.out hd.2.2 (fun e => by injection e with e; have := HK3.out.pg; have := HK3.out.gB; have := HK3.out.Bq; omega))
                                obtain ⟨rfl, HRb⟩ := HK3.out.num_ hd
                                obtain ⟨vb, hv⟩ : ∃ v, v = Oct.num ((x.drop (j + 2)).take 2) := ⟨_, rfl⟩
                                rw [← hv]
                                have HVb := Lib.hid hv
                                have hvbb : vb < 65536 := by rw [hv]; exact take2 x (j + 2)
                                clear hd hv
                                by_cases hv1 : 1 < vb
                                · have HE : Hid (getC b = .error 42) := HE42.out (by rw [HC.out]; exact dec_194_bad (sksOk_bad (k := k) (by rw [List.drop_drop, List.drop_drop, show 4 + (8 * k + 2) = j + 2 by omega, ← HVb.out]; omega) (by rw [← HKX.out]; exact hlt)))
                                  have hv1i : (1 : Int) < (vb : Int) := by omega
                                  have HZ := Lib.hid (ERR.out Vb 42 HRb.out.below HRb.out.b2 HE.out)
                                  go_wp2_with (first | refine wpList_build_none rfl 32 rfl _ built_none ?_ | refine wpList_store_row rfl 32 _ _ rfl g2 zeroA rfl rfl 32 _ HRb.out.b2 chunk_info rfl (ck_one _) ?_)
                                  (try simp only [Exit.inBlock, Exit.then])
                                  refine bodyPost_ret (res_ck rfl _ _ g2 _ rfl HZ.out.1 rfl) rfl ?_
                                  exact HZ.out.2
                                have hv1i : ¬ (1 : Int) < (vb : Int) := by omega
                                obtain ⟨rb, hrb⟩ : ∃ r : Bool, r = (vb == 1) := ⟨_, rfl⟩
                                have trb : ((vb : Int) == 1) = rb := by rw [hrb, Bool.eq_iff_iff]; simp; omega
                                have HRB := Lib.hid hrb
                                clear hrb
                                have xs1 := (Blk.cell HVbb.out 1)
                                have zs1 := Blk.frozen HVbb.out 1
                                go_upto_region 81 with fail
                                obtain ⟨W4, hW⟩ : ∃ W, W = Vb.setCell ⟨g6, 1, none⟩ (.bool rb) := ⟨_, rfl⟩
                                rw [← hW]
                                have HK4 := Lib.hid (HRb.out.far (g6 := g6) (f := 1) (u := .bool rb) hq6)
                                have HBK4 := Lib.hid (Blk.set_ HVbb.out 1 (.bool rb))
                                rw [← hW] at HK4 HBK4
                                clear hW xs1 zs1 HRb HVbb trb HK3 HBK3
                                go_wp2_with fail
                                refine (num_yes (n := 4) HK4.out.tp (by have := HXL.out; omega) (by omega)).mono ?_
                                rintro e Vc hd
                                have HVcb := Lib.hid (Blk.grown HBK4.out hd.2.2 (fun e => by injection e with e; have := HK4.out.pg; have := HK4.out.gB; have := HK4.out.Bq; omega))
                                obtain ⟨rfl, HRc⟩ := HK4.out.num_ hd
                                obtain ⟨vc, hv⟩ : ∃ v, v = Oct.num ((x.drop (j + 2 + 2)).take 4) := ⟨_, rfl⟩
                                rw [← hv]
                                have HVc := Lib.hid hv
                                have hvbc : vc < 4294967296 := by rw [hv]; exact take4 x (j + 2 + 2)
                                clear hd hv
                                have wv : IntKind.u32.wrap (vc : Int) = (vc : Int) := by simp [IntKind.wrap, IntKind.bits, IntKind.signed]; omega
                                have xs2 := (Blk.cell HVcb.out 2)
                                have zs2 := Blk.frozen HVcb.out 2
                                go_upto_region 82 with fail
                                obtain ⟨W5, hW⟩ : ∃ W, W = Vc.setCell ⟨g6, 2, none⟩ (.int .u32 (vc : Int)) := ⟨_, rfl⟩
                                rw [← hW]
                                have HK5 := Lib.hid (HRc.out.far (g6 := g6) (f := 2) (u := .int .u32 (vc : Int)) hq6)
                                have HBK5 := Lib.hid (Blk.set_ HVcb.out 2 (.int .u32 (vc : Int)))
                                rw [← hW] at HK5 HBK5
                                clear hW xs2 zs2 HRc HVcb wv HK4 HBK4
                                have HSD : Hid (sksV (k + 1) (x.drop 4) = sksV k (x.drop 4) ++ [(va, rb, vc)]) := by show _ = _; rw [sksV_snoc, HVa.out, HRB.out, HVb.out, HVc.out, HJ.out, List.drop_drop, List.drop_drop, List.drop_drop]
                                have c0 : W5.cell? ⟨g6, 0, none⟩ = some (.int .u16 (va : Int)) := HBK5.out.cell 0
                                have c1 : W5.cell? ⟨g6, 1, none⟩ = some (.bool rb) := HBK5.out.cell 1
                                have c2 : W5.cell? ⟨g6, 2, none⟩ = some (.int .u32 (vc : Int)) := HBK5.out.cell 2
                                have f16 : W5.cell? ⟨g, 16, none⟩ = some (.slice As k cp) := CkBlk.at HK5.out.b1 rfl
                                have hBs := Nat.le_trans HK5.out.Bq HK5.out.qs
                                clear HBK5
                                go_wp2_with (at_builtin; refine wpList_append_any _ rfl (.tmp 325) (.tmp 327) _ rfl B0 87 j0 _ 3 8 Try.underlying29 hj0 hjz0 hjz1 hjz2 rfl (by omega) (.slice As k cp) k (skC (sksV k (x.drop 4))) rfl (HK5.out.own.alloc _) (W5.heap.size + 1) (some ⟨W5.heap.size, 0, none⟩) 1 1 [.int .u16 (va : Int), .bool rb, .int .u32 (vc : Int)] rfl (three_reads W5 _ _ _ _) (fun u hu => by simp only [List.mem_cons, List.not_mem_nil, or_false] at hu; rcases hu with rfl | rfl | rfl <;> rfl) (by simp only [maxLen]; omega) (by omega) (Nat.le_trans hBs (by simp)) ?_; intro v7 w7 hown7 hg7 hat7; obtain ⟨A7, c7, rfl, h7a, h7b⟩ := own_slice hown7; have HKA := Lib.hid (HK5.out.grows ((Below.refl _ W5).alloc (Nat.le_refl _) (.cells #[.int .u16 (va : Int), .bool rb, .int .u32 (vc : Int)] 87))); have HKM := Lib.hid (HKA.out.more (s := (va, rb, vc)) hown7 rfl hg7 (by first | exact ⟨by omega, by omega⟩ | (constructor <;> simp <;> omega))); have fb := Blk.grown HKA.out.b1 hg7 (fun e => by have := (HKA.out.own.lt g e.symm).1; have := HKA.out.gB; omega); have f16b : w7.cell? ⟨g, 16, none⟩ = some (.slice As k cp) := CkBlk.at fb rfl; have z16 := Blk.frozen fb 16; clear hown7 hg7 hat7 fb HKA)
                                skip
                                have HMEA : Hid (mm - posAt (w7.setCell ⟨g, 16, none⟩ (.slice A7 (k + 1) c7)) p < mm - posAt wr p) := by show _ < _; rw [posAt_tape HKM.out.tp, HPO.out]; omega
                                have HREL : Hid (GkS w (w7.setCell ⟨g, 16, none⟩ (.slice A7 (k + 1) c7)) B0 (w7.setCell ⟨g, 16, none⟩ (.slice A7 (k + 1) c7)).heap.size p g g2 At ct x (4 + 8 * (k + 1)) d0 A7 (k + 1) c7 (sksV (k + 1) (x.drop 4))) := by rw [HSD.out]; have h := HKM.out; rw [show j + 2 + 2 + 4 = 4 + 8 * (k + 1) by omega] at h; exact h
                                have HSO2 : Hid (sksOk (k + 1) (x.drop 4) = true) := by show _ = _; rw [sksOk_snoc, HSO.out, List.drop_drop, List.drop_drop, show 4 + (8 * k + 2) = j + 2 by omega, ← HVb.out]; simp; omega
                                go_roundw
                                case rel => exact ⟨k + 1, c7, A7, by omega, h7a, h7b, HREL, HSO2⟩
                                case measure => first | exact HMEA.out | (have := HMEA.out; omega)
                              · obtain rfl : k = K := by omega
                                have HJM : Hid (j = mm) := by show j = mm; omega
                                have hjmi : ¬ (j : Int) < (mm : Int) := by omega
                                have HF : Hid (GtS (P6 kd) w wr p g g2 At ct x (J6 kd mm) (E6 kd f x)) := by
                                  have h := (HG.out.done HBR.out HOK.out hkc hcm).as (d' := E6 kd f x) (by unfold E6; rw [if_neg (by have := HC.out; omega), if_pos HC.out, ← HKX.out, ← HD0.out])
                                  have h := h.weak (P' := P6 kd) (fun e => e.2.2 HC.out)
                                  unfold J6
                                  rw [if_pos (by have := HC.out; omega), ← HJM.out]
                                  exact h
                                have H194 : Hid (kd = 194 → sksOk ((x.length - 4) / 8) (x.drop 4) = true) := fun _ => by rw [← HKX.out]; exact HSO.out
                                go_wp2_with fail
                                go_meet
                                exact ⟨HF, H194⟩
                          · have HC := Lib.hid hc
                            clear hc
                            have HF : Hid (GtS (P6 kd) w W0 p g g2 At ct x (J6 kd mm) (E6 kd f x)) := by
                              have k := (HS0.out.as (d' := E6 kd f x) (by unfold E6; rw [if_neg HC.out.1, if_neg HC.out.2])).weak (P' := P6 kd) (fun e => e.1)
                              unfold J6
                              rw [if_neg (by have := HC.out; omega)]
                              exact k
                            have H194 : Hid (kd = 194 → sksOk ((x.length - 4) / 8) (x.drop 4) = true) := fun e => absurd e HC.out.2
                            have hk192 : ¬ (192 : Int) ≤ (kd : Int) := by have h2 := HC.out; rcases kinds HK.out with h1 | h1 | h1 | h1 | h1 | h1 | h1 | h1 | h1 | h1 | h1 | h1 | h1 | h1 | h1 | h1 | h1 <;> omega
                            have dk : decide ((kd : Int) ≥ 192) = false := decide_eq_false (by omega)
                            have hy4 : (4 : Int) ≤ (Y : Int) ∨ ¬ (4 : Int) ≤ (Y : Int) := by omega
                            go_wp2_with fail
                            go_loopw [3, 4, 24, 25] (fun _ _ _ _ wr => ∃ k : Nat, k = 0 ∧ W0 = wr) (fun _ _ _ _ _ => 0)
                            case atStart => exact ⟨0, rfl, rfl⟩
                            case round =>
                              obtain ⟨_, _, rfl⟩ := hrel
                              rcases hy4 with hy4 | hy4
                              · have d4 : decide ((Y : Int) ≥ 4) = true := decide_eq_true hy4
                                go_wp2_with fail
                                go_meet
                                exact ⟨HF, H194⟩
                              · have d4 : decide ((Y : Int) ≥ 4) = false := decide_eq_false (by omega)
                                go_wp2_with fail
                                go_meet
                                exact ⟨HF, H194⟩
                        case rest =>
                          obtain ⟨HS0, H194⟩ := hcut
                          obtain ⟨W0, hW0⟩ : ∃ W, W = wc := ⟨_, rfl⟩
                          rw [← hW0] at HS0 ⊢
                          clear hW0
                          go_upto_region 83 with fail
                          go_cut [347] from 347 to 347 (fun s wx => ∃ r, s = .bool r ∧ Hid (r = decide (kd = 1 ∨ kd = 2 ∨ kd = 6 ∨ kd = 9 ∨ kd = 130)) ∧ wx = W0)
                          case first =>
                            by_cases h0 : kd = 1
                            · have d0b : ((kd : Int) == 1) = true := by rw [h0]; rfl
                              have HQ : Hid (kd = 1 ∨ kd = 2 ∨ kd = 6 ∨ kd = 9 ∨ kd = 130) := by first | exact .inl h0 | exact .inr h0 | exact .inr (.inl h0) | exact .inr (.inr h0) | exact .inr (.inr (.inl h0)) | exact .inr (.inr (.inr h0)) | exact .inr (.inr (.inr (.inl h0))) | exact .inr (.inr (.inr (.inr h0)))
                              clear h0
                              go_wp2_with fail
                              go_meet
                              exact ⟨_, rfl, (decide_eq_true HQ.out).symm, rfl⟩
                            have d0b : ((kd : Int) == 1) = false := beq_no (by omega)
                            have HN0 := Lib.hid h0
                            clear h0
                            by_cases h1 : kd = 2
                            · have d1b : ((kd : Int) == 2) = true := by rw [h1]; rfl
                              have HQ : Hid (kd = 1 ∨ kd = 2 ∨ kd = 6 ∨ kd = 9 ∨ kd = 130) := by first | exact .inl h1 | exact .inr h1 | exact .inr (.inl h1) | exact .inr (.inr h1) | exact .inr (.inr (.inl h1)) | exact .inr (.inr (.inr h1)) | exact .inr (.inr (.inr (.inl h1))) | exact .inr (.inr (.inr (.inr h1)))
                              clear h1
                              go_wp2_with fail
                              go_meet
                              exact ⟨_, rfl, (decide_eq_true HQ.out).symm, rfl⟩
                            have d1b : ((kd : Int) == 2) = false := beq_no (by omega)
                            have HN1 := Lib.hid h1
                            clear h1
                            by_cases h2 : kd = 6
                            · have d2b : ((kd : Int) == 6) = true := by rw [h2]; rfl
                              have HQ : Hid (kd = 1 ∨ kd = 2 ∨ kd = 6 ∨ kd = 9 ∨ kd = 130) := by first | exact .inl h2 | exact .inr h2 | exact .inr (.inl h2) | exact .inr (.inr h2) | exact .inr (.inr (.inl h2)) | exact .inr (.inr (.inr h2)) | exact .inr (.inr (.inr (.inl h2))) | exact .inr (.inr (.inr (.inr h2)))
                              clear h2
                              go_wp2_with fail
                              go_meet
                              exact ⟨_, rfl, (decide_eq_true HQ.out).symm, rfl⟩
                            have d2b : ((kd : Int) == 6) = false := beq_no (by omega)
                            have HN2 := Lib.hid h2
                            clear h2
                            by_cases h3 : kd = 9
                            · have d3b : ((kd : Int) == 9) = true := by rw [h3]; rfl
                              have HQ : Hid (kd = 1 ∨ kd = 2 ∨ kd = 6 ∨ kd = 9 ∨ kd = 130) := by first | exact .inl h3 | exact .inr h3 | exact .inr (.inl h3) | exact .inr (.inr h3) | exact .inr (.inr (.inl h3)) | exact .inr (.inr (.inr h3)) | exact .inr (.inr (.inr (.inl h3))) | exact .inr (.inr (.inr (.inr h3)))
                              clear h3
                              go_wp2_with fail
                              go_meet
                              exact ⟨_, rfl, (decide_eq_true HQ.out).symm, rfl⟩
                            have d3b : ((kd : Int) == 9) = false := beq_no (by omega)
                            have HN3 := Lib.hid h3
                            clear h3
                            by_cases h4 : kd = 130
                            · have d4b : ((kd : Int) == 130) = true := by rw [h4]; rfl
                              have HQ : Hid (kd = 1 ∨ kd = 2 ∨ kd = 6 ∨ kd = 9 ∨ kd = 130) := by first | exact .inl h4 | exact .inr h4 | exact .inr (.inl h4) | exact .inr (.inr h4) | exact .inr (.inr (.inl h4)) | exact .inr (.inr (.inr h4)) | exact .inr (.inr (.inr (.inl h4))) | exact .inr (.inr (.inr (.inr h4)))
                              clear h4
                              go_wp2_with fail
                              go_meet
                              exact ⟨_, rfl, (decide_eq_true HQ.out).symm, rfl⟩
                            have d4b : ((kd : Int) == 130) = false := beq_no (by omega)
                            have HN4 := Lib.hid h4
                            clear h4
                            have HQ : Hid (¬ (kd = 1 ∨ kd = 2 ∨ kd = 6 ∨ kd = 9 ∨ kd = 130)) := by
                              have := HN0.out
                              have := HN1.out
                              have := HN2.out
                              have := HN3.out
                              have := HN4.out
                              show ¬ _
                              omega
                            go_wp2_with fail
                            go_meet
                            exact ⟨_, rfl, (decide_eq_false HQ.out).symm, rfl⟩
                          case rest =>
                            obtain ⟨r, rfl, HR, hwc⟩ := hcut
                            rw [hwc]
                            clear hwc
                            go_upto_if 347 with (fail)
                            go_cut [] from 347 to 347 (fun wx => ∃ ls : List Prm, Hid ((kd = 1 ∨ kd = 2 ∨ kd = 6 ∨ kd = 9 ∨ kd = 130) → getL (x.drop (J3 kd)) = .ok ls) ∧ Hid (GtS (P7 kd) w wx p g g2 At ct x (J6 kd mm) (E7 kd f x ls)))
                            case first => as_aux_lemma =>
                              cases r
                              rotate_left
                              · have hc : kd = 1 ∨ kd = 2 ∨ kd = 6 ∨ kd = 9 ∨ kd = 130 := of_decide_eq_true HR.out.symm
                                clear HR
                                have HC := Lib.hid hc
                                clear hc
                                have hP6 : Hid (P6 kd) := by have := HC.out; show _ ∧ _ ∧ _; omega
                                have hj6 : Hid (J6 kd mm = J3 kd) := by have := HC.out; show _ = _; unfold J6 J5 J4; rw [if_neg (by omega), if_neg (by omega), if_neg (by omega)]
                                have HS0 : Hid (GtS (P6 kd) w W0 p g g2 At ct x (J3 kd) (E6 kd f x)) := by have := HS0.out; rw [hj6.out] at this; exact this
                                by_cases h12 : kd = 1 ∨ kd = 2
                                · have hj3 : Hid (J3 kd = 16) := by show _ = _; unfold J3; rw [if_pos h12]
                                  have hjm : 16 ≤ mm := by have h1 := shape_len HSHP.out; unfold leastN at h1; rcases h12 with h2 | h2 <;> simp [h2] at h1 <;> omega
                                  have H12 := Lib.hid h12
                                  clear h12
                                  have HS0 : Hid (GtS (P6 kd) w W0 p g g2 At ct x 16 (E6 kd f x)) := by have := HS0.out; rw [hj3.out] at this; exact this
                                  have HXY : Hid (∀ A', (A' = (some ad).map (·.add (4 + 16)) ∨ cap = 4 + 16) → Byt W0 w.heap.size A' (x.drop 16)) := tail_byt (m := m) (HX0.out W0 HS0.out.below) HXE.out HN.out (by have := HMM.out; omega) hjm hnc
                                  have c1 : W0.cell? ⟨p, 1, none⟩ = some (.int .i64 16) := HS0.out.tp.blk.cell 1
                                  obtain ⟨q, hq⟩ : ∃ q, q = mm - 16 := ⟨_, rfl⟩
                                  have HQ : Hid (q = (x.drop 16).length) := by rw [List.length_drop, ← HXL.out]; exact hq
                                  have hmq : m = 20 + q := by have := HMM.out; omega
                                  have e4 : (20 : Int) ≤ (m : Int) := by omega
                                  have e5 : (m : Int) ≤ (cap : Int) := by omega
                                  have e6 : (m : Int) - 20 = (q : Int) := by omega
                                  have e7 : m - 20 = q := by omega
                                  clear hq
                                  have CALL : Hid (∀ (A' : Option Addr) (c' : Nat), q ≤ c' → c' ≤ 9223372036854775807 → (A' = (some ad).map (·.add (4 + 16)) ∨ cap = 4 + 16) → Calls Try.prog 39 #[.slice A' q c'] W0 fun e w' => GetTold W0 (x.drop 16) e w' ∧ Below W0.heap.size W0 w') := fun A' c' h1 h2 h3 => rget_any A' (x.drop 16) q c' W0 HQ.out (by omega) h1 h2 ((HXY.out A' h3).more HS0.out.below.size)
                                  have hcc : cap = 20 ∨ cap ≠ 20 := by omega
                                  rcases hcc with hcl | hcl
                                  · have hq0 : q = 0 := by omega
                                    have hme : m = 20 := by omega
                                    have HCL := Lib.hid hcl
                                    have HQ0 := Lib.hid hq0
                                    subst hq0 hme hcl
                                    clear e4 e5 e6 e7 hmq
                                    go_wp2_with fail
                                    refine (CALL.out (some ad) 0 (by omega) (by omega) (.inr HCL.out)).mono ?_
                                    rintro e V ⟨hd, hbV⟩
                                    rcases hd with ⟨v, ls, hls, rfl, ho⟩ | ⟨kk, hkk, rfl⟩
                                    · obtain ⟨Ap, cp, rfl, hcp, hmp⟩ := ho.slice
                                      obtain ⟨np, hnp⟩ : ∃ n, n = ls.length := ⟨_, rfl⟩
                                      rw [← hnp] at ho hcp ⊢
                                      have HST := Lib.hid (ps_state HS0.out hP6.out hbV ho hnp hcp hmp)
                                      have hLS : Hid (getL (x.drop (J3 kd)) = .ok ls) := by rw [hj3.out]; exact hls
                                      have x17 := CkBlk.at (i := 17) HST.out.1 rfl
                                      have z17 := Blk.frozen HST.out.1 17
                                      clear ho hls hbV hnp
                                      go_wp2_with fail
                                      have HF : Hid (GtS (P7 kd) w (V.setCell ⟨g, 17, none⟩ (.slice Ap np cp)) p g g2 At ct x (J6 kd mm) (E7 kd f x ls)) := by
                                        have h := (HST.out.2.as (d' := E7 kd f x ls) (by unfold E7; rw [if_pos HC.out])).weak (P' := P7 kd) (fun h => by have := HC.out; unfold P7 at h; omega)
                                        rw [hj6.out, hj3.out]
                                        exact h
                                      go_meet
                                      exact ⟨ls, fun _ => hLS.out, HF⟩
                                    · have hk0 : ((kk : Int) != 0) = true := by rcases getL_errs hkk with rfl | rfl <;> rfl
                                      have HE : Hid (getC b = .error 42) := HE42.out (dec_ps_bad HC.out (by rw [hj3.out]; exact hkk))
                                      have HB9 := Lib.hid (HS0.out.below.trans (hbV.mono HS0.out.below.size))
                                      have HG9 := Lib.hid (HS0.out.b2.below hbV HS0.out.b2.lt)
                                      clear hkk hbV
                                      have HZ := Lib.hid (ERR.out V 42 HB9.out HG9.out HE.out)
                                      go_wp2_with (first | refine wpList_build_none rfl 32 rfl _ built_none ?_ | refine wpList_store_row rfl 32 _ _ rfl g2 zeroA rfl rfl 32 _ HG9.out chunk_info rfl (ck_one _) ?_)
                                      (try simp only [Exit.inBlock, Exit.then])
                                      refine bodyPost_ret (res_ck rfl _ _ g2 _ rfl HZ.out.1 rfl) rfl ?_
                                      exact HZ.out.2
                                  · have HMQ := Lib.hid hmq
                                    clear hmq
                                    go_wp2_with fail
                                    refine (CALL.out (some (ad.add (4 + 16))) (cap - 20) (by have := HMQ.out; omega) (by omega) (.inl rfl)).mono ?_
                                    rintro e V ⟨hd, hbV⟩
                                    rcases hd with ⟨v, ls, hls, rfl, ho⟩ | ⟨kk, hkk, rfl⟩
                                    · obtain ⟨Ap, cp, rfl, hcp, hmp⟩ := ho.slice
                                      obtain ⟨np, hnp⟩ : ∃ n, n = ls.length := ⟨_, rfl⟩
                                      rw [← hnp] at ho hcp ⊢
                                      have HST := Lib.hid (ps_state HS0.out hP6.out hbV ho hnp hcp hmp)
                                      have hLS : Hid (getL (x.drop (J3 kd)) = .ok ls) := by rw [hj3.out]; exact hls
                                      have x17 := CkBlk.at (i := 17) HST.out.1 rfl
                                      have z17 := Blk.frozen HST.out.1 17
                                      clear ho hls hbV hnp
                                      go_wp2_with fail
                                      have HF : Hid (GtS (P7 kd) w (V.setCell ⟨g, 17, none⟩ (.slice Ap np cp)) p g g2 At ct x (J6 kd mm) (E7 kd f x ls)) := by
                                        have h := (HST.out.2.as (d' := E7 kd f x ls) (by unfold E7; rw [if_pos HC.out])).weak (P' := P7 kd) (fun h => by have := HC.out; unfold P7 at h; omega)
                                        rw [hj6.out, hj3.out]
                                        exact h
                                      go_meet
                                      exact ⟨ls, fun _ => hLS.out, HF⟩
                                    · have hk0 : ((kk : Int) != 0) = true := by rcases getL_errs hkk with rfl | rfl <;> rfl
                                      have HE : Hid (getC b = .error 42) := HE42.out (dec_ps_bad HC.out (by rw [hj3.out]; exact hkk))
                                      have HB9 := Lib.hid (HS0.out.below.trans (hbV.mono HS0.out.below.size))
                                      have HG9 := Lib.hid (HS0.out.b2.below hbV HS0.out.b2.lt)
                                      clear hkk hbV
                                      have HZ := Lib.hid (ERR.out V 42 HB9.out HG9.out HE.out)
                                      go_wp2_with (first | refine wpList_build_none rfl 32 rfl _ built_none ?_ | refine wpList_store_row rfl 32 _ _ rfl g2 zeroA rfl rfl 32 _ HG9.out chunk_info rfl (ck_one _) ?_)
                                      (try simp only [Exit.inBlock, Exit.then])
                                      refine bodyPost_ret (res_ck rfl _ _ g2 _ rfl HZ.out.1 rfl) rfl ?_
                                      exact HZ.out.2
                                · have hj3 : Hid (J3 kd = 0) := by have := HC.out; show _ = _; unfold J3 J1; rw [if_neg h12, if_neg (by omega), if_neg (by omega)]
                                  have hjm : 0 ≤ mm := by omega
                                  have H12 := Lib.hid h12
                                  clear h12
                                  have HS0 : Hid (GtS (P6 kd) w W0 p g g2 At ct x 0 (E6 kd f x)) := by have := HS0.out; rw [hj3.out] at this; exact this
                                  have HXY : Hid (∀ A', (A' = (some ad).map (·.add (4 + 0)) ∨ cap = 4 + 0) → Byt W0 w.heap.size A' (x.drop 0)) := tail_byt (m := m) (HX0.out W0 HS0.out.below) HXE.out HN.out (by have := HMM.out; omega) hjm hnc
                                  have c1 : W0.cell? ⟨p, 1, none⟩ = some (.int .i64 0) := HS0.out.tp.blk.cell 1
                                  obtain ⟨q, hq⟩ : ∃ q, q = mm - 0 := ⟨_, rfl⟩
                                  have HQ : Hid (q = (x.drop 0).length) := by rw [List.length_drop, ← HXL.out]; exact hq
                                  have hmq : m = 4 + q := by have := HMM.out; omega
                                  have e4 : (4 : Int) ≤ (m : Int) := by omega
                                  have e5 : (m : Int) ≤ (cap : Int) := by omega
                                  have e6 : (m : Int) - 4 = (q : Int) := by omega
                                  have e7 : m - 4 = q := by omega
                                  clear hq
                                  have CALL : Hid (∀ (A' : Option Addr) (c' : Nat), q ≤ c' → c' ≤ 9223372036854775807 → (A' = (some ad).map (·.add (4 + 0)) ∨ cap = 4 + 0) → Calls Try.prog 39 #[.slice A' q c'] W0 fun e w' => GetTold W0 (x.drop 0) e w' ∧ Below W0.heap.size W0 w') := fun A' c' h1 h2 h3 => rget_any A' (x.drop 0) q c' W0 HQ.out (by omega) h1 h2 ((HXY.out A' h3).more HS0.out.below.size)
                                  have hcc : cap = 4 ∨ cap ≠ 4 := by omega
                                  rcases hcc with hcl | hcl
                                  · have hq0 : q = 0 := by omega
                                    have hme : m = 4 := by omega
                                    have HCL := Lib.hid hcl
                                    have HQ0 := Lib.hid hq0
                                    subst hq0 hme hcl
                                    clear e4 e5 e6 e7 hmq
                                    go_wp2_with fail
                                    refine (CALL.out (some ad) 0 (by omega) (by omega) (.inr HCL.out)).mono ?_
                                    rintro e V ⟨hd, hbV⟩
                                    rcases hd with ⟨v, ls, hls, rfl, ho⟩ | ⟨kk, hkk, rfl⟩
                                    · obtain ⟨Ap, cp, rfl, hcp, hmp⟩ := ho.slice
                                      obtain ⟨np, hnp⟩ : ∃ n, n = ls.length := ⟨_, rfl⟩
                                      rw [← hnp] at ho hcp ⊢
                                      have HST := Lib.hid (ps_state HS0.out hP6.out hbV ho hnp hcp hmp)
                                      have hLS : Hid (getL (x.drop (J3 kd)) = .ok ls) := by rw [hj3.out]; exact hls
                                      have x17 := CkBlk.at (i := 17) HST.out.1 rfl
                                      have z17 := Blk.frozen HST.out.1 17
                                      clear ho hls hbV hnp
                                      go_wp2_with fail
                                      have HF : Hid (GtS (P7 kd) w (V.setCell ⟨g, 17, none⟩ (.slice Ap np cp)) p g g2 At ct x (J6 kd mm) (E7 kd f x ls)) := by
                                        have h := (HST.out.2.as (d' := E7 kd f x ls) (by unfold E7; rw [if_pos HC.out])).weak (P' := P7 kd) (fun h => by have := HC.out; unfold P7 at h; omega)
                                        rw [hj6.out, hj3.out]
                                        exact h
                                      go_meet
                                      exact ⟨ls, fun _ => hLS.out, HF⟩
                                    · have hk0 : ((kk : Int) != 0) = true := by rcases getL_errs hkk with rfl | rfl <;> rfl
                                      have HE : Hid (getC b = .error 42) := HE42.out (dec_ps_bad HC.out (by rw [hj3.out]; exact hkk))
                                      have HB9 := Lib.hid (HS0.out.below.trans (hbV.mono HS0.out.below.size))
                                      have HG9 := Lib.hid (HS0.out.b2.below hbV HS0.out.b2.lt)
                                      clear hkk hbV
                                      have HZ := Lib.hid (ERR.out V 42 HB9.out HG9.out HE.out)
                                      go_wp2_with (first | refine wpList_build_none rfl 32 rfl _ built_none ?_ | refine wpList_store_row rfl 32 _ _ rfl g2 zeroA rfl rfl 32 _ HG9.out chunk_info rfl (ck_one _) ?_)
                                      (try simp only [Exit.inBlock, Exit.then])
                                      refine bodyPost_ret (res_ck rfl _ _ g2 _ rfl HZ.out.1 rfl) rfl ?_
                                      exact HZ.out.2
                                  · have HMQ := Lib.hid hmq
                                    clear hmq
                                    go_wp2_with fail
                                    refine (CALL.out (some (ad.add (4 + 0))) (cap - 4) (by have := HMQ.out; omega) (by omega) (.inl rfl)).mono ?_
                                    rintro e V ⟨hd, hbV⟩
                                    rcases hd with ⟨v, ls, hls, rfl, ho⟩ | ⟨kk, hkk, rfl⟩
                                    · obtain ⟨Ap, cp, rfl, hcp, hmp⟩ := ho.slice
                                      obtain ⟨np, hnp⟩ : ∃ n, n = ls.length := ⟨_, rfl⟩
                                      rw [← hnp] at ho hcp ⊢
                                      have HST := Lib.hid (ps_state HS0.out hP6.out hbV ho hnp hcp hmp)
                                      have hLS : Hid (getL (x.drop (J3 kd)) = .ok ls) := by rw [hj3.out]; exact hls
                                      have x17 := CkBlk.at (i := 17) HST.out.1 rfl
                                      have z17 := Blk.frozen HST.out.1 17
                                      clear ho hls hbV hnp
                                      go_wp2_with fail
                                      have HF : Hid (GtS (P7 kd) w (V.setCell ⟨g, 17, none⟩ (.slice Ap np cp)) p g g2 At ct x (J6 kd mm) (E7 kd f x ls)) := by
                                        have h := (HST.out.2.as (d' := E7 kd f x ls) (by unfold E7; rw [if_pos HC.out])).weak (P' := P7 kd) (fun h => by have := HC.out; unfold P7 at h; omega)
                                        rw [hj6.out, hj3.out]
                                        exact h
                                      go_meet
                                      exact ⟨ls, fun _ => hLS.out, HF⟩
                                    · have hk0 : ((kk : Int) != 0) = true := by rcases getL_errs hkk with rfl | rfl <;> rfl
                                      have HE : Hid (getC b = .error 42) := HE42.out (dec_ps_bad HC.out (by rw [hj3.out]; exact hkk))
                                      have HB9 := Lib.hid (HS0.out.below.trans (hbV.mono HS0.out.below.size))
                                      have HG9 := Lib.hid (HS0.out.b2.below hbV HS0.out.b2.lt)
                                      clear hkk hbV
                                      have HZ := Lib.hid (ERR.out V 42 HB9.out HG9.out HE.out)
                                      go_wp2_with (first | refine wpList_build_none rfl 32 rfl _ built_none ?_ | refine wpList_store_row rfl 32 _ _ rfl g2 zeroA rfl rfl 32 _ HG9.out chunk_info rfl (ck_one _) ?_)
                                      (try simp only [Exit.inBlock, Exit.then])
                                      refine bodyPost_ret (res_ck rfl _ _ g2 _ rfl HZ.out.1 rfl) rfl ?_
                                      exact HZ.out.2
                              · have hc : ¬ (kd = 1 ∨ kd = 2 ∨ kd = 6 ∨ kd = 9 ∨ kd = 130) := of_decide_eq_false HR.out.symm
                                have HC := Lib.hid hc
                                clear hc HR
                                have HF : Hid (GtS (P7 kd) w W0 p g g2 At ct x (J6 kd mm) (E7 kd f x [])) := (HS0.out.as (d' := E7 kd f x []) (by unfold E7; rw [if_neg HC.out])).weak (fun h => h.1)
                                have HNP : Hid ((kd = 1 ∨ kd = 2 ∨ kd = 6 ∨ kd = 9 ∨ kd = 130) → getL (x.drop (J3 kd)) = .ok []) := fun h => absurd h HC.out
                                go_wp2_with fail
                                go_meet
                                exact ⟨[], HNP, HF⟩
                            case rest =>
                              obtain ⟨ls, HPS, HS0⟩ := hcut
                              obtain ⟨W0, hW0⟩ : ∃ W, W = wc := ⟨_, rfl⟩
                              rw [← hW0] at HS0 ⊢
                              clear hW0
                              go_upto_if 366 with (fail)
                              go_cut [] from 366 to 366 (fun wx => Hid (GtS False w wx p g g2 At ct x (J6 kd mm) (E8 kd f x ls)))
                              case first => as_aux_lemma =>
                                by_cases hY1 : Y = 1
                                · have dt : ((Y : Int) == 1) = true := by rw [hY1]; rfl
                                  have HC : Hid (kd = 0 ∨ kd = 64 ∨ kd = 4 ∨ kd = 5 ∨ kd = 10) := by
                                    have h := hY1
                                    rw [HYE.out] at h
                                    rcases kinds HK.out with h1 | h1 | h1 | h1 | h1 | h1 | h1 | h1 | h1 | h1 | h1 | h1 | h1 | h1 | h1 | h1 | h1 <;> subst h1 <;> first | (exact absurd h (by decide)) | (show _ ∨ _; omega)
                                  have HBY : Hid (byN kd = 1) := by rw [← HYE.out]; exact hY1
                                  have hP7 : Hid (P7 kd) := by have := HC.out; show (_ ∧ _ ∧ _) ∧ _; omega
                                  have hj6 : Hid (J6 kd mm = J1 kd) := by have := HC.out; show _ = _; unfold J6 J5 J4 J3; rw [if_neg (by omega), if_neg (by omega), if_neg (by omega), if_neg (by omega)]
                                  have HY1 := Lib.hid hY1
                                  clear hY1
                                  have hcj : kd = 0 ∨ kd = 64 ∨ (kd ≠ 0 ∧ kd ≠ 64) := by omega
                                  rcases hcj with hk | hk | hk
                                  · have hj1 : Hid (J1 kd = 12) := by show _ = _; rw [hk]; rfl
                                    have hjm : 12 ≤ mm := by have h1 := shape_len HSHP.out; rw [hk] at h1; have h2 : 13 ≤ mm := h1; omega
                                    clear hk
                                    have HS0 : Hid (GtS (P7 kd) w W0 p g g2 At ct x 12 (E7 kd f x ls)) := by have := HS0.out; rw [hj6.out, hj1.out] at this; exact this
                                    have HXY : Hid (∀ A', (A' = (some ad).map (·.add (4 + 12)) ∨ cap = 4 + 12) → Byt W0 w.heap.size A' (x.drop 12)) := tail_byt (m := m) (HX0.out W0 HS0.out.below) HXE.out HN.out (by have := HMM.out; omega) hjm hnc
                                    have c1 : (W0.alloc (.cells #[] 5)).cell? ⟨p, 1, none⟩ = some (.int .i64 12) := (Blk.alloc HS0.out.tp.blk (.cells #[] 5)).cell 1
                                    obtain ⟨q, hq⟩ : ∃ q, q = mm - 12 := ⟨_, rfl⟩
                                    have HQ : Hid (q = (x.drop 12).length) := by rw [List.length_drop, ← HXL.out]; exact hq
                                    have hmq : m = 16 + q := by have := HMM.out; omega
                                    have e4 : (16 : Int) ≤ (m : Int) := by omega
                                    have e5 : (m : Int) ≤ (cap : Int) := by omega
                                    have e6 : (m : Int) - 16 = (q : Int) := by omega
                                    have e7 : m - 16 = q := by omega
                                    clear hq
                                    have RD : Hid (∀ A', (A' = (some ad).map (·.add (4 + 12)) ∨ cap = 4 + 12) → Reads (W0.alloc (.cells #[] 5)) w.heap.size 1 A' q (u8s (x.drop 12))) := fun A' h => by have := (HXY.out A' h).alloc HS0.out.below.size (.cells #[] 5); unfold Byt at this; rw [← HQ.out] at this; exact this
                                    have hq6 : q ≤ 65535 := by omega
                                    have HE5 := Lib.hid (own_empty W0 5)
                                    have hcc : cap = 16 ∨ cap ≠ 16 := by omega
                                    rcases hcc with hcl | hcl
                                    · have hq0 : q = 0 := by omega
                                      have hme : m = 16 := by omega
                                      have HCL := Lib.hid hcl
                                      subst hq0 hme hcl
                                      clear e4 e5 e6 e7 hmq
                                      go_wp2_with (at_builtin; refine wpList_append_any _ rfl (.tmp 367) (.tmp 375) _ rfl W0.heap.size 5 i0 _ 1 1 Try.underlying22 hi0 hz0 hz1 hz2 rfl (by omega) (.slice (some ⟨W0.heap.size, 0, none⟩) 0 0) 0 [] rfl HE5.out w.heap.size (some ad) 0 0 (u8s (x.drop 12)) rfl (RD.out (some ad) (.inr HCL.out)) (u8s_one _) (by simp only [maxLen]; omega) (by omega) (by simp) ?_; intro v6 w6 hown6 hg6 hat6; obtain ⟨n6, A6, c6, rfl, HN6, hnq6, hnc6, hc6, HO6, HB6⟩ := copied (Below.refl _ W0) hown6 HQ.out hg6; have HST := Lib.hid (body_state HS0.out hP7.out HB6.out HO6.out HN6.out hnc6 hc6); have x18 := CkBlk.at (i := 18) HST.out.1 rfl; have z18 := Blk.frozen HST.out.1 18; clear hown6 hg6 hat6)
                                      have HF : Hid (GtS False w (w6.setCell ⟨g, 18, none⟩ (.slice A6 n6 c6)) p g g2 At ct x (J6 kd mm) (E8 kd f x ls)) := by
                                        have h := HST.out.2.as (d' := E8 kd f x ls) (by unfold E8; rw [if_pos HBY.out, hj1.out])
                                        rw [hj6.out, hj1.out]
                                        exact h
                                      go_meet
                                      exact HF
                                    · have HMQ := Lib.hid hmq
                                      clear hmq
                                      go_wp2_with (at_builtin; refine wpList_append_any _ rfl (.tmp 367) (.tmp 375) _ rfl W0.heap.size 5 i0 _ 1 1 Try.underlying22 hi0 hz0 hz1 hz2 rfl (by omega) (.slice (some ⟨W0.heap.size, 0, none⟩) 0 0) 0 [] rfl HE5.out w.heap.size (some (ad.add (4 + 12))) q (cap - 16) (u8s (x.drop 12)) rfl (RD.out (some (ad.add (4 + 12))) (.inl rfl)) (u8s_one _) (by simp only [maxLen]; omega) (by omega) (by simp) ?_; intro v6 w6 hown6 hg6 hat6; obtain ⟨n6, A6, c6, rfl, HN6, hnq6, hnc6, hc6, HO6, HB6⟩ := copied (Below.refl _ W0) hown6 HQ.out hg6; have HST := Lib.hid (body_state HS0.out hP7.out HB6.out HO6.out HN6.out hnc6 hc6); have x18 := CkBlk.at (i := 18) HST.out.1 rfl; have z18 := Blk.frozen HST.out.1 18; clear hown6 hg6 hat6)
                                      have HF : Hid (GtS False w (w6.setCell ⟨g, 18, none⟩ (.slice A6 n6 c6)) p g g2 At ct x (J6 kd mm) (E8 kd f x ls)) := by
                                        have h := HST.out.2.as (d' := E8 kd f x ls) (by unfold E8; rw [if_pos HBY.out, hj1.out])
                                        rw [hj6.out, hj1.out]
                                        exact h
                                      go_meet
                                      exact HF
                                  · have hj1 : Hid (J1 kd = 16) := by show _ = _; rw [hk]; rfl
                                    have hjm : 16 ≤ mm := by have h1 := shape_len HSHP.out; rw [hk] at h1; have h2 : 17 ≤ mm := h1; omega
                                    clear hk
                                    have HS0 : Hid (GtS (P7 kd) w W0 p g g2 At ct x 16 (E7 kd f x ls)) := by have := HS0.out; rw [hj6.out, hj1.out] at this; exact this
                                    have HXY : Hid (∀ A', (A' = (some ad).map (·.add (4 + 16)) ∨ cap = 4 + 16) → Byt W0 w.heap.size A' (x.drop 16)) := tail_byt (m := m) (HX0.out W0 HS0.out.below) HXE.out HN.out (by have := HMM.out; omega) hjm hnc
                                    have c1 : (W0.alloc (.cells #[] 5)).cell? ⟨p, 1, none⟩ = some (.int .i64 16) := (Blk.alloc HS0.out.tp.blk (.cells #[] 5)).cell 1
                                    obtain ⟨q, hq⟩ : ∃ q, q = mm - 16 := ⟨_, rfl⟩
                                    have HQ : Hid (q = (x.drop 16).length) := by rw [List.length_drop, ← HXL.out]; exact hq
                                    have hmq : m = 20 + q := by have := HMM.out; omega
                                    have e4 : (20 : Int) ≤ (m : Int) := by omega
                                    have e5 : (m : Int) ≤ (cap : Int) := by omega
                                    have e6 : (m : Int) - 20 = (q : Int) := by omega
                                    have e7 : m - 20 = q := by omega
                                    clear hq
                                    have RD : Hid (∀ A', (A' = (some ad).map (·.add (4 + 16)) ∨ cap = 4 + 16) → Reads (W0.alloc (.cells #[] 5)) w.heap.size 1 A' q (u8s (x.drop 16))) := fun A' h => by have := (HXY.out A' h).alloc HS0.out.below.size (.cells #[] 5); unfold Byt at this; rw [← HQ.out] at this; exact this
                                    have hq6 : q ≤ 65535 := by omega
                                    have HE5 := Lib.hid (own_empty W0 5)
                                    have hcc : cap = 20 ∨ cap ≠ 20 := by omega
                                    rcases hcc with hcl | hcl
                                    · have hq0 : q = 0 := by omega
                                      have hme : m = 20 := by omega
                                      have HCL := Lib.hid hcl
                                      subst hq0 hme hcl
                                      clear e4 e5 e6 e7 hmq
                                      go_wp2_with (at_builtin; refine wpList_append_any _ rfl (.tmp 367) (.tmp 375) _ rfl W0.heap.size 5 i0 _ 1 1 Try.underlying22 hi0 hz0 hz1 hz2 rfl (by omega) (.slice (some ⟨W0.heap.size, 0, none⟩) 0 0) 0 [] rfl HE5.out w.heap.size (some ad) 0 0 (u8s (x.drop 16)) rfl (RD.out (some ad) (.inr HCL.out)) (u8s_one _) (by simp only [maxLen]; omega) (by omega) (by simp) ?_; intro v6 w6 hown6 hg6 hat6; obtain ⟨n6, A6, c6, rfl, HN6, hnq6, hnc6, hc6, HO6, HB6⟩ := copied (Below.refl _ W0) hown6 HQ.out hg6; have HST := Lib.hid (body_state HS0.out hP7.out HB6.out HO6.out HN6.out hnc6 hc6); have x18 := CkBlk.at (i := 18) HST.out.1 rfl; have z18 := Blk.frozen HST.out.1 18; clear hown6 hg6 hat6)
                                      have HF : Hid (GtS False w (w6.setCell ⟨g, 18, none⟩ (.slice A6 n6 c6)) p g g2 At ct x (J6 kd mm) (E8 kd f x ls)) := by
                                        have h := HST.out.2.as (d' := E8 kd f x ls) (by unfold E8; rw [if_pos HBY.out, hj1.out])
                                        rw [hj6.out, hj1.out]
                                        exact h
                                      go_meet
                                      exact HF
                                    · have HMQ := Lib.hid hmq
                                      clear hmq
                                      go_wp2_with (at_builtin; refine wpList_append_any _ rfl (.tmp 367) (.tmp 375) _ rfl W0.heap.size 5 i0 _ 1 1 Try.underlying22 hi0 hz0 hz1 hz2 rfl (by omega) (.slice (some ⟨W0.heap.size, 0, none⟩) 0 0) 0 [] rfl HE5.out w.heap.size (some (ad.add (4 + 16))) q (cap - 20) (u8s (x.drop 16)) rfl (RD.out (some (ad.add (4 + 16))) (.inl rfl)) (u8s_one _) (by simp only [maxLen]; omega) (by omega) (by simp) ?_; intro v6 w6 hown6 hg6 hat6; obtain ⟨n6, A6, c6, rfl, HN6, hnq6, hnc6, hc6, HO6, HB6⟩ := copied (Below.refl _ W0) hown6 HQ.out hg6; have HST := Lib.hid (body_state HS0.out hP7.out HB6.out HO6.out HN6.out hnc6 hc6); have x18 := CkBlk.at (i := 18) HST.out.1 rfl; have z18 := Blk.frozen HST.out.1 18; clear hown6 hg6 hat6)
                                      have HF : Hid (GtS False w (w6.setCell ⟨g, 18, none⟩ (.slice A6 n6 c6)) p g g2 At ct x (J6 kd mm) (E8 kd f x ls)) := by
                                        have h := HST.out.2.as (d' := E8 kd f x ls) (by unfold E8; rw [if_pos HBY.out, hj1.out])
                                        rw [hj6.out, hj1.out]
                                        exact h
                                      go_meet
                                      exact HF
                                  · have hj1 : Hid (J1 kd = 0) := by show _ = _; unfold J1; rw [if_neg hk.1, if_neg hk.2]
                                    have hjm : 0 ≤ mm := by omega
                                    clear hk
                                    have HS0 : Hid (GtS (P7 kd) w W0 p g g2 At ct x 0 (E7 kd f x ls)) := by have := HS0.out; rw [hj6.out, hj1.out] at this; exact this
                                    have HXY : Hid (∀ A', (A' = (some ad).map (·.add (4 + 0)) ∨ cap = 4 + 0) → Byt W0 w.heap.size A' (x.drop 0)) := tail_byt (m := m) (HX0.out W0 HS0.out.below) HXE.out HN.out (by have := HMM.out; omega) hjm hnc
                                    have c1 : (W0.alloc (.cells #[] 5)).cell? ⟨p, 1, none⟩ = some (.int .i64 0) := (Blk.alloc HS0.out.tp.blk (.cells #[] 5)).cell 1
                                    obtain ⟨q, hq⟩ : ∃ q, q = mm - 0 := ⟨_, rfl⟩
                                    have HQ : Hid (q = (x.drop 0).length) := by rw [List.length_drop, ← HXL.out]; exact hq
                                    have hmq : m = 4 + q := by have := HMM.out; omega
                                    have e4 : (4 : Int) ≤ (m : Int) := by omega
                                    have e5 : (m : Int) ≤ (cap : Int) := by omega
                                    have e6 : (m : Int) - 4 = (q : Int) := by omega
                                    have e7 : m - 4 = q := by omega
                                    clear hq
                                    have RD : Hid (∀ A', (A' = (some ad).map (·.add (4 + 0)) ∨ cap = 4 + 0) → Reads (W0.alloc (.cells #[] 5)) w.heap.size 1 A' q (u8s (x.drop 0))) := fun A' h => by have := (HXY.out A' h).alloc HS0.out.below.size (.cells #[] 5); unfold Byt at this; rw [← HQ.out] at this; exact this
                                    have hq6 : q ≤ 65535 := by omega
                                    have HE5 := Lib.hid (own_empty W0 5)
                                    have hcc : cap = 4 ∨ cap ≠ 4 := by omega
                                    rcases hcc with hcl | hcl
                                    · have hq0 : q = 0 := by omega
                                      have hme : m = 4 := by omega
                                      have HCL := Lib.hid hcl
                                      subst hq0 hme hcl
                                      clear e4 e5 e6 e7 hmq
                                      go_wp2_with (at_builtin; refine wpList_append_any _ rfl (.tmp 367) (.tmp 375) _ rfl W0.heap.size 5 i0 _ 1 1 Try.underlying22 hi0 hz0 hz1 hz2 rfl (by omega) (.slice (some ⟨W0.heap.size, 0, none⟩) 0 0) 0 [] rfl HE5.out w.heap.size (some ad) 0 0 (u8s (x.drop 0)) rfl (RD.out (some ad) (.inr HCL.out)) (u8s_one _) (by simp only [maxLen]; omega) (by omega) (by simp) ?_; intro v6 w6 hown6 hg6 hat6; obtain ⟨n6, A6, c6, rfl, HN6, hnq6, hnc6, hc6, HO6, HB6⟩ := copied (Below.refl _ W0) hown6 HQ.out hg6; have HST := Lib.hid (body_state HS0.out hP7.out HB6.out HO6.out HN6.out hnc6 hc6); have x18 := CkBlk.at (i := 18) HST.out.1 rfl; have z18 := Blk.frozen HST.out.1 18; clear hown6 hg6 hat6)
                                      have HF : Hid (GtS False w (w6.setCell ⟨g, 18, none⟩ (.slice A6 n6 c6)) p g g2 At ct x (J6 kd mm) (E8 kd f x ls)) := by
                                        have h := HST.out.2.as (d' := E8 kd f x ls) (by unfold E8; rw [if_pos HBY.out, hj1.out])
                                        rw [hj6.out, hj1.out]
                                        exact h
                                      go_meet
                                      exact HF
                                    · have HMQ := Lib.hid hmq
                                      clear hmq
                                      go_wp2_with (at_builtin; refine wpList_append_any _ rfl (.tmp 367) (.tmp 375) _ rfl W0.heap.size 5 i0 _ 1 1 Try.underlying22 hi0 hz0 hz1 hz2 rfl (by omega) (.slice (some ⟨W0.heap.size, 0, none⟩) 0 0) 0 [] rfl HE5.out w.heap.size (some (ad.add (4 + 0))) q (cap - 4) (u8s (x.drop 0)) rfl (RD.out (some (ad.add (4 + 0))) (.inl rfl)) (u8s_one _) (by simp only [maxLen]; omega) (by omega) (by simp) ?_; intro v6 w6 hown6 hg6 hat6; obtain ⟨n6, A6, c6, rfl, HN6, hnq6, hnc6, hc6, HO6, HB6⟩ := copied (Below.refl _ W0) hown6 HQ.out hg6; have HST := Lib.hid (body_state HS0.out hP7.out HB6.out HO6.out HN6.out hnc6 hc6); have x18 := CkBlk.at (i := 18) HST.out.1 rfl; have z18 := Blk.frozen HST.out.1 18; clear hown6 hg6 hat6)
                                      have HF : Hid (GtS False w (w6.setCell ⟨g, 18, none⟩ (.slice A6 n6 c6)) p g g2 At ct x (J6 kd mm) (E8 kd f x ls)) := by
                                        have h := HST.out.2.as (d' := E8 kd f x ls) (by unfold E8; rw [if_pos HBY.out, hj1.out])
                                        rw [hj6.out, hj1.out]
                                        exact h
                                      go_meet
                                      exact HF
                                · have dt : ((Y : Int) == 1) = false := beq_no (by omega)
                                  have HF : Hid (GtS False w W0 p g g2 At ct x (J6 kd mm) (E8 kd f x ls)) := (HS0.out.as (d' := E8 kd f x ls) (by unfold E8; rw [if_neg (by rw [← HYE.out]; exact hY1)])).weak (fun h => h.elim)
                                  clear hY1
                                  go_wp2_with fail
                                  go_meet
                                  exact HF
                              case rest =>
                                have HS0 := hcut
                                obtain ⟨W0, hW0⟩ : ∃ W, W = wc := ⟨_, rfl⟩
                                rw [← hW0] at HS0 ⊢
                                clear hW0 hcut
                                obtain ⟨cs1, hg1, hat1, _⟩ := HS0.out.gb
                                have HGX := Lib.hid hg1
                                have HATF := Lib.hid hat1
                                have HSZ1 := Lib.hid (ckOwn_size (hat1 W0 (Fr.refl _ _)).1)
                                have HONE := Lib.hid ((hat1 W0 (Fr.refl _ _)).1.at_ (hat1 W0 (Fr.refl _ _)).2).one
                                have HG2 := Lib.hid HS0.out.b2
                                have HBE := Lib.hid HS0.out.below
                                have HFIN : Hid (getC b = .ok (E8 kd f x ls, al)) := by rw [HRES.out, dec_final HK.out HFL.out (by rw [← HXL.out]; exact HSHP.out) H64.out H3.out H194.out HPS.out]; rfl
                                clear hg1 hat1
                                go_wp2_with (first | refine wpList_load_row rfl 32 _ rfl g rfl 32 cs1 (0, 0) _ HGX.out Try.underlying32 rfl (by rw [HSZ1.out]; exact chunk_info) ?_ | refine wpList_store_row rfl 32 _ _ rfl g2 cs1 rfl rfl 32 _ HG2.out (by rw [HSZ1.out]; exact chunk_info) (by rw [HSZ1.out]; rfl) HONE.out ?_)
                                (try simp only [Exit.inBlock, Exit.then])
                                refine bodyPost_ret (res_ck rfl _ _ g2 _ rfl (setRow_blk HG2.out) HSZ1.out) rfl ?_
                                refine ⟨below_fr HBE.out (setRow_fr W0 g2 cs1) (Nat.le_refl _) (fun i e => by have e' : i = g2 := e; omega), .inl ⟨E8 kd f x ls, al, cs1, HFIN.out, by simp, ?_⟩⟩
                                exact HATF.out _ ((setRow_fr W0 g2 cs1).mono (fun i _ e => .inr (.inl e)))
end Go.Proofs.Ytpgklhecmafnbaa.Chk
