/-
  Of the texts In1, InOn, InOn2, InOn3: what the laws reach.
-/
import Derived.Test.YtioddokjogbmnaaP10

set_option linter.unusedVariables false
set_option linter.unusedSimpArgs false
set_option maxRecDepth 20000
namespace Go.Proofs.Ytioddokjogbmnaa.In
open Go.ChangeShapes Go.WideShapes Go.ChangeAt Go.RowKit Go.Deep Go.Proofs.Ytioddokjogbmnaa.Words Go.Proofs.Ytioddokjogbmnaa.Oct Go.Proofs.Ytioddokjogbmnaa.Par Go.Proofs.Ytioddokjogbmnaa.Chk
def kdD (inter : Bool) : Nat := if inter = true then 64 else 0
def kdF (inter : Bool) : Nat := if inter = true then 194 else 192
abbrev inArr (inter : Bool) (q pj : Nat) (d : Value) : Array Value := #[.int .u8 (kdD inter : Int), .int .u8 (kdF inter : Int), Span.ptr q, jptr pj, d]
def dupV (l : List Int) : List Value := l.map fun t => .int .u32 t
/-- What is asked of Pass, of a joiner of IData. -/
def PassI (JR : World → (Nat → Prop) → Nat → Bool → Jo.JS → Prop) : Prop := ∀ {w : World} {G : Nat → Prop} {p : Nat} {s : Jo.JS} (t : Int), JR w G p true s → Calls Try.prog 55 #[jptr p, .int .u32 t] w fun e w' => e = .returned (.tuple #[]) ∧ Below w.heap.size w w'
structure InP (JR : World → (Nat → Prop) → Nat → Bool → Jo.JS → Prop) (w : World) (Gj : Nat → Prop) (p q pj : Nat) (v d : Value) (inter : Bool) (s : IS) : Prop where
  blk : Blk w p 117 (inArr inter q pj d)
  set : Span.SetAt w 0 q v s.mark s.rs
  gp : Span.Gp 2 s.rs
  js : JR w Gj pj inter s.js
  dup : w.ownsRow 0 33 1 d s.dups.length (dupV s.dups)
  d16 : s.dups.length ≤ 16
  dbd : ∀ t ∈ s.dups, 0 ≤ t ∧ t ≤ 4294967295
  np : ¬ Gj p
  nq : ¬ Gj q
  nv : ∀ g, v.ownBlock = some g → ¬ Gj g
  nd : ∀ g, d.ownBlock = some g → ¬ Gj g
def InG (Gj : Nat → Prop) (p q : Nat) (v d : Value) (i : Nat) : Prop := i = p ∨ i = q ∨ v.ownBlock = some i ∨ d.ownBlock = some i ∨ Gj i
def InR (JR : World → (Nat → Prop) → Nat → Bool → Jo.JS → Prop) (w : World) (G : Nat → Prop) (p : Nat) (inter : Bool) (s : IS) : Prop :=
  ∃ Gj q pj v d, (∀ i, G i ↔ InG Gj p q v d i) ∧ InP JR w Gj p q pj v d inter s
section
variable {JR : World → (Nat → Prop) → Nat → Bool → Jo.JS → Prop} {w w' : World} {G G' Gj Gj' S : Nat → Prop} {p q pj g : Nat} {v v' d d' : Value} {inter : Bool} {s : IS}
theorem own_blk {B n size : Nat} {e : TypeId} {v : Value} {xs : List Value} (h : w.ownsRow B e size v n xs) (hv : v.ownBlock = some g) : ∃ cs, Blk w g e cs := by
  rcases h.2 with ⟨rfl, _⟩ | ⟨g', cap, cur, rfl, _, hh, _⟩
  · simp [Value.ownBlock] at hv
  · have : g' = g := by simpa [Value.ownBlock] using hv
    subst this
    exact ⟨_, hh⟩
theorem blk_ne {g g' : Nat} {t t' : TypeId} {cs cs' : Array Value} (h : Blk w g t cs) (k : Blk w g' t' cs') (ht : t ≠ t') : g ≠ g' := by
  rintro rfl
  have h' : w.heap[g]? = some (.cells cs t (0, 0)) := h
  have k' : w.heap[g]? = some (.cells cs' t' (0, 0)) := k
  rw [h'] at k'
  injection k' with k'
  injection k' with _ e _
  exact ht e
theorem set_blk {B : Nat} {M : Int} {rs : List (Nat × Nat)} (h : Span.SetAt w B q v M rs) : ∃ cs, Blk w q 132 cs := ⟨_, h.blk⟩
theorem set_lt {B : Nat} {M : Int} {rs : List (Nat × Nat)} (h : Span.SetAt w B q v M rs) : q < w.heap.size := by
  obtain ⟨cs, h⟩ := set_blk h
  exact h.lt
theorem InP.pq (k : InP JR w Gj p q pj v d inter s) : p ≠ q := by
  obtain ⟨cs, h⟩ := set_blk k.set
  exact blk_ne k.blk h (by decide)
theorem InP.pv (k : InP JR w Gj p q pj v d inter s) (h : v.ownBlock = some g) : g ≠ p := by
  obtain ⟨cs, h⟩ := own_blk k.set.own h
  exact blk_ne h k.blk (by decide)
theorem InP.pd (k : InP JR w Gj p q pj v d inter s) (h : d.ownBlock = some g) : g ≠ p := by
  obtain ⟨cs, h⟩ := own_blk k.dup h
  exact blk_ne h k.blk (by decide)
theorem InP.qd (k : InP JR w Gj p q pj v d inter s) (h : d.ownBlock = some g) : g ≠ q := by
  obtain ⟨cs, h⟩ := own_blk k.dup h
  obtain ⟨cs', h'⟩ := set_blk k.set
  exact blk_ne h h' (by decide)
theorem InP.vd (k : InP JR w Gj p q pj v d inter s) (h : d.ownBlock = some g) : v.ownBlock ≠ some g := fun hv => by
  obtain ⟨cs, h⟩ := own_blk k.dup h
  obtain ⟨cs', h'⟩ := own_blk k.set.own hv
  exact blk_ne h h' (by decide) rfl
theorem set_fr {B : Nat} {M : Int} {rs : List (Nat × Nat)} (h : Span.SetAt w B q v M rs) (hf : Fr S w w') (hq : ¬ S q) (hv : ∀ g, v.ownBlock = some g → ¬ S g) : Span.SetAt w' B q v M rs :=
  ⟨h.hp, h.hM, hf.blk h.blk hq, hf.own h.own hv⟩
theorem InP.fr (J : JoinI JR) (k : InP JR w Gj p q pj v d inter s) (hf : Fr S w w') (hS : ∀ i, S i → i < w.heap.size → ¬ InG Gj p q v d i) : InP JR w' Gj p q pj v d inter s := by
  have hp : ¬ S p := fun h => hS p h k.blk.lt (.inl rfl)
  have hq : ¬ S q := fun h => hS q h (set_lt k.set) (.inr (.inl rfl))
  have hv : ∀ g, v.ownBlock = some g → ¬ S g := fun g h hs => hS g hs (k.set.own.lt g h).2 (.inr (.inr (.inl h)))
  have hd : ∀ g, d.ownBlock = some g → ¬ S g := fun g h hs => hS g hs (k.dup.lt g h).2 (.inr (.inr (.inr (.inl h))))
  exact ⟨hf.blk k.blk hp, set_fr k.set hf hq hv, k.gp, J.fr k.js hf (fun i hi hl hg => hS i hi hl (.inr (.inr (.inr (.inr hg))))), hf.own k.dup hd, k.d16, k.dbd, k.np, k.nq, k.nv, k.nd⟩
theorem InP.below (J : JoinI JR) (k : InP JR w Gj p q pj v d inter s) (hb : Below w.heap.size w w') : InP JR w' Gj p q pj v d inter s :=
  k.fr J (Fr.of_below hb) (fun i h1 h2 => by have e' : w.heap.size ≤ i := h1; omega)
theorem InP.lt (J : JoinI JR) (k : InP JR w Gj p q pj v d inter s) (i : Nat) (h : InG Gj p q v d i) : i < w.heap.size := by
  rcases h with rfl | rfl | h | h | h
  · exact k.blk.lt
  · obtain ⟨cs, h⟩ := set_blk k.set; exact h.lt
  · exact (k.set.own.lt i h).2
  · exact (k.dup.lt i h).2
  · exact J.lt k.js i h
theorem turned_fr (T : Span.Turned w w' q v v') : Fr (fun i => i = q ∨ v.ownBlock = some i) w w' := ⟨T.os, T.tape, T.output, T.size, fun i hi hn => T.block i hi (fun e => hn (.inl e)) (fun e => hn (.inr e.symm))⟩
/-- The set has turned. -/
theorem InP.set_ (J : JoinI JR) (k : InP JR w Gj p q pj v d inter s) {M : Int} {rs : List (Nat × Nat)} (hs : Span.SetAt w' 0 q v' M rs) (hg : Span.Gp 2 rs) (T : Span.Turned w w' q v v') :
    InP JR w' Gj p q pj v' d inter { s with mark := M, rs := rs } ∧ (∀ i, InG Gj p q v' d i → InG Gj p q v d i ∨ w.heap.size ≤ i) ∧ Fr (InG Gj p q v d) w w' := by
  have hf := turned_fr T
  have hp : ¬ (p = q ∨ v.ownBlock = some p) := by
    rintro (e | e)
    · exact k.pq e
    · exact k.pv e rfl
  refine ⟨⟨hf.blk k.blk hp, hs, hg, J.fr k.js hf (fun i hi hl hgj => ?_), hf.own k.dup (fun g h => ?_), k.d16, k.dbd, k.np, k.nq, fun g h => ?_, k.nd⟩, fun i hi => ?_, hf.mono (fun i _ h => ?_)⟩
  · rcases hi with rfl | hi
    · exact k.nq hgj
    · exact k.nv i hi hgj
  · rintro (e | e)
    · exact k.qd h e
    · exact k.vd h e
  · rcases T.row with e | e | ⟨g', e, hl⟩
    · exact k.nv g (e ▸ h)
    · rw [e] at h; cases h
    · rw [e] at h
      injection h with h
      subst h
      intro hgj
      have := J.lt k.js _ hgj
      omega
  · rcases hi with h | h | h | h | h
    · exact .inl (.inl h)
    · exact .inl (.inr (.inl h))
    · rcases T.row with e | e | ⟨g', e, hl⟩
      · exact .inl (.inr (.inr (.inl (e ▸ h))))
      · rw [e] at h; cases h
      · rw [e] at h
        injection h with h
        subst h
        exact .inr hl
    · exact .inl (.inr (.inr (.inr (.inl h))))
    · exact .inl (.inr (.inr (.inr (.inr h))))
  · rcases h with h | h
    · exact .inr (.inl h)
    · exact .inr (.inr (.inl h))
/-- The joiner has turned. -/
theorem InP.js_ (J : JoinI JR) (k : InP JR w Gj p q pj v d inter s) {js' : Jo.JS} (hj : JR w' Gj' pj inter js') (hg : ∀ i, Gj' i → Gj i ∨ w.heap.size ≤ i) (hf : Fr Gj w w') :
    InP JR w' Gj' p q pj v d inter { s with js := js' } ∧ (∀ i, InG Gj' p q v d i → InG Gj p q v d i ∨ w.heap.size ≤ i) ∧ Fr (InG Gj p q v d) w w' := by
  have hn : ∀ g, g < w.heap.size → ¬ Gj g → ¬ Gj' g := fun g h1 h2 h3 => by
    rcases hg g h3 with e | e
    · exact h2 e
    · omega
  refine ⟨⟨hf.blk k.blk k.np, set_fr k.set hf k.nq k.nv, k.gp, hj, hf.own k.dup k.nd, k.d16, k.dbd, hn _ k.blk.lt k.np, hn _ (set_lt k.set) k.nq, fun g h => hn g (k.set.own.lt g h).2 (k.nv g h), fun g h => hn g (k.dup.lt g h).2 (k.nd g h)⟩, fun i hi => ?_, hf.mono (fun i _ h => .inr (.inr (.inr (.inr h))))⟩
  rcases hi with h | h | h | h | h
  · exact .inl (.inl h)
  · exact .inl (.inr (.inl h))
  · exact .inl (.inr (.inr (.inl h)))
  · exact .inl (.inr (.inr (.inr (.inl h))))
  · rcases hg i h with e | e
    · exact .inl (.inr (.inr (.inr (.inr e))))
    · exact .inr e
/-- The list has turned. -/
theorem InP.dup_ (J : JoinI JR) (k : InP JR w Gj p q pj v d inter s) {l : List Int} (hb : Blk w' p 117 (inArr inter q pj d')) (ho : w'.ownsRow 0 33 1 d' l.length (dupV l)) (h16 : l.length ≤ 16) (hbd : ∀ t ∈ l, 0 ≤ t ∧ t ≤ 4294967295)
    (hf : Fr (fun i => i = p ∨ d.ownBlock = some i) w w') (hd : d'.ownBlock = d.ownBlock ∨ d'.ownBlock = none ∨ ∃ g, d'.ownBlock = some g ∧ w.heap.size ≤ g) :
    InP JR w' Gj p q pj v d' inter { s with dups := l } ∧ (∀ i, InG Gj p q v d' i → InG Gj p q v d i ∨ w.heap.size ≤ i) ∧ Fr (InG Gj p q v d) w w' := by
  have hq : ¬ (q = p ∨ d.ownBlock = some q) := by
    rintro (e | e)
    · exact k.pq e.symm
    · exact k.qd e rfl
  refine ⟨⟨hb, set_fr k.set hf hq (fun g h => ?_), k.gp, J.fr k.js hf (fun i hi hl hgj => ?_), ho, h16, hbd, k.np, k.nq, k.nv, fun g h => ?_⟩, fun i hi => ?_, hf.mono (fun i _ h => ?_)⟩
  · rintro (e | e)
    · exact k.pv h e
    · exact k.vd e h
  · rcases hi with rfl | hi
    · exact k.np hgj
    · exact k.nd i hi hgj
  · rcases hd with e | e | ⟨g', e, hl⟩
    · exact k.nd g (e ▸ h)
    · rw [e] at h; cases h
    · rw [e] at h
      injection h with h
      subst h
      intro hgj
      have := J.lt k.js _ hgj
      omega
  · rcases hi with h | h | h | h | h
    · exact .inl (.inl h)
    · exact .inl (.inr (.inl h))
    · exact .inl (.inr (.inr (.inl h)))
    · rcases hd with e | e | ⟨g', e, hl⟩
      · exact .inl (.inr (.inr (.inr (.inl (e ▸ h)))))
      · rw [e] at h; cases h
      · rw [e] at h
        injection h with h
        subst h
        exact .inr hl
    · exact .inl (.inr (.inr (.inr (.inr h))))
  · rcases h with h | h
    · exact .inl h
    · exact .inr (.inr (.inr (.inl h)))
theorem InR.of (k : InP JR w Gj p q pj v d inter s) : InR JR w (InG Gj p q v d) p inter s := ⟨Gj, q, pj, v, d, fun _ => Iff.rfl, k⟩
theorem InR.fr (J : JoinI JR) (k : InR JR w G p inter s) (hf : Fr S w w') (hS : ∀ i, S i → i < w.heap.size → ¬ G i) : InR JR w' G p inter s := by
  obtain ⟨Gj, q, pj, v, d, hG, k⟩ := k
  exact ⟨Gj, q, pj, v, d, hG, k.fr J hf (fun i h1 h2 h3 => hS i h1 h2 ((hG i).2 h3))⟩
theorem InR.lt (J : JoinI JR) (k : InR JR w G p inter s) (i : Nat) (h : G i) : i < w.heap.size := by
  obtain ⟨Gj, q, pj, v, d, hG, k⟩ := k
  exact k.lt J i ((hG i).1 h)
theorem InR.bd (k : InR JR w G p inter s) : (0 ≤ s.mark ∧ s.mark ≤ 4294967295) ∧ Span.Gp 2 s.rs ∧ s.dups.length ≤ 16 := by
  obtain ⟨Gj, q, pj, v, d, hG, k⟩ := k
  exact ⟨k.set.hM, k.gp, k.d16⟩
theorem InR.self (k : InR JR w G p inter s) : G p := by
  obtain ⟨Gj, q, pj, v, d, hG, k⟩ := k
  exact (hG p).2 (.inl rfl)
/-- A body of one byte 120 does not lie in the intake's own block. -/
theorem InP.away (k : InP JR w Gj p q pj v d inter s) {A : Option Addr} (hy : Byt w w.heap.size A [120]) (ad : Addr) (h : A = some ad) : ad.block ≠ p := by
  intro e
  obtain ⟨ad', e', _, hc⟩ := hy.2 (by decide)
  rw [h] at e'
  injection e' with e'
  subst e'
  have h0 := hc 0 _ rfl
  have hb : w.heap[ad.block]? = some (.cells (inArr inter q pj d) 117 (0, 0)) := by rw [e]; exact k.blk
  unfold World.cell? at h0
  have ea : (ad.add 0).block = ad.block := block_of_add _ _
  rw [ea, hb] at h0
  simp only at h0
  split at h0
  · cases h0
  · generalize (ad.add 0).off = o at h0
    rcases o with _ | _ | _ | _ | _ | o
    · cases inter <;> simp [kdD] at h0
    · cases inter <;> simp [kdF] at h0
    · simp at h0
    · simp at h0
    · simp at h0
      have hd := k.dup.2
      rcases hd with ⟨rfl, _⟩ | ⟨g, cap, cur, rfl, _⟩
      · cases h0
      · cases h0
    · simp at h0
end
end Go.Proofs.Ytioddokjogbmnaa.In

set_option linter.unusedVariables false
set_option linter.unusedSimpArgs false
set_option maxRecDepth 20000
namespace Go.Proofs.Ytioddokjogbmnaa.In
open Go.ChangeShapes Go.WideShapes Go.ChangeAt Go.RowKit Go.Deep Go.Proofs.Ytioddokjogbmnaa.Words Go.Proofs.Ytioddokjogbmnaa.Oct Go.Proofs.Ytioddokjogbmnaa.Par Go.Proofs.Ytioddokjogbmnaa.Chk
def onM (lo : Bool) (b : List UInt8) : Msg := ⟨3, lo, 0, 0, b⟩
theorem onM_ok (lo : Bool) (b : List UInt8) : (onM lo b).ok := ⟨(by decide : 3 < 65536), (by decide : 0 < 4294967296), (by decide : 0 < 4294967296)⟩
def onT (f : Nat) : Nat := (4294967294 + f) % 4294967296
def tagO (c : Ck) (f : Nat) : Ck := { c with tsn := onT f }
def onC (inter lo : Bool) (b : List UInt8) (K f : Nat) : Ck := tagO (pieceF (onM lo b) K inter f) f
def onP (inter lo : Bool) (b : List UInt8) (K : Nat) (_ f : Nat) : Jo.Pc := pcOf inter (onC inter lo b K f)
section
variable {inter lo : Bool} {b : List UInt8} {K : Nat}
theorem on_sent (hK : 1 ≤ K) (hb : b ≠ []) (hn : np b.length K ≤ 2000) : Jo.Sent inter lo 3 1 4294967294 (fun _ => np b.length K) (fun j => j * np b.length K) (onP inter lo b K) := by
  have h0 : 0 < b.length := List.length_pos_iff.2 hb
  refine ⟨fun j _ => (np_lt hK).2 (by omega), by simp, fun j _ => by rw [Nat.add_mul, Nat.one_mul], by simp only [Nat.one_mul]; omega, by omega, fun _ _ _ _ => rfl, fun j f hj hf => ?_, fun _ _ _ _ => rfl, fun _ _ _ _ => rfl, fun j f hj _ => ?_, fun j f _ _ hI => ?_, fun j f hj _ _ => ?_⟩
  · show decide (b.length ≤ (f + 1) * K) = decide (f + 1 = np b.length K)
    apply Bool.eq_iff_iff.2
    simp only [decide_eq_true_eq]
    have h1 := not_congr (np_lt (n := b.length) (i := f + 1) hK)
    have h2 : f < np b.length K := hf
    omega
  · show (if inter = true then midF (onM lo b) inter else midF (onM lo b) inter % 65536) = j
    cases inter
    · show (0 % 65536) % 65536 = j; omega
    · show 0 = j; omega
  · show (if inter = true then f else 0) = f
    rw [if_pos hI]
  · obtain rfl : j = 0 := by omega
    show onT f = _
    unfold onT
    rw [Nat.zero_mul, Nat.zero_add]
theorem on_msg (hK : 1 ≤ K) (hb : b ≠ []) (hn : np b.length K ≤ 2000) : (Jo.M (fun _ => np b.length K) (onP inter lo b K) 0).body = b ∧ (Jo.M (fun _ => np b.length K) (onP inter lo b K) 0).st = 3 := by
  have h0 : 0 < b.length := List.length_pos_iff.2 hb
  have hk : 0 < np b.length K := (np_lt hK).2 (by omega)
  refine ⟨Jo.M_body (K := K) (B := fun _ => b) (fun f _ => rfl) hk ?_, ((on_sent hK hb hn).msg (by omega)).1⟩
  have h1 := not_congr (np_lt (n := b.length) (i := np b.length K) hK)
  show b.length ≤ np b.length K * K
  omega
theorem onC_body (hK : 1 ≤ K) {f : Nat} (hf : f < np b.length K) : (onC inter lo b K f).body ≠ [] ∧ (onC inter lo b K f).body.length ≤ K := by
  have h1 := (np_lt hK).1 hf
  have e : (onC inter lo b K f).body = (b.drop (f * K)).take K := rfl
  rw [e]
  refine ⟨fun h => ?_, by rw [List.length_take]; omega⟩
  have := congrArg List.length h
  rw [List.length_take, List.length_drop] at this
  simp at this
  omega
end
/-- A chunk without lists but its body, which lies below L and not in block gc. -/
structure Pz (V : World) (L gc : Nat) (cs : Array Value) (c : Ck) : Prop where
  at_ : CkAt V L cs c
  bare : Bare c
  ne : ∀ (ad : Addr) (n cp : Nat), cs[18]? = some (.slice (some ad) n cp) → 0 < n → ad.block < L ∧ ad.block ≠ gc
structure Row1 (V : World) (L gc n : Nat) (ck : Nat → Ck) : Prop where
  lt : gc < L
  le : L ≤ V.heap.size
  row : ∃ arr, Blk V gc 41 arr ∧ ∀ f, f < n → ∃ cs, Pz V L gc cs (ck f) ∧ ∀ j u, cs[j]? = some u → arr[f * 19 + j]? = some u
section
variable {V V' W : World} {L gc n B c : Nat} {ck : Nat → Ck} {S : Nat → Prop}
theorem Pz.fr {cs : Array Value} {c : Ck} (h : Pz V L gc cs c) (hL : L ≤ V.heap.size) (hf : Fr S V V') (hS : ∀ i, S i → i < L → i = gc) : Pz V' L gc cs c := by
  obtain ⟨⟨ok, g, d, s, p, bd, e, h1, h2, h3, h4, h5, r1, r2, r3, r4, r5⟩, hbr, hne⟩ := h
  obtain ⟨b1, b2, b3, b4⟩ := hbr
  have e18 : cs[18]? = some (.slice bd.A c.body.length bd.cap) := by rw [e]; rfl
  refine ⟨⟨ok, g, d, s, p, bd, e, h1, h2, h3, h4, h5, ?_, ?_, ?_, ?_, ?_⟩, ⟨b1, b2, b3, b4⟩, hne⟩
  · rw [b1]; exact Reads.none_
  · rw [b2]; exact Reads.none_
  · rw [b3]; exact Reads.none_
  · rw [b4]; intro k p hp; cases hp
  · rcases Nat.eq_zero_or_pos c.body.length with h0 | h0
    · rw [List.eq_nil_of_length_eq_zero h0]; exact Reads.none_
    · exact hf.byt r5 hL (fun x hx hs => by
        obtain ⟨k1, k2⟩ := hne x _ _ (by rw [e18, hx]) h0
        exact k2 (hS _ hs k1))
theorem Row1.of_own {ls : List Ck} (h : OwnCks W B (.slice (some ⟨gc, 0, none⟩) n c) ls) (hn : 0 < ls.length) (hl : ∀ f, f < n → ls[f]? = some (ck f) ∧ Bare (ck f)) : Row1 W W.heap.size gc n ck := by
  obtain ⟨xs, h1, h2⟩ := h
  rcases h1.2 with ⟨hv, _⟩ | ⟨g0, cap0, cur, hv, _, hbk, _, _, _, hx⟩
  · cases hv
  · injection hv with hv hv2 _
    injection hv with hv
    injection hv with hv _ _
    subst hv
    have hlt : gc < W.heap.size := Blk.lt (t := 41) hbk
    refine ⟨hlt, Nat.le_refl _, cur, hbk, fun f hf => ?_⟩
    obtain ⟨hl1, hl2⟩ := hl f hf
    obtain ⟨ok, cs, h3, h4⟩ := h2 f _ hl1
    have hat := h4.at_ ok
    obtain ⟨gv, dv, sv, pv, bv, rfl, _, _, _, _, hown⟩ := h4
    refine ⟨_, ⟨hat, hl2, fun ad n' cp' e hn' => ?_⟩, fun j u hu => ?_⟩
    · have e18 : (some bv : Option Value) = some (.slice (some ad) n' cp') := e
      injection e18 with e18
      subst e18
      rcases hown.2 with ⟨hv, _⟩ | ⟨g, cap, cur', hv, _, hbk', _⟩
      · cases hv
      · injection hv with hv _ _
        injection hv with hv
        subst hv
        exact ⟨Blk.lt (t := 5) hbk', fun e => blk_ne (t := 5) (t' := 41) hbk' hbk (by decide) e⟩
    · have h5 := h3 j u hu
      rw [← hx] at h5
      have h6 : f * 19 + j < ls.length * 19 := by
        have := (List.getElem?_eq_some_iff.1 h5).1
        rw [List.length_take] at this
        omega
      rw [List.getElem?_take_of_lt h6] at h5
      simpa using h5
theorem Row1.fr (h : Row1 V L gc n ck) (hf : Fr S V V') (hS : ∀ i, S i → L ≤ i) : Row1 V' L gc n ck := by
  obtain ⟨a, b, arr, h1, h2⟩ := h
  refine ⟨a, Nat.le_trans b hf.size, arr, hf.blk h1 (fun e => by have := hS _ e; omega), fun f hf' => ?_⟩
  obtain ⟨cs, h3, h4⟩ := h2 f hf'
  exact ⟨cs, h3.fr b hf (fun i h1 h2 => by have := hS i h1; omega), h4⟩
/-- A piece gets its number. -/
theorem Row1.tag (h : Row1 V L gc n ck) {f x : Nat} (hf : f < n) (hx : x < 4294967296) : Row1 (V.setCell ⟨gc, f * 19 + 5, none⟩ (.int .u32 (x : Int))) L gc n (fun i => if i = f then { ck f with tsn := x } else ck i) := by
  obtain ⟨a, b, arr, h1, h2⟩ := h
  have hfr : Fr (fun i => i = gc) V (V.setCell ⟨gc, f * 19 + 5, none⟩ (.int .u32 (x : Int))) := (Fr.refl (fun i => i = gc) V).setCell (p := ⟨gc, f * 19 + 5, none⟩) (.inl rfl) _
  refine ⟨a, Nat.le_trans b hfr.size, _, h1.set_ (f * 19 + 5) _, fun i hi => ?_⟩
  obtain ⟨cs, h3, h4⟩ := h2 i hi
  have h5 := h3.fr b hfr (fun i h1 _ => h1)
  by_cases e : i = f
  · subst e
    simp only [if_pos rfl]
    obtain ⟨⟨ok, g, d, s, p, bd, e, k1, k2, k3, k4, k5, r1, r2, r3, r4, r5⟩, hbr, hne⟩ := h5
    refine ⟨ckArr { ck i with tsn := x } (g.v (ck i).gaps.length) (d.v (ck i).dups.length) (s.v (ck i).skips.length) (p.v (ck i).ps.length) (bd.v (ck i).body.length), ⟨⟨⟨ok.kind, hx, ok.st, ok.mid, ok.pp, ok.fr, ok.tag, ok.win, ok.out, ok.inn, ok.gaps, ok.dups, ok.skips, ok.ps⟩, g, d, s, p, bd, rfl, k1, k2, k3, k4, k5, r1, r2, r3, r4, r5⟩, hbr, fun ad n' cp' e' => hne ad n' cp' (by rw [e]; exact e')⟩, fun j u hu => ?_⟩
    have hsz : i * 19 + 5 < arr.size := by
      have := h4 5 _ (by rw [e]; rfl)
      exact (Array.getElem?_eq_some_iff.1 this).1
    rw [Array.getElem?_setIfInBounds]
    by_cases hj : j = 5
    · subst hj
      rw [if_pos rfl, if_pos hsz]
      exact hu
    · rw [if_neg (by omega)]
      refine h4 j u ?_
      rw [e, ← hu]
      have hs : ckArr { ck i with tsn := x } (g.v (ck i).gaps.length) (d.v (ck i).dups.length) (s.v (ck i).skips.length) (p.v (ck i).ps.length) (bd.v (ck i).body.length) = (ckArr (ck i) (g.v (ck i).gaps.length) (d.v (ck i).dups.length) (s.v (ck i).skips.length) (p.v (ck i).ps.length) (bd.v (ck i).body.length)).setIfInBounds 5 (.int .u32 (x : Int)) := rfl
      rw [hs, Array.getElem?_setIfInBounds, if_neg (fun e => hj e.symm)]
  · simp only [if_neg e]
    refine ⟨cs, h5, fun j u hu => ?_⟩
    have hj : j < 19 := by
      have := (Array.getElem?_eq_some_iff.1 hu).1
      rw [h3.at_.size] at this
      exact this
    rw [Array.getElem?_setIfInBounds, if_neg (by omega)]
    exact h4 j u hu
theorem Row1.load (h : Row1 V L gc n ck) {f : Nat} (hf : f < n) : ∃ cs, Pz V L gc cs (ck f) ∧ cs.size = 19 ∧ ∀ j u, cs[j]? = some u → V.cell? ⟨gc, f * 19 + j, none⟩ = some u := by
  obtain ⟨a, b, arr, h1, h2⟩ := h
  obtain ⟨cs, h3, h4⟩ := h2 f hf
  exact ⟨cs, h3, h3.at_.size, fun j u hu => (h1.cell _).trans (h4 j u hu)⟩
theorem Row1.frz (h : Row1 V L gc n ck) (k : Nat) : V.frozen? ⟨gc, k, none⟩ = false := by
  obtain ⟨a, b, arr, h1, h2⟩ := h
  exact h1.frozen k
end
end Go.Proofs.Ytioddokjogbmnaa.In

set_option linter.unusedVariables false
set_option linter.unusedSimpArgs false
set_option maxRecDepth 20000
namespace Go.Proofs.Ytioddokjogbmnaa.In
open Go.ChangeShapes Go.WideShapes Go.ChangeAt Go.RowKit Go.Deep Go.Proofs.Ytioddokjogbmnaa.Words Go.Proofs.Ytioddokjogbmnaa.Oct Go.Proofs.Ytioddokjogbmnaa.Par Go.Proofs.Ytioddokjogbmnaa.Chk
def M9 : Int := 4294967293
theorem onT_adr (f : Nat) : ((onT f : Nat) : Int) = Span.adr M9 (f + 1) := by unfold onT Span.adr M9; omega
/-- What is known. -/
def knO (n : Nat) (S : Nat → Nat → Bool) (y : Nat) : Bool := decide (y = 0) || (decide (1 ≤ y ∧ y ≤ n) && S 0 (y - 1))
theorem knO_put {n f : Nat} {S : Nat → Nat → Bool} (hf : f < n) : one (knO n S) (f + 1) = knO n (Jo.put1 S 0 f) := by
  funext y
  unfold one knO Jo.put1
  rcases Nat.eq_zero_or_pos y with rfl | hy
  · simp
  · by_cases e : y = f + 1
    · subst e
      simp
      omega
    · have e2 : ¬ (y - 1 = f) := by omega
      simp [e, e2]
theorem knO_at {n f : Nat} {S : Nat → Nat → Bool} (hf : f < n) : knO n S (f + 1) = S 0 f := by
  unfold knO
  simp
  omega
theorem knO_le {n y : Nat} {S : Nat → Nat → Bool} (h : knO n S y = true) : y ≤ n := by
  unfold knO at h
  simp at h
  omega
theorem put1_same {S : Nat → Nat → Bool} {f : Nat} (h : S 0 f = true) : Jo.put1 S 0 f = S := by
  funext a c
  unfold Jo.put1
  split
  · rename_i e; rw [e.1, e.2, h]
  · rfl
structure Cx where
  inter : Bool
  lo : Bool
  b : List UInt8
  K : Nat
structure Cx.ok (x : Cx) : Prop where
  hK : 1 ≤ x.K
  hK2 : x.K ≤ 150
  ne : x.b ≠ []
  few : np x.b.length x.K ≤ 2000
abbrev Cx.n (x : Cx) : Nat := np x.b.length x.K
abbrev Cx.ck (x : Cx) : Nat → Ck := onC x.inter x.lo x.b x.K
abbrev Cx.P (x : Cx) : Nat → Nat → Jo.Pc := onP x.inter x.lo x.b x.K
def OnS (x : Cx) (R : World → (Nat → Prop) → Nat → Bool → IS → Prop) (w : World) (L gc p i g : Nat) (S : Nat → Nat → Bool) (V : World) : Prop :=
  ∃ G s, I1 R w V G p x.inter s ∧ (∀ i, G i → L ≤ i) ∧ Tr M9 (knO x.n S) s ∧ Jo.On x.lo 3 (fun _ => x.n) x.P S g s.js ∧ Jo.held s.js ≤ 200 * i ∧ Row1 V L gc x.n x.ck
/-- A piece has come, nothing has been taken yet. -/
def OnM (x : Cx) (R : World → (Nat → Prop) → Nat → Bool → IS → Prop) (w : World) (L gc p i g : Nat) (S : Nat → Nat → Bool) (V : World) : Prop :=
  ∃ G s, I1 R w V G p x.inter s ∧ (∀ i, G i → L ≤ i) ∧ Tr M9 (knO x.n S) s ∧ Jo.held s.js ≤ 200 * i ∧ Row1 V L gc x.n x.ck ∧
    (Jo.On x.lo 3 (fun _ => x.n) x.P S g s.js ∨ (g = 0 ∧ Jo.Pcs 1 (fun _ => x.n) x.P S s.js.pcs ∧ s.js.wait = [] ∧
      ((¬ Jo.Comp (fun _ => x.n) S 0 ∧ s.js.ready = [] ∧ (x.lo = false → s.js.next 3 = 0)) ∨ (Jo.Comp (fun _ => x.n) S 0 ∧ s.js.ready = [Jo.M (fun _ => x.n) x.P 0] ∧ (x.lo = false → s.js.next 3 = 1)))))
section
variable {x : Cx} {R : World → (Nat → Prop) → Nat → Bool → IS → Prop} {w V V' : World} {L gc p i g : Nat} {S : Nat → Nat → Bool}
theorem OnS.bel (h : OnS x R w L gc p i g S V) : Below w.heap.size w V := by obtain ⟨G, s, h, _⟩ := h; exact h.bel
theorem OnS.row (h : OnS x R w L gc p i g S V) : Row1 V L gc x.n x.ck := by obtain ⟨G, s, _, _, _, _, _, h⟩ := h; exact h
theorem OnS.grows (I : InI R) (h : OnS x R w L gc p i g S V) (hb : Below V.heap.size V V') : OnS x R w L gc p i g S V' := by
  obtain ⟨G, s, h1, h2, h3, h4, h5, h6⟩ := h
  exact ⟨G, s, h1.grows I hb, h2, h3, h4, h5, h6.fr (Fr.of_below hb) (fun i hi => Nat.le_trans h6.le hi)⟩
theorem OnS.put (I : InI R) (hx : x.ok) (h : OnS x R w L gc p i g S V) (hi : i ≤ 300) {f : Nat} (hf : f < x.n) {cs : Array Value} (hc : Pz V L gc cs (x.ck f)) :
    Calls Try.prog 23 #[jptr p, .agg cs] V fun e w' => ∃ n, e = .returned (.int .i64 n) ∧ Hid (OnM x R w L gc p (i + 1) g (Jo.put1 S 0 f) w') := by
  obtain ⟨G, s, h1, h2, h3, h4, h5, h6⟩ := h
  obtain ⟨hb1, hb2⟩ := onC_body (inter := x.inter) (lo := x.lo) hx.hK hf
  have hK2 := hx.hK2
  have hl1 : (x.ck f).body.length ≤ x.K := hb2
  refine (h1.data I (c := x.ck f) rfl hb1 hc.bare (by omega) (hc.at_.more h6.le) (fun ad n cp e hg => ?_)).mono ?_
  · have hL := h2 _ hg
    obtain ⟨Hg, Hd', Hs, Hp, Hb, C, _⟩ := hc.at_.parts
    have e18 := C.c18
    rw [e] at e18
    injection e18 with e18
    injection e18 with _ e18 _
    have h0 : 0 < n := by rw [e18]; exact List.length_pos_iff.2 hb1
    have := (hc.ne ad n cp e h0).1
    omega
  · rintro e w' ⟨n, s', G', rfl, g1, g2, g3, g4⟩
    have g2 : DataR x.inter s ((onT f : Nat) : Int) (x.P 0 f) n s' := g2.out
    rw [onT_adr] at g2
    have hG' : ∀ i, G' i → L ≤ i := fun i hi => by
      rcases g4.out i hi with e | e
      · exact h2 i e
      · exact Nat.le_trans h6.le e
    have hrow : Row1 w' L gc x.n x.ck := h6.fr g3.out h2
    have hbl : (x.P 0 f).body.length ≤ x.K := hb2
    have hfw := hx.few
    have hfx : f < np x.b.length x.K := hf
    rcases h3.data (T := 4000) (by unfold M9; omega) (fun y hy => by have h7 : y ≤ np x.b.length x.K := knO_le hy; omega) (by omega) (x := f + 1) (by omega) g2 with ⟨e1, _, rfl⟩ | ⟨_, _, _, e1, _⟩ | ⟨e1, _, e2, e3, _, r, e5⟩
    · rw [knO_at hf] at e1
      rw [put1_same e1]
      exact ⟨n, rfl, G', _, g1.out, hG', h3.same rfl rfl, by show Jo.held s.js ≤ _; omega, hrow, .inl h4⟩
    · omega
    · rw [knO_at hf] at e1
      rw [knO_put hf] at e2
      have h7 := e5.held_le
      obtain ⟨k1, k2, k3, k4⟩ := h4.put (on_sent hx.hK hx.ne hx.few) hf e1 hb1 e5
      exact ⟨n, rfl, G', s', g1.out, hG', e2, by omega, hrow, .inr ⟨k1, k2, k3, k4⟩⟩
theorem OnM.take (I : InI R) (hx : x.ok) (h : OnM x R w L gc p i g S V) :
    Calls Try.prog 24 #[jptr p] V fun e w' => ∃ (m : Msg) (A : Option Addr) (n cp : Nat) (t : Bool) (g' : Nat), e = .returned (.tuple #[.agg (mCells m (.slice A n cp)), .bool t]) ∧ Hid (OnS x R w L gc p i g' S w') ∧ n ≤ cp ∧ cp ≤ 9223372036854775807 ∧ Hid (n = m.body.length) ∧ Hid (Byt w' w'.heap.size A m.body) ∧
      Hid ((t = false ∧ g' = g) ∨ (t = true ∧ g' = g + 1 ∧ m.body = x.b ∧ m.st = 3)) := by
  obtain ⟨G, s, h1, h2, h3, h5, h6, h7⟩ := h
  refine (I.take h1.rep).mono ?_
  rintro e w' ⟨m, A, n, cp, t, j, G', rfl, hr, ht, hn, hn1, hn2, hy, _, hg, hf⟩
  have h1' := h1.step hr hg hf
  have hG' : ∀ i, G' i → L ≤ i := fun i hi => by
    rcases hg i hi with e | e
    · exact h2 i e
    · exact Nat.le_trans h6.le e
  have hrow : Row1 w' L gc x.n x.ck := h6.fr hf h2
  obtain ⟨t1, t2, t3, t4, t5⟩ := ht
  have hheld : Jo.held j ≤ Jo.held s.js := by
    unfold Jo.held
    rw [Jo.sizeP_perm t1, Jo.sizeM_perm t2, t4]
    have : Jo.sizeM (s.js.ready.drop 1) ≤ Jo.sizeM s.js.ready := by
      cases s.js.ready with
      | nil => simp
      | cons a l =>
        show Jo.sizeM l ≤ _
        have ec : Jo.sizeM (a :: l) = a.body.length + Jo.sizeM l := by simp [Jo.sizeM]
        omega
    omega
  have htr : Tr M9 (knO x.n S) { s with js := j } := h3.same rfl rfl
  rcases h7 with h7 | ⟨rfl, k1, k2, ⟨k3, k4, k5⟩ | ⟨k3, k4, k5⟩⟩
  · refine ⟨m, A, n, cp, t, g, rfl, ⟨G', _, h1', hG', htr, h7.again t1 t2 t3 t4, Nat.le_trans hheld h5, hrow⟩, hn1, hn2, hn, hy, .inl ⟨?_, rfl⟩⟩
    rcases t5 with ⟨_, e, _⟩ | ⟨e, _⟩
    · exact e
    · rw [h7.ready] at e; cases e
  · refine ⟨m, A, n, cp, t, 0, rfl, ⟨G', _, h1', hG', htr, Jo.On.none k1 k2 k3 k4 k5 t1 t2 t3 t4, Nat.le_trans hheld h5, hrow⟩, hn1, hn2, hn, hy, .inl ⟨?_, rfl⟩⟩
    rcases t5 with ⟨_, e, _⟩ | ⟨e, _⟩
    · exact e
    · rw [k4] at e; cases e
  · refine ⟨m, A, n, cp, t, 1, rfl, ⟨G', _, h1', hG', htr, Jo.On.took k1 k2 k3 k4 k5 t1 t2 t3 t4, Nat.le_trans hheld h5, hrow⟩, hn1, hn2, hn, hy, .inr ?_⟩
    rcases t5 with ⟨e, _⟩ | ⟨e, e2⟩
    · rw [k4] at e; cases e
    · rw [k4] at e
      have e' : Jo.M (fun _ => x.n) x.P 0 = msOf m := by injection e
      obtain ⟨m1, m2⟩ := on_msg (inter := x.inter) (lo := x.lo) hx.hK hx.ne hx.few
      refine ⟨e2, rfl, ?_, ?_⟩
      · have : (msOf m).body = x.b := by rw [← e']; exact m1
        exact this
      · have : (msOf m).st = 3 := by rw [← e']; exact m2
        exact this
/-- All pieces have come. -/
theorem OnS.done (hx : x.ok) (h : OnS x R w L gc p i g S V) (hS : ∀ f, f < x.n → S 0 f = true) : g = 1 ∧ ∃ G s, I1 R w V G p x.inter s ∧ s.mark = Span.adr M9 x.n ∧ s.rs = [] ∧ Jo.held s.js = 0 := by
  obtain ⟨G, s, h1, h2, h3, h4, h5, h6⟩ := h
  obtain ⟨a1, a2⟩ := h4.done hS
  obtain ⟨b1, b2⟩ := h3.full (N := x.n) (fun y => by
    unfold knO
    rcases Nat.eq_zero_or_pos y with rfl | hy
    · simp
    · by_cases hn : y ≤ x.n
      · have hn' : y ≤ np x.b.length x.K := hn
        have h0 : ¬ y = 0 := by omega
        have h00 : 1 ≤ y := hy
        simp [hn', h0, h00, hS (y - 1) (by show y - 1 < np x.b.length x.K; omega)]
      · have hn' : ¬ y ≤ np x.b.length x.K := hn
        have h0 : ¬ y = 0 := by omega
        simp [hn', h0])
  exact ⟨a1, G, s, h1, b1, b2, a2⟩
end
end Go.Proofs.Ytioddokjogbmnaa.In

set_option linter.unusedVariables false
set_option linter.unusedSimpArgs false
set_option maxRecDepth 20000
namespace Go.Proofs.Ytioddokjogbmnaa.In
open Go.ChangeShapes Go.WideShapes Go.ChangeAt Go.RowKit Go.Deep Go.Proofs.Ytioddokjogbmnaa.Words Go.Proofs.Ytioddokjogbmnaa.Oct Go.Proofs.Ytioddokjogbmnaa.Par Go.Proofs.Ytioddokjogbmnaa.Chk
def TgS (x : Cx) (R : World → (Nat → Prop) → Nat → Bool → IS → Prop) (w : World) (L gc p i : Nat) (V : World) : Prop :=
  ∃ G, I1 R w V G p x.inter ⟨M9, [], js0, []⟩ ∧ (∀ i, G i → L ≤ i) ∧ w.heap.size ≤ gc ∧ Row1 V L gc x.n (fun f => if f < i then x.ck f else pieceF (onM x.lo x.b) x.K x.inter f)
theorem Row1.congr {V : World} {L gc n : Nat} {ck ck' : Nat → Ck} (h : Row1 V L gc n ck) (e : ∀ f, f < n → ck f = ck' f) : Row1 V L gc n ck' := by
  obtain ⟨a, b, arr, h1, h2⟩ := h
  refine ⟨a, b, arr, h1, fun f hf => ?_⟩
  rw [← e f hf]
  exact h2 f hf
section
variable {x : Cx} {R : World → (Nat → Prop) → Nat → Bool → IS → Prop} {w V V' : World} {L gc p i g : Nat} {S : Nat → Nat → Bool}
theorem TgS.bel (h : TgS x R w L gc p i V) : Below w.heap.size w V := by obtain ⟨G, h, _⟩ := h; exact h.bel
theorem TgS.cell (h : TgS x R w L gc p i V) (hi : i < x.n) : (∃ u, V.cell? ⟨gc, i * 19 + 5, none⟩ = some u) ∧ V.frozen? ⟨gc, i * 19 + 5, none⟩ = false := by
  obtain ⟨G, _, _, _, h⟩ := h
  obtain ⟨cs, _, h2, h3⟩ := h.load hi
  exact ⟨⟨_, h3 5 _ (Array.getElem?_eq_getElem (by omega))⟩, h.frz _⟩
theorem TgS.step (I : InI R) (h : TgS x R w L gc p i V) (hi : i < x.n) : TgS x R w L gc p (i + 1) (V.setCell ⟨gc, i * 19 + 5, none⟩ (.int .u32 ((onT i : Nat) : Int))) := by
  obtain ⟨G, h1, h2, h3, h4⟩ := h
  have hf : Fr (fun i => i = gc) V (V.setCell ⟨gc, i * 19 + 5, none⟩ (.int .u32 ((onT i : Nat) : Int))) := (Fr.refl (fun i => i = gc) V).setCell (p := ⟨gc, i * 19 + 5, none⟩) (.inl rfl) _
  refine ⟨G, ⟨I.fr h1.rep hf (fun i k1 k2 k3 => by have := h2 i k3; have := h4.lt; omega), h1.own, below_fr h1.bel hf (Nat.le_refl _) (fun i hi => by rw [show i = gc from hi]; exact h3)⟩, h2, h3, (h4.tag hi (show onT i < 4294967296 by unfold onT; omega)).congr (fun f hf => ?_)⟩
  by_cases e : f = i
  · subst e
    rw [if_pos rfl, if_neg (Nat.lt_irrefl _), if_pos (Nat.lt_succ_self _)]
    rfl
  · rw [if_neg e]
    by_cases e2 : f < i
    · rw [if_pos e2, if_pos (by omega)]
    · rw [if_neg e2, if_neg (by omega)]
theorem TgS.new (I : InI R) {W : World} {A : Option Addr} {n c : Nat} {G : Nat → Prop} (hx : x.ok) (hn : n = x.n) (ho : OwnCks W w.heap.size (.slice A n c) (cutF (onM x.lo x.b) x.K x.inter)) (hW : Below w.heap.size w W) (hr : R V G p x.inter ⟨M9, [], js0, []⟩) (hg : ∀ i, G i → W.heap.size ≤ i) (hb : Below W.heap.size W V) :
    ∃ gc L, A = some ⟨gc, 0, none⟩ ∧ TgS x R w L gc p 0 V := by
  have hlen : (cutF (onM x.lo x.b) x.K x.inter).length = x.n := cutN_length _ _ _ _
  have h0 : 0 < x.n := (np_lt hx.hK).2 (by have := List.length_pos_iff.2 hx.ne; omega)
  obtain ⟨xs, h1, h2⟩ := ho
  obtain ⟨gc, cap, hv, hg1, hg2⟩ := World.ownsRow.form h1 (by omega)
  injection hv with hv _ _
  subst hv
  refine ⟨gc, W.heap.size, rfl, G, ⟨hr, fun i hi => Nat.le_trans hW.size (hg i hi), hW.trans (hb.mono hW.size)⟩, hg, hg1, ?_⟩
  have hrow : Row1 W W.heap.size gc x.n (fun f => pieceF (onM x.lo x.b) x.K x.inter f) := by
    have := Row1.of_own (n := n) (ck := fun f => pieceF (onM x.lo x.b) x.K x.inter f) ⟨xs, h1, h2⟩ (by omega) (fun f hf => ⟨by
      have hf' : f < (cutF (onM x.lo x.b) x.K x.inter).length := by omega
      rw [List.getElem?_eq_getElem hf', cutF_get], rfl, rfl, rfl, rfl⟩)
    rw [← hn]; exact this
  exact (hrow.fr (Fr.of_below hb) (fun i hi => hi)).congr (fun f _ => by rw [if_neg (Nat.not_lt_zero f)])
theorem TgS.done (I : InI R) (hx : x.ok) (h : TgS x R w L gc p x.n V) : OnS x R w L gc p 0 0 (fun _ _ => false) V := by
  obtain ⟨G, h1, h2, _, h4⟩ := h
  have h0 : 0 < x.n := (np_lt hx.hK).2 (by have := List.length_pos_iff.2 hx.ne; omega)
  have hk : knO x.n (fun _ _ => false) = fun y => decide (y = 0) := by funext y; simp [knO]
  exact ⟨G, _, h1, h2, by rw [hk]; exact Tr.new (by unfold M9; omega) js0 [], Jo.On.new h0 rfl rfl rfl rfl, Nat.zero_le _, h4.congr (fun f hf => by rw [if_pos hf])⟩
end
theorem cutE_on (inter lo : Bool) {b : List UInt8} {K : Nat} (hK : 1 ≤ K) (hK2 : K ≤ 150) (hb : b ≠ []) (hl : b.length ≤ 2000) : cutE (onM lo b) (K : Int) inter = 0 := by
  have h0 : 0 < b.length := List.length_pos_iff.2 hb
  unfold cutE
  have h1 : ¬ ((K : Int) < 1 ∨ (roomF inter : Int) < (K : Int)) := by
    cases inter
    · show ¬ ((K : Int) < 1 ∨ ((1172 : Nat) : Int) < (K : Int)); omega
    · show ¬ ((K : Int) < 1 ∨ ((1168 : Nat) : Int) < (K : Int)); omega
  have h2 : ¬ ((onM lo b).body.length = 0) := by show ¬ b.length = 0; omega
  have h3 : ¬ (65536 < (onM lo b).body.length) := by show ¬ 65536 < b.length; omega
  rw [if_neg h1, if_neg h2, if_neg h3]
theorem few_on {b : List UInt8} {K : Nat} (hK : 1 ≤ K) (hl : b.length ≤ 2000) : np b.length K ≤ 2000 := Nat.le_trans (np_le hK) hl
end Go.Proofs.Ytioddokjogbmnaa.In
