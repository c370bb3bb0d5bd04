/-
  Of the texts FlIf, ChX, ChAll, ChWays, ChRd, ChGet, ChOpen, FlZk, FlFst, FlWk, FlUn: what the laws reach.
-/
import Derived.Test.YtfgfiiknbkakaaaFC1
import Derived.Test.YtfgfiiknbkakaaaFC3
import Derived.Lib.SlBytesConst
import Derived.Lib.AppendZerosOnto
import Derived.Laws.ResultCell
import Derived.Laws.CopyOwn
import Derived.BigQuiet

set_option linter.unusedVariables false
set_option linter.unusedSimpArgs false
namespace Go.Proofs.Ytfgfiiknbkakaaa.Fl
open Go.ChangeShapes Go.WideShapes Go.ChangeAt Go.RowKit Go.Deep Go.Proofs.Ytfgfiiknbkakaaa.Words Go.Proofs.Ytfgfiiknbkakaaa.Oct Go.Proofs.Ytfgfiiknbkakaaa.Par Go.Proofs.Ytfgfiiknbkakaaa.Chk
abbrev fptr (p : Nat) : Value := .pointer (some ⟨p, 0, none⟩)
abbrev akV (a : Ak) : Value := .agg #[.int .i64 (a.bytes : Int), .bool a.on, .bool a.lost, .int .i64 a.rtt, .bool a.bad]
/-- A chunk without lists but its body. -/
def Bare (c : Ck) : Prop := c.gaps = [] ∧ c.dups = [] ∧ c.skips = [] ∧ c.ps = []
abbrev bareA (c : Ck) (A : Option Addr) (n cp : Nat) : Array Value := ckArr c nilV nilV nilV nilV (.slice A n cp)
abbrev z64 (l : List Int) : List Value := l.map fun x => .int .i64 x
structure FlI (R : World → (Nat → Prop) → Nat → FS → Prop) : Prop where
  fr : ∀ {w w' : World} {G S : Nat → Prop} {p : Nat} {s : FS}, R w G p s → Fr S w w' → (∀ i, S i → i < w.heap.size → ¬ G i) → R w' G p s
  lt : ∀ {w : World} {G : Nat → Prop} {p : Nat} {s : FS}, R w G p s → ∀ i, G i → i < w.heap.size
  bd : ∀ {w : World} {G : Nat → Prop} {p : Nat} {s : FS}, R w G p s → s.mark < 4294967296 ∧ s.ps.length ≤ s.ms.length ∧ s.ms.length ≤ 1048576
  new : ∀ (w : World) (M : Nat), M < 4294967296 → Calls Try.prog 10 #[.int .u32 (M : Int)] w fun e w' => ∃ G p, e = .returned (fptr p) ∧ R w' G p (fs0 M) ∧ (∀ i, G i → w.heap.size ≤ i) ∧ Hid (Below w.heap.size w w')
  send : ∀ {w : World} {G : Nat → Prop} {p : Nat} {s : FS} {m : Int} {lk ln now : Nat} {c : Ck} {A : Option Addr} {n cp : Nat}, R w G p s → s.fresh = true → s.ms.length < 1048576 → (-9223372036854775808 ≤ m ∧ m ≤ 9223372036854775807) → lk < 256 → ln < 4294967296 → now < 4294967296 → Bare c → c.ok → c.body.length ≤ 1000000 → n = c.body.length → n ≤ cp → cp ≤ 9223372036854775807 → Byt w w.heap.size A c.body → (∀ ad, A = some ad → ¬ G ad.block) →
    Calls Try.prog 11 #[fptr p, .int .i64 m, .agg #[.int .i64 (lk : Int), .int .u32 (ln : Int)], .agg (bareA c A n cp), .int .u32 (now : Int)] w fun e w' => ∃ (A' : Option Addr) (cp' : Nat) (G' : Nat → Prop), e = .returned (.agg (bareA { c with tsn := s.next } A' n cp')) ∧ R w' G' p (s.send m lk ln c now) ∧ (∀ i, G' i → G i ∨ w.heap.size ≤ i) ∧ Fr G w w'
  ack : ∀ {w : World} {G : Nat → Prop} {p : Nat} {s : FS} {cs : Array Value} {c : Ck} {now : Nat}, R w G p s → now < 4294967296 → CkAt w w.heap.size cs c → (∀ (ad : Addr) (n cp : Nat), cs[14]? = some (.slice (some ad) n cp) → ¬ G ad.block) →
    Calls Try.prog 12 #[fptr p, .agg cs, .int .u32 (now : Int)] w fun e w' => ∃ G', e = .returned (akV (ackF now s c).2) ∧ R w' G' p (ackF now s c).1 ∧ (∀ i, G' i → G i ∨ w.heap.size ≤ i) ∧ Fr G w w'
  late : ∀ {w : World} {G : Nat → Prop} {p : Nat} {s : FS}, R w G p s → Calls Try.prog 13 #[fptr p] w fun e w' => ∃ (n : Nat) (G' : Nat → Prop), e = .returned (.int .i64 (n : Int)) ∧ R w' G' p s.late ∧ (∀ i, G' i → G i ∨ w.heap.size ≤ i) ∧ Fr G w w'
  again : ∀ {w : World} {G : Nat → Prop} {p : Nat} {s : FS} {now : Nat}, R w G p s → now < 4294967296 →
    Calls Try.prog 14 #[fptr p, .int .u32 (now : Int)] w fun e w' => ∃ (c : Ck) (A : Option Addr) (cp : Nat) (ok : Bool) (s' : FS) (r : Option Ck) (G' : Nat → Prop), e = .returned (.tuple #[.agg (bareA c A c.body.length cp), .bool ok]) ∧ AgainR now s s' r ∧ ((r = none ∧ ok = false ∧ c = zeroC 0) ∨ (r = some c ∧ ok = true)) ∧ R w' G' p s' ∧ (∀ i, G' i → G i ∨ w.heap.size ≤ i) ∧ Fr G w w'
  expire : ∀ {w : World} {G : Nat → Prop} {p : Nat} {s : FS} {now : Nat}, R w G p s → now < 4294967296 →
    Calls Try.prog 16 #[fptr p, .int .u32 (now : Int)] w fun e w' => ∃ (v : Value) (l : List Int) (G' : Nat → Prop), e = .returned v ∧ w'.ownsRow w.heap.size 3 1 v l.length (z64 l) ∧ l.Pairwise (· < ·) ∧ (∀ x, x ∈ l ↔ (s.expire now).gone x = true) ∧ R w' G' p (s.expire now).told ∧ (∀ i, G' i → G i ∨ w.heap.size ≤ i) ∧ (∀ g, v.ownBlock = some g → ¬ G' g) ∧ Fr G w w'
  point : ∀ {w : World} {G : Nat → Prop} {p : Nat} {s : FS} {inter : Bool}, R w G p s →
    Calls Try.prog 15 #[fptr p, .bool inter] w fun e w' => ∃ (cs : Array Value) (c : Ck) (ok : Bool) (G' : Nat → Prop), e = .returned (.tuple #[.agg cs, .bool ok]) ∧ CkAt w' w'.heap.size cs c ∧ ((s.row = [] ∧ ok = false ∧ c = zeroC 0) ∨ (s.row ≠ [] ∧ ok = true ∧ ∃ sk, SkOk inter s.lat sk ∧ c = pointC s inter sk)) ∧ R w' G' p s ∧ (∀ i, G' i → G i ∨ w.heap.size ≤ i) ∧ (∀ (ad : Addr) (n cp : Nat), cs[16]? = some (.slice (some ad) n cp) → ¬ G' ad.block ∧ ad.block < w'.heap.size) ∧ Fr G w w'
  left : ∀ {w : World} {G : Nat → Prop} {p : Nat} {s : FS}, R w G p s → Calls Try.prog 28 #[fptr p] w fun e w' => e = .returned (.int .i64 (s.left : Int)) ∧ Below w.heap.size w w'
  bytes : ∀ {w : World} {G : Nat → Prop} {p : Nat} {s : FS}, R w G p s → Calls Try.prog 27 #[fptr p] w fun e w' => e = .returned (.int .i64 (s.bytes : Int)) ∧ Below w.heap.size w w'
  next : ∀ {w : World} {G : Nat → Prop} {p : Nat} {s : FS}, R w G p s → Calls Try.prog 29 #[fptr p] w fun e w' => e = .returned (.int .u32 (s.next : Int)) ∧ Below w.heap.size w w'
  mark : ∀ {w : World} {G : Nat → Prop} {p : Nat} {s : FS}, R w G p s → Calls Try.prog 30 #[fptr p] w fun e w' => e = .returned (.int .u32 (s.mark : Int)) ∧ Below w.heap.size w w'
/-- A flight of the call's own beside what was there. -/
structure F1 (R : World → (Nat → Prop) → Nat → FS → Prop) (w V : World) (G : Nat → Prop) (p : Nat) (s : FS) : Prop where
  rep : R V G p s
  own : ∀ i, G i → w.heap.size ≤ i
  bel : Below w.heap.size w V
section
variable {R : World → (Nat → Prop) → Nat → FS → Prop} {w V V' : World} {G G' : Nat → Prop} {p : Nat} {s s' : FS}
theorem F1.step (h : F1 R w V G p s) (hr : R V' G' p s') (hg : ∀ i, G' i → G i ∨ V.heap.size ≤ i) (hf : Fr G V V') : F1 R w V' G' p s' :=
  ⟨hr, fun i hi => by
    rcases hg i hi with h1 | h1
    · exact h.own i h1
    · exact Nat.le_trans h.bel.size h1, below_fr h.bel hf (Nat.le_refl _) h.own⟩
theorem F1.grows (I : FlI R) (h : F1 R w V G p s) (hb : Below V.heap.size V V') : F1 R w V' G p s :=
  ⟨I.fr h.rep (Fr.of_below hb) (fun i h1 h2 _ => by omega), h.own, h.bel.trans (hb.mono h.bel.size)⟩
/-- Some flight of the call's own, in the state s, its blocks left open; beside it lie the blocks S. -/
def FV (R : World → (Nat → Prop) → Nat → FS → Prop) (w : World) (p : Nat) (S : Nat → Prop) (s : FS) (V : World) : Prop := ∃ G, F1 R w V G p s ∧ ∀ i, S i → i < V.heap.size ∧ ¬ G i
/-- The blocks S have kept. -/
abbrev Kp (S : Nat → Prop) (V V' : World) : Prop := Fr (fun i => ¬ S i) V V'
variable {S S' : Nat → Prop} {V0 : World}
theorem FV.bel (h : FV R w p S s V) : Below w.heap.size w V := by obtain ⟨G, h, _⟩ := h; exact h.bel
theorem FV.bd (I : FlI R) (h : FV R w p S s V) : s.mark < 4294967296 ∧ s.ps.length ≤ s.ms.length ∧ s.ms.length ≤ 1048576 := by obtain ⟨G, h, _⟩ := h; exact I.bd h.rep
theorem kp_below (hS : ∀ i, S i → i < V.heap.size) (hb : Below V.heap.size V V') : Kp S V V' := ⟨hb.os, hb.tape, hb.output, hb.size, fun k hk hn => hb.block k hk⟩
theorem FV.grows (I : FlI R) (h : FV R w p S s V) (hb : Below V.heap.size V V') : FV R w p S s V' := by
  obtain ⟨G, h, hS⟩ := h
  exact ⟨G, h.grows I hb, fun i hi => ⟨Nat.lt_of_lt_of_le (hS i hi).1 hb.size, (hS i hi).2⟩⟩
/-- Something besides the flight has turned. -/
theorem FV.turns (I : FlI R) (h : FV R w p S s V) (hf : Fr S V V') (hw : ∀ i, S i → w.heap.size ≤ i) : FV R w p S s V' := by
  obtain ⟨G, h, hS⟩ := h
  exact ⟨G, ⟨I.fr h.rep hf (fun i h1 _ h2 => (hS i h1).2 h2), h.own, below_fr h.bel hf (Nat.le_refl _) hw⟩, fun i hi => ⟨Nat.lt_of_lt_of_le (hS i hi).1 hf.size, (hS i hi).2⟩⟩
/-- A new block stands beside it. -/
theorem FV.more (I : FlI R) (h : FV R w p S s V) (hb : Below V.heap.size V V') (hs : ∀ i, S' i → S i ∨ (V.heap.size ≤ i ∧ i < V'.heap.size)) : FV R w p S' s V' := by
  obtain ⟨G, h, hS⟩ := h
  refine ⟨G, h.grows I hb, fun i hi => ?_⟩
  rcases hs i hi with h1 | ⟨h1, h2⟩
  · exact ⟨Nat.lt_of_lt_of_le (hS i h1).1 hb.size, (hS i h1).2⟩
  · exact ⟨h2, fun hg => by have := I.lt h.rep i hg; omega⟩
/-- A row beside it has grown, maybe into a new block. -/
theorem FV.grown (I : FlI R) (h : FV R w p S s V) {row : Option Nat} (hb : V.grownBy V' row) (hr : ∀ g, row = some g → S g ∧ w.heap.size ≤ g) (hs : ∀ i, S' i → S i ∨ (V.heap.size ≤ i ∧ i < V'.heap.size)) : FV R w p S' s V' := by
  have hf : Fr (fun i => some i = row) V V' := Fr.of_grown hb
  obtain ⟨G, h, hS⟩ := h
  have hw : Below w.heap.size w V' := below_fr h.bel hf (Nat.le_refl _) (fun i e => (hr i e.symm).2)
  refine ⟨G, ⟨I.fr h.rep hf (fun i h1 _ h2 => (hS i (hr i h1.symm).1).2 h2), h.own, hw⟩, fun i hi => ?_⟩
  rcases hs i hi with h1 | ⟨h1, h2⟩
  · exact ⟨Nat.lt_of_lt_of_le (hS i h1).1 hb.size, (hS i h1).2⟩
  · exact ⟨h2, fun hg => by have := I.lt h.rep i hg; omega⟩
theorem FV.step (h : F1 R w V G p s) (hS : ∀ i, S i → i < V.heap.size ∧ ¬ G i) (hr : R V' G' p s') (hg : ∀ i, G' i → G i ∨ V.heap.size ≤ i) (hf : Fr G V V') : FV R w p S s' V' ∧ Kp S V V' :=
  ⟨⟨G', h.step hr hg hf, fun i hi => ⟨Nat.lt_of_lt_of_le (hS i hi).1 hf.size, fun hx => by
    rcases hg i hx with h1 | h1
    · exact (hS i hi).2 h1
    · have := (hS i hi).1; omega⟩⟩, hf.mono fun x _ hx hs => (hS x hs).2 hx⟩
theorem FV.same (I : FlI R) (h : F1 R w V G p s) (hS : ∀ i, S i → i < V.heap.size ∧ ¬ G i) (hb : Below V.heap.size V V') : FV R w p S s V' ∧ Kp S V V' :=
  ⟨⟨G, h.grows I hb, fun i hi => ⟨Nat.lt_of_lt_of_le (hS i hi).1 hb.size, (hS i hi).2⟩⟩, kp_below (fun i hi => (hS i hi).1) hb⟩
theorem FV.new (I : FlI R) (w V : World) (hb : Below w.heap.size w V) (hS : ∀ i, S i → i < V.heap.size) (M : Nat) (hM : M < 4294967296) : Calls Try.prog 10 #[.int .u32 (M : Int)] V fun e w' => ∃ p, e = .returned (fptr p) ∧ Hid (FV R w p S (fs0 M) w') ∧ Hid (Kp S V w') :=
  (I.new V M hM).mono (by
    rintro e w' ⟨G, p, rfl, hr, hg, hb2⟩
    exact ⟨p, rfl, ⟨G, ⟨hr, fun i hi => Nat.le_trans hb.size (hg i hi), hb.trans (hb2.out.mono hb.size)⟩, fun i hi => ⟨Nat.lt_of_lt_of_le (hS i hi) hb2.out.size, fun hx => by have := hg i hx; have := hS i hi; omega⟩⟩, kp_below hS hb2.out⟩)
theorem FV.left (I : FlI R) (h : FV R w p S s V) : Calls Try.prog 28 #[fptr p] V fun e w' => e = .returned (.int .i64 (s.left : Int)) ∧ Hid (FV R w p S s w') ∧ Hid (Kp S V w') := by
  obtain ⟨G, h, hS⟩ := h
  exact (I.left h.rep).mono (by rintro e w' ⟨rfl, hb⟩; exact ⟨rfl, (FV.same I h hS hb).1, (FV.same I h hS hb).2⟩)
theorem FV.bytes (I : FlI R) (h : FV R w p S s V) : Calls Try.prog 27 #[fptr p] V fun e w' => e = .returned (.int .i64 (s.bytes : Int)) ∧ Hid (FV R w p S s w') ∧ Hid (Kp S V w') := by
  obtain ⟨G, h, hS⟩ := h
  exact (I.bytes h.rep).mono (by rintro e w' ⟨rfl, hb⟩; exact ⟨rfl, (FV.same I h hS hb).1, (FV.same I h hS hb).2⟩)
theorem FV.next (I : FlI R) (h : FV R w p S s V) : Calls Try.prog 29 #[fptr p] V fun e w' => e = .returned (.int .u32 (s.next : Int)) ∧ Hid (FV R w p S s w') ∧ Hid (Kp S V w') := by
  obtain ⟨G, h, hS⟩ := h
  exact (I.next h.rep).mono (by rintro e w' ⟨rfl, hb⟩; exact ⟨rfl, (FV.same I h hS hb).1, (FV.same I h hS hb).2⟩)
theorem FV.mark (I : FlI R) (h : FV R w p S s V) : Calls Try.prog 30 #[fptr p] V fun e w' => e = .returned (.int .u32 (s.mark : Int)) ∧ Hid (FV R w p S s w') ∧ Hid (Kp S V w') := by
  obtain ⟨G, h, hS⟩ := h
  exact (I.mark h.rep).mono (by rintro e w' ⟨rfl, hb⟩; exact ⟨rfl, (FV.same I h hS hb).1, (FV.same I h hS hb).2⟩)
/-- A piece whose body lies in memory that is younger than the flight's, or beside it. -/
theorem FV.send (I : FlI R) (h : FV R w p S s V0) (hbe : Below V0.heap.size V0 V) {m : Int} {lk ln now : Nat} {c : Ck} {A : Option Addr} {n cp : Nat} (h1 : s.fresh = true) (h2 : s.ms.length < 1048576) (h3 : -9223372036854775808 ≤ m ∧ m ≤ 9223372036854775807) (h4 : lk < 256) (h5 : ln < 4294967296) (h6 : now < 4294967296) (h7 : Bare c) (h8 : c.ok) (h9 : c.body.length ≤ 1000000) (ha : n = c.body.length) (hb : n ≤ cp) (hc : cp ≤ 9223372036854775807) (hd : Byt V V.heap.size A c.body) (hg : ∀ ad, A = some ad → S ad.block ∨ V0.heap.size ≤ ad.block) :
    Calls Try.prog 11 #[fptr p, .int .i64 m, .agg #[.int .i64 (lk : Int), .int .u32 (ln : Int)], .agg (bareA c A n cp), .int .u32 (now : Int)] V fun e w' => ∃ (A' : Option Addr) (cp' : Nat), e = .returned (.agg (bareA { c with tsn := s.next } A' n cp')) ∧ Hid (FV R w p S (s.send m lk ln c now) w') ∧ Hid (Kp S V w') := by
  obtain ⟨G, h, hS⟩ := h
  have h' := h.grows I hbe
  have hS' : ∀ i, S i → i < V.heap.size ∧ ¬ G i := fun i hi => ⟨Nat.lt_of_lt_of_le (hS i hi).1 hbe.size, (hS i hi).2⟩
  exact (I.send h'.rep h1 h2 h3 h4 h5 h6 h7 h8 h9 ha hb hc hd (fun ad e hx => by
    rcases hg ad e with h1 | h1
    · exact (hS _ h1).2 hx
    · have := I.lt h.rep _ hx; omega)).mono (by rintro e w' ⟨A', cp', G', rfl, hr, hg, hf⟩; exact ⟨A', cp', rfl, (FV.step h' hS' hr hg hf).1, (FV.step h' hS' hr hg hf).2⟩)
/-- A Sack whose gaps lie in memory that is younger than the flight's. -/
theorem FV.ack (I : FlI R) (h : FV R w p S s V0) (hb : Below V0.heap.size V0 V) {cs : Array Value} {c : Ck} {now : Nat} (hn : now < 4294967296) (hc : CkAt V V.heap.size cs c) (hg : ∀ (ad : Addr) (n cp : Nat), cs[14]? = some (.slice (some ad) n cp) → S ad.block ∨ V0.heap.size ≤ ad.block) :
    Calls Try.prog 12 #[fptr p, .agg cs, .int .u32 (now : Int)] V fun e w' => e = .returned (akV (ackF now s c).2) ∧ Hid (FV R w p S (ackF now s c).1 w') ∧ Hid (Kp S V w') := by
  obtain ⟨G, h, hS⟩ := h
  have h' := h.grows I hb
  exact (I.ack h'.rep hn hc (fun ad n cp e hx => by
    rcases hg ad n cp e with h1 | h1
    · exact (hS _ h1).2 hx
    · have := I.lt h.rep _ hx; omega)).mono (by
    rintro e w' ⟨G', rfl, hr, hg, hf⟩
    have hS' : ∀ i, S i → i < V.heap.size ∧ ¬ G i := fun i hi => ⟨Nat.lt_of_lt_of_le (hS i hi).1 hb.size, (hS i hi).2⟩
    exact ⟨rfl, (FV.step h' hS' hr hg hf).1, (FV.step h' hS' hr hg hf).2⟩)
theorem FV.late (I : FlI R) (h : FV R w p S s V) : Calls Try.prog 13 #[fptr p] V fun e w' => ∃ n : Nat, e = .returned (.int .i64 (n : Int)) ∧ Hid (FV R w p S s.late w') ∧ Hid (Kp S V w') := by
  obtain ⟨G, h, hS⟩ := h
  exact (I.late h.rep).mono (by rintro e w' ⟨n, G', rfl, hr, hg, hf⟩; exact ⟨n, rfl, (FV.step h hS hr hg hf).1, (FV.step h hS hr hg hf).2⟩)
theorem FV.again (I : FlI R) (h : FV R w p S s V) {now : Nat} (hn : now < 4294967296) :
    Calls Try.prog 14 #[fptr p, .int .u32 (now : Int)] V fun e w' => ∃ (c : Ck) (A : Option Addr) (cp : Nat) (ok : Bool) (s' : FS) (r : Option Ck), e = .returned (.tuple #[.agg (bareA c A c.body.length cp), .bool ok]) ∧ Hid (AgainR now s s' r) ∧ Hid ((r = none ∧ ok = false ∧ c = zeroC 0) ∨ (r = some c ∧ ok = true)) ∧ Hid (FV R w p S s' w') ∧ Hid (Kp S V w') := by
  obtain ⟨G, h, hS⟩ := h
  exact (I.again h.rep hn).mono (by rintro e w' ⟨c, A, cp, ok, s', r, G', rfl, h1, h2, hr, hg, hf⟩; exact ⟨c, A, cp, ok, s', r, rfl, h1, h2, (FV.step h hS hr hg hf).1, (FV.step h hS hr hg hf).2⟩)
/-- What Expire hands back stands beside the flight from then on. -/
theorem FV.expire (I : FlI R) (h : FV R w p S s V) {now : Nat} (hn : now < 4294967296) :
    Calls Try.prog 16 #[fptr p, .int .u32 (now : Int)] V fun e w' => ∃ (A : Option Addr) (cp n : Nat) (l : List Int), e = .returned (.slice A n cp) ∧ n ≤ cp ∧ cp ≤ 9223372036854775807 ∧ Hid (n = l.length) ∧ Hid (Reads w' w'.heap.size 1 A n (z64 l)) ∧ Hid (l.Pairwise (· < ·)) ∧ Hid (∀ x, x ∈ l ↔ (s.expire now).gone x = true) ∧ Hid (FV R w p (fun i => S i ∨ ∃ g, (Value.slice A n cp).ownBlock = some g ∧ g = i) (s.expire now).told w') ∧ Hid (Kp S V w') := by
  obtain ⟨G, h, hS⟩ := h
  exact (I.expire h.rep hn).mono (by
    rintro e w' ⟨v, l, G', rfl, ho, h1, h2, hr, hg, hv, hf⟩
    obtain ⟨A, cp, rfl, h3, h4⟩ := own_slice ho
    obtain ⟨⟨G2, k1, k2⟩, k3⟩ := FV.step (S := S) h hS hr hg hf
    refine ⟨A, cp, _, l, rfl, h3, h4, rfl, Reads.of_own ho, h1, h2, ⟨G', h.step hr hg hf, fun i hi => ?_⟩, k3⟩
    rcases hi with hi | ⟨g, e, rfl⟩
    · refine ⟨(k2 i hi).1, fun hx => ?_⟩
      rcases hg i hx with h5 | h5
      · exact (hS i hi).2 h5
      · have := (hS i hi).1; omega
    · exact ⟨(ho.lt g e).2, hv g e⟩)
theorem FV.point (I : FlI R) (h : FV R w p S s V) {inter : Bool} :
    Calls Try.prog 15 #[fptr p, .bool inter] V fun e w' => ∃ (cs : Array Value) (c : Ck) (ok : Bool), e = .returned (.tuple #[.agg cs, .bool ok]) ∧ Hid (CkAt w' w'.heap.size cs c) ∧ Hid ((s.row = [] ∧ ok = false ∧ c = zeroC 0) ∨ (s.row ≠ [] ∧ ok = true ∧ ∃ sk, SkOk inter s.lat sk ∧ c = pointC s inter sk)) ∧ Hid (FV R w p S s w') ∧ Hid (Kp S V w') := by
  obtain ⟨G, h, hS⟩ := h
  exact (I.point h.rep).mono (by rintro e w' ⟨cs, c, ok, G', rfl, h1, h2, hr, hg, _, hf⟩; exact ⟨cs, c, ok, rfl, h1, h2, (FV.step h hS hr hg hf).1, (FV.step h hS hr hg hf).2⟩)
/-- .. where what is skipped stands beside the flight from then on. -/
theorem FV.pointS (I : FlI R) (h : FV R w p S s V) {inter : Bool} :
    Calls Try.prog 15 #[fptr p, .bool inter] V fun e w' => ∃ (cs : Array Value) (c : Ck) (ok : Bool), e = .returned (.tuple #[.agg cs, .bool ok]) ∧ Hid (CkAt w' w'.heap.size cs c) ∧ Hid ((s.row = [] ∧ ok = false ∧ c = zeroC 0) ∨ (s.row ≠ [] ∧ ok = true ∧ ∃ sk, SkOk inter s.lat sk ∧ c = pointC s inter sk)) ∧ Hid (FV R w p (fun i => S i ∨ ∃ (ad : Addr) (n cp : Nat), cs[16]? = some (.slice (some ad) n cp) ∧ ad.block = i) s w') ∧ Hid (Kp S V w') := by
  obtain ⟨G, h, hS⟩ := h
  exact (I.point h.rep).mono (by
    rintro e w' ⟨cs, c, ok, G', rfl, h1, h2, hr, hg, hv, hf⟩
    obtain ⟨⟨G2, k1, k2⟩, k3⟩ := FV.step (S := S) h hS hr hg hf
    refine ⟨cs, c, ok, rfl, h1, h2, ⟨G', h.step hr hg hf, fun i hi => ?_⟩, k3⟩
    rcases hi with hi | ⟨ad, n, cp, e, rfl⟩
    · refine ⟨(k2 i hi).1, fun hx => ?_⟩
      rcases hg i hx with h5 | h5
      · exact (hS i hi).2 h5
      · have := (hS i hi).1; omega
    · exact ⟨(hv ad n cp e).2, (hv ad n cp e).1⟩)
end
end Go.Proofs.Ytfgfiiknbkakaaa.Fl

set_option linter.unusedVariables false
set_option linter.unusedSimpArgs false
namespace Go.Proofs.Ytfgfiiknbkakaaa.Chk
open Go.ChangeShapes Go.WideShapes Go.ChangeAt Go.RowKit Go.Deep Go.Proofs.Ytfgfiiknbkakaaa.Words Go.Proofs.Ytfgfiiknbkakaaa.Oct Go.Proofs.Ytfgfiiknbkakaaa.Par
theorem reads_step {xs : List Value} {w : World} {B size n k : Nat} {A : Option Addr} (h : Reads w B size A n xs) (hk : k < n) : ∃ ad, A = some ad ∧ ad.block < B ∧ ∀ j u, xs[k * size + j]? = some u → w.cell? ((ad.add (k * size)).add j) = some u := by
  obtain ⟨ad, e, hb, hc⟩ := h.2 (by omega)
  exact ⟨ad, e, hb, fun j u hu => by rw [add_of_add]; exact hc _ u hu⟩
theorem gapC_at (l : List Gp) : ∀ (k : Nat) (g : Gp), l[k]? = some g → (gapC l)[k * 2 + 0]? = some (.int .u16 (g.1 : Int)) ∧ (gapC l)[k * 2 + 1]? = some (.int .u16 (g.2 : Int)) := by
  induction l with
  | nil => intro k g h; simp at h
  | cons x l ih =>
    intro k g h
    match k, h with
    | 0, h => simp only [List.getElem?_cons_zero, Option.some.injEq] at h; subst h; exact ⟨rfl, rfl⟩
    | k + 1, h =>
      have := ih k g (by simpa using h)
      have e : gapC (x :: l) = [Value.int .u16 (x.1 : Int), .int .u16 (x.2 : Int)] ++ gapC l := rfl
      rw [e, List.getElem?_append_right (by simp; omega), List.getElem?_append_right (by simp; omega)]
      rw [show (k + 1) * 2 + 0 - ([Value.int .u16 (x.1 : Int), .int .u16 (x.2 : Int)]).length = k * 2 + 0 by simp; omega, show (k + 1) * 2 + 1 - ([Value.int .u16 (x.1 : Int), .int .u16 (x.2 : Int)]).length = k * 2 + 1 by simp; omega]
      exact this
theorem gap_cells {w : World} {B n k : Nat} {A : Option Addr} {l : List Gp} (h : Reads w B 2 A n (gapC l)) (hn : n = l.length) (hk : k < n) : ∃ (ad : Addr) (g : Gp), A = some ad ∧ ad.block < B ∧ l[k]? = some g ∧ w.cell? (ad.add (k * 2)) = some (.int .u16 (g.1 : Int)) ∧ w.cell? ⟨(ad.add (k * 2)).block, (ad.add (k * 2)).off + 1, none⟩ = some (.int .u16 (g.2 : Int)) := by
  obtain ⟨ad, e, hb, hc⟩ := reads_step h hk
  have hg : l[k]? = some (l[k]'(by omega)) := List.getElem?_eq_getElem (by omega)
  obtain ⟨h1, h2⟩ := gapC_at l k _ hg
  have e0 := hc 0 _ h1
  have e1 := hc 1 _ h2
  rw [add_lit _ (by omega)] at e1
  exact ⟨ad, _, e, hb, hg, e0, e1⟩
theorem skC_at (l : List Skp) : ∀ (k : Nat) (s : Skp), l[k]? = some s → (skC l)[k * 3 + 0]? = some (.int .u16 (s.1 : Int)) ∧ (skC l)[k * 3 + 1]? = some (.bool s.2.1) ∧ (skC l)[k * 3 + 2]? = some (.int .u32 (s.2.2 : Int)) := by
  induction l with
  | nil => intro k g h; simp at h
  | cons x l ih =>
    intro k g h
    match k, h with
    | 0, h => simp only [List.getElem?_cons_zero, Option.some.injEq] at h; subst h; exact ⟨rfl, rfl, rfl⟩
    | k + 1, h =>
      have := ih k g (by simpa using h)
      have e : skC (x :: l) = [Value.int .u16 (x.1 : Int), .bool x.2.1, .int .u32 (x.2.2 : Int)] ++ skC l := rfl
      rw [e, List.getElem?_append_right (by simp; omega), List.getElem?_append_right (by simp; omega), List.getElem?_append_right (by simp; omega)]
      rw [show (k + 1) * 3 + 0 - ([Value.int .u16 (x.1 : Int), .bool x.2.1, .int .u32 (x.2.2 : Int)]).length = k * 3 + 0 by simp; omega, show (k + 1) * 3 + 1 - ([Value.int .u16 (x.1 : Int), .bool x.2.1, .int .u32 (x.2.2 : Int)]).length = k * 3 + 1 by simp; omega, show (k + 1) * 3 + 2 - ([Value.int .u16 (x.1 : Int), .bool x.2.1, .int .u32 (x.2.2 : Int)]).length = k * 3 + 2 by simp; omega]
      exact this
end Go.Proofs.Ytfgfiiknbkakaaa.Chk

set_option linter.unusedVariables false
set_option linter.unusedSimpArgs false
namespace Go.Proofs.Ytfgfiiknbkakaaa.Chk
open Go.ChangeShapes Go.WideShapes Go.ChangeAt Go.RowKit Go.Deep Go.Proofs.Ytfgfiiknbkakaaa.Words Go.Proofs.Ytfgfiiknbkakaaa.Oct Go.Proofs.Ytfgfiiknbkakaaa.Par
/-- How great a chunk is. -/
structure Small (c : Ck) : Prop where
  body : c.body.length ≤ 450000
  skips : 8 * c.skips.length ≤ 450000
  ps : sizeL c.ps ≤ 450000
end Go.Proofs.Ytfgfiiknbkakaaa.Chk

set_option linter.unusedVariables false
set_option linter.unusedSimpArgs false
namespace Go.Proofs.Ytfgfiiknbkakaaa.Chk
open Go.RowKit Go.Proofs.Ytfgfiiknbkakaaa.Words Go.Proofs.Ytfgfiiknbkakaaa.Oct Go.Proofs.Ytfgfiiknbkakaaa.Par
/-- What reading leaves alone. -/
structure Alike (c c' : Ck) : Prop where
  kind : c'.kind = c.kind
  bg : c'.bg = c.bg
  en : c'.en = c.en
  lo : c'.lo = c.lo
  ba : c'.ba = c.ba
section
variable {c : Ck} {x : List UInt8}
end
section
variable {c : Ck}
end
end Go.Proofs.Ytfgfiiknbkakaaa.Chk

set_option linter.unusedVariables false
set_option linter.unusedSimpArgs false
namespace Go.Proofs.Ytfgfiiknbkakaaa.Chk
open Go.ChangeShapes Go.WideShapes Go.ChangeAt Go.RowKit Go.Deep Go.Proofs.Ytfgfiiknbkakaaa.Words Go.Proofs.Ytfgfiiknbkakaaa.Oct Go.Proofs.Ytfgfiiknbkakaaa.Par
theorem head_of {w : World} {B size n : Nat} {t : TypeId} {v : Value} {xs : List Value} (h : w.ownsRow B t size v n xs) : ∃ hd : Hd, v = hd.v n ∧ hd.okN n ∧ Reads w w.heap.size size hd.A n xs := by
  obtain ⟨A, c, rfl, h1, h2⟩ := own_slice h
  exact ⟨⟨A, c⟩, rfl, ⟨h1, h2⟩, Reads.of_own h⟩
theorem CkOwn.at_ {w : World} {B : Nat} {cs : Array Value} {c : Ck} (h : CkOwn w B cs c) (ok : c.ok) : CkAt w w.heap.size cs c := by
  obtain ⟨gv, dv, sv, pv, bv, rfl, h1, h2, h3, h4, h5⟩ := h
  obtain ⟨g, rfl, g1, g2⟩ := head_of h1
  obtain ⟨d, rfl, d1, d2⟩ := head_of h2
  obtain ⟨s, rfl, s1, s2⟩ := head_of h3
  obtain ⟨b, rfl, b1, b2⟩ := head_of h5
  obtain ⟨A, cp, rfl, p1, p2⟩ := h4.slice
  exact ⟨ok, g, d, s, ⟨A, cp⟩, b, rfl, g1, d1, s1, ⟨p1, p2⟩, b1, g2, d2, s2, h4.ps, b2⟩
end Go.Proofs.Ytfgfiiknbkakaaa.Chk

set_option linter.unusedVariables false
set_option linter.unusedSimpArgs false
namespace Go.Proofs.Ytfgfiiknbkakaaa.Chk
open Go.ChangeShapes Go.WideShapes Go.ChangeAt Go.RowKit Go.Deep Go.Proofs.Ytfgfiiknbkakaaa.Words Go.Proofs.Ytfgfiiknbkakaaa.Oct Go.Proofs.Ytfgfiiknbkakaaa.Par
section
variable {b : List UInt8} {m : Nat}
end
theorem wpList_build_as {P : Program} {ops : Array Oper} {rest : List Oper} {o : Oper} {a : Act} {w : World} {Q : Exit → Act → World → Prop} (hg : o.guard = none) (t : TypeId) (parts : Array (Nat × Operand)) (ho : o.op = .build t parts) (cells : Array Value)
    (hf : P.built t (parts.map fun (i, x) => (i, a.eval x)).toList = some cells) (h : wpList P ops Q rest (a.put o.dst (.agg cells)) w) : wpList P ops Q (o :: rest) a w :=
  wpList_build hg t parts ho (by rw [hf]; rfl) (by rw [hf]; exact h)
theorem setRow_blk {w : World} {g : Nat} {cs cs' : Array Value} (h : CkBlk w g cs) : CkBlk (w.setRow g cs') g cs' := setRow_heap w g cs cs' _ (0, 0) h
theorem setRow_fr (w : World) (g : Nat) (cs' : Array Value) : Fr (fun i => i = g) w (w.setRow g cs') := ⟨rfl, rfl, rfl, by simp, fun k _ hn => setRow_other w g k cs' (fun e => hn e)⟩
end Go.Proofs.Ytfgfiiknbkakaaa.Chk

set_option linter.unusedVariables false
set_option linter.unusedSimpArgs false
namespace Go.Proofs.Ytfgfiiknbkakaaa.Chk
open Go.ChangeShapes Go.WideShapes Go.ChangeAt Go.RowKit Go.Deep Go.Proofs.Ytfgfiiknbkakaaa.Words Go.Proofs.Ytfgfiiknbkakaaa.Oct Go.Proofs.Ytfgfiiknbkakaaa.Par
theorem flat_len {α : Type} {f : α → List Value} {m : Nat} (hf : ∀ x, (f x).length = m) (l : List α) : ((l.map f).flatten).length = l.length * m := by
  induction l with
  | nil => simp
  | cons y l ih => rw [List.map_cons, List.flatten_cons, List.length_append, hf, ih, List.length_cons, Nat.succ_mul]; omega
end Go.Proofs.Ytfgfiiknbkakaaa.Chk

set_option linter.unusedVariables false
set_option linter.unusedSimpArgs false
namespace Go.Proofs.Ytfgfiiknbkakaaa.Fl
open Go.ChangeShapes Go.WideShapes Go.ChangeAt Go.RowKit Go.Deep Go.Proofs.Ytfgfiiknbkakaaa.Words Go.Proofs.Ytfgfiiknbkakaaa.Oct Go.Proofs.Ytfgfiiknbkakaaa.Par Go.Proofs.Ytfgfiiknbkakaaa.Chk
theorem below_one (w : World) (o : Obj) : Below w.heap.size w (w.alloc o) := (Below.refl _ _).alloc (Nat.le_refl _) _
theorem wp_alloc_run {P : Program} (w : World) {o : Oper} {a : Act} {K : Act → World → Prop} {Q : Exit → Act → World → Prop} (t : TypeId) (ho : o.op = .alloc t) {v' : Value} {w' : World}
    (hr : (Instr.alloc t true (.tuple #[])).run P w = .ok v' w') (h : K (a.put o.dst v') w') : o.wp P a w K Q := by
  unfold Oper.wp execOp
  simp only [ho, Sem.run_bind, Sem.run_pure, Result.andThen_ok, hr]
  exact h
theorem wpList_alloc_run {P : Program} (w : World) {ops : Array Oper} {rest : List Oper} {o : Oper} {a : Act} {Q : Exit → Act → World → Prop} (hgd : o.guard = none) (t : TypeId) (ho : o.op = .alloc t) {v' : Value} {w' : World}
    (hr : (Instr.alloc t true (.tuple #[])).run P w = .ok v' w') (h : wpList P ops Q rest (a.put o.dst v') w') : wpList P ops Q (o :: rest) a w :=
  wpList_plain hgd fun _ hK => wp_alloc_run w t ho hr (hK _ _ h)
theorem run_alloc_agg {P : Program} {t : TypeId} {cs : Array Value} {n : Nat} (h : (P.info? t).map (fun i => (i.zero, i.size)) = some (some (.agg cs), n)) (w : World) :
    (Instr.alloc t true (.tuple #[])).run P w = .ok (.pointer (some ⟨w.heap.size, 0, none⟩)) (w.alloc (.cells cs t)) := by
  cases hq : P.info? t with
  | none => simp [hq] at h
  | some i =>
    have hz : (zeroValue t).run P w = .ok (.agg cs) w := by
      simp [hq] at h
      simp [zeroValue, typeInfo, hq, h.1]
    simp [Instr.alloc, hz, newVar, newRow, Value.cells]
abbrev zkA : Array Value := ckArr (zeroC 0) nilV nilV nilV nilV nilV
theorem info_zk : (Try.prog.info? 35).map (fun i => (i.zero, i.size)) = some (some (.agg zkA), 19) := by kernel_rfl
theorem alloc_zk (w : World) : (Instr.alloc 35 true (.tuple #[])).run Try.prog w = .ok (.pointer (some ⟨w.heap.size, 0, none⟩)) (w.alloc (.cells zkA 35)) := run_alloc_agg info_zk w
theorem ck_body {w : World} {B : Nat} {c : Ck} {A : Option Addr} {n cp : Nat} (ok : c.ok) (h1 : c.gaps = []) (h2 : c.dups = []) (h3 : c.skips = []) (h4 : c.ps = []) (hn : n = c.body.length) (hnc : n ≤ cp) (hc : cp ≤ 9223372036854775807) (hb : Byt w B A c.body) : CkAt w B (ckArr c nilV nilV nilV nilV (.slice A n cp)) c := by
  subst hn
  refine ⟨ok, ⟨none, 0⟩, ⟨none, 0⟩, ⟨none, 0⟩, ⟨none, 0⟩, ⟨A, cp⟩, ?_⟩
  rw [h1, h2, h3, h4]
  exact ⟨rfl, ⟨Nat.le_refl _, by simp⟩, ⟨Nat.le_refl _, by simp⟩, ⟨Nat.le_refl _, by simp⟩, ⟨Nat.le_refl _, by simp⟩, ⟨hnc, hc⟩, Reads.none_, Reads.none_, Reads.none_, Ps.nil _ _ _, hb⟩
theorem ck_gaps {w : World} {B : Nat} {c : Ck} {A : Option Addr} {n cp : Nat} (ok : c.ok) (h1 : c.body = []) (h2 : c.dups = []) (h3 : c.skips = []) (h4 : c.ps = []) (hn : n = c.gaps.length) (hnc : n ≤ cp) (hc : cp ≤ 9223372036854775807) (hb : Reads w B 2 A c.gaps.length (gapC c.gaps)) : CkAt w B (ckArr c (.slice A n cp) nilV nilV nilV nilV) c := by
  subst hn
  refine ⟨ok, ⟨A, cp⟩, ⟨none, 0⟩, ⟨none, 0⟩, ⟨none, 0⟩, ⟨none, 0⟩, ?_⟩
  rw [h1, h2, h3, h4]
  exact ⟨rfl, ⟨hnc, hc⟩, ⟨Nat.le_refl _, by simp⟩, ⟨Nat.le_refl _, by simp⟩, ⟨Nat.le_refl _, by simp⟩, ⟨Nat.le_refl _, by simp⟩, hb, Reads.none_, Reads.none_, Ps.nil _ _ _, by unfold Byt; exact Reads.none_⟩
theorem blk_below {w w' : World} {g : Nat} {t : TypeId} {cs : Array Value} (h : Blk w g t cs) (hb : Below w.heap.size w w') : Blk w' g t cs := (hb.block g h.lt).trans h
end Go.Proofs.Ytfgfiiknbkakaaa.Fl

set_option linter.unusedVariables false
set_option linter.unusedSimpArgs false
namespace Go.Proofs.Ytfgfiiknbkakaaa.Fl
open Go.ChangeShapes Go.WideShapes Go.ChangeAt Go.RowKit Go.Deep Go.Proofs.Ytfgfiiknbkakaaa.Words Go.Proofs.Ytfgfiiknbkakaaa.Oct Go.Proofs.Ytfgfiiknbkakaaa.Par Go.Proofs.Ytfgfiiknbkakaaa.Chk
def fK (x : List UInt8) : Ck := { zeroC 64 with body := x }
theorem fK_ok (x : List UInt8) : (fK x).ok :=
  ⟨by show 64 < 256; omega, by show 0 < _; omega, by show 0 < _; omega, by show 0 < _; omega, by show 0 < _; omega, by show 0 < _; omega, by show 0 < _; omega, by show 0 < _; omega, by show 0 < _; omega, by show 0 < _; omega, fun _ h => by simp [fK, zeroC] at h, fun _ h => by simp [fK, zeroC] at h, fun _ h => by simp [fK, zeroC] at h, fun _ h => by simp [fK, zeroC] at h⟩
theorem fK_bare (x : List UInt8) : Bare (fK x) := ⟨rfl, rfl, rfl, rfl⟩
theorem built_fK (x : List UInt8) (A : Option Addr) (n c : Nat) : Try.prog.built 35 [(0, .int .u8 64), (18, .slice A n c)] = some (bareA (fK x) A n c) := by kernel_rfl
def sk1 : Ck := { zeroC 3 with tsn := 5, gaps := [(2, 2)] }
def sk2 : Ck := { zeroC 3 with tsn := 8 }
theorem built_s1 (A : Option Addr) : Try.prog.built 35 [(0, .int .u8 3), (5, .int .u32 5), (14, .slice A 1 1)] = some (ckArr sk1 (.slice A 1 1) nilV nilV nilV nilV) := by kernel_rfl
theorem built_s2 : Try.prog.built 35 [(0, .int .u8 3), (5, .int .u32 8)] = some (ckArr sk2 nilV nilV nilV nilV nilV) := by kernel_rfl
theorem sk1_ok : sk1.ok :=
  ⟨by decide, by decide, by decide, by decide, by decide, by decide, by decide, by decide, by decide, by decide, fun g h => by simp [sk1] at h; subst h; decide, fun _ h => by simp [sk1, zeroC] at h, fun _ h => by simp [sk1, zeroC] at h, fun _ h => by simp [sk1, zeroC] at h⟩
theorem sk2_ok : sk2.ok :=
  ⟨by decide, by decide, by decide, by decide, by decide, by decide, by decide, by decide, by decide, by decide, fun _ h => by simp [sk2, zeroC] at h, fun _ h => by simp [sk2, zeroC] at h, fun _ h => by simp [sk2, zeroC] at h, fun _ h => by simp [sk2, zeroC] at h⟩
/-- One piece is sent by the first law: its body a block just made. -/
theorem FV.sendF {R : World → (Nat → Prop) → Nat → FS → Prop} (I : FlI R) {w V : World} {p : Nat} {S : Nat → Prop} {s : FS} (h : FV R w p S s V) (h1 : s.fresh = true) (h2 : s.ms.length < 1048576) (o : Obj) (x : List UInt8) (fr : Nat × Nat) (C : Array Value) (ho : o = .cells C 5 fr) (hC : C.toList.take x.length = u8s x) (hx : x.length ≤ 1000) (A : Array Value) (n : Nat) (hn : n = x.length) :
    Calls Try.prog 11 #[fptr p, .int .i64 1, .agg #[.int .i64 0, .int .u32 0], .agg (bareA (fK x) (some ⟨V.heap.size, 0, none⟩) n n), .int .u32 10] (V.alloc o) fun e w' => ∃ (A' : Option Addr) (cp' : Nat), e = .returned (.agg (bareA { (fK x) with tsn := s.next } A' n cp')) ∧ Hid (FV R w p S (s.send 1 0 0 (fK x) 10) w') ∧ Hid (Kp S (V.alloc o) w') := by
  have hy : Byt (V.alloc o) (V.alloc o).heap.size (some ⟨V.heap.size, 0, none⟩) (fK x).body := by
    rw [ho]
    exact byt_of_heap (heap_alloc_new V _) (by simp) hC
  have h3 : (fK x).body.length ≤ 1000000 := by show x.length ≤ _; omega
  refine (h.send I (below_one V o) (m := 1) (lk := 0) (ln := 0) (now := 10) (c := fK x) (A := some ⟨V.heap.size, 0, none⟩) (n := n) (cp := n) h1 h2 (by omega) (by omega) (by omega) (by omega) (fK_bare x) (fK_ok x) h3 hn (Nat.le_refl _) (by omega) hy (fun ad e => by injection e with e; rw [← e]; exact .inr (Nat.le_refl _))).mono ?_
  rintro e w' ⟨A', cp', rfl, h4, h5⟩
  exact ⟨A', cp', rfl, h4, h5⟩
def s1f : FS := (fs0 5).send 1 0 0 (fK [97, 98]) 10
def s2f : FS := s1f.send 1 0 0 (fK [99]) 10
def s3f : FS := s2f.send 1 0 0 (fK [100]) 10
def s4f : FS := (ackF 14 s3f sk1).1
theorem a4f : (ackF 14 s3f sk1).2 = ⟨3, true, false, 4, false⟩ := by kernel_rfl
theorem a5f : (ackF 14 s4f sk2).2 = badAk := by kernel_rfl
theorem e5f : (ackF 14 s4f sk2).1 = s4f := by kernel_rfl
theorem n4f : s4f.bytes = 1 ∧ s4f.left = 1 ∧ s4f.next = 8 ∧ s4f.mark = 5 := ⟨by kernel_rfl, by kernel_rfl, by kernel_rfl, by kernel_rfl⟩
set_option maxHeartbeats 8000000 in
set_option maxRecDepth 100000 in
theorem first_f {R : World → (Nat → Prop) → Nat → FS → Prop} (I : FlI R) (w : World) : Calls Try.prog 9 #[] w fun e w' => e = .returned (.bool true) ∧ Below w.heap.size w w' := by
  have kc := fun (w : World) (C : Array Value) (n c : Nat) => Lib.run_convert_bytes_const (P := Try.prog) w 23 5 C n c Try.underlying23 Try.underlying5
  go_enter Try.func9, Try.ntmps9
  go_wp2_with fail
  refine (FV.new I (S := fun _ => False) w w (Below.refl _ _) (fun i h => h.elim) 5 (by omega)).mono ?_
  rintro e W1 ⟨p, rfl, H1, _⟩
  go_wp2_with (refine wpList_build_as rfl 35 _ rfl (bareA (fK [97, 98]) (some ⟨W1.heap.size, 0, none⟩) 2 2) (built_fK _ _ _ _) ?_)
  refine (FV.sendF I H1.out rfl (by decide) _ [97, 98] _ _ rfl rfl (by decide) #[] 2 rfl).mono ?_
  rintro e W2 ⟨A2, c2, rfl, H2, _⟩
  obtain ⟨ka, hka⟩ : ∃ ka, ka = bareA { (fK [97, 98]) with tsn := (fs0 5).next } A2 2 c2 := ⟨_, rfl⟩
  have hk5 : ka[5]? = some (.int .u32 5) := by rw [hka]; rfl
  have hks : ka.size = 19 := by rw [hka]; rfl
  have hko : ka.all (·.oneCell') = true := by rw [hka]; simp [bareA, ckArr, Value.oneCell']
  have HS1 : Hid ((Try.prog.info? 35).map (·.size) = some ka.size) := by rw [hks]; exact chunk_info
  have HS2 : Hid (zkA.size = ka.size) := by rw [hks]; rfl
  have HK5 := Lib.hid hk5
  have HKO := Lib.hid hko
  have HKS := Lib.hid hks
  rw [← hka]
  clear hka hk5 hks hko H1
  go_upto_region 5 with (first
    | (with_reducible refine wpList_alloc_run _ rfl 35 rfl (alloc_zk _) ?_)
    | (refine wpList_store_row rfl 35 _ _ rfl _ ka rfl rfl 35 zkA (Blk.new _ _ _) HS1.out HS2.out HKO.out ?_))
  simp only [Act.put, List.setIfInBounds_toArray, List.set_cons_zero, List.set_cons_succ]
  obtain ⟨W3, hW3⟩ : ∃ W3, W3 = (W2.alloc (.cells zkA 35)).setRow W2.heap.size ka := ⟨_, rfl⟩
  obtain ⟨gk, hgk⟩ : ∃ gk, gk = W2.heap.size := ⟨_, rfl⟩
  have hb3 : Below W2.heap.size W2 W3 := by rw [hW3]; exact below_setRow (below_one W2 _) (Nat.le_refl _) _
  have HK3 : Hid (CkBlk W3 gk ka) := by rw [hW3, hgk]; exact setRow_heap _ _ _ _ _ _ (Blk.new W2 _ _)
  have H3 : Hid (FV R w p (fun i => i = gk) s1f W3) := H2.out.more I hb3 (fun i e => .inr ⟨by omega, by rw [e]; exact HK3.out.lt⟩)
  rw [← hW3, ← hgk]
  clear hW3 hgk hb3 H2 HS1 HS2 HKO HKS
  go_wp2_with (refine wpList_build_as rfl 35 _ rfl (bareA (fK [99]) (some ⟨W3.heap.size, 0, none⟩) 1 1) (built_fK _ _ _ _) ?_)
  have HK3' : Hid (CkBlk (W3.alloc (.cells #[.int .u8 99] 5 (1, 2))) gk ka) := blk_below HK3.out (below_one W3 _)
  refine (FV.sendF I H3.out rfl (by decide) _ [99] _ _ rfl rfl (by decide) #[] 1 rfl).mono ?_
  rintro e W4 ⟨A4, c4, rfl, H4', HP4⟩
  have H4 : Hid (FV R w p (fun i => i = gk) s2f W4) := H4'
  clear H4'
  have HK4 : Hid (CkBlk W4 gk ka) := HP4.out.blk HK3'.out (fun hx => hx rfl)
  clear HP4 HK3 HK3' H3
  go_wp2_with (refine wpList_build_as rfl 35 _ rfl (bareA (fK [100]) (some ⟨W4.heap.size, 0, none⟩) 1 1) (built_fK _ _ _ _) ?_)
  have HK4' : Hid (CkBlk (W4.alloc (.cells #[.int .u8 100] 5 (1, 2))) gk ka) := blk_below HK4.out (below_one W4 _)
  refine (FV.sendF I H4.out rfl (by decide) _ [100] _ _ rfl rfl (by decide) #[] 1 rfl).mono ?_
  rintro e W5 ⟨A5, c5, rfl, H5', HP5⟩
  have H5 : Hid (FV R w p (fun i => i = gk) s3f W5) := H5'
  clear H5'
  have HK5w : Hid (CkBlk W5 gk ka) := HP5.out.blk HK4'.out (fun hx => hx rfl)
  clear HP5 HK4 HK4' H4
  go_wp2_with (refine wpList_build_as rfl 35 _ rfl (ckArr sk1 (.slice (some ⟨W5.heap.size, 0, none⟩) 1 1) nilV nilV nilV nilV) (built_s1 _) ?_)
  obtain ⟨o5, ho5⟩ : ∃ o5, o5 = Obj.cells #[.int .u16 2, .int .u16 2] 42 := ⟨_, rfl⟩
  have hck : CkAt (W5.alloc o5) (W5.alloc o5).heap.size (ckArr sk1 (.slice (some ⟨W5.heap.size, 0, none⟩) 1 1) nilV nilV nilV nilV) sk1 := ck_gaps sk1_ok rfl rfl rfl rfl rfl (Nat.le_refl _) (by omega) ⟨rfl, fun _ => ⟨_, rfl, by simp, fun j u hu => by
    rw [ho5, (Blk.new W5 _ _).cellAdd j, ← Array.getElem?_toList]
    exact hu⟩⟩
  have hb5 := below_one W5 o5
  have HK5' : Hid (CkBlk (W5.alloc o5) gk ka) := blk_below HK5w.out hb5
  rw [← ho5]
  refine (FV.ack I H5.out hb5 (now := 14) (by omega) hck (fun ad n cp e => ?_)).mono ?_
  · have e' : (some (Value.slice (some ⟨W5.heap.size, 0, none⟩) 1 1) : Option Value) = some (.slice (some ad) n cp) := e
    injection e' with e'
    injection e' with e' _ _
    injection e' with e'
    subst e'
    exact .inr (Nat.le_refl _)
  rintro e W6 ⟨rfl, H6', HP6⟩
  have H6 : Hid (FV R w p (fun i => i = gk) s4f W6) := H6'
  have HK6 : Hid (CkBlk W6 gk ka) := HP6.out.blk HK5'.out (fun hx => hx rfl)
  have e6 : akV (ackF 14 s3f sk1).2 = .agg #[.int .i64 3, .bool true, .bool false, .int .i64 4, .bool false] := by rw [a4f]; rfl
  rw [e6]
  clear e6 HP6 HK5' HK5w H5 H6' hb5 hck ho5
  go_upto_region 8 with (fail)
  obtain ⟨W7, hW7⟩ : ∃ W7, W7 = W6.alloc (.cells #[.int .i64 3, .bool true, .bool false, .int .i64 4, .bool false] 44) := ⟨_, rfl⟩
  obtain ⟨g7, hg7⟩ : ∃ g7, g7 = W6.heap.size := ⟨_, rfl⟩
  have hb7 : Below W6.heap.size W6 W7 := by rw [hW7]; exact below_one _ _
  have HG7 : Hid (Blk W7 g7 44 #[.int .i64 3, .bool true, .bool false, .int .i64 4, .bool false]) := by rw [hW7, hg7]; exact Blk.new _ _ _
  have HK7 : Hid (CkBlk W7 gk ka) := blk_below HK6.out hb7
  have H7 : Hid (FV R w p (fun i => i = gk ∨ i = g7) s4f W7) := H6.out.more I hb7 (fun i e => by
    rcases e with e | e
    · exact .inl e
    · exact .inr ⟨by omega, by rw [e]; exact HG7.out.lt⟩)
  rw [← hW7, ← hg7]
  clear hW7 hg7 hb7 HK6 H6
  go_wp2_with (refine wpList_build_as rfl 35 _ rfl (ckArr sk2 nilV nilV nilV nilV nilV) built_s2 ?_)
  have hck : CkAt W7 W7.heap.size (ckArr sk2 nilV nilV nilV nilV nilV) sk2 := ck_gaps sk2_ok rfl rfl rfl rfl rfl (Nat.le_refl _) (by omega) Reads.none_
  refine (FV.ack I H7.out (Below.refl _ _) (now := 14) (by omega) hck (fun ad n cp e => ?_)).mono ?_
  · have e' : (some nilV : Option Value) = some (.slice (some ad) n cp) := e
    injection e' with e'
    injection e' with e' _ _
    cases e'
  rintro e W8 ⟨rfl, H8', HP8⟩
  rw [a5f, show akV badAk = .agg #[.int .i64 0, .bool false, .bool false, .int .i64 (-1), .bool true] from rfl]
  rw [e5f] at H8'
  have HG8 : Hid (Blk W8 g7 44 #[.int .i64 3, .bool true, .bool false, .int .i64 4, .bool false]) := HP8.out.blk HG7.out (fun hx => hx (.inr rfl))
  have HK8 : Hid (CkBlk W8 gk ka) := HP8.out.blk HK7.out (fun hx => hx (.inl rfl))
  clear hck HP8 HG7 HK7 H7
  go_upto_region 9 with (fail)
  obtain ⟨W9, hW9⟩ : ∃ W9, W9 = W8.alloc (.cells #[.int .i64 0, .bool false, .bool false, .int .i64 (-1), .bool true] 44) := ⟨_, rfl⟩
  obtain ⟨g9, hg9⟩ : ∃ g9, g9 = W8.heap.size := ⟨_, rfl⟩
  have hb9 : Below W8.heap.size W8 W9 := by rw [hW9]; exact below_one _ _
  have hc9 : Blk W9 g9 44 #[.int .i64 0, .bool false, .bool false, .int .i64 (-1), .bool true] := by rw [hW9, hg9]; exact Blk.new _ _ _
  have hg : Blk W9 g7 44 #[.int .i64 3, .bool true, .bool false, .int .i64 4, .bool false] := blk_below HG8.out hb9
  have hk : CkBlk W9 gk ka := blk_below HK8.out hb9
  have H9 : Hid (FV R w p (fun i => i = gk ∨ i = g7) s4f W9) := H8'.out.grows I hb9
  have q1 : W9.cell? ⟨gk, 5, none⟩ = some (.int .u32 5) := (hk.cell 5).trans HK5.out
  have q2 : W9.cell? ⟨g7, 0, none⟩ = some (.int .i64 3) := hg.cell 0
  have q3 : W9.cell? ⟨g7, 1, none⟩ = some (.bool true) := hg.cell 1
  have q4 : W9.cell? ⟨g7, 3, none⟩ = some (.int .i64 4) := hg.cell 3
  have q5 : W9.cell? ⟨g7, 4, none⟩ = some (.bool false) := hg.cell 4
  have q6 : W9.cell? ⟨g9, 4, none⟩ = some (.bool true) := hc9.cell 4
  rw [← hW9, ← hg9]
  clear hW9 hg9 hb9 hc9 hg hk H8' HG8 HK8
  go_wp2_with fail
  refine (H9.out.bytes I).mono ?_
  rintro e V1 ⟨rfl, H10, _⟩
  rw [n4f.1]
  go_wp2_with fail
  refine (H10.out.left I).mono ?_
  rintro e V2 ⟨rfl, H11, _⟩
  rw [n4f.2.1]
  go_wp2_with fail
  refine (H11.out.next I).mono ?_
  rintro e V3 ⟨rfl, H12, _⟩
  rw [n4f.2.2.1]
  go_wp2_with fail
  refine (H12.out.mark I).mono ?_
  rintro e V4 ⟨rfl, H13, _⟩
  rw [n4f.2.2.2]
  go_wp2_with fail
  go_ret
  exact ⟨rfl, H13.out.bel⟩
end Go.Proofs.Ytfgfiiknbkakaaa.Fl

set_option linter.unusedVariables false
set_option linter.unusedSimpArgs false
namespace Go.Proofs.Ytfgfiiknbkakaaa.Fl
open Go.ChangeShapes Go.WideShapes Go.ChangeAt Go.RowKit Go.Deep Go.Proofs.Ytfgfiiknbkakaaa.Words Go.Proofs.Ytfgfiiknbkakaaa.Oct Go.Proofs.Ytfgfiiknbkakaaa.Par Go.Proofs.Ytfgfiiknbkakaaa.Chk
section
variable {R : World → (Nat → Prop) → Nat → FS → Prop} {w V V0 : World} {p : Nat} {S : Nat → Prop} {s : FS}
/-- One piece is sent: its body lies in a block just made (above V0). -/
theorem FV.sendX (I : FlI R) (h : FV R w p S s V0) (hbe : Below V0.heap.size V0 V) (h1 : s.fresh = true) (h2 : s.ms.length < 1048576) {m : Int} {lk ln now : Nat} {c : Ck} {g : Nat} (h3 : -9223372036854775808 ≤ m ∧ m ≤ 9223372036854775807) (h4 : lk < 256) (h5 : ln < 4294967296) (h6 : now < 4294967296) (h7 : Bare c) (h8 : c.ok) (h9 : c.body.length ≤ 1000000) {n : Nat} (hn : n = c.body.length) (hg : V0.heap.size ≤ g) (hy : Byt V V.heap.size (some ⟨g, 0, none⟩) c.body) :
    Calls Try.prog 11 #[fptr p, .int .i64 m, .agg #[.int .i64 (lk : Int), .int .u32 (ln : Int)], .agg (bareA c (some ⟨g, 0, none⟩) n n), .int .u32 (now : Int)] V fun e w' => ∃ (A' : Option Addr) (cp' : Nat), e = .returned (.agg (bareA { c with tsn := s.next } A' n cp')) ∧ Hid (FV R w p S (s.send m lk ln c now) w') ∧ Hid (Kp S V w') :=
  h.send I hbe h1 h2 h3 h4 h5 h6 h7 h8 h9 hn (Nat.le_refl _) (by omega) hy (fun ad e => by injection e with e; rw [← e]; exact .inr hg)
end
theorem small_less {a b : Nat} (ha : a < 65536) (hb : b < 65536) : Ser.lessB (a : Int) (b : Int) = decide (a < b) := by
  unfold Ser.lessB Ser.dist
  by_cases h : a < b
  · rw [decide_eq_true h, decide_eq_true (by omega)]
  · rw [decide_eq_false h, decide_eq_false (by omega)]
end Go.Proofs.Ytfgfiiknbkakaaa.Fl

set_option linter.unusedVariables false
set_option linter.unusedSimpArgs false
namespace Go.Proofs.Ytfgfiiknbkakaaa.Fl
open Go.ChangeShapes Go.WideShapes Go.ChangeAt Go.RowKit Go.Deep Go.Proofs.Ytfgfiiknbkakaaa.Words Go.Proofs.Ytfgfiiknbkakaaa.Oct Go.Proofs.Ytfgfiiknbkakaaa.Par Go.Proofs.Ytfgfiiknbkakaaa.Chk
def lkU (u : Nat) : Nat := if u % 5 = 0 then 0 else 2
def lnU (u : Nat) : Nat := if u % 5 = 0 then 0 else u
def deadU (now u : Nat) : Bool := decide (u % 5 ≠ 0) && decide (u < now)
/-- A flight of pieces each of a message of its own, tried until a tick. -/
structure UnS (us : List Nat) (s : FS) : Prop where
  fresh : s.fresh = true
  gone : ∀ x, s.gone x = false
  ms : s.ms.length = us.length
  len : s.ps.length = us.length
  at_ : ∀ (i : Nat) q, s.ps[i]? = some q → q.m = (i : Int) ∧ q.st = 0 ∧ ∃ u, us[i]? = some u ∧ q.lk = lkU u ∧ q.ln = lnU u
/-- The list of those that are given up. -/
structure UnW (now : Nat) (us : List Nat) (want : List Int) : Prop where
  srt : want.Pairwise (· < ·)
  mem : ∀ x, x ∈ want ↔ ∃ (i : Nat) (u : Nat), us[i]? = some u ∧ x = (i : Int) ∧ deadU now u = true
  len : want.length = us.countP (deadU now)
section
variable {us : List Nat} {s : FS} {now u : Nat} {want : List Int}
theorem UnS.nil (M : Nat) : UnS [] (fs0 M) := ⟨rfl, fun _ => rfl, rfl, rfl, fun i q h => by simp [fs0] at h⟩
theorem UnW.nil : UnW now [] [] := ⟨List.Pairwise.nil, fun x => ⟨fun h => (by cases h), fun ⟨i, u, h, _⟩ => (by simp at h)⟩, rfl⟩
theorem gets_snoc {α : Type} {l : List α} {x y : α} {j : Nat} (h : (l ++ [x])[j]? = some y) : (j < l.length ∧ l[j]? = some y) ∨ (j = l.length ∧ y = x) := by
  rcases Nat.lt_or_ge j l.length with h1 | h1
  · rw [List.getElem?_append_left h1] at h
    exact .inl ⟨h1, h⟩
  · rw [List.getElem?_append_right h1] at h
    cases hj : j - l.length with
    | zero => rw [hj] at h; exact .inr ⟨by omega, by simpa using h.symm⟩
    | succ n => rw [hj] at h; simp at h
theorem UnS.snoc (h : UnS us s) {c : Ck} {i : Nat} (hi : i = us.length) : UnS (us ++ [u]) (s.send (i : Int) (lkU u) (lnU u) c 0) := by
  refine ⟨h.fresh, h.gone, ?_, ?_, fun j q hq => ?_⟩
  · show (_ :: s.ms).length = _
    simp [h.ms]
  · show (s.ps ++ [_]).length = _
    simp [h.len]
  · change (s.ps ++ [_])[j]? = some q at hq
    rcases gets_snoc hq with ⟨h1, h2⟩ | ⟨rfl, rfl⟩
    · obtain ⟨a, b, v, hv, h3⟩ := h.at_ j q h2
      exact ⟨a, b, v, by rw [List.getElem?_append_left (by rw [← h.len]; exact h1)]; exact hv, h3⟩
    · refine ⟨by rw [hi, h.len], rfl, u, ?_, rfl, rfl⟩
      rw [h.len]; simp
theorem UnW.no (h : UnW now us want) (hu : deadU now u = false) : UnW now (us ++ [u]) want := by
  refine ⟨h.srt, fun x => ?_, by rw [List.countP_append, h.len]; simp [hu]⟩
  rw [h.mem]
  constructor
  · rintro ⟨i, v, h1, h2⟩
    exact ⟨i, v, by rw [List.getElem?_append_left (List.getElem?_eq_some_iff.1 h1).1]; exact h1, h2⟩
  · rintro ⟨i, v, h1, h2, h3⟩
    rcases gets_snoc h1 with ⟨_, h4⟩ | ⟨_, rfl⟩
    · exact ⟨i, v, h4, h2, h3⟩
    · rw [hu] at h3; cases h3
theorem UnW.yes (h : UnW now us want) (hu : deadU now u = true) {i : Nat} (hi : i = us.length) : UnW now (us ++ [u]) (want ++ [(i : Int)]) := by
  refine ⟨?_, fun x => ?_, by rw [List.countP_append, List.length_append, h.len]; simp [hu]⟩
  · refine List.pairwise_append.2 ⟨h.srt, List.pairwise_singleton _ _, fun x hx y hy => ?_⟩
    obtain ⟨j, v, h1, rfl, _⟩ := (h.mem x).1 hx
    rw [List.mem_singleton.1 hy]
    have := (List.getElem?_eq_some_iff.1 h1).1
    omega
  · rw [List.mem_append, List.mem_singleton, h.mem]
    constructor
    · rintro (⟨j, v, h1, h2⟩ | rfl)
      · exact ⟨j, v, by rw [List.getElem?_append_left (List.getElem?_eq_some_iff.1 h1).1]; exact h1, h2⟩
      · exact ⟨i, u, by rw [hi]; simp, rfl, hu⟩
    · rintro ⟨j, v, h1, h2, h3⟩
      rcases gets_snoc h1 with ⟨_, h4⟩ | ⟨h4, rfl⟩
      · exact .inl ⟨j, v, h4, h2, h3⟩
      · exact .inr (by rw [h2, h4, hi])
theorem UnS.late (h : UnS us s) (hn : now < 256) (hu : ∀ v ∈ us, v < 256) {i : Nat} {q : Pt} {v : Nat} (hq : s.ps[i]? = some q) (hv : us[i]? = some v) : q.left = true ∧ q.late now = deadU now v := by
  obtain ⟨h1, h2, v', hv', h3, h4⟩ := h.at_ i q hq
  rw [hv] at hv'
  injection hv' with hv'
  subst hv'
  have hv2 : v < 256 := hu v (List.mem_of_getElem? hv)
  refine ⟨by unfold Pt.left; rw [h2]; rfl, ?_⟩
  unfold Pt.late deadU
  rw [h3, h4]
  unfold lkU lnU
  by_cases e : v % 5 = 0
  · simp [e]
  · rw [if_neg e, if_neg e, small_less (by omega) (by omega)]
    simp [e]
theorem UnS.dead (h : UnS us s) (hn : now < 256) (hu : ∀ v ∈ us, v < 256) (x : Int) : deadB now s.ps x = true ↔ ∃ (i : Nat) (u : Nat), us[i]? = some u ∧ x = (i : Int) ∧ deadU now u = true := by
  unfold deadB
  rw [List.any_eq_true]
  constructor
  · rintro ⟨q, hq, h1⟩
    obtain ⟨i, hi⟩ := List.mem_iff_getElem?.1 hq
    obtain ⟨h2, h3, v, hv, _⟩ := h.at_ i q hi
    obtain ⟨h4, h5⟩ := h.late hn hu hi hv
    rw [h5] at h1
    simp only [Bool.and_eq_true, decide_eq_true_eq] at h1
    exact ⟨i, v, hv, by rw [← h1.1]; exact h2, h1.2.2⟩
  · rintro ⟨i, v, hv, rfl, hd⟩
    have hi : i < s.ps.length := by rw [h.len]; exact (List.getElem?_eq_some_iff.1 hv).1
    have hq := List.getElem?_eq_getElem hi
    obtain ⟨h2, h3, _⟩ := h.at_ i _ hq
    obtain ⟨h4, h5⟩ := h.late hn hu hq hv
    exact ⟨_, List.getElem_mem hi, by rw [h5, hd, h4, h2]; simp⟩
theorem UnS.left_eq (h : UnS us s) (hw : UnW now us want) (hn : now < 256) (hu : ∀ v ∈ us, v < 256) : (s.expire now).told.left + want.length = us.length := by
  show (s.ps.map _).countP Pt.left + _ = _
  rw [List.countP_map, hw.len]
  have e : ∀ (i : Nat) q, s.ps[i]? = some q → ∀ v, us[i]? = some v → (Pt.left ∘ fun p => if p.left = true ∧ deadB now s.ps p.m = true then p.turn 3 else p) q = !(deadU now v) := fun i q hq v hv => by
    obtain ⟨h1, h2⟩ := h.late hn hu hq hv
    obtain ⟨h3, _⟩ := h.at_ i q hq
    show (if q.left = true ∧ deadB now s.ps q.m = true then q.turn 3 else q).left = _
    have hd : deadB now s.ps q.m = deadU now v := by
      cases hc : deadU now v
      · cases hb : deadB now s.ps q.m
        · rfl
        · obtain ⟨j, v2, hv2, hj, hd2⟩ := (h.dead hn hu _).1 hb
          have : i = j := by rw [h3] at hj; omega
          subst this
          rw [hv] at hv2
          injection hv2 with hv2
          rw [← hv2, hc] at hd2
          cases hd2
      · exact (h.dead hn hu _).2 ⟨i, v, hv, h3, hc⟩
    rw [hd, h1]
    cases deadU now v
    · simp [h1]
    · simp [Pt.turn, Pt.left]
  have e2 : s.ps.map (Pt.left ∘ fun p => if p.left = true ∧ deadB now s.ps p.m = true then p.turn 3 else p) = us.map fun v => !(deadU now v) := by
    apply List.ext_getElem?
    intro i
    rw [List.getElem?_map, List.getElem?_map]
    rcases Nat.lt_or_ge i us.length with hi | hi
    · have hi2 : i < s.ps.length := by rw [h.len]; exact hi
      rw [List.getElem?_eq_getElem hi, List.getElem?_eq_getElem hi2]
      show some _ = some _
      rw [e i _ (List.getElem?_eq_getElem hi2) _ (List.getElem?_eq_getElem hi)]
    · rw [List.getElem?_eq_none hi, List.getElem?_eq_none (by rw [h.len]; exact hi)]
      rfl
  have e3 : s.ps.countP (Pt.left ∘ fun p => if p.left = true ∧ deadB now s.ps p.m = true then p.turn 3 else p) = us.countP fun v => !(deadU now v) := by
    have h1 := List.countP_map (p := id) (f := Pt.left ∘ fun p => if p.left = true ∧ deadB now s.ps p.m = true then p.turn 3 else p) (l := s.ps)
    have h2 := List.countP_map (p := id) (f := fun v => !(deadU now v)) (l := us)
    rw [e2] at h1
    exact h1.symm.trans h2
  rw [e3]
  have h4 := List.length_eq_countP_add_countP (p := deadU now) (l := us)
  have h5 : us.countP (fun v => !(deadU now v)) = us.countP (fun a => decide ¬(deadU now a) = true) := List.countP_congr (fun x _ => by cases deadU now x <;> simp)
  rw [h5]
  omega
end
def unK (i : Nat) : Ck := { zeroC 64 with st := i, body := [120] }
theorem unK_ok {i : Nat} (hi : i < 65536) : (unK i).ok :=
  ⟨by show 64 < 256; omega, by show 0 < _; omega, hi, by show 0 < _; omega, by show 0 < _; omega, by show 0 < _; omega, by show 0 < _; omega, by show 0 < _; omega, by show 0 < _; omega, by show 0 < _; omega, fun _ h => by simp [unK, zeroC] at h, fun _ h => by simp [unK, zeroC] at h, fun _ h => by simp [unK, zeroC] at h, fun _ h => by simp [unK, zeroC] at h⟩
structure UnL (R : World → (Nat → Prop) → Nat → FS → Prop) (w : World) (p now : Nat) (us us2 : List Nat) (v : Value) (n : Nat) (s : FS) (want : List Int) (V : World) : Prop where
  fv : FV R w p (fun i => v.ownBlock = some i) s V
  own : V.ownsRow w.heap.size 3 1 v n (z64 want)
  un : UnS us s
  uw : UnW now us2 want
section
variable {R : World → (Nat → Prop) → Nat → FS → Prop} {w V V' : World} {p now n : Nat} {us us2 : List Nat} {v v' : Value} {s : FS} {want : List Int}
theorem UnL.grows (I : FlI R) (h : UnL R w p now us us2 v n s want V) (hb : Below V.heap.size V V') : UnL R w p now us us2 v n s want V' :=
  ⟨h.fv.grows I hb, (Fr.of_below hb).own h.own (fun g hg e => by have e' : V.heap.size ≤ g := e; have := (h.own.lt g hg).2; omega), h.un, h.uw⟩
theorem UnL.no (h : UnL R w p now us us v n s want V) {u : Nat} (hu : deadU now u = false) : UnL R w p now us (us ++ [u]) v n s want V := ⟨h.fv, h.own, h.un, h.uw.no hu⟩
theorem UnL.yes (I : FlI R) (h : UnL R w p now us us v n s want V) {u i : Nat} (hu : deadU now u = true) (hi : i = us.length) {W : World} (hb : Below V.heap.size V W) (hown : V'.ownsRow w.heap.size 3 1 v' (n + 1) (z64 want ++ [.int .i64 (i : Int)])) (hg : W.grownBy V' v.ownBlock) (hat : v'.ownBlock = v.ownBlock ∨ v'.ownBlock = some W.heap.size) :
    UnL R w p now us (us ++ [u]) v' (n + 1) s (want ++ [(i : Int)]) V' := by
  refine ⟨(h.fv.grows I hb).grown I hg (fun g hg => ⟨hg, (h.own.lt g hg).1⟩) (fun j hj => ?_), ?_, h.un, h.uw.yes hu hi⟩
  · rcases hat with e | e
    · exact .inl (e ▸ hj)
    · rw [e] at hj
      injection hj with hj
      right
      rw [← hj]
      exact ⟨Nat.le_refl _, (hown.lt _ e).2⟩
  · have e : z64 (want ++ [(i : Int)]) = z64 want ++ [.int .i64 (i : Int)] := by simp [z64]
    rw [e]
    exact hown
theorem UnL.send {u : Nat} (I : FlI R) (h : UnL R w p now us (us ++ [u]) v n s want V) (hb : Below V.heap.size V V') {i : Nat} (hi : i = us.length) (hib : i < 1000) (hu : u < 256) {g : Nat} (hg : V.heap.size ≤ g) (hy : Byt V' V'.heap.size (some ⟨g, 0, none⟩) [120]) :
    Calls Try.prog 11 #[fptr p, .int .i64 (i : Int), .agg #[.int .i64 (lkU u : Int), .int .u32 (lnU u : Int)], .agg (bareA (unK i) (some ⟨g, 0, none⟩) 1 1), .int .u32 0] V' fun e w' => ∃ (A' : Option Addr) (cp' : Nat) (s' : FS), e = .returned (.agg (bareA { (unK i) with tsn := s.next } A' 1 cp')) ∧ Hid (UnL R w p now (us ++ [u]) (us ++ [u]) v n s' want w') := by
  have hl1 : lkU u < 256 := by unfold lkU; split <;> omega
  have hl2 : lnU u < 4294967296 := by unfold lnU; split <;> omega
  refine (h.fv.sendX I hb (c := unK i) (now := 0) h.un.fresh (by rw [h.un.ms]; omega) (by omega) hl1 hl2 (by omega) ⟨rfl, rfl, rfl, rfl⟩ (unK_ok (by omega)) (by show 1 ≤ _; omega) rfl hg hy).mono ?_
  rintro e w' ⟨A', cp', rfl, hf, hk⟩
  have ho : V'.ownsRow w.heap.size 3 1 v n (z64 want) := (Fr.of_below hb).own h.own (fun g hg e => by have e' : V.heap.size ≤ g := e; have := (h.own.lt g hg).2; omega)
  exact ⟨A', cp', _, rfl, hf.out, hk.out.own ho (fun g hg hx => hx hg), h.un.snoc hi, h.uw⟩
end
end Go.Proofs.Ytfgfiiknbkakaaa.Fl
