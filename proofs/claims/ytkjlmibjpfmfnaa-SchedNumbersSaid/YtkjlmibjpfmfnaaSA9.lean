/-
  Of the texts FlIf, FlMem, Fl1, ScMem, ScR1: what the laws reach.
-/
import Derived.Test.YtkjlmibjpfmfnaaSA8
import Derived.Test.YtkjlmibjpfmfnaaSA1
import Derived.Test.YtkjlmibjpfmfnaaSA3
import Derived.Test.YtkjlmibjpfmfnaaSA4
import Derived.Deep.MidRow
import Derived.Test.YtkjlmibjpfmfnaaRows
import Derived.IntWalk
import Derived.OpenShut
import Derived.WalkKit
import Derived.ProofKit
import Derived.BigQuiet
import Derived.Test.YtkjlmibjpfmfnaaSA7

set_option linter.unusedVariables false
set_option linter.unusedSimpArgs false
namespace Go.Proofs.Ytkjlmibjpfmfnaa.Fl
open Go.ChangeShapes Go.WideShapes Go.ChangeAt Go.RowKit Go.Deep Go.Proofs.Ytkjlmibjpfmfnaa.Words Go.Proofs.Ytkjlmibjpfmfnaa.Oct Go.Proofs.Ytkjlmibjpfmfnaa.Par Go.Proofs.Ytkjlmibjpfmfnaa.Chk
/-- A chunk without lists but its body. -/
def Bare (c : Ck) : Prop := c.gaps = [] ∧ c.dups = [] ∧ c.skips = [] ∧ c.ps = []
/-- A flight of the call's own beside what was there. -/
structure F1 (R : World → (Nat → Prop) → Nat → FS → Prop) (w V : World) (G : Nat → Prop) (p : Nat) (s : FS) : Prop where
  rep : R V G p s
  own : ∀ i, G i → w.heap.size ≤ i
  bel : Below w.heap.size w V
section
variable {R : World → (Nat → Prop) → Nat → FS → Prop} {w V V' : World} {G G' : Nat → Prop} {p : Nat} {s s' : FS}
theorem F1.step (h : F1 R w V G p s) (hr : R V' G' p s') (hg : ∀ i, G' i → G i ∨ V.heap.size ≤ i) (hf : Fr G V V') : F1 R w V' G' p s' :=
  ⟨hr, fun i hi => by
    rcases hg i hi with h1 | h1
    · exact h.own i h1
    · exact Nat.le_trans h.bel.size h1, below_fr h.bel hf (Nat.le_refl _) h.own⟩
/-- Some flight of the call's own, in the state s, its blocks left open; beside it lie the blocks S. -/
def FV (R : World → (Nat → Prop) → Nat → FS → Prop) (w : World) (p : Nat) (S : Nat → Prop) (s : FS) (V : World) : Prop := ∃ G, F1 R w V G p s ∧ ∀ i, S i → i < V.heap.size ∧ ¬ G i
/-- The blocks S have kept. -/
abbrev Kp (S : Nat → Prop) (V V' : World) : Prop := Fr (fun i => ¬ S i) V V'
variable {S S' : Nat → Prop} {V0 : World}
theorem FV.bel (h : FV R w p S s V) : Below w.heap.size w V := by obtain ⟨G, h, _⟩ := h; exact h.bel
theorem kp_below (hS : ∀ i, S i → i < V.heap.size) (hb : Below V.heap.size V V') : Kp S V V' := ⟨hb.os, hb.tape, hb.output, hb.size, fun k hk hn => hb.block k hk⟩
theorem FV.step (h : F1 R w V G p s) (hS : ∀ i, S i → i < V.heap.size ∧ ¬ G i) (hr : R V' G' p s') (hg : ∀ i, G' i → G i ∨ V.heap.size ≤ i) (hf : Fr G V V') : FV R w p S s' V' ∧ Kp S V V' :=
  ⟨⟨G', h.step hr hg hf, fun i hi => ⟨Nat.lt_of_lt_of_le (hS i hi).1 hf.size, fun hx => by
    rcases hg i hx with h1 | h1
    · exact (hS i hi).2 h1
    · have := (hS i hi).1; omega⟩⟩, hf.mono fun x _ hx hs => (hS x hs).2 hx⟩
end
end Go.Proofs.Ytkjlmibjpfmfnaa.Fl

set_option linter.unusedVariables false
set_option linter.unusedSimpArgs false
set_option maxRecDepth 20000
namespace Go.Proofs.Ytkjlmibjpfmfnaa.Fl
open Go.ChangeShapes Go.WideShapes Go.ChangeAt Go.RowKit Go.Deep Go.Maps Go.Proofs.Ytkjlmibjpfmfnaa.Words Go.Proofs.Ytkjlmibjpfmfnaa.Oct Go.Proofs.Ytkjlmibjpfmfnaa.Par Go.Proofs.Ytkjlmibjpfmfnaa.Chk Go.Proofs.Ytkjlmibjpfmfnaa.Mx
/-- A fragment's cells. -/
def frA (p : Pt) (b : Hd) : Array Value := #[.int .i64 p.m, .int .i64 (p.lk : Int), .int .u32 (p.ln : Int), .int .u64 (p.sent : Int), .int .u32 (p.wn : Int), .int .i64 (p.mi : Int), .int .i64 (p.st : Int),
  .int .u8 (p.c.kind : Int), .bool p.c.bg, .bool p.c.en, .bool p.c.lo, .bool p.c.ba, .int .u32 (p.c.tsn : Int), .int .u16 (p.c.st : Int), .int .u32 (p.c.mid : Int), .int .u32 (p.c.pp : Int), .int .u32 (p.c.fr : Int), .int .u32 (p.c.tag : Int), .int .u32 (p.c.win : Int),
  .int .u16 (p.c.out : Int), .int .u16 (p.c.inn : Int), nilV, nilV, nilV, nilV, .slice b.A p.c.body.length b.cap]
abbrev XP := Pt × Hd
def XP.cells (x : XP) : Array Value := frA x.1 x.2
def XP.bv (x : XP) : Value := x.2.v x.1.c.body.length
/-- A row of numbers. -/
structure NumV (w : World) (fresh : Bool) (v : Value) (l : List Nat) : Prop where
  ex : ∃ g off cap cur, v = .slice (some ⟨g, off, none⟩) l.length cap ∧ l.length ≤ cap ∧ cap ≤ maxLen ∧ Blk w g 32 cur ∧ (fresh = true → off = 0) ∧ off + cap = cur.size ∧ ∀ (i x : Nat), l[i]? = some x → cur[off + i]? = some (.int .u32 (x : Int))
/-- Where a flight's parts lie. -/
structure Ad where
  v : Value
  go : Nat
  nu : Nat
  de : Nat
  la : Nat
  nm : Int → Value
/-- What a flight's memory holds. -/
structure FM where
  mark : Nat
  xs : List XP
  nb : Int
  nl : Int
  no : Int
  fl : Nat
  rl : Nat
  gone : Int → Bool
  nums : Int → List Nat
  df : Nat → Int
  lf : Ln → Option Nat
  fresh : Bool
  ms : List Int
def kd (w : World) (i : Nat) : Option Nat := match w.heap[i]? with
  | some (.cells _ t _) => some (t + 1)
  | some (.map _ _) => some 0
  | _ => none
section
variable {w w' : World} {p g : Nat} {a a' : Ad} {m m' : FM} {S : Nat → Prop} {v : Value} {xs : List XP} {fresh : Bool}
theorem kd_blk {t : TypeId} {cs : Array Value} (h : Blk w g t cs) : kd w g = some (t + 1) := by unfold Blk at h; simp [kd, h]
theorem kd_own {B n size : Nat} {e : TypeId} {l : List Value} (h : w.ownsRow B e size v n l) (hv : v.ownBlock = some g) : kd w g = some (e + 1) := by
  rcases h.2 with ⟨rfl, _⟩ | ⟨g', cap, cur, rfl, _, hh, _⟩
  · simp [Value.ownBlock] at hv
  · have : g' = g := by simpa [Value.ownBlock] using hv
    subst this
    simp [kd, hh]
theorem kd_mapz {P : Program} {k : TypeId} {b : Nat} {f : Int → Option Value} (h : MapZ P k w b f) : kd w b = some 0 := by
  obtain ⟨D, n, ⟨es, clock, hb, _⟩, _⟩ := h.ex
  simp [kd, hb]
theorem kd_mapx {P : Program} {k : TypeId} {κ : Type} {X : KX P k κ} {b : Nat} {f : κ → Option Value} (h : MapX X w b f) : kd w b = some 0 := by
  obtain ⟨D, ⟨es, clock, hb, _⟩, _⟩ := h.ex
  simp [kd, hb]
theorem kd_lt {x : Nat} (h : kd w g = some x) : g < w.heap.size := by
  unfold kd at h
  rcases Nat.lt_or_ge g w.heap.size with h1 | h1
  · exact h1
  · rw [Array.getElem?_eq_none h1] at h; simp at h
theorem NumV.fr {l : List Nat} (h : NumV w fresh v l) (hf : Fr S w w') (hn : ∀ g, v.ownBlock = some g → ¬ S g) : NumV w' fresh v l := by
  obtain ⟨g, off, cap, cur, rfl, h1, h2, hb, h3⟩ := h.ex
  exact ⟨_, _, _, _, rfl, h1, h2, hf.blk hb (hn _ rfl), h3⟩
end
end Go.Proofs.Ytkjlmibjpfmfnaa.Fl

set_option linter.unusedVariables false
set_option linter.unusedSimpArgs false
set_option maxRecDepth 20000
namespace Go.Proofs.Ytkjlmibjpfmfnaa.Fl
open Go.ChangeShapes Go.WideShapes Go.ChangeAt Go.RowKit Go.Deep Go.Maps Go.Proofs.Ytkjlmibjpfmfnaa.Words Go.Proofs.Ytkjlmibjpfmfnaa.Oct Go.Proofs.Ytkjlmibjpfmfnaa.Par Go.Proofs.Ytkjlmibjpfmfnaa.Chk Go.Proofs.Ytkjlmibjpfmfnaa.Mx
section
variable {w w' : World} {g o : Nat}
end
section
variable {w w' : World} {p g o : Nat} {a : Ad} {m : FM} {q : Pt} {b : Hd} {S : Nat → Prop}
theorem fr_set {i : Nat} (u : Value) : Fr (fun k => k = p) w (w.setCell ⟨p, i, none⟩ u) := (Fr.refl (fun k => k = p) w).setCell (p := ⟨p, i, none⟩) (.inl rfl) u
end
end Go.Proofs.Ytkjlmibjpfmfnaa.Fl

set_option linter.unusedVariables false
set_option linter.unusedSimpArgs false
set_option maxRecDepth 20000
namespace Go.Proofs.Ytkjlmibjpfmfnaa.Sc
open Go.ChangeShapes Go.WideShapes Go.ChangeAt Go.RowKit Go.Deep Go.Maps Go.Proofs.Ytkjlmibjpfmfnaa.Words Go.Proofs.Ytkjlmibjpfmfnaa.Oct Go.Proofs.Ytkjlmibjpfmfnaa.Par Go.Proofs.Ytkjlmibjpfmfnaa.Chk Go.Proofs.Ytkjlmibjpfmfnaa.Mx Go.Proofs.Ytkjlmibjpfmfnaa.Fl
def oV : Option Nat → Value
  | none => .pointer none
  | some b => .pointer (some ⟨b, 0, none⟩)
/-- What is the same for the queue's whole life. -/
structure Ev where
  inter : Bool
  sm : Nat
  nm : Nat
  mm : Nat
def Me.n (x : Me) : Nat := x.it.m.body.length
def Me.cells (x : Me) : Array Value := #[.int .i64 x.it.id, .int .i64 x.it.lk, .int .u32 (x.it.ln : Int), .int .u16 (x.it.m.st : Int), .bool x.it.m.lo, .int .u32 (x.it.m.mid : Int), .int .u32 (x.it.m.pp : Int), .slice x.A x.n x.cp, .int .u32 (x.it.fr : Int), oV x.s, oV x.li, oV x.nl]
def Ob.cells (e : Ev) : Ob → Array Value
  | .q b r => #[.bool e.inter, .int .i64 (b : Int), .map (some e.sm), oV r.fs, oV r.ls, .int .i64 (r.ad : Int), .map (some e.nm), .map (some e.mm)]
  | .st b r t => #[.int .i64 (b : Int), oV r.fs, oV r.ls, .int .i64 (r.ad : Int), oV t]
  | .rw r => #[oV r.fs, oV r.ls, .int .i64 (r.ad : Int)]
  | .lk _ _ th pl bf af => #[qptr th, .int .i64 (pl : Int), oV bf, oV af]
  | .ms x => x.cells
def Ob.ty : Ob → TypeId
  | .q _ _ => 90
  | .st _ _ _ => 111
  | .rw _ => 109
  | .lk s _ _ _ _ _ => bif s then 105 else 107
  | .ms _ => 97
/-- A body's bytes. -/
structure BodA (w : World) (A : Option Addr) (cp : Nat) (l : List UInt8) : Prop where
  byt : Byt w w.heap.size A l
  kd : ∀ ad : Addr, A = some ad → kd w ad.block = some (5 + 1)
  le : l.length ≤ cp
  cp : cp ≤ 9223372036854775807
structure Hv (e : Ev) (w : World) (h : Hp) : Prop where
  blk : ∀ b o, h b = some o → Blk w b o.ty (o.cells e)
  bod : ∀ b x, h b = some (.ms x) → BodA w x.A x.cp x.it.m.body
/-- The queue's blocks, but its maps. -/
def HG (h : Hp) (i : Nat) : Prop := h i ≠ none ∨ ∃ b x, h b = some (.ms x) ∧ ∃ ad : Addr, x.A = some ad ∧ ad.block = i
section
variable {e : Ev} {w w' : World} {h h' : Hp} {b k : Nat} {o o' : Ob} {v : Value} {S : Nat → Prop} {A : Option Addr} {cp : Nat} {l : List UInt8} {r : Rw}
theorem ob_ty (o : Ob) : o.ty ≠ 5 := by
  cases o
  case lk s _ _ _ _ _ => cases s <;> simp [Ob.ty]
  all_goals simp [Ob.ty]
theorem row_cells (e : Ev) (hr : o.row = some r) : (o.cells e)[o.off]? = some (oV r.fs) ∧ (o.cells e)[o.off + 1]? = some (oV r.ls) ∧ (o.cells e)[o.off + 2]? = some (.int .i64 (r.ad : Int)) := by
  cases o <;> simp [Ob.row] at hr <;> subst hr <;> exact ⟨rfl, rfl, rfl⟩
theorem row_fs (e : Ev) (hr : o.row = some r) (f : Option Nat) : (o.setR { r with fs := f }).cells e = (o.cells e).setIfInBounds o.off (oV f) := by
  cases o <;> simp [Ob.row] at hr <;> subst hr <;> rfl
theorem row_ls (e : Ev) (hr : o.row = some r) (f : Option Nat) : (o.setR { r with ls := f }).cells e = (o.cells e).setIfInBounds (o.off + 1) (oV f) := by
  cases o <;> simp [Ob.row] at hr <;> subst hr <;> rfl
theorem row_ad (e : Ev) (hr : o.row = some r) (n : Nat) : (o.setR { r with ad := n }).cells e = (o.cells e).setIfInBounds (o.off + 2) (.int .i64 (n : Int)) := by
  cases o <;> simp [Ob.row] at hr <;> subst hr <;> rfl
theorem setR_ty (r : Rw) : (o.setR r).ty = o.ty := by cases o <;> rfl
theorem setR_ms (r : Rw) {x : Me} (hr : o.row ≠ none) : o.setR r ≠ .ms x := by cases o <;> simp [Ob.setR, Ob.row] at hr ⊢
theorem kd_same (h : w'.heap[b]? = w.heap[b]?) : kd w' b = kd w b := by unfold kd; rw [h]
theorem Hv.lt (hv : Hv e w h) (hb : h b = some o) : b < w.heap.size := (hv.blk b o hb).lt
theorem Hv.none_ (hv : Hv e w h) (hb : w.heap.size ≤ b) : h b = none := by
  cases hh : h b with
  | none => rfl
  | some o => have := hv.lt hh; omega
theorem Hv.kd (hv : Hv e w h) (hb : h b = some o) : kd w b = some (o.ty + 1) := kd_blk (hv.blk b o hb)
theorem BodA.fr (k : BodA w A cp l) (hf : Fr S w w') (hS : ∀ ad : Addr, A = some ad → ¬ S ad.block) : BodA w' A cp l :=
  ⟨(hf.byt k.byt (Nat.le_refl _) hS).more hf.size, fun ad e => (kd_same (hf.block _ (kd_lt (k.kd ad e)) (hS ad e))).trans (k.kd ad e), k.le, k.cp⟩
theorem BodA.ne (k : BodA w A cp l) (hv : Hv e w h) (hb : h b = some o) {ad : Addr} (hA : A = some ad) : ad.block ≠ b := fun e => by
  have h1 := k.kd ad hA
  rw [e, hv.kd hb] at h1
  injection h1 with h1
  exact ob_ty o (Nat.succ.inj h1)
theorem Hv.fr (hv : Hv e w h) (hf : Fr S w w') (hS : ∀ i, S i → i < w.heap.size → ¬ HG h i) : Hv e w' h :=
  ⟨fun b o hb => hf.blk (hv.blk b o hb) (fun hs => hS b hs (hv.lt hb) (.inl (by rw [hb]; simp))), fun b x hb => (hv.bod b x hb).fr hf fun ad hA hs => hS _ hs (kd_lt ((hv.bod b x hb).kd ad hA)) (.inr ⟨b, x, hb, ad, hA, rfl⟩)⟩
theorem Hv.below (hv : Hv e w h) (hb : Below w.heap.size w w') : Hv e w' h := hv.fr (Fr.of_below hb) fun i h1 h2 _ => by omega
theorem Hv.drewN (hv : Hv e w h) (n : Nat) : Hv e (w.drewN n) h := hv.fr ((Fr.refl (fun _ => False) w).drewN n) fun _ h _ => h.elim
theorem Hv.drew (hv : Hv e w h) : Hv e w.drew h := hv.fr ((Fr.refl (fun _ => False) w).drew) fun _ h _ => h.elim
theorem Hv.gLt (hv : Hv e w h) {i : Nat} (hi : HG h i) : i < w.heap.size := by
  rcases hi with hi | ⟨b, x, hb, ad, hA, rfl⟩
  · cases hh : h i with
    | none => exact absurd hh hi
    | some o => exact hv.lt hh
  · exact kd_lt ((hv.bod b x hb).kd ad hA)
theorem Hv.as_ (hv : Hv e w h) (he : ∀ x, h x = h' x) : Hv e w h' := by rw [← funext he]; exact hv
/-- A cell of one of its blocks is set. -/
theorem Hv.set (hv : Hv e w h) (hb : h b = some o) (t : o'.ty = o.ty) (c : o'.cells e = (o.cells e).setIfInBounds k v) (m : ∀ x, o' = .ms x → ∃ x0, o = .ms x0 ∧ x.A = x0.A ∧ x.cp = x0.cp ∧ x.it.m.body = x0.it.m.body) : Hv e (w.setCell ⟨b, k, none⟩ v) (upd h b o') := by
  have hf : Fr (fun i => i = b) w (w.setCell ⟨b, k, none⟩ v) := fr_set _
  refine ⟨fun x p hx => ?_, fun x p hx => ?_⟩
  · by_cases hxb : x = b
    · subst hxb
      rw [upd_same] at hx
      injection hx with hx
      subst hx
      rw [t, c]
      exact (hv.blk x o hb).set_ k v
    · rw [upd_ne _ _ hxb] at hx
      exact hf.blk (hv.blk x p hx) hxb
  · by_cases hxb : x = b
    · subst hxb
      rw [upd_same] at hx
      injection hx with hx
      obtain ⟨x0, e0, e1, e2, e3⟩ := m p hx
      subst e0
      have k1 := hv.bod x x0 hb
      rw [← e1, ← e2, ← e3] at k1
      exact k1.fr hf fun ad hA => k1.ne hv hb hA
    · rw [upd_ne _ _ hxb] at hx
      exact (hv.bod x p hx).fr hf fun ad hA => (hv.bod x p hx).ne hv hb hA
/-- Where a message's body begins later. -/
theorem Hv.setB (hv : Hv e w h) {x x' : Me} (hb : h b = some (.ms x)) (c : x'.cells = x.cells.setIfInBounds k v) (m : BodA w x'.A x'.cp x'.it.m.body) : Hv e (w.setCell ⟨b, k, none⟩ v) (upd h b (.ms x')) := by
  have hf : Fr (fun i => i = b) w (w.setCell ⟨b, k, none⟩ v) := fr_set _
  refine ⟨fun y p hx => ?_, fun y p hx => ?_⟩
  · by_cases hxb : y = b
    · subst hxb
      rw [upd_same] at hx
      injection hx with hx
      subst hx
      show Blk _ _ _ x'.cells
      rw [c]
      exact (hv.blk y _ hb).set_ k v
    · rw [upd_ne _ _ hxb] at hx
      exact hf.blk (hv.blk y p hx) hxb
  · by_cases hxb : y = b
    · subst hxb
      rw [upd_same] at hx
      injection hx with hx
      injection hx with hx
      subst hx
      exact m.fr hf fun ad hA => m.ne hv hb hA
    · rw [upd_ne _ _ hxb] at hx
      exact (hv.bod y p hx).fr hf fun ad hA => (hv.bod y p hx).ne hv hb hA
/-- A new block. -/
theorem Hv.new (hv : Hv e w h) (o' : Ob) (m : ∀ x, o' = .ms x → BodA w x.A x.cp x.it.m.body) : Hv e (w.alloc (.cells (o'.cells e) o'.ty)) (upd h w.heap.size o') := by
  have hf : Fr (fun _ => False) w (w.alloc (.cells (o'.cells e) o'.ty)) := (Fr.refl _ w).alloc _
  refine ⟨fun x p hx => ?_, fun x p hx => ?_⟩
  · by_cases hxb : x = w.heap.size
    · subst hxb
      rw [upd_same] at hx
      injection hx with hx
      subst hx
      exact Blk.new w _ _
    · rw [upd_ne _ _ hxb] at hx
      exact hf.blk (hv.blk x p hx) (fun h => h)
  · by_cases hxb : x = w.heap.size
    · subst hxb
      rw [upd_same] at hx
      injection hx with hx
      exact (m p hx).fr hf fun _ _ h => h
    · rw [upd_ne _ _ hxb] at hx
      exact (hv.bod x p hx).fr hf fun _ _ h => h
theorem Hv.cell (hv : Hv e w h) (hb : h b = some o) (k : Nat) : w.cell? ⟨b, k, none⟩ = (o.cells e)[k]? := (hv.blk b o hb).cell k
theorem Hv.frz (hv : Hv e w h) (hb : h b = some o) (k : Nat) : w.frozen? ⟨b, k, none⟩ = false := (hv.blk b o hb).frozen k
end
end Go.Proofs.Ytkjlmibjpfmfnaa.Sc

set_option linter.unusedVariables false
set_option linter.unusedSimpArgs false
set_option maxRecDepth 20000
namespace Go.Proofs.Ytkjlmibjpfmfnaa.Sc
open Go.ChangeShapes Go.WideShapes Go.ChangeAt Go.RowKit Go.Deep Go.Maps Go.Proofs.Ytkjlmibjpfmfnaa.Words Go.Proofs.Ytkjlmibjpfmfnaa.Oct Go.Proofs.Ytkjlmibjpfmfnaa.Par Go.Proofs.Ytkjlmibjpfmfnaa.Chk Go.Proofs.Ytkjlmibjpfmfnaa.Mx Go.Proofs.Ytkjlmibjpfmfnaa.Fl
section
variable {e : Ev} {w w' : World} {h : Hp} {b th : Nat} {o : Ob} {r : Rw}
theorem emptyS (hv : Hv e w h) (hb : h b = some o) (hr : o.row = some r) : Calls Try.prog 28 #[.pointer (some ⟨b, o.off, none⟩)] w fun en w' => en = .returned (.bool r.fs.isNone) ∧ w = w' := by
  have c0 : w.cell? ⟨b, o.off, none⟩ = some (oV r.fs) := (hv.cell hb _).trans (row_cells e hr).1
  generalize o.off = k at *
  obtain ⟨fs, ls, ad⟩ := r
  dsimp only at c0 ⊢
  clear hr hb hv
  cases fs with
  | none =>
    simp only [oV] at c0
    go_enter Try.func28, Try.ntmps28
    go_wp2_with fail
    go_ret
    exact ⟨rfl, rfl⟩
  | some f =>
    simp only [oV] at c0
    go_enter Try.func28, Try.ntmps28
    go_wp2_with fail
    go_ret
    exact ⟨rfl, rfl⟩
theorem addS (hv : Hv e w h) (hb : h b = some o) (hr : o.row = some r) (hn : r.ad < 4611686018427387904) (hl : r.ls = none → r.fs = none) (hy : ∀ y, r.ls = some y → ∃ own th' pl bf, h y = some (.lk true own th' pl bf none)) :
    Calls Try.prog 53 #[.pointer (some ⟨b, o.off, none⟩), qptr th] w fun en w' => en = .returned (qptr w.heap.size) ∧ Hv e w' (addH h true b o r th w.heap.size) ∧ Fr (fun i => i = b ∨ r.ls = some i) w w' := by
  obtain ⟨c0, c1, c2⟩ := row_cells e hr
  rw [← hv.cell hb] at c0 c1 c2
  have hbn : b ≠ w.heap.size := fun e => by have := hv.lt hb; omega
  have HN := Lib.hid (hv.new (.lk true b th r.ad r.ls none) (fun x hx => by cases hx))
  have hb1 : upd h w.heap.size (.lk true b th r.ad r.ls none) b = some o := (upd_ne _ _ hbn).trans hb
  have hy1 : ∀ y, r.ls = some y → y ≠ b ∧ y ≠ w.heap.size ∧ ∃ own th' pl bf, upd h w.heap.size (.lk true b th r.ad r.ls none) y = some (.lk true own th' pl bf none) := fun y e => by
    obtain ⟨own, th', pl, bf, h2⟩ := hy y e
    have h1 : y ≠ b := fun e2 => by rw [e2, hb] at h2; injection h2 with h2; subst h2; cases hr
    have h3 : y ≠ w.heap.size := fun e => by have := hv.lt h2; omega
    exact ⟨h1, h3, own, th', pl, bf, (upd_ne _ _ h3).trans h2⟩
  have HF : Hid (∀ (W : World) (f : Hp), Fr (fun i => i = b ∨ r.ls = some i) w W → True) := fun _ _ _ => trivial
  obtain ⟨k, hk⟩ : ∃ k, k = o.off := ⟨_, rfl⟩
  have HK := Lib.hid hk
  rw [← hk] at c0 c1 c2
  have HB := Lib.hid hb1
  have HR := Lib.hid hr
  have HL := Lib.hid hl
  have HY := Lib.hid hy1
  have HBN := Lib.hid hbn
  have hu1 : ∀ x, x ≠ w.heap.size → upd h w.heap.size (.lk true b th r.ad r.ls none) x = h x := fun x => upd_ne _ _
  have HU := Lib.hid hu1
  have HAD : Hid (addH h true b o r th w.heap.size = match r.ls with
    | none => upd (upd h w.heap.size (.lk true b th r.ad r.ls none)) b (o.setR ⟨some w.heap.size, some w.heap.size, r.ad + 1⟩)
    | some y => upd (Sc.updO (upd h w.heap.size (.lk true b th r.ad r.ls none)) y (setAf ((upd h w.heap.size (.lk true b th r.ad r.ls none)) y) (some w.heap.size))) b (o.setR ⟨r.fs, some w.heap.size, r.ad + 1⟩)) := rfl
  obtain ⟨h1, hh1⟩ : ∃ h1, h1 = upd h w.heap.size (.lk true b th r.ad r.ls none) := ⟨_, rfl⟩
  rw [← hh1] at HN HB HY HU HAD
  obtain ⟨nb, hnb⟩ : ∃ nb, nb = w.heap.size := ⟨_, rfl⟩
  obtain ⟨W1, hW1⟩ : ∃ W, W = (w.alloc (.cells #[qptr th, .int .i64 (r.ad : Int), oV r.ls, .pointer none] 105)).drew := ⟨_, rfl⟩
  have H1 : Hid (Hv e W1 h1) := by rw [hW1]; exact HN.out.drew
  have F1 : Hid (Fr (fun i => i = b ∨ r.ls = some i) w W1) := by rw [hW1]; exact ((Fr.refl _ w).alloc _).drew
  rw [← hnb] at HBN HY HAD
  rw [← hnb, ← hk, HAD.out]
  obtain ⟨fs, ls, ad⟩ := r
  dsimp only at c0 c1 c2 hn ⊢
  have HRC : Hid (∀ W h' r', Hv e W h' → h' b = some (o.setR r') → W.cell? ⟨b, k, none⟩ = some (oV r'.fs) ∧ W.cell? ⟨b, k + 1, none⟩ = some (oV r'.ls) ∧ W.cell? ⟨b, k + 2, none⟩ = some (.int .i64 (r'.ad : Int)) ∧ W.frozen? ⟨b, k, none⟩ = false ∧ W.frozen? ⟨b, k + 1, none⟩ = false ∧ W.frozen? ⟨b, k + 2, none⟩ = false) := fun W h' r' k1 k2 => by
    obtain ⟨d0, d1, d2⟩ := row_cells e (setR_row HR.out r')
    rw [← k1.cell k2, setR_off, ← HK.out] at d0 d1 d2
    exact ⟨d0, d1, d2, k1.frz k2 _, k1.frz k2 _, k1.frz k2 _⟩
  have HS : Hid (∀ W h' (r' : Rw) f, Hv e W h' → h' b = some (o.setR r') → Hv e (W.setCell ⟨b, k, none⟩ (oV f)) (upd h' b (o.setR { r' with fs := f })) ∧ Hv e (W.setCell ⟨b, k + 1, none⟩ (oV f)) (upd h' b (o.setR { r' with ls := f })) ∧ ∀ n : Nat, Hv e (W.setCell ⟨b, k + 2, none⟩ (.int .i64 (n : Int))) (upd h' b (o.setR { r' with ad := n }))) := fun W h' r' f k1 k2 => by
    have hr2 := setR_row HR.out r'
    have hm : ∀ r'' x, o.setR r'' = .ms x → False := fun r'' x => setR_ms r'' (by rw [HR.out]; simp)
    refine ⟨k1.set k2 (by rw [setR_ty, setR_ty]) ?_ (fun x hx => (hm _ _ hx).elim), k1.set k2 (by rw [setR_ty, setR_ty]) ?_ (fun x hx => (hm _ _ hx).elim), fun n => k1.set k2 (by rw [setR_ty, setR_ty]) ?_ (fun x hx => (hm _ _ hx).elim)⟩
    · have := row_fs e hr2 f
      rw [setR_setR, setR_off, ← HK.out] at this
      exact this
    · have := row_ls e hr2 f
      rw [setR_setR, setR_off, ← HK.out] at this
      exact this
    · have := row_ad e hr2 n
      rw [setR_setR, setR_off, ← HK.out] at this
      exact this
  have HB1 : Hid (h1 b = some (o.setR ⟨fs, ls, ad⟩)) := by rw [setR_self HR.out]; exact HB.out
  clear hk hr hb hy hl hv hbn hb1 hy1 HF hu1 HN hh1 HB
  cases ls with
  | none =>
    obtain rfl : fs = none := HL.out rfl
    simp only [oV] at c1 hW1
    obtain ⟨d0, d1, d2, f0, f1, f2⟩ := HRC.out W1 h1 _ H1.out HB1.out
    go_enter Try.func53, Try.ntmps53
    go_upto_region 1 with (fail)
    go_region
    rw [← hW1, ← hnb]
    clear hW1 hnb c0 c1 c2
    simp only [oV] at d1
    go_upto_region 5 with (fail)
    obtain ⟨W2, hW2⟩ : ∃ W, W = W1.setCell ⟨b, k, none⟩ (qptr nb) := ⟨_, rfl⟩
    rw [← hW2]
    have H2 : Hid (Hv e W2 (upd h1 b (o.setR { fs := some nb, ls := none, ad := ad }))) := by rw [hW2]; exact (HS.out W1 h1 _ (some nb) H1.out HB1.out).1
    have HB2 : Hid (upd h1 b (o.setR { fs := some nb, ls := none, ad := ad }) b = some (o.setR { fs := some nb, ls := none, ad := ad })) := upd_same _ _ _
    have F2 : Hid (Fr (fun i => i = b ∨ none = some i) w W2) := by rw [hW2]; exact F1.out.setCell (.inl (.inl rfl)) _
    clear hW2 d0 d1 d2 f0 f1 f2
    obtain ⟨d0, d1, d2, f0, f1, f2⟩ := HRC.out W2 _ _ H2.out HB2.out
    go_upto_region 6 with (fail)
    obtain ⟨W3, hW3⟩ : ∃ W, W = W2.setCell ⟨b, k + 1, none⟩ (qptr nb) := ⟨_, rfl⟩
    rw [← hW3]
    have H3 : Hid (Hv e W3 (upd (upd h1 b (o.setR { fs := some nb, ls := none, ad := ad })) b (o.setR { fs := some nb, ls := some nb, ad := ad }))) := by rw [hW3]; exact (HS.out W2 _ _ (some nb) H2.out HB2.out).2.1
    have HB3 : Hid (upd (upd h1 b (o.setR { fs := some nb, ls := none, ad := ad })) b (o.setR { fs := some nb, ls := some nb, ad := ad }) b = some (o.setR { fs := some nb, ls := some nb, ad := ad })) := upd_same _ _ _
    have F3 : Hid (Fr (fun i => i = b ∨ none = some i) w W3) := by rw [hW3]; exact F2.out.setCell (.inl (.inl rfl)) _
    clear hW3 d0 d1 d2 f0 f1 f2
    obtain ⟨d0, d1, d2, f0, f1, f2⟩ := HRC.out W3 _ _ H3.out HB3.out
    dsimp only at d2
    go_upto_region 7 with (fail)
    obtain ⟨W4, hW4⟩ : ∃ W, W = W3.setCell ⟨b, k + 2, none⟩ (.int .i64 ((ad + 1 : Nat) : Int)) := ⟨_, rfl⟩
    try rw [show ((ad : Int) + 1) = ((ad + 1 : Nat) : Int) from rfl]
    rw [← hW4]
    have H4 : Hid (Hv e W4 (upd (upd (upd h1 b (o.setR { fs := some nb, ls := none, ad := ad })) b (o.setR { fs := some nb, ls := some nb, ad := ad })) b (o.setR { fs := some nb, ls := some nb, ad := ad + 1 }))) := by rw [hW4]; exact (HS.out W3 _ _ none H3.out HB3.out).2.2 (ad + 1)
    have F4 : Hid (Fr (fun i => i = b ∨ none = some i) w W4) := by rw [hW4]; exact F3.out.setCell (.inl (.inl rfl)) _
    clear hW4 d0 d1 d2 f0 f1 f2
    go_wp2_with fail
    go_ret
    refine ⟨rfl, H4.out.as_ fun x => ?_, F4.out.mono fun i _ hx => (by simpa using hx)⟩
    unfold upd
    try dsimp only
    split <;> rfl
  | some y =>
    obtain ⟨hyb, hyn, own, th', pl, bf, hly⟩ := HY.out y rfl
    have cy : W1.cell? ⟨y, 3, none⟩ = some (.pointer none) := H1.out.cell hly 3
    have fy : W1.frozen? ⟨y, 3, none⟩ = false := H1.out.frz hly 3
    have HLY := Lib.hid hly
    have HYB := Lib.hid hyb
    simp only [oV] at c1 hW1
    obtain ⟨d0, d1, d2, f0, f1, f2⟩ := HRC.out W1 h1 _ H1.out HB1.out
    clear hly hyb hyn
    go_enter Try.func53, Try.ntmps53
    go_upto_region 1 with (fail)
    go_region
    rw [← hW1, ← hnb]
    clear hW1 hnb c0 c1 c2
    simp only [oV] at d1
    go_upto_region 5 with (fail)
    obtain ⟨W2, hW2⟩ : ∃ W, W = W1.setCell ⟨y, 3, none⟩ (qptr nb) := ⟨_, rfl⟩
    rw [← hW2]
    have H2 : Hid (Hv e W2 (upd h1 y (.lk true own th' pl bf (some nb)))) := by rw [hW2]; exact H1.out.set HLY.out rfl rfl (fun x hx => by cases hx)
    have HB2 : Hid (upd h1 y (.lk true own th' pl bf (some nb)) b = some (o.setR { fs := fs, ls := some y, ad := ad })) := (upd_ne _ _ HYB.out.symm).trans HB1.out
    have F2 : Hid (Fr (fun i => i = b ∨ some y = some i) w W2) := by rw [hW2]; exact F1.out.setCell (.inl (.inr rfl)) _
    clear hW2 d0 d1 d2 f0 f1 f2 cy fy
    obtain ⟨d0, d1, d2, f0, f1, f2⟩ := HRC.out W2 _ _ H2.out HB2.out
    go_upto_region 6 with (fail)
    obtain ⟨W3, hW3⟩ : ∃ W, W = W2.setCell ⟨b, k + 1, none⟩ (qptr nb) := ⟨_, rfl⟩
    rw [← hW3]
    have H3 : Hid (Hv e W3 (upd (upd h1 y (.lk true own th' pl bf (some nb))) b (o.setR { fs := fs, ls := some nb, ad := ad }))) := by rw [hW3]; exact (HS.out W2 _ _ (some nb) H2.out HB2.out).2.1
    have HB3 : Hid (upd (upd h1 y (.lk true own th' pl bf (some nb))) b (o.setR { fs := fs, ls := some nb, ad := ad }) b = some (o.setR { fs := fs, ls := some nb, ad := ad })) := upd_same _ _ _
    have F3 : Hid (Fr (fun i => i = b ∨ some y = some i) w W3) := by rw [hW3]; exact F2.out.setCell (.inl (.inl rfl)) _
    clear hW3 d0 d1 d2 f0 f1 f2
    obtain ⟨d0, d1, d2, f0, f1, f2⟩ := HRC.out W3 _ _ H3.out HB3.out
    dsimp only at d2
    go_upto_region 7 with (fail)
    obtain ⟨W4, hW4⟩ : ∃ W, W = W3.setCell ⟨b, k + 2, none⟩ (.int .i64 ((ad + 1 : Nat) : Int)) := ⟨_, rfl⟩
    try rw [show ((ad : Int) + 1) = ((ad + 1 : Nat) : Int) from rfl]
    rw [← hW4]
    have H4 : Hid (Hv e W4 (upd (upd (upd h1 y (.lk true own th' pl bf (some nb))) b (o.setR { fs := fs, ls := some nb, ad := ad })) b (o.setR { fs := fs, ls := some nb, ad := ad + 1 }))) := by rw [hW4]; exact (HS.out W3 _ _ none H3.out HB3.out).2.2 (ad + 1)
    have F4 : Hid (Fr (fun i => i = b ∨ some y = some i) w W4) := by rw [hW4]; exact F3.out.setCell (.inl (.inl rfl)) _
    clear hW4 d0 d1 d2 f0 f1 f2
    go_wp2_with fail
    go_ret
    refine ⟨rfl, H4.out.as_ fun x => ?_, F4.out.mono fun i _ hx => (by simpa using hx)⟩
    try dsimp only
    rw [HLY.out]
    unfold upd Sc.updO
    try dsimp only
    by_cases hx : x = b
    · rw [if_pos hx, if_pos hx]
    · rw [if_neg hx, if_neg hx, if_neg hx]
      rfl
theorem emptyM (hv : Hv e w h) (hb : h b = some o) (hr : o.row = some r) : Calls Try.prog 57 #[.pointer (some ⟨b, o.off, none⟩)] w fun en w' => en = .returned (.bool r.fs.isNone) ∧ w = w' := by
  have c0 : w.cell? ⟨b, o.off, none⟩ = some (oV r.fs) := (hv.cell hb _).trans (row_cells e hr).1
  generalize o.off = k at *
  obtain ⟨fs, ls, ad⟩ := r
  dsimp only at c0 ⊢
  clear hr hb hv
  cases fs with
  | none =>
    simp only [oV] at c0
    go_enter Try.func57, Try.ntmps57
    go_wp2_with fail
    go_ret
    exact ⟨rfl, rfl⟩
  | some f =>
    simp only [oV] at c0
    go_enter Try.func57, Try.ntmps57
    go_wp2_with fail
    go_ret
    exact ⟨rfl, rfl⟩
theorem addM (hv : Hv e w h) (hb : h b = some o) (hr : o.row = some r) (hn : r.ad < 4611686018427387904) (hl : r.ls = none → r.fs = none) (hy : ∀ y, r.ls = some y → ∃ own th' pl bf, h y = some (.lk false own th' pl bf none)) :
    Calls Try.prog 54 #[.pointer (some ⟨b, o.off, none⟩), qptr th] w fun en w' => en = .returned (qptr w.heap.size) ∧ Hv e w' (addH h false b o r th w.heap.size) ∧ Fr (fun i => i = b ∨ r.ls = some i) w w' := by
  obtain ⟨c0, c1, c2⟩ := row_cells e hr
  rw [← hv.cell hb] at c0 c1 c2
  have hbn : b ≠ w.heap.size := fun e => by have := hv.lt hb; omega
  have HN := Lib.hid (hv.new (.lk false b th r.ad r.ls none) (fun x hx => by cases hx))
  have hb1 : upd h w.heap.size (.lk false b th r.ad r.ls none) b = some o := (upd_ne _ _ hbn).trans hb
  have hy1 : ∀ y, r.ls = some y → y ≠ b ∧ y ≠ w.heap.size ∧ ∃ own th' pl bf, upd h w.heap.size (.lk false b th r.ad r.ls none) y = some (.lk false own th' pl bf none) := fun y e => by
    obtain ⟨own, th', pl, bf, h2⟩ := hy y e
    have h1 : y ≠ b := fun e2 => by rw [e2, hb] at h2; injection h2 with h2; subst h2; cases hr
    have h3 : y ≠ w.heap.size := fun e => by have := hv.lt h2; omega
    exact ⟨h1, h3, own, th', pl, bf, (upd_ne _ _ h3).trans h2⟩
  have HF : Hid (∀ (W : World) (f : Hp), Fr (fun i => i = b ∨ r.ls = some i) w W → True) := fun _ _ _ => trivial
  obtain ⟨k, hk⟩ : ∃ k, k = o.off := ⟨_, rfl⟩
  have HK := Lib.hid hk
  rw [← hk] at c0 c1 c2
  have HB := Lib.hid hb1
  have HR := Lib.hid hr
  have HL := Lib.hid hl
  have HY := Lib.hid hy1
  have HBN := Lib.hid hbn
  have hu1 : ∀ x, x ≠ w.heap.size → upd h w.heap.size (.lk false b th r.ad r.ls none) x = h x := fun x => upd_ne _ _
  have HU := Lib.hid hu1
  have HAD : Hid (addH h false b o r th w.heap.size = match r.ls with
    | none => upd (upd h w.heap.size (.lk false b th r.ad r.ls none)) b (o.setR ⟨some w.heap.size, some w.heap.size, r.ad + 1⟩)
    | some y => upd (Sc.updO (upd h w.heap.size (.lk false b th r.ad r.ls none)) y (setAf ((upd h w.heap.size (.lk false b th r.ad r.ls none)) y) (some w.heap.size))) b (o.setR ⟨r.fs, some w.heap.size, r.ad + 1⟩)) := rfl
  obtain ⟨h1, hh1⟩ : ∃ h1, h1 = upd h w.heap.size (.lk false b th r.ad r.ls none) := ⟨_, rfl⟩
  rw [← hh1] at HN HB HY HU HAD
  obtain ⟨nb, hnb⟩ : ∃ nb, nb = w.heap.size := ⟨_, rfl⟩
  obtain ⟨W1, hW1⟩ : ∃ W, W = (w.alloc (.cells #[qptr th, .int .i64 (r.ad : Int), oV r.ls, .pointer none] 107)).drew := ⟨_, rfl⟩
  have H1 : Hid (Hv e W1 h1) := by rw [hW1]; exact HN.out.drew
  have F1 : Hid (Fr (fun i => i = b ∨ r.ls = some i) w W1) := by rw [hW1]; exact ((Fr.refl _ w).alloc _).drew
  rw [← hnb] at HBN HY HAD
  rw [← hnb, ← hk, HAD.out]
  obtain ⟨fs, ls, ad⟩ := r
  dsimp only at c0 c1 c2 hn ⊢
  have HRC : Hid (∀ W h' r', Hv e W h' → h' b = some (o.setR r') → W.cell? ⟨b, k, none⟩ = some (oV r'.fs) ∧ W.cell? ⟨b, k + 1, none⟩ = some (oV r'.ls) ∧ W.cell? ⟨b, k + 2, none⟩ = some (.int .i64 (r'.ad : Int)) ∧ W.frozen? ⟨b, k, none⟩ = false ∧ W.frozen? ⟨b, k + 1, none⟩ = false ∧ W.frozen? ⟨b, k + 2, none⟩ = false) := fun W h' r' k1 k2 => by
    obtain ⟨d0, d1, d2⟩ := row_cells e (setR_row HR.out r')
    rw [← k1.cell k2, setR_off, ← HK.out] at d0 d1 d2
    exact ⟨d0, d1, d2, k1.frz k2 _, k1.frz k2 _, k1.frz k2 _⟩
  have HS : Hid (∀ W h' (r' : Rw) f, Hv e W h' → h' b = some (o.setR r') → Hv e (W.setCell ⟨b, k, none⟩ (oV f)) (upd h' b (o.setR { r' with fs := f })) ∧ Hv e (W.setCell ⟨b, k + 1, none⟩ (oV f)) (upd h' b (o.setR { r' with ls := f })) ∧ ∀ n : Nat, Hv e (W.setCell ⟨b, k + 2, none⟩ (.int .i64 (n : Int))) (upd h' b (o.setR { r' with ad := n }))) := fun W h' r' f k1 k2 => by
    have hr2 := setR_row HR.out r'
    have hm : ∀ r'' x, o.setR r'' = .ms x → False := fun r'' x => setR_ms r'' (by rw [HR.out]; simp)
    refine ⟨k1.set k2 (by rw [setR_ty, setR_ty]) ?_ (fun x hx => (hm _ _ hx).elim), k1.set k2 (by rw [setR_ty, setR_ty]) ?_ (fun x hx => (hm _ _ hx).elim), fun n => k1.set k2 (by rw [setR_ty, setR_ty]) ?_ (fun x hx => (hm _ _ hx).elim)⟩
    · have := row_fs e hr2 f
      rw [setR_setR, setR_off, ← HK.out] at this
      exact this
    · have := row_ls e hr2 f
      rw [setR_setR, setR_off, ← HK.out] at this
      exact this
    · have := row_ad e hr2 n
      rw [setR_setR, setR_off, ← HK.out] at this
      exact this
  have HB1 : Hid (h1 b = some (o.setR ⟨fs, ls, ad⟩)) := by rw [setR_self HR.out]; exact HB.out
  clear hk hr hb hy hl hv hbn hb1 hy1 HF hu1 HN hh1 HB
  cases ls with
  | none =>
    obtain rfl : fs = none := HL.out rfl
    simp only [oV] at c1 hW1
    obtain ⟨d0, d1, d2, f0, f1, f2⟩ := HRC.out W1 h1 _ H1.out HB1.out
    go_enter Try.func54, Try.ntmps54
    go_upto_region 1 with (fail)
    go_region
    rw [← hW1, ← hnb]
    clear hW1 hnb c0 c1 c2
    simp only [oV] at d1
    go_upto_region 5 with (fail)
    obtain ⟨W2, hW2⟩ : ∃ W, W = W1.setCell ⟨b, k, none⟩ (qptr nb) := ⟨_, rfl⟩
    rw [← hW2]
    have H2 : Hid (Hv e W2 (upd h1 b (o.setR { fs := some nb, ls := none, ad := ad }))) := by rw [hW2]; exact (HS.out W1 h1 _ (some nb) H1.out HB1.out).1
    have HB2 : Hid (upd h1 b (o.setR { fs := some nb, ls := none, ad := ad }) b = some (o.setR { fs := some nb, ls := none, ad := ad })) := upd_same _ _ _
    have F2 : Hid (Fr (fun i => i = b ∨ none = some i) w W2) := by rw [hW2]; exact F1.out.setCell (.inl (.inl rfl)) _
    clear hW2 d0 d1 d2 f0 f1 f2
    obtain ⟨d0, d1, d2, f0, f1, f2⟩ := HRC.out W2 _ _ H2.out HB2.out
    go_upto_region 6 with (fail)
    obtain ⟨W3, hW3⟩ : ∃ W, W = W2.setCell ⟨b, k + 1, none⟩ (qptr nb) := ⟨_, rfl⟩
    rw [← hW3]
    have H3 : Hid (Hv e W3 (upd (upd h1 b (o.setR { fs := some nb, ls := none, ad := ad })) b (o.setR { fs := some nb, ls := some nb, ad := ad }))) := by rw [hW3]; exact (HS.out W2 _ _ (some nb) H2.out HB2.out).2.1
    have HB3 : Hid (upd (upd h1 b (o.setR { fs := some nb, ls := none, ad := ad })) b (o.setR { fs := some nb, ls := some nb, ad := ad }) b = some (o.setR { fs := some nb, ls := some nb, ad := ad })) := upd_same _ _ _
    have F3 : Hid (Fr (fun i => i = b ∨ none = some i) w W3) := by rw [hW3]; exact F2.out.setCell (.inl (.inl rfl)) _
    clear hW3 d0 d1 d2 f0 f1 f2
    obtain ⟨d0, d1, d2, f0, f1, f2⟩ := HRC.out W3 _ _ H3.out HB3.out
    dsimp only at d2
    go_upto_region 7 with (fail)
    obtain ⟨W4, hW4⟩ : ∃ W, W = W3.setCell ⟨b, k + 2, none⟩ (.int .i64 ((ad + 1 : Nat) : Int)) := ⟨_, rfl⟩
    try rw [show ((ad : Int) + 1) = ((ad + 1 : Nat) : Int) from rfl]
    rw [← hW4]
    have H4 : Hid (Hv e W4 (upd (upd (upd h1 b (o.setR { fs := some nb, ls := none, ad := ad })) b (o.setR { fs := some nb, ls := some nb, ad := ad })) b (o.setR { fs := some nb, ls := some nb, ad := ad + 1 }))) := by rw [hW4]; exact (HS.out W3 _ _ none H3.out HB3.out).2.2 (ad + 1)
    have F4 : Hid (Fr (fun i => i = b ∨ none = some i) w W4) := by rw [hW4]; exact F3.out.setCell (.inl (.inl rfl)) _
    clear hW4 d0 d1 d2 f0 f1 f2
    go_wp2_with fail
    go_ret
    refine ⟨rfl, H4.out.as_ fun x => ?_, F4.out.mono fun i _ hx => (by simpa using hx)⟩
    unfold upd
    try dsimp only
    split <;> rfl
  | some y =>
    obtain ⟨hyb, hyn, own, th', pl, bf, hly⟩ := HY.out y rfl
    have cy : W1.cell? ⟨y, 3, none⟩ = some (.pointer none) := H1.out.cell hly 3
    have fy : W1.frozen? ⟨y, 3, none⟩ = false := H1.out.frz hly 3
    have HLY := Lib.hid hly
    have HYB := Lib.hid hyb
    simp only [oV] at c1 hW1
    obtain ⟨d0, d1, d2, f0, f1, f2⟩ := HRC.out W1 h1 _ H1.out HB1.out
    clear hly hyb hyn
    go_enter Try.func54, Try.ntmps54
    go_upto_region 1 with (fail)
    go_region
    rw [← hW1, ← hnb]
    clear hW1 hnb c0 c1 c2
    simp only [oV] at d1
    go_upto_region 5 with (fail)
    obtain ⟨W2, hW2⟩ : ∃ W, W = W1.setCell ⟨y, 3, none⟩ (qptr nb) := ⟨_, rfl⟩
    rw [← hW2]
    have H2 : Hid (Hv e W2 (upd h1 y (.lk false own th' pl bf (some nb)))) := by rw [hW2]; exact H1.out.set HLY.out rfl rfl (fun x hx => by cases hx)
    have HB2 : Hid (upd h1 y (.lk false own th' pl bf (some nb)) b = some (o.setR { fs := fs, ls := some y, ad := ad })) := (upd_ne _ _ HYB.out.symm).trans HB1.out
    have F2 : Hid (Fr (fun i => i = b ∨ some y = some i) w W2) := by rw [hW2]; exact F1.out.setCell (.inl (.inr rfl)) _
    clear hW2 d0 d1 d2 f0 f1 f2 cy fy
    obtain ⟨d0, d1, d2, f0, f1, f2⟩ := HRC.out W2 _ _ H2.out HB2.out
    go_upto_region 6 with (fail)
    obtain ⟨W3, hW3⟩ : ∃ W, W = W2.setCell ⟨b, k + 1, none⟩ (qptr nb) := ⟨_, rfl⟩
    rw [← hW3]
    have H3 : Hid (Hv e W3 (upd (upd h1 y (.lk false own th' pl bf (some nb))) b (o.setR { fs := fs, ls := some nb, ad := ad }))) := by rw [hW3]; exact (HS.out W2 _ _ (some nb) H2.out HB2.out).2.1
    have HB3 : Hid (upd (upd h1 y (.lk false own th' pl bf (some nb))) b (o.setR { fs := fs, ls := some nb, ad := ad }) b = some (o.setR { fs := fs, ls := some nb, ad := ad })) := upd_same _ _ _
    have F3 : Hid (Fr (fun i => i = b ∨ some y = some i) w W3) := by rw [hW3]; exact F2.out.setCell (.inl (.inl rfl)) _
    clear hW3 d0 d1 d2 f0 f1 f2
    obtain ⟨d0, d1, d2, f0, f1, f2⟩ := HRC.out W3 _ _ H3.out HB3.out
    dsimp only at d2
    go_upto_region 7 with (fail)
    obtain ⟨W4, hW4⟩ : ∃ W, W = W3.setCell ⟨b, k + 2, none⟩ (.int .i64 ((ad + 1 : Nat) : Int)) := ⟨_, rfl⟩
    try rw [show ((ad : Int) + 1) = ((ad + 1 : Nat) : Int) from rfl]
    rw [← hW4]
    have H4 : Hid (Hv e W4 (upd (upd (upd h1 y (.lk false own th' pl bf (some nb))) b (o.setR { fs := fs, ls := some nb, ad := ad })) b (o.setR { fs := fs, ls := some nb, ad := ad + 1 }))) := by rw [hW4]; exact (HS.out W3 _ _ none H3.out HB3.out).2.2 (ad + 1)
    have F4 : Hid (Fr (fun i => i = b ∨ some y = some i) w W4) := by rw [hW4]; exact F3.out.setCell (.inl (.inl rfl)) _
    clear hW4 d0 d1 d2 f0 f1 f2
    go_wp2_with fail
    go_ret
    refine ⟨rfl, H4.out.as_ fun x => ?_, F4.out.mono fun i _ hx => (by simpa using hx)⟩
    try dsimp only
    rw [HLY.out]
    unfold upd Sc.updO
    try dsimp only
    by_cases hx : x = b
    · rw [if_pos hx, if_pos hx]
    · rw [if_neg hx, if_neg hx, if_neg hx]
      rfl
end
end Go.Proofs.Ytkjlmibjpfmfnaa.Sc
