/-
  Of the texts MapX, OctPlain, ParPlain, ChPlain, FlPlain, FlMap, Tm1: what the laws reach.
-/
import Derived.Test.YtfgfiiknbkakaaaTA1
import Derived.Maps.Range
import Derived.Maps.OwnSet
import Derived.IntWalk
import Derived.OpenShut
import Derived.DeepKeys4
import Derived.BigQuiet
import Derived.Deep.MidRow

set_option linter.unusedVariables false
set_option linter.unusedSimpArgs false
namespace Go.Proofs.Ytfgfiiknbkakaaa.Mx
open Go.ChangeShapes Go.WideShapes Go.ChangeAt Go.RowKit Go.Maps Go.Proofs.Ytfgfiiknbkakaaa.Words
open Go.ChangeMaps (notKey putKey delKey setBlock)
open Go.MapKept (stamped_iff)
open Go.WideElems (Fit rd rg pl rd_key rd_val rg_of)
def anyE (v : Value) : Option (DataW Value × List MemPlace) := some (.held v, [])
def tok : DataW Value → Option Value
  | .held v => some v
  | _ => none
def look (D : DataW Value) (kl : Lit) : Option Value := tok (D.atKey kl .nil)
/-- The keys of a type, named by the things of another one. -/
structure KX (P : Program) (k : TypeId) (κ : Type) where
  enc : κ → Value
  lit : κ → Lit
  dom : κ → Prop
  key : ∀ x, dom x → keyOf P k (enc x) = some (lit x)
  inj : ∀ x y, dom x → dom y → lit x = lit y → x = y
  sur : ∀ v l, keyOf P k v = some l → ∃ x, dom x ∧ v = enc x ∧ l = lit x
  law : Keyed P k
  few : ∀ l : List κ, l.Nodup → (∀ x ∈ l, dom x) → l.length ≤ 1125899906842624
section
variable {P : Program} {k : TypeId} {κ : Type} {X : KX P k κ} {w w' : World} {b r n : Nat} {D : DataW Value} {f : κ → Option Value}
theorem keys_list (X : KX P k κ) : ∀ (es : List MapEntry), (∀ e ∈ es, ∃ l, keyOf P k e.key = some l) → ∃ xs : List κ, xs.map X.enc = es.map (·.key) ∧ ∀ x ∈ xs, X.dom x
  | [], _ => ⟨[], rfl, by simp⟩
  | e :: es, h => by
    obtain ⟨xs, h1, h2⟩ := keys_list X es (fun e' he => h e' (List.mem_cons_of_mem _ he))
    obtain ⟨l, hl⟩ := h e List.mem_cons_self
    obtain ⟨x, hx, e1, _⟩ := X.sur _ _ hl
    exact ⟨x :: xs, by simp [h1, e1], fun y hy => by
      rcases List.mem_cons.1 hy with rfl | hy
      · exact hx
      · exact h2 y hy⟩
theorem fit_few (X : KX P k κ) {R : Value → Option (DataW Value × List MemPlace)} {es : Array MapEntry} {clock : Nat} (F : Fit P k R es clock) : es.size ≤ 1125899906842624 := by
  obtain ⟨xs, h1, h2⟩ := keys_list X es.toList F.keys
  have hn : es.toList.Pairwise (fun x y => x.key ≠ y.key) := ((stamped_iff es clock).1 F.stamped).2.2
  have hnd : xs.Nodup := by
    have h3 : (es.toList.map (·.key)).Pairwise (· ≠ ·) := List.pairwise_map.2 hn
    rw [← h1] at h3
    have h4 := List.pairwise_map.1 h3
    exact h4.imp (fun {a b} hab e => hab (by rw [e]))
  have h5 := X.few xs hnd h2
  have h6 : xs.length = es.toList.length := by have := congrArg List.length h1; simpa using this
  rw [h6] at h5
  simpa using h5
theorem own_few (X : KX P k κ) (h : w.ownsMap P k anyE b n D) : w.ownsMap P k anyE b 1125899906842624 D := by
  obtain ⟨es, clock, hb, F, hs, hD⟩ := h
  exact ⟨es, clock, hb, F, fit_few X F, hD⟩
structure MapX (X : KX P k κ) (w : World) (b : Nat) (f : κ → Option Value) : Prop where
  ex : ∃ D, w.ownsMap P k anyE b 1125899906842624 D ∧ ∀ x, X.dom x → f x = look D (X.lit x)
  out : ∀ x, ¬ X.dom x → f x = none
def putF [DecidableEq κ] (f : κ → Option Value) (x : κ) (v : Value) : κ → Option Value := fun y => if y = x then some v else f y
def delF [DecidableEq κ] (f : κ → Option Value) (x : κ) : κ → Option Value := fun y => if y = x then none else f y
theorem MapX.new (X : KX P k κ) (w : World) : MapX X (w.alloc (.map #[] 0)) w.heap.size (fun _ => none) :=
  ⟨⟨.map [], (World.ownsMap_made w P k anyE).mono (Nat.zero_le _), fun x _ => rfl⟩, fun _ _ => rfl⟩
theorem MapX.lt (h : MapX X w b f) : b < w.heap.size := by obtain ⟨D, h1, _⟩ := h.ex; exact h1.lt
theorem MapX.same (h : MapX X w b f) (e : w'.heap[b]? = w.heap[b]?) : MapX X w' b f := by
  obtain ⟨D, ⟨es, clock, hb, F, hs, hD⟩, h2⟩ := h.ex
  exact ⟨⟨D, ⟨es, clock, e.trans hb, F, hs, hD⟩, h2⟩, h.out⟩
theorem MapX.fr {S : Nat → Prop} (h : MapX X w b f) (hf : Fr S w w') (hb : ¬ S b) : MapX X w' b f := h.same (hf.block b h.lt hb)
theorem MapX.drewN (h : MapX X w b f) (n : Nat) : MapX X (w.drewN n) b f := h.same rfl
theorem MapX.drew (h : MapX X w b f) : MapX X w.drew b f := h.same rfl
theorem MapX.look_run (h : MapX X w b f) {t e : TypeId} (ht : P.underlying t = some (.map k e)) {z : Value} (hz : (zeroValue e).run P w = .ok z w) (c : Bool) {x : κ} (hx : X.dom x) :
    (Instr.lookup t (.map (some b)) (X.enc x) c).run P w = .ok (if c then .tuple #[(f x).getD z, .bool (f x).isSome] else (f x).getD z) w := by
  obtain ⟨D, ⟨es, clock, hb, F, _, rfl⟩, h2⟩ := h.ex
  have h3 := h2 x hx
  rcases Maps.fit_look c X.law ht hz hb F (X.key x hx) with ⟨hrun, _, hat⟩ | ⟨e0, y, _, _, hrun, hRv, hat, _⟩
  · unfold look at h3
    rw [hat .nil] at h3
    rw [h3, hrun]
    rfl
  · unfold look at h3
    rw [hat .nil] at h3
    have e1 : y.1 = .held e0.val := by unfold anyE at hRv; injection hRv with hRv; rw [← hRv]
    rw [e1] at h3
    have h4 : f x = some e0.val := h3
    rw [h4, hrun]
    rfl
theorem MapX.look (h : MapX X w b f) {t e : TypeId} (ht : P.underlying t = some (.map k e)) {z : Value} (hz : (zeroValue e).run P w = .ok z w) {x : κ} (hx : X.dom x) :
    (Instr.lookup t (.map (some b)) (X.enc x) false).run P w = .ok ((f x).getD z) w := h.look_run ht hz false hx
theorem MapX.put [DecidableEq κ] (h : MapX X w b f) {t e : TypeId} (ht : P.underlying t = some (.map k e)) {x : κ} (hx : X.dom x) (v : Value) :
    ∃ w1, (Instr.mapUpdate t (.map (some b)) (X.enc x) v).run P w = .ok () w1 ∧ MapX X w1 b (putF f x v) ∧ w.mapTurned w1 b := by
  obtain ⟨D, hown, h2⟩ := h.ex
  obtain ⟨w1, hrun, hown1, hturn⟩ := hown.store X.law ht (by unfold maxLen; omega) (X.key x hx) (show anyE v = some (.held v, []) from rfl)
  refine ⟨w1, hrun, ⟨⟨_, own_few X hown1, fun y hy => ?_⟩, fun y hy => ?_⟩, hturn⟩
  · unfold putF Mx.look
    by_cases e : y = x
    · subst e
      rw [if_pos rfl, atKey_put_same hown.isMap (X.law.key (X.key y hy))]
      rfl
    · rw [if_neg e, atKey_put_other (fun e' => e (X.inj _ _ hy hx e')), h2 y hy]
      rfl
  · unfold putF
    rw [if_neg (fun e => hy (by rw [e]; exact hx))]
    exact h.out y hy
theorem MapX.del [DecidableEq κ] (h : MapX X w b f) {t e : TypeId} (ht : P.underlying t = some (.map k e)) {x : κ} (hx : X.dom x) (ty : TypeId) :
    ∃ w1, (Builtin.delete_ #[t, k] ty #[.map (some b), X.enc x]).run P w = .ok (.tuple #[]) w1 ∧ MapX X w1 b (delF f x) ∧ w.mapTurned w1 b := by
  obtain ⟨D, hown, h2⟩ := h.ex
  obtain ⟨w1, hrun, hown1, hturn⟩ := hown.drop X.law ht (X.key x hx) ty
  refine ⟨w1, hrun, ⟨⟨_, hown1, fun y hy => ?_⟩, fun y hy => ?_⟩, hturn⟩
  · unfold delF Mx.look
    by_cases e : y = x
    · subst e
      rw [if_pos rfl, atKey_del_same]
      rfl
    · rw [if_neg e, atKey_del_other (fun e' => e (X.inj _ _ hy hx e')), h2 y hy]
      rfl
  · unfold delF
    split
    · rfl
    · exact h.out y hy
theorem MapX.len (h : MapX X w b f) {t e : TypeId} (ht : P.underlying t = some (.map k e)) (ty : TypeId) :
    ∃ n : Nat, (Builtin.len_ #[t] ty #[.map (some b)]).run P w = .ok (.int .i64 (n : Int)) w ∧ n ≤ 1125899906842624 ∧ (n = 0 ↔ ∀ x, f x = none) := by
  obtain ⟨D, hown, h2⟩ := h.ex
  refine ⟨Maps.size D, hown.len ht ty, hown.size_le, ?_⟩
  obtain ⟨es, clock, hb, F, hs, rfl⟩ := hown
  have hsz : Maps.size (DataW.map ((es.toList.map (rg P k anyE)).foldr DataW.insert [])) = es.size := by simp [Maps.size, length_sorted]
  rw [hsz]
  constructor
  · intro h0 x
    rcases Classical.em (X.dom x) with hx | hx
    · rw [h2 x hx]
      have : es = #[] := Array.eq_empty_of_size_eq_zero h0
      subst this
      rfl
    · exact h.out x hx
  · intro hall
    rcases Nat.eq_zero_or_pos es.size with h0 | h0
    · exact h0
    · exfalso
      have hmem : es[0] ∈ es.toList := by simp
      obtain ⟨l, hl⟩ := F.keys _ hmem
      obtain ⟨x, hx, e1, e2⟩ := X.sur _ _ hl
      have h3 := h2 x hx
      rw [hall x] at h3
      obtain ⟨y, hy⟩ := F.reads _ hmem
      obtain ⟨z, hz, hzd⟩ := rd_val hy
      have hkey := rd_key hy
      rw [hl] at hkey
      injection hkey with hkey
      have hat := (atKey_sorted (es.toList.map (rg P k anyE)) (Maps.fit_rising X.law F) l (X.law.key hl)).2 (rg P k anyE es[0]) (List.mem_map.2 ⟨_, hmem, rfl⟩) (by rw [rg_of hy]; exact hkey.symm) .nil
      unfold Mx.look at h3
      rw [← e2, hat, rg_of hy] at h3
      unfold anyE at hz
      injection hz with hz
      have e4 : y.2 = .held es[0].val := by rw [hzd, ← hz]
      rw [e4] at h3
      cases h3
structure RangeX (X : KX P k κ) (w : World) (b r : Nat) (f : κ → Option Value) (left : κ → Bool) (cnt : Nat) : Prop where
  ex : ∃ D lf, w.ranges P k anyE b r 1125899906842624 D lf cnt ∧ (∀ x, X.dom x → f x = look D (X.lit x)) ∧ ∀ x, X.dom x → left x = lf (X.lit x)
  out : ∀ x, ¬ X.dom x → f x = none ∧ left x = false
variable {left : κ → Bool} {cnt : Nat}
theorem RangeX.map (h : RangeX X w b r f left cnt) : MapX X w b f := by
  obtain ⟨D, lf, h1, h2, h3⟩ := h.ex
  exact ⟨⟨D, h1.owns, h2⟩, fun x hx => (h.out x hx).1⟩
theorem RangeX.lt (h : RangeX X w b r f left cnt) : r < w.heap.size := by obtain ⟨D, lf, h1, _⟩ := h.ex; exact h1.lt
theorem RangeX.fr {S : Nat → Prop} (h : RangeX X w b r f left cnt) (hf : Fr S w w') (hb : ¬ S b) (hr : ¬ S r) : RangeX X w' b r f left cnt := by
  have l1 := h.map.lt
  have l2 := h.lt
  obtain ⟨D, lf, ⟨es, clock, since, seen, c0, h1, F, hs, hD, h4, rest⟩, h2, h3⟩ := h.ex
  exact ⟨⟨D, lf, ⟨es, clock, since, seen, c0, (hf.block b l1 hb).trans h1, F, hs, hD, (hf.block r l2 hr).trans h4, rest⟩, h2, h3⟩, h.out⟩
theorem MapX.range (h : MapX X w b f) {t e : TypeId} (ht : P.underlying t = some (.map k e)) :
    ∃ w1 cnt, (Instr.range t (.map (some b))).run P w = .ok (.pointer (some ⟨w.heap.size, 0, none⟩)) w1 ∧ RangeX X w1 b w.heap.size f (fun x => (f x).isSome) cnt ∧ w.grownBy w1 none ∧ w1.heap.size = w.heap.size + 1 := by
  obtain ⟨D, hown, h2⟩ := h.ex
  obtain ⟨w1, hrun, hrg, hg, hs⟩ := hown.range X.law ht
  refine ⟨w1, _, hrun, ⟨⟨D, _, hrg, h2, fun x hx => ?_⟩, fun x hx => ⟨h.out x hx, by rw [h.out x hx]; rfl⟩⟩, hg, hs⟩
  rw [h2 x hx]
  obtain ⟨es, clock, hb, F, _, rfl⟩ := hown
  obtain ⟨hrun2, hh⟩ := (show (∃ z : World, z = w) ∧ True from ⟨⟨w, rfl⟩, trivial⟩)
  rcases Classical.em (∃ e ∈ es.toList, keyOf P k e.key = some (X.lit x)) with ⟨e0, hmem, hl⟩ | hno
  · obtain ⟨y, hy⟩ := F.reads _ hmem
    obtain ⟨z, hz, hzd⟩ := rd_val hy
    have hkey := rd_key hy
    rw [hl] at hkey
    injection hkey with hkey
    have hat := fun zd => (atKey_sorted (es.toList.map (rg P k anyE)) (Maps.fit_rising X.law F) (X.lit x) (X.law.key hl)).2 (rg P k anyE e0) (List.mem_map.2 ⟨_, hmem, rfl⟩) (by rw [rg_of hy]; exact hkey.symm) zd
    have e4 : y.2 = .held e0.val := by
      unfold anyE at hz
      injection hz with hz
      rw [hzd, ← hz]
    rw [rg_of hy, e4] at hat
    unfold Mx.look
    rw [hat .nil, Maps.has_true_of_atKey hat]
    rfl
  · have hhas : Maps.has (DataW.map ((es.toList.map (rg P k anyE)).foldr DataW.insert [])) (X.lit x) = false := by
      cases hc : Maps.has (DataW.map ((es.toList.map (rg P k anyE)).foldr DataW.insert [])) (X.lit x)
      · rfl
      · exfalso
        obtain ⟨p, hp, hpk⟩ := List.any_eq_true.1 hc
        obtain ⟨e0, hm, rfl⟩ := List.mem_map.1 (mem_sorted.1 hp)
        obtain ⟨y, hy⟩ := F.reads _ hm
        rw [rg_of hy] at hpk
        exact hno ⟨e0, hm, by rw [rd_key hy, WideAt.sameKey_eq hpk]⟩
    rw [hhas]
    unfold Mx.look
    rw [atKey_of_not_has hhas]
    rfl
theorem RangeX.next [DecidableEq κ] (h : RangeX X w b r f left cnt) (ty : TypeId) :
    ((∀ x, left x = false) ∧ (Instr.next (.pointer (some ⟨r, 0, none⟩)) false ty).run P w = .ok (.tuple #[.bool false]) w) ∨
    ∃ x v w1 cnt1, X.dom x ∧ left x = true ∧ f x = some v ∧ (Instr.next (.pointer (some ⟨r, 0, none⟩)) false ty).run P w = .ok (.tuple #[.bool true, X.enc x, v]) w1 ∧
      RangeX X w1 b r f (fun y => left y && !decide (y = x)) cnt1 ∧ cnt1 < cnt ∧ w.grownBy w1 (some r) ∧ w1.heap.size = w.heap.size ∧ (Instr.entry (.pointer (some ⟨r, 0, none⟩))).run P w1 = .ok (.tuple #[X.enc x, v]) w1 := by
  obtain ⟨D, lf, h1, h2, h3⟩ := h.ex
  rcases h1.next X.law ty with ⟨h0, hl, hrun⟩ | ⟨key, v, kl, y, w1, cnt1, hkey, hlk, hv, hat, hrun, hrg, hlt, hgr, hsz, hen⟩
  · refine .inl ⟨fun x => ?_, hrun⟩
    rcases Classical.em (X.dom x) with hx | hx
    · rw [h3 x hx]; exact hl _
    · exact (h.out x hx).2
  · obtain ⟨x, hx, rfl, rfl⟩ := X.sur _ _ hkey
    refine .inr ⟨x, v, w1, cnt1, hx, by rw [h3 x hx]; exact hlk, ?_, hrun, ⟨⟨D, _, hrg, h2, fun z hz => ?_⟩, fun z hz => ⟨(h.out z hz).1, by rw [(h.out z hz).2]; rfl⟩⟩, hlt, hgr, hsz, hen⟩
    · rw [h2 x hx]
      unfold Mx.look
      rw [hat .nil]
      unfold anyE at hv
      injection hv with hv
      rw [← hv]
      rfl
    · show (left z && !decide (z = x)) = _
      rw [h3 z hz]
      congr 2
      by_cases e : z = x
      · subst e
        rw [decide_eq_true rfl, WideAt.sameKey_self (X.law.key hkey)]
      · rw [decide_eq_false e, sameKey_ne (fun e' => e (X.inj _ _ hz hx e'))]
theorem RangeX.del [DecidableEq κ] (h : RangeX X w b r f left cnt) {t e : TypeId} (ht : P.underlying t = some (.map k e)) {x : κ} (hx : X.dom x) (ty : TypeId) :
    ∃ w1 cnt1, (Builtin.delete_ #[t, k] ty #[.map (some b), X.enc x]).run P w = .ok (.tuple #[]) w1 ∧ RangeX X w1 b r (delF f x) (fun y => left y && !decide (y = x)) cnt1 ∧ cnt1 ≤ cnt ∧ w.mapTurned w1 b := by
  obtain ⟨D, lf, h1, h2, h3⟩ := h.ex
  obtain ⟨w1, cnt1, hrun, hrg, hle, hturn⟩ := h1.drop X.law ht (X.key x hx) ty
  refine ⟨w1, cnt1, hrun, ⟨⟨_, _, hrg, fun y hy => ?_, fun z hz => ?_⟩, fun z hz => ⟨?_, by rw [(h.out z hz).2]; rfl⟩⟩, hle, hturn⟩
  · unfold delF Mx.look
    by_cases e : y = x
    · subst e
      rw [if_pos rfl, atKey_del_same]
      rfl
    · rw [if_neg e, atKey_del_other (fun e' => e (X.inj _ _ hy hx e')), h2 y hy]
      rfl
  · show (left z && !decide (z = x)) = _
    rw [h3 z hz]
    congr 2
    by_cases e : z = x
    · subst e
      rw [decide_eq_true rfl, WideAt.sameKey_self (X.law.key (X.key z hx))]
    · rw [decide_eq_false e, sameKey_ne (fun e' => e (X.inj _ _ hz hx e'))]
  · unfold delF
    split
    · rfl
    · exact (h.out z hz).1
end
end Go.Proofs.Ytfgfiiknbkakaaa.Mx

set_option linter.unusedVariables false
set_option linter.unusedSimpArgs false
namespace Go.Proofs.Ytfgfiiknbkakaaa.Oct
open Go.RowKit Go.Proofs.Ytfgfiiknbkakaaa.Words
def byteAt (v m : Nat) : UInt8 := UInt8.ofNat (v / 2 ^ (8 * m))
/-- The last n bytes of v, the most significant first. -/
def be (v n : Nat) : List UInt8 := (List.range n).map fun d => byteAt v (n - 1 - d)
end Go.Proofs.Ytfgfiiknbkakaaa.Oct

set_option linter.unusedVariables false
set_option linter.unusedSimpArgs false
namespace Go.Proofs.Ytfgfiiknbkakaaa.Par
open Go.RowKit Go.Proofs.Ytfgfiiknbkakaaa.Words Go.Proofs.Ytfgfiiknbkakaaa.Oct
/-- A parameter: its kind and its value. -/
abbrev Prm := Nat × List UInt8
def padC (n : Nat) : Nat := (4 - n % 4) % 4
end Go.Proofs.Ytfgfiiknbkakaaa.Par

set_option linter.unusedVariables false
set_option linter.unusedSimpArgs false
namespace Go.Proofs.Ytfgfiiknbkakaaa.Chk
open Go.RowKit Go.Proofs.Ytfgfiiknbkakaaa.Words Go.Proofs.Ytfgfiiknbkakaaa.Oct Go.Proofs.Ytfgfiiknbkakaaa.Par
/-- A gap: from, to. What is skipped: the stream, unordered or not, the message's number. -/
abbrev Gp := Nat × Nat
abbrev Skp := Nat × Bool × Nat
structure Ck where
  kind : Nat
  bg : Bool
  en : Bool
  lo : Bool
  ba : Bool
  tsn : Nat
  st : Nat
  mid : Nat
  pp : Nat
  fr : Nat
  tag : Nat
  win : Nat
  out : Nat
  inn : Nat
  gaps : List Gp
  dups : List Nat
  skips : List Skp
  ps : List Prm
  body : List UInt8
structure Ck.ok (c : Ck) : Prop where
  kind : c.kind < 256
  tsn : c.tsn < 4294967296
  st : c.st < 65536
  mid : c.mid < 4294967296
  pp : c.pp < 4294967296
  fr : c.fr < 4294967296
  tag : c.tag < 4294967296
  win : c.win < 4294967296
  out : c.out < 65536
  inn : c.inn < 65536
  gaps : ∀ g ∈ c.gaps, g.1 < 65536 ∧ g.2 < 65536
  dups : ∀ d ∈ c.dups, d < 4294967296
  skips : ∀ s ∈ c.skips, s.1 < 65536 ∧ s.2.2 < 4294967296
  ps : ∀ p ∈ c.ps, p.1 < 65536
def frame (k f : Nat) (x : List UInt8) : List UInt8 := be k 1 ++ (be f 1 ++ (be (x.length + 4) 2 ++ (x ++ List.replicate (padC x.length) 0)))
def zeroC (k : Nat) : Ck := ⟨k, false, false, false, false, 0, 0, 0, 0, 0, 0, 0, 0, 0, [], [], [], [], []⟩
end Go.Proofs.Ytfgfiiknbkakaaa.Chk

set_option linter.unusedVariables false
set_option linter.unusedSimpArgs false
namespace Go.Proofs.Ytfgfiiknbkakaaa.Fl
open Go.Proofs.Ytfgfiiknbkakaaa.Chk
/-- A fragment: its message, its limit, how often it was sent and when, how often it was missed, its state (0 in flight, 1 lost, 2 arrived, 3 abandoned), its chunk. -/
structure Pt where
  m : Int
  lk : Nat
  ln : Nat
  sent : Nat
  wn : Nat
  mi : Nat
  st : Nat
  c : Ck
def Pt.left (p : Pt) : Bool := p.st == 0 || p.st == 1
def Pt.spent (p : Pt) : Bool := p.lk == 1 && decide (p.ln < p.sent)
def restC (c : Ck) : Ck := { zeroC 0 with st := c.st, lo := c.lo, mid := c.mid }
def Pt.turn (tz : Nat) (p : Pt) : Pt := { p with st := tz, c := if tz ≤ 1 then p.c else restC p.c }
/-- A flight: its mark, its fragments, which messages were abandoned and not told yet, whether nothing was forgotten yet, the messages of all that was ever sent. -/
structure FS where
  mark : Nat
  ps : List Pt
  gone : Int → Bool
  fresh : Bool
  ms : List Int
def tsnOf (mark i : Nat) : Nat := (mark + i + 1) % 4294967296
def FS.next (s : FS) : Nat := tsnOf s.mark s.ps.length
def FS.turn (s : FS) (i tz : Nat) : FS := { s with ps := s.ps.modify i (Pt.turn tz) }
def FS.left (s : FS) : Nat := s.ps.countP Pt.left
def bytesP (p : Pt) : Nat := if p.st = 0 then p.c.body.length else 0
def FS.bytes (s : FS) : Nat := (s.ps.map bytesP).sum
def FS.abandon (s : FS) (m : Int) : FS := { s with ps := s.ps.map (fun p => if p.m = m ∧ p.left = true then p.turn 3 else p), gone := fun x => decide (x = m) || s.gone x }
structure AS where
  s : FS
  newest : Nat
  bytes : Nat
  rtt : Int
structure Ak where
  bytes : Nat
  on : Bool
  lost : Bool
  rtt : Int
  bad : Bool
def firstLost (s : FS) (i : Nat) : Prop := ∃ p, s.ps[i]? = some p ∧ p.st = 1 ∧ ∀ j q, j < i → s.ps[j]? = some q → q.st ≠ 1
def againP (now : Nat) (p : Pt) : Pt := { p with st := 0, sent := (p.sent + 1) % 18446744073709551616, wn := now, mi := 0 }
inductive AgainR (now : Nat) : FS → FS → Option Ck → Prop
  | none {s : FS} : (∀ p ∈ s.ps, p.st ≠ 1) → AgainR now s s none
  | skip {s s' : FS} {r : Option Ck} {i : Nat} {p : Pt} : firstLost s i → s.ps[i]? = some p → p.spent = true → AgainR now (s.abandon p.m) s' r → AgainR now s s' r
  | hit {s : FS} {i : Nat} {p : Pt} : firstLost s i → s.ps[i]? = some p → p.spent = false → AgainR now s { s with ps := s.ps.modify i (againP now) } (some p.c)
abbrev Ln := Nat × Bool
def FS.row (s : FS) : List Pt := s.ps.takeWhile fun p => p.st == 3
def skLt (a b : Skp) : Prop := a.1 < b.1 ∨ (a.1 = b.1 ∧ a.2.1 = false ∧ b.2.1 = true)
/-- The list of what is skipped. -/
structure SkOk (inter : Bool) (f : Ln → Option Nat) (sk : List Skp) : Prop where
  sort : sk.Pairwise skLt
  mem : ∀ a, a ∈ sk ↔ f (a.1, a.2.1) = some a.2.2 ∧ (inter = true ∨ a.2.1 = false)
end Go.Proofs.Ytfgfiiknbkakaaa.Fl

set_option linter.unusedVariables false
set_option linter.unusedSimpArgs false
set_option maxRecDepth 20000
namespace Go.Proofs.Ytfgfiiknbkakaaa.Fl
open Go.ChangeShapes Go.WideShapes Go.ChangeAt Go.RowKit Go.Deep Go.Maps Go.Proofs.Ytfgfiiknbkakaaa.Words Go.Proofs.Ytfgfiiknbkakaaa.Mx
open Go.ChangeMaps (notKey putKey delKey setBlock heap_setBlock_same)
open Go.MapKept (stamped_iff)
open Go.WideElems (Fit rd rg pl rd_key rd_val rg_of)
def i64ok (x : Int) : Prop := -9223372036854775808 ≤ x ∧ x ≤ 9223372036854775807
theorem i64_wf {a : Int} : (Lit.int .i64 a).wf = true ↔ i64ok a := by simp [Lit.wf, IntKind.min, IntKind.max, IntKind.bits, IntKind.signed, i64ok]
section
variable {P : Program} {k : TypeId} {w w' : World} {b : Nat} {D : DataW Value} {f : Int → Option Value}
/-- A map of keys of the kind int: what it holds at each. -/
structure MapZ (P : Program) (k : TypeId) (w : World) (b : Nat) (f : Int → Option Value) : Prop where
  und : P.underlying k = some (.int .i64)
  ex : ∃ D n, w.ownsMap P k anyE b n D ∧ n ≤ 1125899906842624 ∧ ∀ x, i64ok x → f x = Mx.look D (.int .i64 x)
  out : ∀ x, ¬ i64ok x → f x = none
/-- All that it holds stands at keys of this list. -/
def Few (f : Int → Option Value) (L : List Int) : Prop := ∀ x, f x ≠ none → x ∈ L
theorem keyz (hu : P.underlying k = some (.int .i64)) {x : Int} (hx : i64ok x) : keyOf P k (.int .i64 x) = some (.int .i64 x) := keyOf_int_mk hu (i64_wf.2 hx)
theorem surz (hu : P.underlying k = some (.int .i64)) {v : Value} {l : Lit} (h : keyOf P k v = some l) : ∃ x, i64ok x ∧ v = .int .i64 x ∧ l = .int .i64 x := by
  cases v <;> simp [keyOf, hu, mapKey] at h
  obtain ⟨⟨rfl, hw⟩, rfl⟩ := h
  exact ⟨_, i64_wf.1 hw, rfl, rfl⟩
theorem keysz (hu : P.underlying k = some (.int .i64)) : ∀ (es : List MapEntry), (∀ e ∈ es, ∃ l, keyOf P k e.key = some l) → ∃ xs : List Int, xs.map (fun x => Value.int .i64 x) = es.map (·.key) ∧ ∀ x ∈ xs, i64ok x
  | [], _ => ⟨[], rfl, by simp⟩
  | e :: es, h => by
    obtain ⟨xs, h1, h2⟩ := keysz hu es (fun e' he => h e' (List.mem_cons_of_mem _ he))
    obtain ⟨l, hl⟩ := h e List.mem_cons_self
    obtain ⟨x, hx, e1, _⟩ := surz hu hl
    exact ⟨x :: xs, by simp [h1, e1], fun y hy => by
      rcases List.mem_cons.1 hy with rfl | hy
      · exact hx
      · exact h2 y hy⟩
theorem nodup_sub {α : Type} [DecidableEq α] : ∀ (l L : List α), l.Nodup → (∀ x ∈ l, x ∈ L) → l.length ≤ L.length
  | [], _, _, _ => Nat.zero_le _
  | x :: l, L, hn, h => by
    have hx : x ∈ L := h x List.mem_cons_self
    have hn' := List.nodup_cons.1 hn
    have h2 := nodup_sub l (L.erase x) hn'.2 (fun y hy => (List.mem_erase_of_ne (fun e => hn'.1 (by rw [← e]; exact hy))).2 (h y (List.mem_cons_of_mem _ hy)))
    rw [List.length_erase_of_mem hx] at h2
    have hpos := List.length_pos_of_mem hx
    simp only [List.length_cons]
    omega
/-- How many it holds: no more than that list has. -/
theorem fit_fewz (hu : P.underlying k = some (.int .i64)) {n : Nat} (h : w.ownsMap P k anyE b n D) (h2 : ∀ x, i64ok x → f x = Mx.look D (.int .i64 x)) {L : List Int} (hL : Few f L) : w.ownsMap P k anyE b L.length D := by
  obtain ⟨es, clock, hb, F, hs, rfl⟩ := h
  refine ⟨es, clock, hb, F, ?_, rfl⟩
  obtain ⟨xs, e1, e2⟩ := keysz hu es.toList F.keys
  have hn : es.toList.Pairwise (fun x y => x.key ≠ y.key) := ((stamped_iff es clock).1 F.stamped).2.2
  have hnd : xs.Nodup := by
    have h3 : (es.toList.map (·.key)).Pairwise (· ≠ ·) := List.pairwise_map.2 hn
    rw [← e1] at h3
    exact (List.pairwise_map.1 h3).imp (fun {a b} hab e => hab (by rw [e]))
  have h6 : xs.length = es.toList.length := by have := congrArg List.length e1; simpa using this
  have h5 := nodup_sub xs L hnd (fun x hx => hL x (by
    have hx1 : Value.int .i64 x ∈ es.toList.map (·.key) := by rw [← e1]; exact List.mem_map.2 ⟨x, hx, rfl⟩
    obtain ⟨e0, hmem, he0⟩ := List.mem_map.1 hx1
    obtain ⟨y, hy⟩ := F.reads _ hmem
    obtain ⟨z, hz, hzd⟩ := rd_val hy
    have hkey := rd_key hy
    rw [he0, keyz hu (e2 x hx)] at hkey
    injection hkey with hkey
    have K : Keyed P k := int_keyed hu
    have hat := (atKey_sorted (es.toList.map (rg P k anyE)) (Maps.fit_rising K F) (.int .i64 x) (K.key (keyz hu (e2 x hx)))).2 (rg P k anyE e0) (List.mem_map.2 ⟨_, hmem, rfl⟩) (by rw [rg_of hy]; exact hkey.symm) .nil
    rw [h2 x (e2 x hx)]
    unfold Mx.look
    rw [hat, rg_of hy]
    unfold anyE at hz
    injection hz with hz
    have e4 : y.2 = .held e0.val := by rw [hzd, ← hz]
    rw [e4]
    intro h; cases h))
  have : es.size = es.toList.length := by simp
  omega
theorem MapZ.new (hu : P.underlying k = some (.int .i64)) (w : World) : MapZ P k (w.alloc (.map #[] 0)) w.heap.size (fun _ => none) :=
  ⟨hu, ⟨.map [], 0, World.ownsMap_made w P k anyE, by omega, fun x _ => rfl⟩, fun _ _ => rfl⟩
theorem MapZ.lt (h : MapZ P k w b f) : b < w.heap.size := by obtain ⟨D, n, h1, _⟩ := h.ex; exact h1.lt
theorem MapZ.same (h : MapZ P k w b f) (e : w'.heap[b]? = w.heap[b]?) : MapZ P k w' b f := by
  obtain ⟨D, n, ⟨es, clock, hb, F, hs, hD⟩, hn, h2⟩ := h.ex
  exact ⟨h.und, ⟨D, n, ⟨es, clock, e.trans hb, F, hs, hD⟩, hn, h2⟩, h.out⟩
theorem MapZ.fr {S : Nat → Prop} (h : MapZ P k w b f) (hf : Fr S w w') (hb : ¬ S b) : MapZ P k w' b f := h.same (hf.block b h.lt hb)
theorem MapZ.look (h : MapZ P k w b f) {t e : TypeId} (ht : P.underlying t = some (.map k e)) {z : Value} (hz : (zeroValue e).run P w = .ok z w) {x : Int} (hx : i64ok x) :
    (Instr.lookup t (.map (some b)) (.int .i64 x) false).run P w = .ok ((f x).getD z) w := by
  obtain ⟨D, n, ⟨es, clock, hb, F, _, rfl⟩, _, h2⟩ := h.ex
  have h3 := h2 x hx
  rcases Maps.fit_look false (int_keyed h.und) ht hz hb F (keyz h.und hx) with ⟨hrun, _, hat⟩ | ⟨e0, y, _, _, hrun, hRv, hat, _⟩
  · unfold Mx.look at h3
    rw [hat .nil] at h3
    rw [h3, hrun]
    rfl
  · unfold Mx.look at h3
    rw [hat .nil] at h3
    have e1 : y.1 = .held e0.val := by unfold anyE at hRv; injection hRv with hRv; rw [← hRv]
    rw [e1] at h3
    have h4 : f x = some e0.val := h3
    rw [h4, hrun]
    rfl
theorem MapZ.put (h : MapZ P k w b f) {t e : TypeId} (ht : P.underlying t = some (.map k e)) {x : Int} (hx : i64ok x) (v : Value) {L : List Int} (hL : Few f L) (hl : L.length ≤ 1073741824) :
    ∃ w1, (Instr.mapUpdate t (.map (some b)) (.int .i64 x) v).run P w = .ok () w1 ∧ MapZ P k w1 b (putF f x v) ∧ w.mapTurned w1 b := by
  obtain ⟨D, n, hown, hn, h2⟩ := h.ex
  have hown2 := fit_fewz h.und hown h2 hL
  have K : Keyed P k := int_keyed h.und
  obtain ⟨w1, hrun, hown1, hturn⟩ := hown2.store K ht (by unfold maxLen; omega) (keyz h.und hx) (show anyE v = some (.held v, []) from rfl)
  refine ⟨w1, hrun, ⟨h.und, ⟨_, _, hown1, by omega, fun y hy => ?_⟩, fun y hy => ?_⟩, hturn⟩
  · unfold putF Mx.look
    by_cases e : y = x
    · subst e
      rw [if_pos rfl, atKey_put_same hown2.isMap (K.key (keyz h.und hy))]
      rfl
    · rw [if_neg e, atKey_put_other (fun e' => e (by injection e')), h2 y hy]
      rfl
  · unfold putF
    rw [if_neg (fun e => hy (by rw [e]; exact hx))]
    exact h.out y hy
theorem MapZ.del (h : MapZ P k w b f) {t e : TypeId} (ht : P.underlying t = some (.map k e)) {x : Int} (hx : i64ok x) (ty : TypeId) :
    ∃ w1, (Builtin.delete_ #[t, k] ty #[.map (some b), .int .i64 x]).run P w = .ok (.tuple #[]) w1 ∧ MapZ P k w1 b (delF f x) ∧ w.mapTurned w1 b := by
  obtain ⟨D, n, hown, hn, h2⟩ := h.ex
  have K : Keyed P k := int_keyed h.und
  obtain ⟨w1, hrun, hown1, hturn⟩ := hown.drop K ht (keyz h.und hx) ty
  refine ⟨w1, hrun, ⟨h.und, ⟨_, _, hown1, hn, fun y hy => ?_⟩, fun y hy => ?_⟩, hturn⟩
  · unfold delF Mx.look
    by_cases e : y = x
    · subst e
      rw [if_pos rfl, atKey_del_same]
      rfl
    · rw [if_neg e, atKey_del_other (fun e' => e (by injection e')), h2 y hy]
      rfl
  · unfold delF
    split
    · rfl
    · exact h.out y hy
theorem fit_empty (P : Program) (k : TypeId) (clock : Nat) : Fit P k anyE #[] clock := by
  refine ⟨by simp, ?_, by simp⟩
  exact (stamped_iff #[] clock).2 ⟨by simp, by simp, by simp⟩
theorem run_clear_map {t e : TypeId} (ht : P.underlying t = some (.map k e)) {es : Array MapEntry} {clock : Nat} (hb : w.heap[b]? = some (.map es clock)) (ty : TypeId) :
    (Builtin.clear_ #[t] ty #[.map (some b)]).run P w = .ok (.tuple #[]) (setBlock w b (.map #[] clock)) := by
  simp [Builtin.clear_, run_underlying ht, MapKept.run_getObj_map hb, MapKept.run_setObj_map _ hb, Result.andThen]
  rfl
theorem MapZ.clear (h : MapZ P k w b f) {t e : TypeId} (ht : P.underlying t = some (.map k e)) (ty : TypeId) :
    ∃ w1, (Builtin.clear_ #[t] ty #[.map (some b)]).run P w = .ok (.tuple #[]) w1 ∧ MapZ P k w1 b (fun _ => none) ∧ w.mapTurned w1 b := by
  obtain ⟨D, n, ⟨es, clock, hb, F, hs, hD⟩, hn, h2⟩ := h.ex
  exact ⟨_, run_clear_map ht hb ty, ⟨h.und, ⟨.map [], 0, ⟨#[], clock, heap_setBlock_same hb _, fit_empty P k clock, by simp, rfl⟩, by omega, fun x _ => rfl⟩, fun _ _ => rfl⟩, ⟨es, clock, _, _, hb, rfl⟩⟩
end
section
variable {P : Program} {k : TypeId} {κ : Type} {X : KX P k κ} {w : World} {b : Nat} {f : κ → Option Value}
end
end Go.Proofs.Ytfgfiiknbkakaaa.Fl

set_option linter.unusedVariables false
set_option linter.unusedSimpArgs false
set_option maxRecDepth 20000
namespace Go.Proofs.Ytfgfiiknbkakaaa.Tm
open Go.ChangeShapes Go.WideShapes Go.ChangeAt Go.RowKit Go.Deep Go.Proofs.Ytfgfiiknbkakaaa.Words
def rowL (f : Hp) (n : Nat) : List Value := (List.range n).map fun j => tptr (f j).b
/-- An entry's cells. -/
def enA (e : En) (j : Nat) : Array Value := #[.int .i64 e.k, .int .u64 (e.a : Int), .int .i64 (j : Int)]
/-- The queue in memory: its row, its entries, each with its place; mv: the table's other cell. -/
structure QM (w : World) (p : Nat) (mv : Value) (A : Option Addr) (n cap : Nat) (f : Hp) : Prop where
  blk : Blk w p 58 #[.slice A n cap, mv]
  row : w.ownsRow 0 109 1 (.slice A n cap) n (rowL f n)
  ent : ∀ j, j < n → Blk w (f j).b 112 (enA (f j) j)
  inj : ∀ i j, i < n → j < n → (f i).b = (f j).b → i = j
  few : n ≤ 1000000
  bnd : ∀ j, j < n → (f j).a ≤ 18446744073709551615 ∧ -9223372036854775808 ≤ (f j).k ∧ (f j).k ≤ 9223372036854775807
/-- Its blocks. -/
def QG (p : Nat) (A : Option Addr) (n : Nat) (f : Hp) (i : Nat) : Prop := i = p ∨ (∃ a : Addr, A = some a ∧ a.block = i) ∨ (∃ j, j < n ∧ (f j).b = i)
section
variable {w w' : World} {p n cap i j : Nat} {mv : Value} {A : Option Addr} {f g : Hp} {S : Nat → Prop}
theorem rowL_len (f : Hp) (n : Nat) : (rowL f n).length = n := by simp [rowL]
theorem rowL_at (h : j < n) : (rowL f n)[j]? = some (tptr (f j).b) := by simp [rowL, h]
theorem rowL_succ (f : Hp) (n : Nat) : rowL f (n + 1) = rowL f n ++ [tptr (f n).b] := by simp [rowL, List.range_succ]
theorem QM.lt (h : QM w p mv A n cap f) (hi : QG p A n f i) : i < w.heap.size := by
  rcases hi with rfl | ⟨a, rfl, rfl⟩ | ⟨j, hj, rfl⟩
  · exact h.blk.lt
  · exact (h.row.lt a.block rfl).2
  · exact (h.ent j hj).lt
theorem QM.fr (h : QM w p mv A n cap f) (hf : Fr S w w') (hS : ∀ i, S i → ¬ QG p A n f i) : QM w' p mv A n cap f :=
  ⟨hf.blk h.blk (fun e => hS _ e (.inl rfl)), hf.own h.row (fun g hg e => by
    cases A with
    | none => cases hg
    | some a => exact hS _ e (.inr (.inl ⟨a, rfl, by injection hg⟩))), fun j hj => hf.blk (h.ent j hj) (fun e => hS _ e (.inr (.inr ⟨j, hj, rfl⟩))), h.inj, h.few, h.bnd⟩
theorem QM.drewN (h : QM w p mv A n cap f) (k : Nat) : QM (w.drewN k) p mv A n cap f := h.fr ((Fr.refl (fun _ => False) w).drewN k) (fun _ h => h.elim)
theorem QM.drew (h : QM w p mv A n cap f) : QM w.drew p mv A n cap f := h.fr ((Fr.refl (fun _ => False) w).drew) (fun _ h => h.elim)
/-- What stands at a place. -/
theorem QM.at_ (h : QM w p mv A n cap f) (hj : j < n) : ∃ q, A = some ⟨q, 0, none⟩ ∧ w.cell? ⟨q, j, none⟩ = some (tptr (f j).b) ∧ w.frozen? ⟨q, j, none⟩ = false := by
  have ho := h.row
  rcases ho.2 with ⟨_, h0⟩ | ⟨q, c, cur, e, _⟩
  · omega
  · injection e with e _ _
    subst e
    exact ⟨q, rfl, by rw [ho.cellAt j (by omega), rowL_at hj], ho.frozenAt j⟩
theorem QM.cap_ (h : QM w p mv A n cap f) : n ≤ cap ∧ cap ≤ 9223372036854775807 := by
  obtain ⟨A', c, e, h1, h2⟩ := own_slice h.row
  injection e with _ _ e
  subst e
  exact ⟨h1, h2⟩
theorem QM.row_ne (h : QM w p mv A n cap f) {q : Nat} (hq : A = some ⟨q, 0, none⟩) : q ≠ p ∧ ∀ j, j < n → (f j).b ≠ q := by
  subst hq
  exact ⟨fun e => own_blk_ne h.row h.blk (by decide) (by rw [← e]; rfl), fun j hj e => own_blk_ne h.row (h.ent j hj) (by decide) (by rw [e]; rfl)⟩
theorem QM.ent_ne (h : QM w p mv A n cap f) (hj : j < n) : (f j).b ≠ p := (h.ent j hj).ne_ h.blk (by decide)
theorem len_q (h : QM w p mv A n cap f) : Calls Try.prog 123 #[.slice A n cap] w fun e w' => e = .returned (.int .i64 (n : Int)) ∧ w = w' := by
  have := h.few
  go_enter Try.func123, Try.ntmps123
  go_wp2_with fail
  go_ret
  exact ⟨rfl, rfl⟩
theorem less_q (h : QM w p mv A n cap f) (hi : i < n) (hj : j < n) : Calls Try.prog 124 #[.slice A n cap, .int .i64 (i : Int), .int .i64 (j : Int)] w fun e w' => e = .returned (.bool (decide (Tm.lt (f i).key (f j).key))) ∧ ∃ m, w' = w.drewN m := by
  obtain ⟨q, rfl, ci, _⟩ := h.at_ hi
  obtain ⟨q', e, cj, _⟩ := h.at_ hj
  injection e with e
  injection e with e _ _
  subst e
  have ei := h.ent i hi
  have ej := h.ent j hj
  obtain ⟨bi, hbi⟩ : ∃ b, b = (f i).b := ⟨_, rfl⟩
  obtain ⟨bj, hbj⟩ : ∃ b, b = (f j).b := ⟨_, rfl⟩
  obtain ⟨ai, hai⟩ : ∃ b, b = (f i).a := ⟨_, rfl⟩
  obtain ⟨aj, haj⟩ : ∃ b, b = (f j).a := ⟨_, rfl⟩
  obtain ⟨ki, hki⟩ : ∃ b, b = (f i).k := ⟨_, rfl⟩
  obtain ⟨kj, hkj⟩ : ∃ b, b = (f j).k := ⟨_, rfl⟩
  unfold enA at ei ej
  have HL : Hid (decide (Tm.lt (f i).key (f j).key) = if ai = aj then decide (ki < kj) else decide (ai < aj)) := by
    show decide (Tm.lt (f i).key (f j).key) = _
    rw [hai, haj, hki, hkj]
    unfold Tm.lt En.key
    dsimp only
    split
    · rename_i e
      rw [e]
      exact decide_eq_decide.2 (by omega)
    · rename_i e
      exact decide_eq_decide.2 (by omega)
  rw [← hbi] at ci ei
  rw [← hbj] at cj ej
  rw [← hai, ← hki] at ei
  rw [← haj, ← hkj] at ej
  have ki0 : w.cell? ⟨bi, 0, none⟩ = some (.int .i64 ki) := ei.cell 0
  have ki1 : w.cell? ⟨bi, 1, none⟩ = some (.int .u64 (ai : Int)) := ei.cell 1
  have kj0 : w.cell? ⟨bj, 0, none⟩ = some (.int .i64 kj) := ej.cell 0
  have kj1 : w.cell? ⟨bj, 1, none⟩ = some (.int .u64 (aj : Int)) := ej.cell 1
  have hnc := h.cap_
  have hi' : (i : Int) < (n : Int) := by omega
  have hj' : (j : Int) < (n : Int) := by omega
  clear hbi hbj hai haj hki hkj ei ej h
  go_enter Try.func124, Try.ntmps124
  go_wp2_with fail
  by_cases hne : ai = aj
  · subst hne
    have HL2 : Hid (decide (Tm.lt (f i).key (f j).key) = decide (ki < kj)) := by
      have := HL.out
      rw [if_pos rfl] at this
      exact this
    clear HL
    go_quiet (fail)
    go_wp2_with fail
    go_quiet (fail)
    go_wp2_with fail
    go_ret
    rw [HL2.out]
    exact ⟨rfl, _, World.drewN_drewN _ _ _⟩
  · have hne' : ¬ (ai : Int) = (aj : Int) := by omega
    have HL2 : Hid (decide (Tm.lt (f i).key (f j).key) = decide (ai < aj)) := by
      have := HL.out
      rw [if_neg hne] at this
      exact this
    clear HL
    go_quiet (fail)
    go_wp2_with fail
    go_quiet (fail)
    go_wp2_with fail
    go_ret
    rw [HL2.out]
    exact ⟨rfl, _, World.drewN_drewN _ _ _⟩
/-- The blocks that an exchange turns. -/
def QS (A : Option Addr) (n : Nat) (f : Hp) (i : Nat) : Prop := (∃ a : Addr, A = some a ∧ a.block = i) ∨ (∃ j, j < n ∧ (f j).b = i)
theorem swp_b (hi : i < n) (hj : j < n) {x : Nat} (hx : x < n) : ∃ y, y < n ∧ swp f i j x = f y := by
  unfold swp
  split
  · exact ⟨j, hj, rfl⟩
  · split
    · exact ⟨i, hi, rfl⟩
    · exact ⟨x, hx, rfl⟩
theorem QS.swp {x : Nat} (hi : i < n) (hj : j < n) (h : QS A n (Tm.swp f i j) x) : QS A n f x := by
  rcases h with h | ⟨y, hy, rfl⟩
  · exact .inl h
  · obtain ⟨z, hz, e⟩ := swp_b (f := f) hi hj hy
    exact .inr ⟨z, hz, by rw [e]⟩
theorem swp_set (f : Hp) (hi : i < n) (hj : j < n) (hij : i ≠ j) : ((rowL f n).set i (tptr (f j).b)).set j (tptr (f i).b) = rowL (swp f i j) n := by
  refine List.ext_getElem? (fun x => ?_)
  rw [List.getElem?_set, List.getElem?_set, List.length_set, rowL_len]
  rcases Nat.lt_or_ge x n with hx | hx
  · rw [rowL_at hx, rowL_at hx]
    by_cases e1 : j = x
    · subst e1
      rw [if_pos rfl, if_pos hj, swp_r]
    · rw [if_neg e1]
      by_cases e2 : i = x
      · subst e2
        rw [if_pos rfl, if_pos hi, swp_l]
      · rw [if_neg e2, swp_o (fun e => e2 e.symm) (fun e => e1 e.symm)]
  · rw [List.getElem?_eq_none (by rw [rowL_len]; exact hx), List.getElem?_eq_none (by rw [rowL_len]; exact hx), if_neg (by omega), if_neg (by omega)]
/-- The row's two cells have turned. -/
structure Half (w W : World) (p : Nat) (mv : Value) (q n cap : Nat) (f : Hp) (i j : Nat) : Prop where
  blk : Blk W p 58 #[.slice (some ⟨q, 0, none⟩) n cap, mv]
  row : W.ownsRow 0 109 1 (.slice (some ⟨q, 0, none⟩) n cap) n (rowL (swp f i j) n)
  ent : ∀ j, j < n → Blk W (f j).b 112 (enA (f j) j)
  fr : Fr (fun x => x = q) w W
theorem QM.half {q : Nat} (h : QM w p mv (some ⟨q, 0, none⟩) n cap f) (hi : i < n) (hj : j < n) (hij : i ≠ j) : Half w ((w.setCell ⟨q, i, none⟩ (tptr (f j).b)).setCell ⟨q, j, none⟩ (tptr (f i).b)).drew p mv q n cap f i j := by
  obtain ⟨n1, n2⟩ := h.row_ne rfl
  have hf : Fr (fun x => x = q) w ((w.setCell ⟨q, i, none⟩ (tptr (f j).b)).setCell ⟨q, j, none⟩ (tptr (f i).b)).drew := (((Fr.refl (fun x => x = q) w).setCell (p := ⟨q, i, none⟩) (.inl rfl) _).setCell (p := ⟨q, j, none⟩) (.inl rfl) _).drew
  refine ⟨hf.blk h.blk (fun e => n1 e.symm), ?_, fun y hy => hf.blk (h.ent y hy) (n2 y hy), hf⟩
  have h1 := (h.row.stored i (tptr (f j).b)).1
  have h2 := (h1.stored j (tptr (f i).b)).1
  rw [swp_set f hi hj hij] at h2
  exact h2.drew
theorem Half.cells {q : Nat} {W : World} (h : Half w W p mv q n cap f i j) (hi : i < n) (hj : j < n) : W.cell? ⟨q, i, none⟩ = some (tptr (f j).b) ∧ W.cell? ⟨q, j, none⟩ = some (tptr (f i).b) := by
  refine ⟨?_, ?_⟩
  · rw [h.row.cellAt i (by omega), rowL_at hi, swp_l]
  · rw [h.row.cellAt j (by omega), rowL_at hj, swp_r]
theorem Half.fin {q : Nat} {W : World} (h0 : QM w p mv (some ⟨q, 0, none⟩) n cap f) (h : Half w W p mv q n cap f i j) (hi : i < n) (hj : j < n) (hij : i ≠ j) :
    QM ((W.setCell ⟨(f j).b, 2, none⟩ (.int .i64 (i : Int))).setCell ⟨(f i).b, 2, none⟩ (.int .i64 (j : Int))).drew p mv (some ⟨q, 0, none⟩) n cap (swp f i j) ∧ Fr (QS (some ⟨q, 0, none⟩) n f) w ((W.setCell ⟨(f j).b, 2, none⟩ (.int .i64 (i : Int))).setCell ⟨(f i).b, 2, none⟩ (.int .i64 (j : Int))).drew := by
  obtain ⟨n1, n2⟩ := h0.row_ne rfl
  have hf : Fr (fun x => x = (f j).b ∨ x = (f i).b) W ((W.setCell ⟨(f j).b, 2, none⟩ (.int .i64 (i : Int))).setCell ⟨(f i).b, 2, none⟩ (.int .i64 (j : Int))).drew := (((Fr.refl (fun x => x = (f j).b ∨ x = (f i).b) W).setCell (p := ⟨(f j).b, 2, none⟩) (.inl (.inl rfl)) _).setCell (p := ⟨(f i).b, 2, none⟩) (.inl (.inr rfl)) _).drew
  have nij : (f i).b ≠ (f j).b := fun e => hij (h0.inj i j hi hj e)
  have b1 : Blk (W.setCell ⟨(f j).b, 2, none⟩ (.int .i64 (i : Int))) (f j).b 112 (enA (f j) i) := (h.ent j hj).set_ 2 _
  have b2 : Blk ((W.setCell ⟨(f j).b, 2, none⟩ (.int .i64 (i : Int))).setCell ⟨(f i).b, 2, none⟩ (.int .i64 (j : Int))).drew (f j).b 112 (enA (f j) i) := Blk.far b1 (Ne.symm nij) _
  have b3 : Blk (W.setCell ⟨(f j).b, 2, none⟩ (.int .i64 (i : Int))) (f i).b 112 (enA (f i) i) := Blk.far (h.ent i hi) nij _
  have b4 : Blk ((W.setCell ⟨(f j).b, 2, none⟩ (.int .i64 (i : Int))).setCell ⟨(f i).b, 2, none⟩ (.int .i64 (j : Int))).drew (f i).b 112 (enA (f i) j) := b3.set_ 2 _
  refine ⟨⟨hf.blk h.blk ?_, hf.own h.row ?_, fun y hy => ?_, fun x y hx hy e => ?_, h0.few, fun y hy => ?_⟩, ?_⟩
  · rintro (e | e)
    · exact h0.ent_ne hj e.symm
    · exact h0.ent_ne hi e.symm
  · intro g hg
    have hg' : q = g := by injection hg
    rintro (e | e)
    · exact n2 j hj (by rw [hg', e])
    · exact n2 i hi (by rw [hg', e])
  · by_cases e1 : y = i
    · subst e1; rw [swp_l]; exact b2
    · by_cases e2 : y = j
      · subst e2; rw [swp_r]; exact b4
      · rw [swp_o e1 e2]
        refine hf.blk (h.ent y hy) ?_
        rintro (e | e)
        · exact e2 (h0.inj y j hy hj e)
        · exact e1 (h0.inj y i hy hi e)
  · have hx' : swp f i j x = f (if x = i then j else if x = j then i else x) := by unfold Tm.swp; split <;> (try split) <;> rfl
    have hy' : swp f i j y = f (if y = i then j else if y = j then i else y) := by unfold Tm.swp; split <;> (try split) <;> rfl
    rw [hx', hy'] at e
    have := h0.inj _ _ (by split <;> (try split) <;> omega) (by split <;> (try split) <;> omega) e
    split at this <;> split at this <;> (try split at this) <;> (try split at this) <;> omega
  · obtain ⟨z, hz, e⟩ := swp_b (f := f) hi hj hy
    rw [e]
    exact h0.bnd z hz
  · refine (h.fr.mono (T := QS (some ⟨q, 0, none⟩) n f) (fun x _ hx => ?_)).trans hf (fun x _ hx => ?_)
    · exact .inl ⟨_, rfl, (show x = q from hx).symm⟩
    · rcases hx with rfl | rfl
      · exact .inr ⟨j, hj, rfl⟩
      · exact .inr ⟨i, hi, rfl⟩
set_option maxHeartbeats 3200000 in
theorem swap_q (h : QM w p mv A n cap f) (hi : i < n) (hj : j < n) (hij : i ≠ j) : Calls Try.prog 125 #[.slice A n cap, .int .i64 (i : Int), .int .i64 (j : Int)] w fun e w' => e = .returned (.tuple #[]) ∧ QM w' p mv A n cap (swp f i j) ∧ Fr (QS A n f) w w' := by
  obtain ⟨q, rfl, ci, fi⟩ := h.at_ hi
  obtain ⟨q', e, cj, fj⟩ := h.at_ hj
  injection e with e
  injection e with e _ _
  subst e
  have H0 := Lib.hid h
  obtain ⟨bi, hbi⟩ : ∃ b, b = (f i).b := ⟨_, rfl⟩
  obtain ⟨bj, hbj⟩ : ∃ b, b = (f j).b := ⟨_, rfl⟩
  rw [← hbi] at ci
  rw [← hbj] at cj
  have HBI := Lib.hid hbi
  have HBJ := Lib.hid hbj
  have hnc := h.cap_
  have hi' : (i : Int) < (n : Int) := by omega
  have hj' : (j : Int) < (n : Int) := by omega
  have hijI : ¬ (i : Int) = (j : Int) := by omega
  have hji : ¬ j = i := fun e => hij e.symm
  clear hbi hbj h
  go_enter Try.func125, Try.ntmps125
  go_upto_region 0 with (fail)
  go_region
  obtain ⟨W1, hW1⟩ : ∃ W1, W1 = ((w.setCell ⟨q, i, none⟩ (.pointer (some ⟨bj, 0, none⟩))).setCell ⟨q, j, none⟩ (.pointer (some ⟨bi, 0, none⟩))).drew := ⟨_, rfl⟩
  have HH : Hid (Half w W1 p mv q n cap f i j) := by
    rw [hW1, HBI.out, HBJ.out]
    exact H0.out.half hi hj hij
  rw [← hW1]
  clear hW1 ci cj fi fj
  obtain ⟨ci, cj⟩ := HH.out.cells hi hj
  have ei := HH.out.ent i hi
  have ej := HH.out.ent j hj
  have HF := Lib.hid (HH.out.fin H0.out hi hj hij)
  have hne : bi ≠ bj := fun e => hij (H0.out.inj i j hi hj (by rw [← HBI.out, ← HBJ.out]; exact e))
  rw [← HBI.out, ← HBJ.out] at HF
  rw [← HBI.out] at cj ei
  rw [← HBJ.out] at ci ej
  have zi : W1.cell? ⟨bi, 2, none⟩ = some (.int .i64 (i : Int)) := ei.cell 2
  have zj : W1.cell? ⟨bj, 2, none⟩ = some (.int .i64 (j : Int)) := ej.cell 2
  have fi := ei.frozen 2
  have fj := ej.frozen 2
  have hne2 : ¬ bj = bi := fun e => hne e.symm
  clear ei ej HH H0
  go_wp2_with fail
  go_region
  go_wp2_with fail
  go_end0
  exact ⟨rfl, HF.out.1, HF.out.2⟩
end
end Go.Proofs.Ytfgfiiknbkakaaa.Tm
