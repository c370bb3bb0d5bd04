/-
  Of the texts MapX, FlMap, FlMem, Ser: what the laws reach.
-/
import Derived.Test.YtfgfiiknbkakaaaFC1
import Derived.Maps.Range
import Derived.Maps.OwnSet
import Derived.DeepKeys4
import Derived.Test.YtfgfiiknbkakaaaFC4
import Derived.Deep.MidRow
import Derived.Test.YtfgfiiknbkakaaaRows
import Derived.WalkKit
import Derived.ProofKit

set_option linter.unusedVariables false
set_option linter.unusedSimpArgs false
namespace Go.Proofs.Ytfgfiiknbkakaaa.Mx
open Go.ChangeShapes Go.WideShapes Go.ChangeAt Go.RowKit Go.Maps Go.Proofs.Ytfgfiiknbkakaaa.Words
open Go.ChangeMaps (notKey putKey delKey setBlock)
open Go.MapKept (stamped_iff)
open Go.WideElems (Fit rd rg pl rd_key rd_val rg_of)
def anyE (v : Value) : Option (DataW Value × List MemPlace) := some (.held v, [])
def tok : DataW Value → Option Value
  | .held v => some v
  | _ => none
def look (D : DataW Value) (kl : Lit) : Option Value := tok (D.atKey kl .nil)
/-- The keys of a type, named by the things of another one. -/
structure KX (P : Program) (k : TypeId) (κ : Type) where
  enc : κ → Value
  lit : κ → Lit
  dom : κ → Prop
  key : ∀ x, dom x → keyOf P k (enc x) = some (lit x)
  inj : ∀ x y, dom x → dom y → lit x = lit y → x = y
  sur : ∀ v l, keyOf P k v = some l → ∃ x, dom x ∧ v = enc x ∧ l = lit x
  law : Keyed P k
  few : ∀ l : List κ, l.Nodup → (∀ x ∈ l, dom x) → l.length ≤ 1125899906842624
section
variable {P : Program} {k : TypeId} {κ : Type} {X : KX P k κ} {w w' : World} {b r n : Nat} {D : DataW Value} {f : κ → Option Value}
theorem keys_list (X : KX P k κ) : ∀ (es : List MapEntry), (∀ e ∈ es, ∃ l, keyOf P k e.key = some l) → ∃ xs : List κ, xs.map X.enc = es.map (·.key) ∧ ∀ x ∈ xs, X.dom x
  | [], _ => ⟨[], rfl, by simp⟩
  | e :: es, h => by
    obtain ⟨xs, h1, h2⟩ := keys_list X es (fun e' he => h e' (List.mem_cons_of_mem _ he))
    obtain ⟨l, hl⟩ := h e List.mem_cons_self
    obtain ⟨x, hx, e1, _⟩ := X.sur _ _ hl
    exact ⟨x :: xs, by simp [h1, e1], fun y hy => by
      rcases List.mem_cons.1 hy with rfl | hy
      · exact hx
      · exact h2 y hy⟩
theorem fit_few (X : KX P k κ) {R : Value → Option (DataW Value × List MemPlace)} {es : Array MapEntry} {clock : Nat} (F : Fit P k R es clock) : es.size ≤ 1125899906842624 := by
  obtain ⟨xs, h1, h2⟩ := keys_list X es.toList F.keys
  have hn : es.toList.Pairwise (fun x y => x.key ≠ y.key) := ((stamped_iff es clock).1 F.stamped).2.2
  have hnd : xs.Nodup := by
    have h3 : (es.toList.map (·.key)).Pairwise (· ≠ ·) := List.pairwise_map.2 hn
    rw [← h1] at h3
    have h4 := List.pairwise_map.1 h3
    exact h4.imp (fun {a b} hab e => hab (by rw [e]))
  have h5 := X.few xs hnd h2
  have h6 : xs.length = es.toList.length := by have := congrArg List.length h1; simpa using this
  rw [h6] at h5
  simpa using h5
theorem own_few (X : KX P k κ) (h : w.ownsMap P k anyE b n D) : w.ownsMap P k anyE b 1125899906842624 D := by
  obtain ⟨es, clock, hb, F, hs, hD⟩ := h
  exact ⟨es, clock, hb, F, fit_few X F, hD⟩
structure MapX (X : KX P k κ) (w : World) (b : Nat) (f : κ → Option Value) : Prop where
  ex : ∃ D, w.ownsMap P k anyE b 1125899906842624 D ∧ ∀ x, X.dom x → f x = look D (X.lit x)
  out : ∀ x, ¬ X.dom x → f x = none
def putF [DecidableEq κ] (f : κ → Option Value) (x : κ) (v : Value) : κ → Option Value := fun y => if y = x then some v else f y
def delF [DecidableEq κ] (f : κ → Option Value) (x : κ) : κ → Option Value := fun y => if y = x then none else f y
theorem MapX.new (X : KX P k κ) (w : World) : MapX X (w.alloc (.map #[] 0)) w.heap.size (fun _ => none) :=
  ⟨⟨.map [], (World.ownsMap_made w P k anyE).mono (Nat.zero_le _), fun x _ => rfl⟩, fun _ _ => rfl⟩
theorem MapX.lt (h : MapX X w b f) : b < w.heap.size := by obtain ⟨D, h1, _⟩ := h.ex; exact h1.lt
theorem MapX.same (h : MapX X w b f) (e : w'.heap[b]? = w.heap[b]?) : MapX X w' b f := by
  obtain ⟨D, ⟨es, clock, hb, F, hs, hD⟩, h2⟩ := h.ex
  exact ⟨⟨D, ⟨es, clock, e.trans hb, F, hs, hD⟩, h2⟩, h.out⟩
theorem MapX.fr {S : Nat → Prop} (h : MapX X w b f) (hf : Fr S w w') (hb : ¬ S b) : MapX X w' b f := h.same (hf.block b h.lt hb)
theorem MapX.as_ {g : κ → Option Value} (h : MapX X w b f) (e : ∀ x, f x = g x) : MapX X w b g := by rw [← funext e]; exact h
theorem MapX.drewN (h : MapX X w b f) (n : Nat) : MapX X (w.drewN n) b f := h.same rfl
theorem MapX.drew (h : MapX X w b f) : MapX X w.drew b f := h.same rfl
theorem MapX.look_run (h : MapX X w b f) {t e : TypeId} (ht : P.underlying t = some (.map k e)) {z : Value} (hz : (zeroValue e).run P w = .ok z w) (c : Bool) {x : κ} (hx : X.dom x) :
    (Instr.lookup t (.map (some b)) (X.enc x) c).run P w = .ok (if c then .tuple #[(f x).getD z, .bool (f x).isSome] else (f x).getD z) w := by
  obtain ⟨D, ⟨es, clock, hb, F, _, rfl⟩, h2⟩ := h.ex
  have h3 := h2 x hx
  rcases Maps.fit_look c X.law ht hz hb F (X.key x hx) with ⟨hrun, _, hat⟩ | ⟨e0, y, _, _, hrun, hRv, hat, _⟩
  · unfold look at h3
    rw [hat .nil] at h3
    rw [h3, hrun]
    rfl
  · unfold look at h3
    rw [hat .nil] at h3
    have e1 : y.1 = .held e0.val := by unfold anyE at hRv; injection hRv with hRv; rw [← hRv]
    rw [e1] at h3
    have h4 : f x = some e0.val := h3
    rw [h4, hrun]
    rfl
theorem MapX.look (h : MapX X w b f) {t e : TypeId} (ht : P.underlying t = some (.map k e)) {z : Value} (hz : (zeroValue e).run P w = .ok z w) {x : κ} (hx : X.dom x) :
    (Instr.lookup t (.map (some b)) (X.enc x) false).run P w = .ok ((f x).getD z) w := h.look_run ht hz false hx
theorem MapX.look_ok (h : MapX X w b f) {t e : TypeId} (ht : P.underlying t = some (.map k e)) {z : Value} (hz : (zeroValue e).run P w = .ok z w) {x : κ} (hx : X.dom x) :
    (Instr.lookup t (.map (some b)) (X.enc x) true).run P w = .ok (.tuple #[(f x).getD z, .bool (f x).isSome]) w := h.look_run ht hz true hx
theorem MapX.put [DecidableEq κ] (h : MapX X w b f) {t e : TypeId} (ht : P.underlying t = some (.map k e)) {x : κ} (hx : X.dom x) (v : Value) :
    ∃ w1, (Instr.mapUpdate t (.map (some b)) (X.enc x) v).run P w = .ok () w1 ∧ MapX X w1 b (putF f x v) ∧ w.mapTurned w1 b := by
  obtain ⟨D, hown, h2⟩ := h.ex
  obtain ⟨w1, hrun, hown1, hturn⟩ := hown.store X.law ht (by unfold maxLen; omega) (X.key x hx) (show anyE v = some (.held v, []) from rfl)
  refine ⟨w1, hrun, ⟨⟨_, own_few X hown1, fun y hy => ?_⟩, fun y hy => ?_⟩, hturn⟩
  · unfold putF Mx.look
    by_cases e : y = x
    · subst e
      rw [if_pos rfl, atKey_put_same hown.isMap (X.law.key (X.key y hy))]
      rfl
    · rw [if_neg e, atKey_put_other (fun e' => e (X.inj _ _ hy hx e')), h2 y hy]
      rfl
  · unfold putF
    rw [if_neg (fun e => hy (by rw [e]; exact hx))]
    exact h.out y hy
theorem MapX.del [DecidableEq κ] (h : MapX X w b f) {t e : TypeId} (ht : P.underlying t = some (.map k e)) {x : κ} (hx : X.dom x) (ty : TypeId) :
    ∃ w1, (Builtin.delete_ #[t, k] ty #[.map (some b), X.enc x]).run P w = .ok (.tuple #[]) w1 ∧ MapX X w1 b (delF f x) ∧ w.mapTurned w1 b := by
  obtain ⟨D, hown, h2⟩ := h.ex
  obtain ⟨w1, hrun, hown1, hturn⟩ := hown.drop X.law ht (X.key x hx) ty
  refine ⟨w1, hrun, ⟨⟨_, hown1, fun y hy => ?_⟩, fun y hy => ?_⟩, hturn⟩
  · unfold delF Mx.look
    by_cases e : y = x
    · subst e
      rw [if_pos rfl, atKey_del_same]
      rfl
    · rw [if_neg e, atKey_del_other (fun e' => e (X.inj _ _ hy hx e')), h2 y hy]
      rfl
  · unfold delF
    split
    · rfl
    · exact h.out y hy
theorem MapX.len (h : MapX X w b f) {t e : TypeId} (ht : P.underlying t = some (.map k e)) (ty : TypeId) :
    ∃ n : Nat, (Builtin.len_ #[t] ty #[.map (some b)]).run P w = .ok (.int .i64 (n : Int)) w ∧ n ≤ 1125899906842624 ∧ (n = 0 ↔ ∀ x, f x = none) := by
  obtain ⟨D, hown, h2⟩ := h.ex
  refine ⟨Maps.size D, hown.len ht ty, hown.size_le, ?_⟩
  obtain ⟨es, clock, hb, F, hs, rfl⟩ := hown
  have hsz : Maps.size (DataW.map ((es.toList.map (rg P k anyE)).foldr DataW.insert [])) = es.size := by simp [Maps.size, length_sorted]
  rw [hsz]
  constructor
  · intro h0 x
    rcases Classical.em (X.dom x) with hx | hx
    · rw [h2 x hx]
      have : es = #[] := Array.eq_empty_of_size_eq_zero h0
      subst this
      rfl
    · exact h.out x hx
  · intro hall
    rcases Nat.eq_zero_or_pos es.size with h0 | h0
    · exact h0
    · exfalso
      have hmem : es[0] ∈ es.toList := by simp
      obtain ⟨l, hl⟩ := F.keys _ hmem
      obtain ⟨x, hx, e1, e2⟩ := X.sur _ _ hl
      have h3 := h2 x hx
      rw [hall x] at h3
      obtain ⟨y, hy⟩ := F.reads _ hmem
      obtain ⟨z, hz, hzd⟩ := rd_val hy
      have hkey := rd_key hy
      rw [hl] at hkey
      injection hkey with hkey
      have hat := (atKey_sorted (es.toList.map (rg P k anyE)) (Maps.fit_rising X.law F) l (X.law.key hl)).2 (rg P k anyE es[0]) (List.mem_map.2 ⟨_, hmem, rfl⟩) (by rw [rg_of hy]; exact hkey.symm) .nil
      unfold Mx.look at h3
      rw [← e2, hat, rg_of hy] at h3
      unfold anyE at hz
      injection hz with hz
      have e4 : y.2 = .held es[0].val := by rw [hzd, ← hz]
      rw [e4] at h3
      cases h3
structure RangeX (X : KX P k κ) (w : World) (b r : Nat) (f : κ → Option Value) (left : κ → Bool) (cnt : Nat) : Prop where
  ex : ∃ D lf, w.ranges P k anyE b r 1125899906842624 D lf cnt ∧ (∀ x, X.dom x → f x = look D (X.lit x)) ∧ ∀ x, X.dom x → left x = lf (X.lit x)
  out : ∀ x, ¬ X.dom x → f x = none ∧ left x = false
variable {left : κ → Bool} {cnt : Nat}
theorem RangeX.map (h : RangeX X w b r f left cnt) : MapX X w b f := by
  obtain ⟨D, lf, h1, h2, h3⟩ := h.ex
  exact ⟨⟨D, h1.owns, h2⟩, fun x hx => (h.out x hx).1⟩
theorem RangeX.ne (h : RangeX X w b r f left cnt) : r ≠ b := by obtain ⟨D, lf, h1, _⟩ := h.ex; exact h1.ne
theorem RangeX.lt (h : RangeX X w b r f left cnt) : r < w.heap.size := by obtain ⟨D, lf, h1, _⟩ := h.ex; exact h1.lt
theorem RangeX.fr {S : Nat → Prop} (h : RangeX X w b r f left cnt) (hf : Fr S w w') (hb : ¬ S b) (hr : ¬ S r) : RangeX X w' b r f left cnt := by
  have l1 := h.map.lt
  have l2 := h.lt
  obtain ⟨D, lf, ⟨es, clock, since, seen, c0, h1, F, hs, hD, h4, rest⟩, h2, h3⟩ := h.ex
  exact ⟨⟨D, lf, ⟨es, clock, since, seen, c0, (hf.block b l1 hb).trans h1, F, hs, hD, (hf.block r l2 hr).trans h4, rest⟩, h2, h3⟩, h.out⟩
theorem RangeX.as_ {left' : κ → Bool} (h : RangeX X w b r f left cnt) (e : ∀ x, left x = left' x) : RangeX X w b r f left' cnt := by rw [← funext e]; exact h
theorem RangeX.left_eq (h : RangeX X w b r f left cnt) : w.rangeLeft b r = cnt := by obtain ⟨D, lf, h1, _⟩ := h.ex; exact h1.left_eq
theorem MapX.range (h : MapX X w b f) {t e : TypeId} (ht : P.underlying t = some (.map k e)) :
    ∃ w1 cnt, (Instr.range t (.map (some b))).run P w = .ok (.pointer (some ⟨w.heap.size, 0, none⟩)) w1 ∧ RangeX X w1 b w.heap.size f (fun x => (f x).isSome) cnt ∧ w.grownBy w1 none ∧ w1.heap.size = w.heap.size + 1 := by
  obtain ⟨D, hown, h2⟩ := h.ex
  obtain ⟨w1, hrun, hrg, hg, hs⟩ := hown.range X.law ht
  refine ⟨w1, _, hrun, ⟨⟨D, _, hrg, h2, fun x hx => ?_⟩, fun x hx => ⟨h.out x hx, by rw [h.out x hx]; rfl⟩⟩, hg, hs⟩
  rw [h2 x hx]
  obtain ⟨es, clock, hb, F, _, rfl⟩ := hown
  obtain ⟨hrun2, hh⟩ := (show (∃ z : World, z = w) ∧ True from ⟨⟨w, rfl⟩, trivial⟩)
  rcases Classical.em (∃ e ∈ es.toList, keyOf P k e.key = some (X.lit x)) with ⟨e0, hmem, hl⟩ | hno
  · obtain ⟨y, hy⟩ := F.reads _ hmem
    obtain ⟨z, hz, hzd⟩ := rd_val hy
    have hkey := rd_key hy
    rw [hl] at hkey
    injection hkey with hkey
    have hat := fun zd => (atKey_sorted (es.toList.map (rg P k anyE)) (Maps.fit_rising X.law F) (X.lit x) (X.law.key hl)).2 (rg P k anyE e0) (List.mem_map.2 ⟨_, hmem, rfl⟩) (by rw [rg_of hy]; exact hkey.symm) zd
    have e4 : y.2 = .held e0.val := by
      unfold anyE at hz
      injection hz with hz
      rw [hzd, ← hz]
    rw [rg_of hy, e4] at hat
    unfold Mx.look
    rw [hat .nil, Maps.has_true_of_atKey hat]
    rfl
  · have hhas : Maps.has (DataW.map ((es.toList.map (rg P k anyE)).foldr DataW.insert [])) (X.lit x) = false := by
      cases hc : Maps.has (DataW.map ((es.toList.map (rg P k anyE)).foldr DataW.insert [])) (X.lit x)
      · rfl
      · exfalso
        obtain ⟨p, hp, hpk⟩ := List.any_eq_true.1 hc
        obtain ⟨e0, hm, rfl⟩ := List.mem_map.1 (mem_sorted.1 hp)
        obtain ⟨y, hy⟩ := F.reads _ hm
        rw [rg_of hy] at hpk
        exact hno ⟨e0, hm, by rw [rd_key hy, WideAt.sameKey_eq hpk]⟩
    rw [hhas]
    unfold Mx.look
    rw [atKey_of_not_has hhas]
    rfl
theorem RangeX.next [DecidableEq κ] (h : RangeX X w b r f left cnt) (ty : TypeId) :
    ((∀ x, left x = false) ∧ (Instr.next (.pointer (some ⟨r, 0, none⟩)) false ty).run P w = .ok (.tuple #[.bool false]) w) ∨
    ∃ x v w1 cnt1, X.dom x ∧ left x = true ∧ f x = some v ∧ (Instr.next (.pointer (some ⟨r, 0, none⟩)) false ty).run P w = .ok (.tuple #[.bool true, X.enc x, v]) w1 ∧
      RangeX X w1 b r f (fun y => left y && !decide (y = x)) cnt1 ∧ cnt1 < cnt ∧ w.grownBy w1 (some r) ∧ w1.heap.size = w.heap.size ∧ (Instr.entry (.pointer (some ⟨r, 0, none⟩))).run P w1 = .ok (.tuple #[X.enc x, v]) w1 := by
  obtain ⟨D, lf, h1, h2, h3⟩ := h.ex
  rcases h1.next X.law ty with ⟨h0, hl, hrun⟩ | ⟨key, v, kl, y, w1, cnt1, hkey, hlk, hv, hat, hrun, hrg, hlt, hgr, hsz, hen⟩
  · refine .inl ⟨fun x => ?_, hrun⟩
    rcases Classical.em (X.dom x) with hx | hx
    · rw [h3 x hx]; exact hl _
    · exact (h.out x hx).2
  · obtain ⟨x, hx, rfl, rfl⟩ := X.sur _ _ hkey
    refine .inr ⟨x, v, w1, cnt1, hx, by rw [h3 x hx]; exact hlk, ?_, hrun, ⟨⟨D, _, hrg, h2, fun z hz => ?_⟩, fun z hz => ⟨(h.out z hz).1, by rw [(h.out z hz).2]; rfl⟩⟩, hlt, hgr, hsz, hen⟩
    · rw [h2 x hx]
      unfold Mx.look
      rw [hat .nil]
      unfold anyE at hv
      injection hv with hv
      rw [← hv]
      rfl
    · show (left z && !decide (z = x)) = _
      rw [h3 z hz]
      congr 2
      by_cases e : z = x
      · subst e
        rw [decide_eq_true rfl, WideAt.sameKey_self (X.law.key hkey)]
      · rw [decide_eq_false e, sameKey_ne (fun e' => e (X.inj _ _ hz hx e'))]
theorem RangeX.del [DecidableEq κ] (h : RangeX X w b r f left cnt) {t e : TypeId} (ht : P.underlying t = some (.map k e)) {x : κ} (hx : X.dom x) (ty : TypeId) :
    ∃ w1 cnt1, (Builtin.delete_ #[t, k] ty #[.map (some b), X.enc x]).run P w = .ok (.tuple #[]) w1 ∧ RangeX X w1 b r (delF f x) (fun y => left y && !decide (y = x)) cnt1 ∧ cnt1 ≤ cnt ∧ w.mapTurned w1 b := by
  obtain ⟨D, lf, h1, h2, h3⟩ := h.ex
  obtain ⟨w1, cnt1, hrun, hrg, hle, hturn⟩ := h1.drop X.law ht (X.key x hx) ty
  refine ⟨w1, cnt1, hrun, ⟨⟨_, _, hrg, fun y hy => ?_, fun z hz => ?_⟩, fun z hz => ⟨?_, by rw [(h.out z hz).2]; rfl⟩⟩, hle, hturn⟩
  · unfold delF Mx.look
    by_cases e : y = x
    · subst e
      rw [if_pos rfl, atKey_del_same]
      rfl
    · rw [if_neg e, atKey_del_other (fun e' => e (X.inj _ _ hy hx e')), h2 y hy]
      rfl
  · show (left z && !decide (z = x)) = _
    rw [h3 z hz]
    congr 2
    by_cases e : z = x
    · subst e
      rw [decide_eq_true rfl, WideAt.sameKey_self (X.law.key (X.key z hx))]
    · rw [decide_eq_false e, sameKey_ne (fun e' => e (X.inj _ _ hz hx e'))]
  · unfold delF
    split
    · rfl
    · exact (h.out z hz).1
end
theorem nodup_lt : ∀ (l : List Nat) (N : Nat), l.Nodup → (∀ x ∈ l, x < N) → l.length ≤ N := by
  intro l N hn hl
  have h1 : l.Perm ((List.range N).filter fun x => decide (x ∈ l)) := (List.perm_ext_iff_of_nodup hn (List.nodup_range.filter _)).2 (fun x => by
    simp only [List.mem_filter, List.mem_range, decide_eq_true_eq]
    exact ⟨fun hx => ⟨hl x hx, hx⟩, fun hx => hx.2⟩)
  have h2 := h1.length_eq
  have h3 := List.length_filter_le (fun x => decide (x ∈ l)) (List.range N)
  rw [List.length_range] at h3
  omega
def intKX (P : Program) (t : TypeId) (q : IntKind) (B : Nat) (ht : P.underlying t = some (.int q)) (hB : B ≤ 1125899906842624) (hwf : ∀ a : Int, (Lit.int q a).wf = true ↔ 0 ≤ a ∧ a < (B : Int)) : KX P t Nat where
  enc x := .int q (x : Int)
  lit x := .int q (x : Int)
  dom x := x < B
  key x hx := keyOf_int_mk ht ((hwf _).2 (by omega))
  inj x y _ _ h := by injection h with _ h; omega
  sur v l h := by
    cases v <;> simp [keyOf, ht, mapKey] at h
    obtain ⟨⟨rfl, hw⟩, rfl⟩ := h
    rename_i a
    have := (hwf a).1 hw
    exact ⟨a.toNat, by omega, by rw [Int.toNat_of_nonneg this.1], by rw [Int.toNat_of_nonneg this.1]⟩
  law := int_keyed ht
  few l hn hl := Nat.le_trans (nodup_lt l B hn hl) hB
end Go.Proofs.Ytfgfiiknbkakaaa.Mx

set_option linter.unusedVariables false
set_option linter.unusedSimpArgs false
set_option maxRecDepth 20000
namespace Go.Proofs.Ytfgfiiknbkakaaa.Fl
open Go.ChangeShapes Go.WideShapes Go.ChangeAt Go.RowKit Go.Deep Go.Maps Go.Proofs.Ytfgfiiknbkakaaa.Words Go.Proofs.Ytfgfiiknbkakaaa.Mx
open Go.ChangeMaps (notKey putKey delKey setBlock heap_setBlock_same)
open Go.MapKept (stamped_iff)
open Go.WideElems (Fit rd rg pl rd_key rd_val rg_of)
def i64ok (x : Int) : Prop := -9223372036854775808 ≤ x ∧ x ≤ 9223372036854775807
theorem i64_wf {a : Int} : (Lit.int .i64 a).wf = true ↔ i64ok a := by simp [Lit.wf, IntKind.min, IntKind.max, IntKind.bits, IntKind.signed, i64ok]
section
variable {P : Program} {k : TypeId} {w w' : World} {b : Nat} {D : DataW Value} {f : Int → Option Value}
/-- A map of keys of the kind int: what it holds at each. -/
structure MapZ (P : Program) (k : TypeId) (w : World) (b : Nat) (f : Int → Option Value) : Prop where
  und : P.underlying k = some (.int .i64)
  ex : ∃ D n, w.ownsMap P k anyE b n D ∧ n ≤ 1125899906842624 ∧ ∀ x, i64ok x → f x = Mx.look D (.int .i64 x)
  out : ∀ x, ¬ i64ok x → f x = none
/-- All that it holds stands at keys of this list. -/
def Few (f : Int → Option Value) (L : List Int) : Prop := ∀ x, f x ≠ none → x ∈ L
theorem keyz (hu : P.underlying k = some (.int .i64)) {x : Int} (hx : i64ok x) : keyOf P k (.int .i64 x) = some (.int .i64 x) := keyOf_int_mk hu (i64_wf.2 hx)
theorem surz (hu : P.underlying k = some (.int .i64)) {v : Value} {l : Lit} (h : keyOf P k v = some l) : ∃ x, i64ok x ∧ v = .int .i64 x ∧ l = .int .i64 x := by
  cases v <;> simp [keyOf, hu, mapKey] at h
  obtain ⟨⟨rfl, hw⟩, rfl⟩ := h
  exact ⟨_, i64_wf.1 hw, rfl, rfl⟩
theorem keysz (hu : P.underlying k = some (.int .i64)) : ∀ (es : List MapEntry), (∀ e ∈ es, ∃ l, keyOf P k e.key = some l) → ∃ xs : List Int, xs.map (fun x => Value.int .i64 x) = es.map (·.key) ∧ ∀ x ∈ xs, i64ok x
  | [], _ => ⟨[], rfl, by simp⟩
  | e :: es, h => by
    obtain ⟨xs, h1, h2⟩ := keysz hu es (fun e' he => h e' (List.mem_cons_of_mem _ he))
    obtain ⟨l, hl⟩ := h e List.mem_cons_self
    obtain ⟨x, hx, e1, _⟩ := surz hu hl
    exact ⟨x :: xs, by simp [h1, e1], fun y hy => by
      rcases List.mem_cons.1 hy with rfl | hy
      · exact hx
      · exact h2 y hy⟩
theorem nodup_sub {α : Type} [DecidableEq α] : ∀ (l L : List α), l.Nodup → (∀ x ∈ l, x ∈ L) → l.length ≤ L.length
  | [], _, _, _ => Nat.zero_le _
  | x :: l, L, hn, h => by
    have hx : x ∈ L := h x List.mem_cons_self
    have hn' := List.nodup_cons.1 hn
    have h2 := nodup_sub l (L.erase x) hn'.2 (fun y hy => (List.mem_erase_of_ne (fun e => hn'.1 (by rw [← e]; exact hy))).2 (h y (List.mem_cons_of_mem _ hy)))
    rw [List.length_erase_of_mem hx] at h2
    have hpos := List.length_pos_of_mem hx
    simp only [List.length_cons]
    omega
/-- How many it holds: no more than that list has. -/
theorem fit_fewz (hu : P.underlying k = some (.int .i64)) {n : Nat} (h : w.ownsMap P k anyE b n D) (h2 : ∀ x, i64ok x → f x = Mx.look D (.int .i64 x)) {L : List Int} (hL : Few f L) : w.ownsMap P k anyE b L.length D := by
  obtain ⟨es, clock, hb, F, hs, rfl⟩ := h
  refine ⟨es, clock, hb, F, ?_, rfl⟩
  obtain ⟨xs, e1, e2⟩ := keysz hu es.toList F.keys
  have hn : es.toList.Pairwise (fun x y => x.key ≠ y.key) := ((stamped_iff es clock).1 F.stamped).2.2
  have hnd : xs.Nodup := by
    have h3 : (es.toList.map (·.key)).Pairwise (· ≠ ·) := List.pairwise_map.2 hn
    rw [← e1] at h3
    exact (List.pairwise_map.1 h3).imp (fun {a b} hab e => hab (by rw [e]))
  have h6 : xs.length = es.toList.length := by have := congrArg List.length e1; simpa using this
  have h5 := nodup_sub xs L hnd (fun x hx => hL x (by
    have hx1 : Value.int .i64 x ∈ es.toList.map (·.key) := by rw [← e1]; exact List.mem_map.2 ⟨x, hx, rfl⟩
    obtain ⟨e0, hmem, he0⟩ := List.mem_map.1 hx1
    obtain ⟨y, hy⟩ := F.reads _ hmem
    obtain ⟨z, hz, hzd⟩ := rd_val hy
    have hkey := rd_key hy
    rw [he0, keyz hu (e2 x hx)] at hkey
    injection hkey with hkey
    have K : Keyed P k := int_keyed hu
    have hat := (atKey_sorted (es.toList.map (rg P k anyE)) (Maps.fit_rising K F) (.int .i64 x) (K.key (keyz hu (e2 x hx)))).2 (rg P k anyE e0) (List.mem_map.2 ⟨_, hmem, rfl⟩) (by rw [rg_of hy]; exact hkey.symm) .nil
    rw [h2 x (e2 x hx)]
    unfold Mx.look
    rw [hat, rg_of hy]
    unfold anyE at hz
    injection hz with hz
    have e4 : y.2 = .held e0.val := by rw [hzd, ← hz]
    rw [e4]
    intro h; cases h))
  have : es.size = es.toList.length := by simp
  omega
theorem MapZ.new (hu : P.underlying k = some (.int .i64)) (w : World) : MapZ P k (w.alloc (.map #[] 0)) w.heap.size (fun _ => none) :=
  ⟨hu, ⟨.map [], 0, World.ownsMap_made w P k anyE, by omega, fun x _ => rfl⟩, fun _ _ => rfl⟩
theorem MapZ.lt (h : MapZ P k w b f) : b < w.heap.size := by obtain ⟨D, n, h1, _⟩ := h.ex; exact h1.lt
theorem MapZ.same (h : MapZ P k w b f) (e : w'.heap[b]? = w.heap[b]?) : MapZ P k w' b f := by
  obtain ⟨D, n, ⟨es, clock, hb, F, hs, hD⟩, hn, h2⟩ := h.ex
  exact ⟨h.und, ⟨D, n, ⟨es, clock, e.trans hb, F, hs, hD⟩, hn, h2⟩, h.out⟩
theorem MapZ.fr {S : Nat → Prop} (h : MapZ P k w b f) (hf : Fr S w w') (hb : ¬ S b) : MapZ P k w' b f := h.same (hf.block b h.lt hb)
theorem MapZ.as_ {g : Int → Option Value} (h : MapZ P k w b f) (e : ∀ x, f x = g x) : MapZ P k w b g := by rw [← funext e]; exact h
theorem MapZ.look (h : MapZ P k w b f) {t e : TypeId} (ht : P.underlying t = some (.map k e)) {z : Value} (hz : (zeroValue e).run P w = .ok z w) {x : Int} (hx : i64ok x) :
    (Instr.lookup t (.map (some b)) (.int .i64 x) false).run P w = .ok ((f x).getD z) w := by
  obtain ⟨D, n, ⟨es, clock, hb, F, _, rfl⟩, _, h2⟩ := h.ex
  have h3 := h2 x hx
  rcases Maps.fit_look false (int_keyed h.und) ht hz hb F (keyz h.und hx) with ⟨hrun, _, hat⟩ | ⟨e0, y, _, _, hrun, hRv, hat, _⟩
  · unfold Mx.look at h3
    rw [hat .nil] at h3
    rw [h3, hrun]
    rfl
  · unfold Mx.look at h3
    rw [hat .nil] at h3
    have e1 : y.1 = .held e0.val := by unfold anyE at hRv; injection hRv with hRv; rw [← hRv]
    rw [e1] at h3
    have h4 : f x = some e0.val := h3
    rw [h4, hrun]
    rfl
theorem MapZ.put (h : MapZ P k w b f) {t e : TypeId} (ht : P.underlying t = some (.map k e)) {x : Int} (hx : i64ok x) (v : Value) {L : List Int} (hL : Few f L) (hl : L.length ≤ 1073741824) :
    ∃ w1, (Instr.mapUpdate t (.map (some b)) (.int .i64 x) v).run P w = .ok () w1 ∧ MapZ P k w1 b (putF f x v) ∧ w.mapTurned w1 b := by
  obtain ⟨D, n, hown, hn, h2⟩ := h.ex
  have hown2 := fit_fewz h.und hown h2 hL
  have K : Keyed P k := int_keyed h.und
  obtain ⟨w1, hrun, hown1, hturn⟩ := hown2.store K ht (by unfold maxLen; omega) (keyz h.und hx) (show anyE v = some (.held v, []) from rfl)
  refine ⟨w1, hrun, ⟨h.und, ⟨_, _, hown1, by omega, fun y hy => ?_⟩, fun y hy => ?_⟩, hturn⟩
  · unfold putF Mx.look
    by_cases e : y = x
    · subst e
      rw [if_pos rfl, atKey_put_same hown2.isMap (K.key (keyz h.und hy))]
      rfl
    · rw [if_neg e, atKey_put_other (fun e' => e (by injection e')), h2 y hy]
      rfl
  · unfold putF
    rw [if_neg (fun e => hy (by rw [e]; exact hx))]
    exact h.out y hy
theorem MapZ.del (h : MapZ P k w b f) {t e : TypeId} (ht : P.underlying t = some (.map k e)) {x : Int} (hx : i64ok x) (ty : TypeId) :
    ∃ w1, (Builtin.delete_ #[t, k] ty #[.map (some b), .int .i64 x]).run P w = .ok (.tuple #[]) w1 ∧ MapZ P k w1 b (delF f x) ∧ w.mapTurned w1 b := by
  obtain ⟨D, n, hown, hn, h2⟩ := h.ex
  have K : Keyed P k := int_keyed h.und
  obtain ⟨w1, hrun, hown1, hturn⟩ := hown.drop K ht (keyz h.und hx) ty
  refine ⟨w1, hrun, ⟨h.und, ⟨_, _, hown1, hn, fun y hy => ?_⟩, fun y hy => ?_⟩, hturn⟩
  · unfold delF Mx.look
    by_cases e : y = x
    · subst e
      rw [if_pos rfl, atKey_del_same]
      rfl
    · rw [if_neg e, atKey_del_other (fun e' => e (by injection e')), h2 y hy]
      rfl
  · unfold delF
    split
    · rfl
    · exact h.out y hy
theorem fit_empty (P : Program) (k : TypeId) (clock : Nat) : Fit P k anyE #[] clock := by
  refine ⟨by simp, ?_, by simp⟩
  exact (stamped_iff #[] clock).2 ⟨by simp, by simp, by simp⟩
theorem run_clear_map {t e : TypeId} (ht : P.underlying t = some (.map k e)) {es : Array MapEntry} {clock : Nat} (hb : w.heap[b]? = some (.map es clock)) (ty : TypeId) :
    (Builtin.clear_ #[t] ty #[.map (some b)]).run P w = .ok (.tuple #[]) (setBlock w b (.map #[] clock)) := by
  simp [Builtin.clear_, run_underlying ht, MapKept.run_getObj_map hb, MapKept.run_setObj_map _ hb, Result.andThen]
  rfl
theorem MapZ.clear (h : MapZ P k w b f) {t e : TypeId} (ht : P.underlying t = some (.map k e)) (ty : TypeId) :
    ∃ w1, (Builtin.clear_ #[t] ty #[.map (some b)]).run P w = .ok (.tuple #[]) w1 ∧ MapZ P k w1 b (fun _ => none) ∧ w.mapTurned w1 b := by
  obtain ⟨D, n, ⟨es, clock, hb, F, hs, hD⟩, hn, h2⟩ := h.ex
  exact ⟨_, run_clear_map ht hb ty, ⟨h.und, ⟨.map [], 0, ⟨#[], clock, heap_setBlock_same hb _, fit_empty P k clock, by simp, rfl⟩, by omega, fun x _ => rfl⟩, fun _ _ => rfl⟩, ⟨es, clock, _, _, hb, rfl⟩⟩
end
section
variable {P : Program} {k : TypeId} {κ : Type} {X : KX P k κ} {w : World} {b : Nat} {f : κ → Option Value}
theorem mapX_clear (h : MapX X w b f) {t e : TypeId} (ht : P.underlying t = some (.map k e)) (ty : TypeId) :
    ∃ w1, (Builtin.clear_ #[t] ty #[.map (some b)]).run P w = .ok (.tuple #[]) w1 ∧ MapX X w1 b (fun _ => none) ∧ w.mapTurned w1 b := by
  obtain ⟨D, ⟨es, clock, hb, F, hs, hD⟩, h2⟩ := h.ex
  exact ⟨_, run_clear_map ht hb ty, ⟨⟨.map [], ⟨#[], clock, heap_setBlock_same hb _, fit_empty P k clock, by simp, rfl⟩, fun x _ => rfl⟩, fun _ _ => rfl⟩, ⟨es, clock, _, _, hb, rfl⟩⟩
end
def u32X : KX Try.prog 22 Nat := intKX _ _ .u32 4294967296 Try.underlying22 (by omega) (fun a => by simp [Lit.wf, IntKind.min, IntKind.max, IntKind.bits, IntKind.signed]; omega)
def lnV (g : Ln) : Value := .agg #[.int .u16 (g.1 : Int), .bool g.2]
theorem lin_ble : Nat.ble (132 + 1) Try.prog.types.size = true := by kernel_rfl
theorem lin_row : 132 < Try.prog.types.size := Nat.le_of_ble_eq_true lin_ble
theorem lin_at : Try.prog.keyTypeAt 3 132 = true := by kernel_rfl
theorem lin_key : Try.prog.keyType 132 = true := by kernel_rfl
theorem lin_laid : laidOutB Try.prog = true := by kernel_rfl
theorem lin_law : Keyed Try.prog 132 := Keyed.of_law (deep_law_laid lin_laid (m := 3) (by omega) lin_row lin_at (by rw [Try.underlying132]))
theorem u16_wf {n : Nat} (h : n < 65536) : (Lit.int .u16 (n : Int)).wf = true := by simp [Lit.wf, IntKind.min, IntKind.max, IntKind.bits, IntKind.signed]; omega
theorem lin_size : ∃ d, Try.prog.types.size = d + 1 := ⟨Try.prog.types.size - 1, by have := lin_row; omega⟩
def lnL (g : Ln) : Lit := .string (keyBytes [.int .u16 (g.1 : Int), .bool g.2])
theorem lin_of (v : Value) : keyOf Try.prog 132 v = if v.formed Try.prog 132 = true then (Try.prog.keyLits (Try.prog.types.size + 1) 132 v.cells.toList).map fun ls => .string (keyBytes ls) else none := by
  unfold keyOf
  rw [Try.underlying132, lin_key]
  simp
theorem lin_keyOf (g : Ln) (h1 : g.1 < 65536) : keyOf Try.prog 132 (lnV g) = some (lnL g) := by
  obtain ⟨d, hd⟩ := lin_size
  have hc16 : Try.prog.cellsOf 29 = 1 := by kernel_rfl
  have hcb : Try.prog.cellsOf 4 = 1 := by kernel_rfl
  have hcg : Try.prog.cellsOf 132 = 2 := by kernel_rfl
  rw [lin_of, if_pos (by simp [lnV, Value.formed, Try.underlying132, hcg]), hd]
  simp [Program.keyLits, lnV, Value.cells, Try.underlying132, Try.underlying29, Try.underlying4, hc16, hcb, hcg, u16_wf h1, lnL]
theorem kl_int {P : Program} {d t : Nat} {q : IntKind} (hu : P.underlying t = some (.int q)) {a : Value} {ls : List Lit} (h : P.keyLits (d + 1) t [a] = some ls) : ∃ n, a = .int q n ∧ (Lit.int q n).wf = true ∧ ls = [.int q n] := by
  cases a <;> simp [Program.keyLits, hu] at h
  obtain ⟨⟨rfl, hw⟩, rfl⟩ := h
  exact ⟨_, rfl, hw, rfl⟩
theorem kl_bool {P : Program} {d t : Nat} (hu : P.underlying t = some .bool) {a : Value} {ls : List Lit} (h : P.keyLits (d + 1) t [a] = some ls) : ∃ b, a = .bool b ∧ ls = [.bool b] := by
  cases a <;> simp [Program.keyLits, hu] at h
  exact ⟨_, rfl, h.symm⟩
theorem lin_sur (v : Value) (l : Lit) (h : keyOf Try.prog 132 v = some l) : ∃ g : Ln, g.1 < 65536 ∧ v = lnV g ∧ l = lnL g := by
  obtain ⟨d, hd⟩ := lin_size
  have hc16 : Try.prog.cellsOf 29 = 1 := by kernel_rfl
  have hcb : Try.prog.cellsOf 4 = 1 := by kernel_rfl
  have hcg : Try.prog.cellsOf 132 = 2 := by kernel_rfl
  rw [lin_of] at h
  split at h
  · rename_i hf
    cases v <;> simp [Value.formed, Try.underlying132, hcg] at hf
    rename_i cs
    obtain ⟨a, b, hl⟩ : ∃ a b, cs.toList = [a, b] := by
      have hlen : cs.toList.length = 2 := by simpa using hf
      match cs.toList, hlen with
      | [a, b], _ => exact ⟨a, b, rfl⟩
    have hcs : cs = #[a, b] := by rw [← Array.toArray_toList (xs := cs), hl]
    subst hcs
    rw [hd] at h
    simp only [Program.keyLits, Value.cells, Try.underlying132, hc16, hcb, hcg] at h
    split at h
    · simp only [List.mapM_cons, List.mapM_nil, List.drop_zero, List.drop_succ_cons, List.take_succ_cons, List.take_zero, List.drop_nil, Option.map_eq_some_iff, Option.bind_eq_some_iff, Option.pure_def, Option.some.injEq, Option.bind_eq_bind] at h
      obtain ⟨ls, ⟨l3, ⟨l1, k1, l2, ⟨m1, k2, m2, rfl, rfl⟩, rfl⟩, rfl⟩, rfl⟩ := h
      obtain ⟨x1, rfl, w1, rfl⟩ := kl_int Try.underlying29 k1
      obtain ⟨x2, rfl, rfl⟩ := kl_bool Try.underlying4 k2
      simp [Lit.wf, IntKind.min, IntKind.max, IntKind.bits, IntKind.signed] at w1
      refine ⟨⟨x1.toNat, x2⟩, by show x1.toNat < _; omega, ?_, ?_⟩
      · show _ = Value.agg #[.int .u16 (x1.toNat : Int), .bool x2]
        rw [Int.toNat_of_nonneg w1.1]
      · show _ = Lit.string (keyBytes [.int .u16 (x1.toNat : Int), .bool x2])
        rw [Int.toNat_of_nonneg w1.1]
        rfl
    · simp at h
  · cases h
def lnN (g : Ln) : Nat := g.1 * 2 + (if g.2 = true then 1 else 0)
def lnX : KX Try.prog 132 Ln where
  enc := lnV
  lit := lnL
  dom g := g.1 < 65536
  key g h := lin_keyOf g h
  inj a b ha hb e := by
    have h1 := lin_keyOf a ha
    have h2 := lin_keyOf b hb
    rw [e] at h1
    have h3 := lin_law.inj h1 h2
    unfold lnV at h3
    obtain ⟨a1, a2⟩ := a
    obtain ⟨b1, b2⟩ := b
    simp at h3
    obtain ⟨h4, h5⟩ := h3
    rw [h5, show a1 = b1 by omega]
  sur := lin_sur
  law := lin_law
  few l hn hl := by
    have h1 : (l.map lnN).Nodup := List.pairwise_map.2 (List.Pairwise.imp_of_mem (fun {a b} ha hb hne e => hne (by
      obtain ⟨a1, a2⟩ := a
      obtain ⟨b1, b2⟩ := b
      simp only [lnN] at e
      cases a2 <;> cases b2 <;> simp at e ⊢ <;> omega)) hn)
    have h2 := nodup_lt _ 1125899906842624 h1 (fun x hx => by
      obtain ⟨g, hg, rfl⟩ := List.mem_map.1 hx
      have h3 := hl g hg
      unfold lnN
      split <;> omega)
    simpa using h2
end Go.Proofs.Ytfgfiiknbkakaaa.Fl

set_option linter.unusedVariables false
set_option linter.unusedSimpArgs false
set_option maxRecDepth 20000
namespace Go.Proofs.Ytfgfiiknbkakaaa.Fl
open Go.ChangeShapes Go.WideShapes Go.ChangeAt Go.RowKit Go.Deep Go.Maps Go.Proofs.Ytfgfiiknbkakaaa.Words Go.Proofs.Ytfgfiiknbkakaaa.Oct Go.Proofs.Ytfgfiiknbkakaaa.Par Go.Proofs.Ytfgfiiknbkakaaa.Chk Go.Proofs.Ytfgfiiknbkakaaa.Mx
/-- The flight's own cells. -/
def flArr (mk : Nat) (v : Value) (go : Nat) (nb nl no : Int) (fl nu de rl la : Nat) : Array Value :=
  #[.int .u32 (mk : Int), v, .map (some go), .int .i64 nb, .int .i64 nl, .int .i64 no, .int .i64 (fl : Int), .map (some nu), .map (some de), .int .i64 (rl : Int), .map (some la)]
/-- A fragment's cells. -/
def frA (p : Pt) (b : Hd) : Array Value := #[.int .i64 p.m, .int .i64 (p.lk : Int), .int .u32 (p.ln : Int), .int .u64 (p.sent : Int), .int .u32 (p.wn : Int), .int .i64 (p.mi : Int), .int .i64 (p.st : Int),
  .int .u8 (p.c.kind : Int), .bool p.c.bg, .bool p.c.en, .bool p.c.lo, .bool p.c.ba, .int .u32 (p.c.tsn : Int), .int .u16 (p.c.st : Int), .int .u32 (p.c.mid : Int), .int .u32 (p.c.pp : Int), .int .u32 (p.c.fr : Int), .int .u32 (p.c.tag : Int), .int .u32 (p.c.win : Int),
  .int .u16 (p.c.out : Int), .int .u16 (p.c.inn : Int), nilV, nilV, nilV, nilV, .slice b.A p.c.body.length b.cap]
theorem frA_size (p : Pt) (b : Hd) : (frA p b).size = 26 := by simp [frA]
abbrev XP := Pt × Hd
def XP.cells (x : XP) : Array Value := frA x.1 x.2
def XP.bv (x : XP) : Value := x.2.v x.1.c.body.length
/-- Fragments in a row, from an offset on. -/
structure PsR (w : World) (g off cap : Nat) (xs : List XP) : Prop where
  ex : ∃ cur, Blk w g 94 cur ∧ off + cap * 26 = cur.size ∧ ∀ i x, xs[i]? = some x → ∀ j, j < 26 → cur[off + i * 26 + j]? = (XP.cells x)[j]?
  le : xs.length ≤ cap
  mx : cap ≤ maxLen
inductive PsV (w : World) (fresh : Bool) : Value → List XP → Prop
  | nil : PsV w fresh nilV []
  | row {g off cap : Nat} {xs : List XP} : PsR w g off cap xs → (fresh = true → off = 0) → PsV w fresh (.slice (some ⟨g, off, none⟩) xs.length cap) xs
def n32 (l : List Nat) : List Value := l.map fun x : Nat => .int .u32 (x : Int)
/-- A row of numbers. -/
structure NumV (w : World) (fresh : Bool) (v : Value) (l : List Nat) : Prop where
  ex : ∃ g off cap cur, v = .slice (some ⟨g, off, none⟩) l.length cap ∧ l.length ≤ cap ∧ cap ≤ maxLen ∧ Blk w g 22 cur ∧ (fresh = true → off = 0) ∧ off + cap = cur.size ∧ ∀ (i x : Nat), l[i]? = some x → cur[off + i]? = some (.int .u32 (x : Int))
/-- Where a flight's parts lie. -/
structure Ad where
  v : Value
  go : Nat
  nu : Nat
  de : Nat
  la : Nat
  nm : Int → Value
/-- What a flight's memory holds. -/
structure FM where
  mark : Nat
  xs : List XP
  nb : Int
  nl : Int
  no : Int
  fl : Nat
  rl : Nat
  gone : Int → Bool
  nums : Int → List Nat
  df : Nat → Int
  lf : Ln → Option Nat
  fresh : Bool
  ms : List Int
def unitV : Value := .agg #[]
def goneF (g : Int → Bool) : Int → Option Value := fun x => if g x = true then some unitV else none
def numsF (nums : Int → List Nat) (nm : Int → Value) : Int → Option Value := fun x => if nums x = [] then none else some (nm x)
def dfF (df : Nat → Int) : Nat → Option Value := fun n => if df n = 0 then none else some (.int .i64 (df n))
def lfF (lf : Ln → Option Nat) : Ln → Option Value := fun k => (lf k).map fun x => .int .u32 (x : Int)
structure FlM (w : World) (p : Nat) (a : Ad) (m : FM) : Prop where
  blk : Blk w p 89 (flArr m.mark a.v a.go m.nb m.nl m.no m.fl a.nu a.de m.rl a.la)
  prt : PsV w m.fresh a.v m.xs
  bod : ∀ x ∈ m.xs, Own w 0 (XP.bv x) x.1.c.body
  gon : MapZ Try.prog 3 w a.go (goneF m.gone)
  num : MapZ Try.prog 3 w a.nu (numsF m.nums a.nm)
  row : ∀ k, m.nums k ≠ [] → NumV w m.fresh (a.nm k) (m.nums k)
  inj : ∀ k k' g, k ≠ k' → m.nums k ≠ [] → m.nums k' ≠ [] → (a.nm k).ownBlock = some g → (a.nm k').ownBlock ≠ some g
  dea : MapX u32X w a.de (dfF m.df)
  lat : MapX lnX w a.la (lfF m.lf)
  ne : a.go ≠ a.nu ∧ a.go ≠ a.de ∧ a.go ≠ a.la ∧ a.nu ≠ a.de ∧ a.nu ≠ a.la ∧ a.de ≠ a.la
  mso : ∀ x, m.gone x = true → x ∈ m.ms
  msn : ∀ x, m.nums x ≠ [] → x ∈ m.ms
  msl : m.ms.length ≤ 1048576
  i64 : ∀ x, m.nums x ≠ [] → i64ok x
def FG (p : Nat) (a : Ad) (m : FM) (i : Nat) : Prop := i = p ∨ a.v.ownBlock = some i ∨ i = a.go ∨ i = a.nu ∨ i = a.de ∨ i = a.la ∨ (∃ k, m.nums k ≠ [] ∧ (a.nm k).ownBlock = some i) ∨ (∃ x ∈ m.xs, (XP.bv x).ownBlock = some i)
def kd (w : World) (i : Nat) : Option Nat := match w.heap[i]? with
  | some (.cells _ t _) => some (t + 1)
  | some (.map _ _) => some 0
  | _ => none
section
variable {w w' : World} {p g : Nat} {a a' : Ad} {m m' : FM} {S : Nat → Prop} {v : Value} {xs : List XP} {fresh : Bool}
theorem kd_blk {t : TypeId} {cs : Array Value} (h : Blk w g t cs) : kd w g = some (t + 1) := by unfold Blk at h; simp [kd, h]
theorem kd_own {B n size : Nat} {e : TypeId} {l : List Value} (h : w.ownsRow B e size v n l) (hv : v.ownBlock = some g) : kd w g = some (e + 1) := by
  rcases h.2 with ⟨rfl, _⟩ | ⟨g', cap, cur, rfl, _, hh, _⟩
  · simp [Value.ownBlock] at hv
  · have : g' = g := by simpa [Value.ownBlock] using hv
    subst this
    simp [kd, hh]
theorem kd_mapz {P : Program} {k : TypeId} {b : Nat} {f : Int → Option Value} (h : MapZ P k w b f) : kd w b = some 0 := by
  obtain ⟨D, n, ⟨es, clock, hb, _⟩, _⟩ := h.ex
  simp [kd, hb]
theorem kd_mapx {P : Program} {k : TypeId} {κ : Type} {X : KX P k κ} {b : Nat} {f : κ → Option Value} (h : MapX X w b f) : kd w b = some 0 := by
  obtain ⟨D, ⟨es, clock, hb, _⟩, _⟩ := h.ex
  simp [kd, hb]
theorem kd_psv (h : PsV w fresh v xs) (hv : v.ownBlock = some g) : kd w g = some (94 + 1) := by
  cases h with
  | nil => simp [Value.ownBlock] at hv
  | row h _ =>
    obtain ⟨cur, hb, _⟩ := h.ex
    simp [Value.ownBlock] at hv
    subst hv
    exact kd_blk hb
theorem kd_num {l : List Nat} (h : NumV w fresh v l) (hv : v.ownBlock = some g) : kd w g = some (22 + 1) := by
  obtain ⟨g', off, cap, cur, rfl, _, _, hb, _⟩ := h.ex
  simp [Value.ownBlock] at hv
  subst hv
  exact kd_blk hb
theorem kd_lt {x : Nat} (h : kd w g = some x) : g < w.heap.size := by
  unfold kd at h
  rcases Nat.lt_or_ge g w.heap.size with h1 | h1
  · exact h1
  · rw [Array.getElem?_eq_none h1] at h; simp at h
theorem PsV.fr (h : PsV w fresh v xs) (hf : Fr S w w') (hn : ∀ g, v.ownBlock = some g → ¬ S g) : PsV w' fresh v xs := by
  cases h with
  | nil => exact .nil
  | row h h0 =>
    obtain ⟨⟨cur, hb, h1⟩, h2, h3⟩ := h
    exact .row ⟨⟨cur, hf.blk hb (hn _ rfl), h1⟩, h2, h3⟩ h0
theorem NumV.fr {l : List Nat} (h : NumV w fresh v l) (hf : Fr S w w') (hn : ∀ g, v.ownBlock = some g → ¬ S g) : NumV w' fresh v l := by
  obtain ⟨g, off, cap, cur, rfl, h1, h2, hb, h3⟩ := h.ex
  exact ⟨_, _, _, _, rfl, h1, h2, hf.blk hb (hn _ rfl), h3⟩
theorem FlM.kdg (h : FlM w p a m) {i : Nat} (hi : FG p a m i) : (∃ x, kd w i = some x) := by
  rcases hi with rfl | hi | rfl | rfl | rfl | rfl | ⟨k, hk, hi⟩ | ⟨x, hx, hi⟩
  · exact ⟨_, kd_blk h.blk⟩
  · exact ⟨_, kd_psv h.prt hi⟩
  · exact ⟨_, kd_mapz h.gon⟩
  · exact ⟨_, kd_mapz h.num⟩
  · exact ⟨_, kd_mapx h.dea⟩
  · exact ⟨_, kd_mapx h.lat⟩
  · exact ⟨_, kd_num (h.row k hk) hi⟩
  · exact ⟨_, kd_own (h.bod x hx) hi⟩
theorem FlM.lt (h : FlM w p a m) {i : Nat} (hi : FG p a m i) : i < w.heap.size := by obtain ⟨x, hx⟩ := h.kdg hi; exact kd_lt hx
/-- Blocks of one kind have turned: what is of another kind is as it was. -/
structure Kept (w w' : World) (p : Nat) (a : Ad) (m : FM) (K : Nat) : Prop where
  blk : K ≠ 89 + 1 → Blk w' p 89 (flArr m.mark a.v a.go m.nb m.nl m.no m.fl a.nu a.de m.rl a.la)
  prt : K ≠ 94 + 1 → PsV w' m.fresh a.v m.xs
  bod : K ≠ 5 + 1 → ∀ x ∈ m.xs, Own w' 0 (XP.bv x) x.1.c.body
  row : K ≠ 22 + 1 → ∀ k, m.nums k ≠ [] → NumV w' m.fresh (a.nm k) (m.nums k)
  gon : K ≠ 0 → MapZ Try.prog 3 w' a.go (goneF m.gone)
  num : K ≠ 0 → MapZ Try.prog 3 w' a.nu (numsF m.nums a.nm)
  dea : K ≠ 0 → MapX u32X w' a.de (dfF m.df)
  lat : K ≠ 0 → MapX lnX w' a.la (lfF m.lf)
theorem FlM.kept (h : FlM w p a m) {K : Nat} (hf : Fr S w w') (hS : ∀ i, S i → i < w.heap.size → kd w i = some K) : Kept w w' p a m K := by
  have no : ∀ g x, kd w g = some x → K ≠ x → ¬ S g := fun g x h1 h2 h3 => by
    have := hS g h3 (kd_lt h1)
    rw [h1] at this
    injection this with this
    exact h2 this.symm
  refine ⟨fun hK => hf.blk h.blk (no _ _ (kd_blk h.blk) hK), fun hK => h.prt.fr hf (fun g hg => no _ _ (kd_psv h.prt hg) hK), fun hK x hx => hf.own (h.bod x hx) (fun g hg => no _ _ (kd_own (h.bod x hx) hg) hK),
    fun hK k hk => (h.row k hk).fr hf (fun g hg => no _ _ (kd_num (h.row k hk) hg) hK), fun hK => h.gon.fr hf (no _ _ (kd_mapz h.gon) hK), fun hK => h.num.fr hf (no _ _ (kd_mapz h.num) hK), fun hK => h.dea.fr hf (no _ _ (kd_mapx h.dea) hK), fun hK => h.lat.fr hf (no _ _ (kd_mapx h.lat) hK)⟩
/-- None of its blocks has turned. -/
theorem FlM.fr (h : FlM w p a m) (hf : Fr S w w') (hS : ∀ i, S i → i < w.heap.size → ¬ FG p a m i) : FlM w' p a m := by
  have hs : ∀ i, S i → ¬ FG p a m i := fun i h1 h2 => hS i h1 (h.lt h2) h2
  exact ⟨hf.blk h.blk (fun x => hs _ x (.inl rfl)), h.prt.fr hf (fun g hg x => hs _ x (.inr (.inl hg))), fun x hx => hf.own (h.bod x hx) (fun g hg y => hs _ y (.inr (.inr (.inr (.inr (.inr (.inr (.inr ⟨x, hx, hg⟩)))))))),
    h.gon.fr hf (fun x => hs _ x (.inr (.inr (.inl rfl)))), h.num.fr hf (fun x => hs _ x (.inr (.inr (.inr (.inl rfl))))), fun k hk => (h.row k hk).fr hf (fun g hg x => hs _ x (.inr (.inr (.inr (.inr (.inr (.inr (.inl ⟨k, hk, hg⟩)))))))), h.inj,
    h.dea.fr hf (fun x => hs _ x (.inr (.inr (.inr (.inr (.inl rfl)))))), h.lat.fr hf (fun x => hs _ x (.inr (.inr (.inr (.inr (.inr (.inl rfl))))))), h.ne, h.mso, h.msn, h.msl, h.i64⟩
theorem FlM.below (h : FlM w p a m) (hb : Below w.heap.size w w') : FlM w' p a m := h.fr (Fr.of_below hb) (fun i h1 h2 => by have e : w.heap.size ≤ i := h1; omega)
/-- The flight's own cells have turned. -/
theorem FlM.own (h : FlM w p a m) (hf : Fr (fun i => i = p) w w') {mk fl rl : Nat} {nb nl no : Int} (hb : Blk w' p 89 (flArr mk a.v a.go nb nl no fl a.nu a.de rl a.la)) : FlM w' p a { m with mark := mk, nb := nb, nl := nl, no := no, fl := fl, rl := rl } := by
  have k := h.kept hf (K := 89 + 1) (fun i e _ => by rw [show i = p from e]; exact kd_blk h.blk)
  exact ⟨hb, k.prt (by decide), k.bod (by decide), k.gon (by decide), k.num (by decide), k.row (by decide), h.inj, k.dea (by decide), k.lat (by decide), h.ne, h.mso, h.msn, h.msl, h.i64⟩
/-- The fragments have turned. -/
theorem FlM.prts (h : FlM w p a m) (hf : Fr (fun i => a.v.ownBlock = some i) w w') {ys : List XP} (hp : PsV w' m.fresh a.v ys) (hb : ∀ y ∈ ys, (∃ x ∈ m.xs, XP.bv y = XP.bv x ∧ y.1.c.body = x.1.c.body) ∨ (XP.bv y = nilV ∧ y.1.c.body = [])) : FlM w' p a { m with xs := ys } := by
  have k := h.kept hf (K := 94 + 1) (fun i e _ => kd_psv h.prt e)
  refine ⟨k.blk (by decide), hp, fun y hy => ?_, k.gon (by decide), k.num (by decide), k.row (by decide), h.inj, k.dea (by decide), k.lat (by decide), h.ne, h.mso, h.msn, h.msl, h.i64⟩
  rcases hb y hy with ⟨x, hx, e1, e2⟩ | ⟨e1, e2⟩
  · rw [e1, e2]; exact k.bod (by decide) x hx
  · rw [e1, e2]; exact World.ownsRow_nil _ _ _ _
/-- The map of the deadlines has turned. -/
theorem FlM.deas (h : FlM w p a m) (hf : Fr (fun i => i = a.de) w w') {df : Nat → Int} (hd : MapX u32X w' a.de (dfF df)) : FlM w' p a { m with df := df } := by
  have k := h.kept hf (K := 0) (fun i e _ => by rw [show i = a.de from e]; exact kd_mapx h.dea)
  have hn := h.ne
  exact ⟨k.blk (by decide), k.prt (by decide), k.bod (by decide), h.gon.fr hf hn.2.1, h.num.fr hf hn.2.2.2.1, k.row (by decide), h.inj, hd, h.lat.fr hf (fun e => hn.2.2.2.2.2 e.symm), h.ne, h.mso, h.msn, h.msl, h.i64⟩
/-- The map of the row's lines has turned. -/
theorem FlM.lats (h : FlM w p a m) (hf : Fr (fun i => i = a.la) w w') {lf : Ln → Option Nat} (hd : MapX lnX w' a.la (lfF lf)) : FlM w' p a { m with lf := lf } := by
  have k := h.kept hf (K := 0) (fun i e _ => by rw [show i = a.la from e]; exact kd_mapx h.lat)
  have hn := h.ne
  exact ⟨k.blk (by decide), k.prt (by decide), k.bod (by decide), h.gon.fr hf hn.2.2.1, h.num.fr hf hn.2.2.2.2.1, k.row (by decide), h.inj, h.dea.fr hf hn.2.2.2.2.2, hd, h.ne, h.mso, h.msn, h.msl, h.i64⟩
/-- The map of what is gone has turned. -/
theorem FlM.gons (h : FlM w p a m) (hf : Fr (fun i => i = a.go) w w') {g : Int → Bool} (hd : MapZ Try.prog 3 w' a.go (goneF g)) (hm : ∀ x, g x = true → x ∈ m.ms) : FlM w' p a { m with gone := g } := by
  have k := h.kept hf (K := 0) (fun i e _ => by rw [show i = a.go from e]; exact kd_mapz h.gon)
  have hn := h.ne
  exact ⟨k.blk (by decide), k.prt (by decide), k.bod (by decide), hd, h.num.fr hf (fun e => hn.1 e.symm), k.row (by decide), h.inj, h.dea.fr hf (fun e => hn.2.1 e.symm), h.lat.fr hf (fun e => hn.2.2.1 e.symm), h.ne, hm, h.msn, h.msl, h.i64⟩
/-- The map of the numbers has turned, the rows have not. -/
theorem FlM.nms (h : FlM w p a m) (hf : Fr (fun i => i = a.nu) w w') {nums : Int → List Nat} {nm : Int → Value} (hd : MapZ Try.prog 3 w' a.nu (numsF nums nm)) (hr : ∀ k, nums k ≠ [] → m.nums k ≠ [] ∧ (nm k).ownBlock = (a.nm k).ownBlock ∧ (NumV w m.fresh (a.nm k) (m.nums k) → NumV w m.fresh (nm k) (nums k))) :
    FlM w' p { a with nm := nm } { m with nums := nums } := by
  have k := h.kept hf (K := 0) (fun i e _ => by rw [show i = a.nu from e]; exact kd_mapz h.num)
  have hn := h.ne
  have hnu : ∀ (w0 : World) v l g, NumV w0 m.fresh v l → v.ownBlock = some g → w0 = w → ¬ g = a.nu := fun w0 v l g h1 h2 h3 h4 => by
    subst h3
    have e1 := kd_num h1 h2
    rw [h4, kd_mapz h.num] at e1
    exact absurd e1 (by decide)
  exact ⟨k.blk (by decide), k.prt (by decide), k.bod (by decide), h.gon.fr hf hn.1, hd, fun j hj => ((hr j hj).2.2 (h.row j (hr j hj).1)).fr hf (fun g hg => hnu w _ _ g ((hr j hj).2.2 (h.row j (hr j hj).1)) hg rfl), fun j j' g hne h1 h2 h3 => by rw [(hr j h1).2.1] at h3; rw [(hr j' h2).2.1]; exact h.inj j j' g hne (hr j h1).1 (hr j' h2).1 h3,
    h.dea.fr hf (fun e => hn.2.2.2.1 e.symm), h.lat.fr hf (fun e => hn.2.2.2.2.1 e.symm), h.ne, h.mso, fun x hx => h.msn x (hr x hx).1, h.msl, fun x hx => h.i64 x (hr x hx).1⟩
end
end Go.Proofs.Ytfgfiiknbkakaaa.Fl

namespace Go.Proofs.Ytfgfiiknbkakaaa.Ser
open Go.ChangeShapes Go.WideShapes Go.ChangeAt Go.RowKit
theorem ret_int {k : IntKind} {a b : Int} (h : a = b) : Ending.returned (.int k a) = .returned (.int k b) := by rw [h]
theorem ret_bool {a b : Bool} (h : a = b) : Ending.returned (.bool a) = .returned (.bool b) := by rw [h]
set_option maxHeartbeats 400000 in
theorem dist_any (a b : Int) (w : World) :
    Calls Try.prog 35 #[.int .u32 a, .int .u32 b] w fun e w' => e = .returned (.int .u32 (dist a b)) ∧ w = w' := by
  go_enter Try.func35, Try.ntmps35
  go_wp2_with fail
  go_ret
  exact ⟨rfl, rfl⟩
set_option maxHeartbeats 400000 in
theorem less_any (a b : Int) (w : World) :
    Calls Try.prog 65 #[.int .u32 a, .int .u32 b] w fun e w' => e = .returned (.bool (lessB a b)) ∧ w = w' := by
  have hb := dist_bd a b
  go_enter Try.func65, Try.ntmps65
  go_wp2_with (go_at_call 35; refine (dist_any _ _ _).mono ?_; rintro e w' ⟨rfl, rfl⟩)
  all_goals go_ret
  · exact ⟨ret_bool (lessB_mk0 (by omega)).symm, rfl⟩
  · exact ⟨ret_bool (by unfold lessB; rw [Bool.eq_iff_iff]; simp; omega), rfl⟩
set_option maxHeartbeats 400000 in
theorem later_any (a b : Int) (w : World) :
    Calls Try.prog 61 #[.int .u32 a, .int .u32 b] w fun e w' => e = .returned (.int .u32 (laterI a b)) ∧ w = w' := by
  go_enter Try.func61, Try.ntmps61
  go_wp2_with (go_at_call 65; refine (less_any _ _ _).mono ?_; rintro e w' ⟨rfl, rfl⟩)
  all_goals go_ret
  · exact ⟨ret_int (by unfold laterI; rw [if_pos ‹_›]), rfl⟩
  · exact ⟨ret_int (by unfold laterI; rw [‹lessB a b = false›]; rfl), rfl⟩
set_option maxHeartbeats 400000 in
theorem in_any (x s t : Int) (w : World) :
    Calls Try.prog 57 #[.int .u32 x, .int .u32 s, .int .u32 t] w fun e w' => e = .returned (.bool (inB x s t)) ∧ w = w' := by
  go_enter Try.func57, Try.ntmps57
  go_wp2_with (go_at_call 35; refine (dist_any _ _ _).mono ?_; rintro e w' ⟨rfl, rfl⟩)
  go_ret
  exact ⟨ret_bool rfl, rfl⟩
end Go.Proofs.Ytfgfiiknbkakaaa.Ser
