/-
  PROVED: OctetReads of flumelaw04 answers true for every input, and its arguments read afterwards as before. CONDITIONS: none beside the form's own.
-/
import Derived.Test.YtnnfjndbilapfaaRows
import Derived.Test.YtnnfjndbilapfaaOctLaw
import Derived.Test.YtnnfjndbilapfaaOctRef
import Derived.Test.YtnnfjndbilapfaaSees
import Derived.Test.YtnnfjndbilapfaaStage
import Derived.WalkKit
import Derived.ProofKit
import Derived.OpenShut
import Derived.ShutString
import Derived.ChangeOld
import Derived.Below
namespace Go.Proofs.Ytnnfjndbilapfaa.octetReads
open Go.ChangeShapes Go.WideShapes Go.ChangeAt Go.RowKit
open Go.ChangeMaps (open_string shut_string)
set_option linter.unusedVariables false
set_option linter.unusedSimpArgs false

theorem own : ownKnob Try.prog.godebug = none := by kernel_rfl
theorem laidOut : laidOutB Try.prog = true := by kernel_rfl

/-- What the walk is told of a slice of integers that came in. -/
def IsRow (k : IntKind) (w : World) (a : Option Addr) (len cap : Nat) (zs : List Int) : Prop :=
  (a = none ∧ len = 0 ∧ cap = 0 ∧ zs = []) ∨
  ∃ x, a = some x ∧ len ≤ cap ∧ cap ≤ maxLen ∧ zs.length = cap ∧ (∀ i, i < zs.length → w.cell? (x.add i) = some (.int k (zs.getD i 0))) ∧ ∀ n ∈ zs, (Lit.int k n).wf = true

/-! ### The walk -/
open Words Oct
abbrev OpSh : Sh := .strct (.pair (.int .i64) (.pair (.int .i64) (.pair (.int .u32) (.pair Sh.bytes .nil))))
/-- The i-th operation of a script. -/
def OpAt (w : World) (ad : Addr) (i : Nat) (K N : Int) (V : Nat) (Ab : Option Addr) (lb : List UInt8) (cb : Nat) : Prop :=
  w.cell? (ad.add (i * 4)) = some (.int .i64 K) ∧ w.cell? ⟨(ad.add (i * 4)).block, (ad.add (i * 4)).off + 1, none⟩ = some (.int .i64 N) ∧ w.cell? ⟨(ad.add (i * 4)).block, (ad.add (i * 4)).off + 2, none⟩ = some (.int .u32 (V : Int)) ∧ w.cell? ⟨(ad.add (i * 4)).block, (ad.add (i * 4)).off + 3, none⟩ = some (.slice Ab lb.length cb) ∧
  (-9223372036854775808 ≤ K ∧ K ≤ 9223372036854775807) ∧ (-9223372036854775808 ≤ N ∧ N ≤ 9223372036854775807) ∧ V < 4294967296 ∧ lb.length ≤ cb ∧ cb ≤ 9223372036854775807 ∧ Byt w w.heap.size Ab lb
theorem opAt_of {w : World} {A : Option Addr} {n c : Nat} (h : ∀ i, i < n → ∃ a cs', A = some a ∧ cs'.length = OpSh.size ∧ (∀ j u, cs'[j]? = some u → w.cell? (a.add (i * OpSh.size + j)) = some u) ∧ Sees w OpSh cs') (i : Nat) (hi : i < n) :
    ∃ ad K N V Ab lb cb, A = some ad ∧ OpAt w ad i K N V Ab lb cb := by
  obtain ⟨a, cs, hA, hl, hc, hs⟩ := h i hi
  obtain ⟨c1, r1, rfl, h1, ⟨K, rfl, hK⟩, c2, r2, rfl, h2, ⟨N, rfl, hN⟩, c3, r3, rfl, h3, ⟨V, rfl, hV⟩, c4, r4, rfl, h4, hb, rfl⟩ := hs
  match c4, h4, hb with
  | [u], _, hb =>
    obtain ⟨Ab, cb, lb, rfl, h5, h6, h7⟩ := hb.bytes
    have bV := bounds_u32 hV
    refine ⟨a, K, N, V.toNat, Ab, lb, cb, hA, ?_, ?_, ?_, ?_, bounds_i64 hK, bounds_i64 hN, by omega, h5, h6, h7⟩
    · exact hc 0 _ rfl
    · have := hc 1 _ rfl
      rw [← add_of_add, add_lit _ (by omega)] at this
      exact this
    · have := hc 2 _ rfl
      rw [← add_of_add, add_lit _ (by omega)] at this
      rw [show ((V.toNat : Nat) : Int) = V by omega]
      exact this
    · have := hc 3 _ rfl
      rw [← add_of_add, add_lit _ (by omega)] at this
      exact this
theorem OpAt.keep {w w' : World} {ad : Addr} {i : Nat} {K N : Int} {V : Nat} {Ab : Option Addr} {lb : List UInt8} {cb : Nat} (h : OpAt w ad i K N V Ab lb cb) (hb : Below w.heap.size w w') : OpAt w' ad i K N V Ab lb cb := by
  obtain ⟨h1, h2, h3, h4, h5, h6, h7, h8, h9, h10⟩ := h
  have k : ∀ {p : Addr} {u : Value}, w.cell? p = some u → w'.cell? p = some u := fun {p u} h => (hb.cell (World.block_lt_of_cell? w _ h)).trans h
  exact ⟨k h1, k h2, k h3, k h4, h5, h6, h7, h8, h9, (h10.below hb).more hb.size⟩
/-- Where the reader and the tape stand. -/
structure Two (w V : World) (p G q : Nat) (A2 : Option Addr) (c2 : Nat) (x : List UInt8) (j : Nat) (bad : Bool) (jt : Nat) (bt : Bool) : Prop where
  below : Below w.heap.size w V
  rd : Rd V p G (x.drop j) bad
  tp : TapeAt V q A2 c2 x jt bt
  hj : bad = true → j = x.length
  ht : bt = true → jt = x.length
  base : w.heap.size ≤ G
  pq : p < q
  pa : ∀ a, A2 = some a → p < a.block ∧ a.block < q
abbrev StR (w V : World) (p G q : Nat) (A2 : Option Addr) (c2 : Nat) (x : List UInt8) (j : Nat) (bad : Bool) : Prop := Two w V p G q A2 c2 x j bad j bad
section
variable {w V V' : World} {p G q : Nat} {A2 : Option Addr} {c2 : Nat} {x : List UInt8} {j jt : Nat} {bad bt : Bool}
theorem Two.fr {S : Nat → Prop} (h : Two w V p G q A2 c2 x j bad jt bt) (k : Fr S V V') (hS : ∀ i, S i → w.heap.size ≤ i ∧ (i < G ∨ q < i)) : Two w V' p G q A2 c2 x j bad jt bt := by
  have hG := h.rd.le
  have hb := h.base
  have hpq := h.pq
  refine ⟨below_fr h.below k (Nat.le_refl _) (fun i hi => (hS i hi).1), h.rd.fr k (fun hi => by have := (hS _ hi).2; omega) (fun hi => by have := (hS _ hi).2; omega), ⟨k.blk h.tp.blk (fun hi => by have := (hS _ hi).2; omega), k.byt h.tp.byt (by have := h.tp.blk.lt; omega) (fun a ha hi => by have := (hS _ hi).2; have := h.pa a ha; omega), h.tp.le, h.tp.cap, h.tp.max⟩, h.hj, h.ht, h.base, h.pq, h.pa⟩
theorem Two.grows (h : Two w V p G q A2 c2 x j bad jt bt) (k : Below V.heap.size V V') : Two w V' p G q A2 c2 x j bad jt bt :=
  h.fr (Fr.of_below k) (fun i hi => by have := h.tp.blk.lt; have := h.pq; have := h.rd.le; have := h.base; omega)
theorem Two.drewN (h : Two w V p G q A2 c2 x j bad jt bt) (n : Nat) : Two w (V.drewN n) p G q A2 c2 x j bad jt bt := h.fr ((Fr.refl (fun _ => False) V).drewN n) (fun i hi => hi.elim)
theorem Two.drew (h : Two w V p G q A2 c2 x j bad jt bt) : Two w V.drew p G q A2 c2 x j bad jt bt := h.fr ((Fr.refl (fun _ => False) V).drew) (fun i hi => hi.elim)
theorem Two.rdstep {j' : Nat} {bad' : Bool} (h : Two w V p G q A2 c2 x j bad jt bt) (hr : Rd V' p G (x.drop j') bad') (hf : Fr (At p) V V') (hh : bad' = true → j' = x.length) : Two w V' p G q A2 c2 x j' bad' jt bt := by
  have hG := h.rd.le
  have hb := h.base
  have hpq := h.pq
  have hne : ∀ i, At p i → i = p := fun i hi => hi
  exact ⟨below_fr h.below hf (Nat.le_refl _) (fun i hi => by have := hne i hi; omega), hr, ⟨hf.blk h.tp.blk (fun hi => by have := hne _ hi; omega), hf.byt h.tp.byt (by have := h.tp.blk.lt; omega) (fun a ha hi => by have := hne _ hi; have := h.pa a ha; omega), h.tp.le, h.tp.cap, h.tp.max⟩, hh, h.ht, h.base, h.pq, h.pa⟩
theorem Two.tpstep {jt' : Nat} {bt' : Bool} (h : Two w V p G q A2 c2 x j bad jt bt) (ht : TapeAt V' q A2 c2 x jt' bt') (hg : V.grownBy V' (some q)) (hh : bt' = true → jt' = x.length) : Two w V' p G q A2 c2 x j bad jt' bt' := by
  have hf := Fr.of_grown hg
  have hG := h.rd.le
  have hb := h.base
  have hpq := h.pq
  exact ⟨below_fr h.below hf (Nat.le_refl _) (fun i hi => by injection hi with hi; omega), h.rd.fr hf (fun hi => by injection hi with hi; omega) (fun hi => by injection hi with hi; omega), ht, h.hj, hh, h.base, h.pq, h.pa⟩
theorem drop_end (h : bad = true → j = x.length) (hb : bad = true) : x.drop j = [] := by rw [h hb]; simp
/-- Where the law stands between the reader's Take and the tape's. -/
structure S26 (w V : World) (p G q : Nat) (A2 : Option Addr) (c2 : Nat) (x : List UInt8) (j : Nat) (bad : Bool) (jt : Nat) (bt : Bool) (go : Nat) (v : Value) (t : List UInt8) (K N : Int) (Vv : Nat) (Ab : Option Addr) (lb : List UInt8) (cb B : Nat) : Prop where
  two : Two w V p G q A2 c2 x j bad jt bt
  blk : Blk V go 32 #[.int .i64 K, .int .i64 N, .int .u32 (Vv : Int), .slice Ab lb.length cb]
  own : Own V B v t
  goq : q < go
  vq : q < B
theorem S26.drew {w V : World} {p G q : Nat} {A2 : Option Addr} {c2 : Nat} {x : List UInt8} {j : Nat} {bad : Bool} {jt : Nat} {bt : Bool} {go : Nat} {v : Value} {t : List UInt8} {K N : Int} {Vv : Nat} {Ab : Option Addr} {lb : List UInt8} {cb B : Nat}
    (h : S26 w V p G q A2 c2 x j bad jt bt go v t K N Vv Ab lb cb B) : S26 w V.drew p G q A2 c2 x j bad jt bt go v t K N Vv Ab lb cb B :=
  ⟨h.two.drew, ((Fr.refl (fun _ => False) V).drew).blk h.blk id, ((Fr.refl (fun _ => False) V).drew).own h.own (fun _ _ h => h), h.goq, h.vq⟩
theorem S26.step {w V V' : World} {p G q : Nat} {A2 : Option Addr} {c2 : Nat} {x : List UInt8} {j : Nat} {bad : Bool} {jt : Nat} {bt : Bool} {jt' : Nat} {bt' : Bool} {go : Nat} {v : Value} {t : List UInt8} {K N : Int} {Vv : Nat} {Ab : Option Addr} {lb : List UInt8} {cb B : Nat}
    (h : S26 w V p G q A2 c2 x j bad jt bt go v t K N Vv Ab lb cb B) (h2 : Two w V' p G q A2 c2 x j bad jt' bt') (hf : Fr (At q) V V') : S26 w V' p G q A2 c2 x j bad jt' bt' go v t K N Vv Ab lb cb B :=
  ⟨h2, hf.blk h.blk (fun e => by have : go = q := e; have := h.goq; omega), hf.own h.own (fun g hg e => by have : g = q := e; have := (h.own.lt g hg).1; have := h.vq; omega), h.goq, h.vq⟩
/-- What the tape handed out, as long as the tape alone goes on. -/
def TakenR (t : List UInt8) (n q : Nat) (v : Value) (V : World) : Prop := ∃ A4 c4, v = .slice A4 n c4 ∧ Hid (Byt V q A4 t) ∧ q ≤ V.heap.size
theorem TakenR.keep {t : List UInt8} {n q : Nat} {v : Value} {V V' : World} (h : TakenR t n q v V) (hf : Fr (At q) V V') : TakenR t n q v V' := by
  obtain ⟨A4, c4, e, h1, h2⟩ := h
  refine ⟨A4, c4, e, ⟨h1.out.1, fun hn => ?_⟩, Nat.le_trans h2 hf.size⟩
  obtain ⟨ad, e, hb, hc⟩ := h1.out.2 hn
  exact ⟨ad, e, hb, fun j u hu => (World.cell?_of_block (hf.block _ (by rw [block_of_add]; omega) (fun e => by have : _ = q := e; rw [block_of_add] at this; omega))).trans (hc j u hu)⟩
/-- A number of m bytes: what both answer. -/
def NumTold (w V : World) (p G q : Nat) (A2 : Option Addr) (c2 : Nat) (x : List UInt8) (j : Nat) (bad : Bool) (f : FuncId) (k : IntKind) (m : Nat) (y j' : Nat) (bad' : Bool) : Prop :=
  Hid (Calls Try.prog f #[rptr p] V fun e V' => e = .returned (.int k (y : Int)) ∧ Hid (Two w V' p G q A2 c2 x j' bad' j bad)) ∧
  Hid (∀ V', Hid (Two w V' p G q A2 c2 x j' bad' j bad) → Calls Try.prog 11 #[rptr q, .int .i64 (m : Int)] V' fun e V'' => e = .returned (.int .u64 (y : Int)) ∧ Hid (StR w V'' p G q A2 c2 x j' bad'))
theorem num_told (h : StR w V p G q A2 c2 x j bad) {f : FuncId} {k : IntKind} {m : Nat} (hm : m ≤ 4)
    (h1 : m ≤ (x.drop j).length → Calls Try.prog f #[rptr p] V (RTold V p G (x.drop j) bad k m)) (h2 : (x.drop j).length < m → Calls Try.prog f #[rptr p] V (Nought V p G k)) (hm0 : 0 < m) :
    ∃ (y j' : Nat) (bad' : Bool), y < 256 ^ m ∧ NumTold w V p G q A2 c2 x j bad f k m y j' bad' := by
  by_cases hg : bad = false ∧ j + m ≤ x.length
  · obtain ⟨rfl, hle⟩ := hg
    refine ⟨num ((x.drop j).take m), j + m, false, num_small (Nat.le_refl _), ?_, fun V' hV => ?_⟩
    · refine (h1 (by rw [List.length_drop]; omega)).mono ?_
      rintro e V' ⟨rfl, hr, hf⟩
      rw [List.drop_drop] at hr
      exact ⟨rfl, h.rdstep hr hf (fun e => by cases e)⟩
    · refine (num_yes (n := m) hV.out.tp hle hm).mono ?_
      rintro e V'' ⟨rfl, ht, hg⟩
      exact ⟨rfl, hV.out.tpstep ht hg (fun e => by cases e)⟩
  · have hno : bad = true ∨ x.length < j + m := by
      cases bad
      · exact .inr (by have : ¬ (j + m ≤ x.length) := fun e => hg ⟨rfl, e⟩; omega)
      · exact .inl rfl
    refine ⟨0, x.length, true, Nat.pow_pos (by decide), ?_, fun V' hV => ?_⟩
    · refine (h2 (by
        rcases hno with hb | hb
        · rw [drop_end h.hj hb]; exact hm0
        · rw [List.length_drop]; omega)).mono ?_
      rintro e V' ⟨rfl, hr, hf⟩
      exact ⟨rfl, h.rdstep (by rw [List.drop_length]; exact hr) hf (fun _ => rfl)⟩
    · refine (num_no (n := m) hV.out.tp hno hm).mono ?_
      rintro e V'' ⟨rfl, ht, hg⟩
      exact ⟨rfl, hV.out.tpstep ht hg (fun _ => rfl)⟩
/-- n bytes: what both answer. -/
def TakeTold (w V : World) (p G q : Nat) (A2 : Option Addr) (c2 : Nat) (x : List UInt8) (j : Nat) (bad : Bool) (n : Int) (t : List UInt8) (j' : Nat) (bad' : Bool) : Prop :=
  Hid (Calls Try.prog 14 #[rptr p, .int .i64 n] V fun e V' => ∃ A3 c3, e = .returned (.slice A3 t.length c3) ∧ t.length ≤ c3 ∧ Hid (V'.ownsRow V.heap.size 5 1 (.slice A3 t.length c3) t.length (u8s t)) ∧ Hid (Two w V' p G q A2 c2 x j' bad' j bad) ∧ Fr (At p) V V') ∧
  Hid (∀ V', Hid (Two w V' p G q A2 c2 x j' bad' j bad) → Calls Try.prog 15 #[rptr q, .int .i64 n] V' fun e V'' => ∃ A4 c4, e = .returned (.slice A4 t.length c4) ∧ Hid (Byt V'' q A4 t) ∧ Hid (StR w V'' p G q A2 c2 x j' bad') ∧ Fr (At q) V' V'')
theorem take_told (h : StR w V p G q A2 c2 x j bad) (n : Int) (hn : -9223372036854775808 ≤ n ∧ n ≤ 9223372036854775807) (hx : x.length ≤ 1000000) :
    ∃ (t : List UInt8) (j' : Nat) (bad' : Bool), t.length ≤ 1000000 ∧ TakeTold w V p G q A2 c2 x j bad n t j' bad' := by
  by_cases hg : bad = false ∧ 0 ≤ n ∧ (j : Int) + n ≤ x.length
  · obtain ⟨rfl, hn0, hle⟩ := hg
    obtain ⟨m, rfl⟩ : ∃ m : Nat, n = (m : Int) := ⟨n.toNat, by omega⟩
    have hl : ((x.drop j).take m).length = m := by rw [List.length_take, List.length_drop]; omega
    refine ⟨(x.drop j).take m, j + m, false, by omega, ?_, fun V' hV => ?_⟩
    · refine (rd_take (n := m) h.rd (by rw [List.length_drop]; omega) (by rw [List.length_drop]; omega)).mono ?_
      rintro e V' ⟨v, rfl, ho, hr, hf⟩
      rw [List.drop_drop] at hr
      obtain ⟨A3, c3, rfl, h3, _⟩ := own_slice ho
      exact ⟨A3, c3, rfl, h3, ho, h.rdstep hr hf (fun e => by cases e), hf⟩
    · refine (take_yes (n := m) hV.out.tp (by omega)).mono ?_
      rintro e V'' ⟨A4, c4, rfl, hby, ht, hg⟩
      exact ⟨A4, c4, by rw [hl], hby, hV.out.tpstep ht hg (fun e => by cases e), (Fr.of_grown hg).mono (fun i _ hi => by injection hi)⟩
  · have hno : bad = true ∨ n < 0 ∨ (x.length : Int) - (j : Int) < n := by
      cases bad
      · right
        have : ¬ (0 ≤ n ∧ (j : Int) + n ≤ x.length) := fun e => hg ⟨rfl, e⟩
        omega
      · exact .inl rfl
    refine ⟨[], x.length, true, by simp, ?_, fun V' hV => ?_⟩
    · have hC : Calls Try.prog 14 #[rptr p, .int .i64 n] V (RTook V p G [] [] true) := by
        rcases hno with hb | hb
        · subst hb
          have := h.rd
          rw [drop_end h.hj rfl] at this
          exact rd_take_end this
        · exact rd_take_no h.rd (by rw [List.length_drop]; have := h.tp.le; omega)
      refine hC.mono ?_
      rintro e V' ⟨v, rfl, ho, hr, hf⟩
      obtain ⟨A3, c3, rfl, h3, _⟩ := own_slice ho
      exact ⟨A3, c3, rfl, h3, ho, h.rdstep (by rw [List.drop_length]; exact hr) hf (fun _ => rfl), hf⟩
    · refine (take_no hV.out.tp hno hn).mono ?_
      rintro e V'' ⟨rfl, ht, hg⟩
      exact ⟨none, 0, rfl, ⟨by simp [u8s], fun h => absurd h (by simp)⟩, hV.out.tpstep ht hg (fun _ => rfl), (Fr.of_grown hg).mono (fun i _ hi => by injection hi)⟩
end
set_option maxHeartbeats 4000000 in
set_option maxRecDepth 100000 in
theorem walk {H : Type} {enc : TypeId × Value → H} {base : Nat} (a0 : Option Addr) (len0 cap0 : Nat) (z0 : List Int) (v1 : Value) (d1 : DataW H) (p1 : List MemPlace) (w : World) (w0 : IsRow .u8 w a0 len0 cap0 z0) (o1 : Value.okWide Try.prog w .any base 23 v1) (k1 : DataW.Trod enc Try.prog w 0 (fun _ => true) true 23 v1 d1 p1) :
    Calls Try.prog 3 #[.slice a0 len0 cap0, v1] w fun e w' => e = .returned (.bool true) ∧ Below w.heap.size w w' := by
  obtain ⟨l, hlen, hcap, hc63, hby⟩ := bytes_of w0
  subst hlen
  obtain ⟨x, hx⟩ : ∃ x, x = l.take 3000 := ⟨_, rfl⟩
  have hx1 : l.length ≤ 3000 → x = l := fun h => by rw [hx, List.take_of_length_le h]
  have hx2 : ¬ l.length ≤ 3000 → x.length = 3000 := fun h => by rw [hx, List.length_take]; omega
  have hx3 : x.length ≤ 3000 ∧ x.length ≤ l.length := by rw [hx, List.length_take]; omega
  have hbx : Byt w w.heap.size a0 x := by rw [hx]; exact hby.take_ 3000
  have HX1 := Lib.hid hx1
  have HX2 := Lib.hid hx2
  have HBX := Lib.hid hbx
  obtain ⟨hx3, hx4⟩ := hx3
  obtain ⟨A1, ns, cs1, rfl⟩ := okWide_slice Try.underlying23 o1
  have hsee : Sees w (.slice OpSh) [.slice A1 ns cs1] := sees_of (sh := .slice OpSh) rfl (by kernel_rfl) k1
  obtain ⟨A1', ns', cs1', he, hcs1, hcs63, hel⟩ := Sees.elems hsee
  injection he with e1 e2 e3
  subst e1 e2 e3
  have HOP : Hid (∀ i, i < ns → ∃ ad K N V Ab lb cb, A1 = some ad ∧ OpAt w ad i K N V Ab lb cb) := opAt_of (c := cs1) hel
  clear hx hx1 hx2 hby hbx w0 o1 k1 hsee hel
  obtain ⟨i0, hi0, hz0, hz1, hz2⟩ := info_parts3 u8_info
  go_enter Try.func3, Try.ntmps3
  go_wp2_with fail
  refine (first_any w).mono ?_
  rintro e W1 ⟨rfl, hb1⟩
  have HB1 := Lib.hid hb1
  have HE := Lib.hid (own_empty W1 5)
  clear hb1
  go_upto_region 3 with (fail)
  go_cut [5] from 16 to 23 (fun s5 wx => ∃ n A c, s5 = .slice A n c ∧ Hid (n = x.length) ∧ n ≤ 3000 ∧ n ≤ c ∧ c ≤ 9223372036854775807 ∧ Hid (wx.ownsRow W1.heap.size 5 1 (.slice A n c) n (u8s x)) ∧ Hid (Below W1.heap.size W1 wx))
  case first =>
    by_cases h3 : (l.length : Int) ≤ 3000
    · have hxl := HX1.out (by omega)
      subst hxl
      go_wp2_with (at_builtin; refine wpList_append_any _ rfl (.tmp 16) (.tmp 21) _ rfl W1.heap.size 5 i0 _ 1 1 Try.underlying22 hi0 hz0 hz1 hz2 rfl (by omega) (.slice (some ⟨W1.heap.size, 0, none⟩) 0 0) 0 [] rfl HE.out w.heap.size a0 x.length cap0 (u8s x) rfl ((HBX.out.below HB1.out).alloc HB1.out.size _) (u8s_one x) (by simp only [maxLen]; omega) (by omega) (by simp) ?_; intro v1 w1 hown1 hg1 hat1; obtain ⟨n, A, c, rfl, HN, hnq, hnc, hc1, HO, HB2⟩ := copied HB1.out hown1 rfl hg1; clear hown1 hg1 hat1)
      go_meet
      exact ⟨n, A, c, rfl, HN, by omega, hnc, hc1, HO, HB2⟩
    · go_wp2_with (at_builtin; refine wpList_append_any _ rfl (.tmp 16) (.tmp 21) _ rfl W1.heap.size 5 i0 _ 1 1 Try.underlying22 hi0 hz0 hz1 hz2 rfl (by omega) (.slice (some ⟨W1.heap.size, 0, none⟩) 0 0) 0 [] rfl HE.out w.heap.size a0 3000 cap0 (u8s x) rfl (by have := ((HBX.out.below HB1.out).alloc HB1.out.size (.cells #[] 5)); unfold Byt at this; rw [HX2.out (by omega)] at this; exact this) (u8s_one x) (by simp only [maxLen]; omega) (by omega) (by simp) ?_; intro v1 w1 hown1 hg1 hat1; obtain ⟨n, A, c, rfl, HN, hnq, hnc, hc1, HO, HB2⟩ := copied HB1.out hown1 (HX2.out (by omega)).symm hg1; clear hown1 hg1 hat1)
      go_meet
      exact ⟨n, A, c, rfl, HN, by omega, hnc, hc1, HO, HB2⟩
  case rest =>
    obtain ⟨n, A, c, rfl, HN, hn3, hnc, hc1, HO, HB2⟩ := hcut
    have hwb := HB2.out.size
    have hwb1 := HB1.out.size
    have HOB : Hid (Byt wc wc.heap.size A x) := by have := HO.out; rw [HN.out] at this; exact Reads.of_own this
    go_wp2_with fail
    refine (newReader_any A x n c wc HN.out (by rw [← HN.out]; omega) HOB.out).mono ?_
    rintro e W3 ⟨p, G, rfl, hr3, hG, hb3⟩
    have HR3 := Lib.hid hr3
    have HB3 := Lib.hid hb3
    have HG := Lib.hid hG
    have HE3 := Lib.hid (own_empty W3 5)
    clear hr3 hb3 hG
    go_upto_region 5 with (at_builtin; refine wpList_append_any _ rfl (.tmp 25) (.tmp 26) _ rfl W3.heap.size 5 i0 _ 1 1 Try.underlying22 hi0 hz0 hz1 hz2 rfl (by omega) (.slice (some ⟨W3.heap.size, 0, none⟩) 0 0) 0 [] rfl HE3.out wc.heap.size A n c (u8s x) rfl (by have := ((HOB.out.below HB3.out).alloc HB3.out.size (.cells #[] 5)); unfold Byt at this; rw [← HN.out] at this; exact this) (u8s_one x) (by simp only [maxLen]; omega) (by omega) (by simp) ?_; intro v1 w1 hown1 hg1 hat1; obtain ⟨n2, A2, c2, rfl, HN2, hnq2, hnc2, hc2, HO2, HB4⟩ := copied HB3.out hown1 HN.out hg1; clear hown1 hg1 hat1)
    obtain ⟨W4, hW4⟩ : ∃ W4, W4 = w1.alloc (.cells #[.slice A2 n2 c2, .int .i64 0, .bool false] 29) := ⟨_, rfl⟩
    obtain ⟨q, hq⟩ : ∃ q, q = w1.heap.size := ⟨_, rfl⟩
    rw [← hW4, ← hq]
    have h31 := HB4.out.size
    have hpW3 := HR3.out.lt
    have ST4 : Hid (StR w W4 p G q A2 c2 x 0 false) := by
      have hb14 : Below w1.heap.size w1 W4 := by rw [hW4]; exact (Below.refl _ _).alloc (Nat.le_refl _) _
      have hA2 : ∀ a, A2 = some a → W3.heap.size ≤ a.block ∧ a.block < w1.heap.size := fun a ha => HO2.out.lt a.block (by subst ha; rfl)
      have hby2 : Byt w1 w1.heap.size A2 x := by have := HO2.out; rw [HN2.out] at this; exact Reads.of_own this
      have hbw3 : Below w.heap.size w W3 := (HB1.out.trans (HB2.out.mono HB1.out.size)).trans (HB3.out.mono (Nat.le_trans HB1.out.size HB2.out.size))
      have hbw1 : Below w.heap.size w w1 := hbw3.trans (HB4.out.mono hbw3.size)
      refine ⟨hbw1.trans (hb14.mono hbw1.size), (HR3.out.grows HB4.out).grows hb14, ⟨?_, ?_, Nat.zero_le _, by rw [← HN2.out]; exact hnc2, hc2⟩, fun h => (by cases h), fun h => (by cases h), by have := HG.out; have := HB2.out.size; have := HB1.out.size; omega, by omega, fun a ha => by have := hA2 a ha; omega⟩
      · rw [hW4, hq, ← HN2.out]; exact Blk.new _ _ _
      · have := hby2.below (hb14); rw [hq]; exact this
    have HO4 : Hid (W4.ownsRow W1.heap.size 5 1 (.slice A n c) n (u8s x)) := by
      have hb : Below wc.heap.size wc W4 := (HB3.out.trans (HB4.out.mono HB3.out.size)).trans (by rw [hW4]; exact ((Below.refl w1.heap.size w1).alloc (Nat.le_refl _) _).mono (by have := HB3.out.size; omega))
      exact (Fr.of_below hb).own HO.out (fun g hg h => by have := (HO.out.lt g hg).2; omega)
    have HAq : Hid (∀ g, (Value.slice A n c).ownBlock = some g → w.heap.size ≤ g ∧ g < G) := fun g hg => by
      have := HO.out.lt g hg
      have := HG.out
      omega
    clear hW4 hq
    go_wp2_with fail
    go_loopw [8, 32] (fun _ i wr => ∃ (k : Nat) (l' : List UInt8), k ≤ n ∧ i = .int .i64 k ∧ Hid (n = l'.length) ∧ Hid (wr.ownsRow W1.heap.size 5 1 (.slice A n c) n (u8s l')) ∧ Hid (Fr (fun i => some i = (Value.slice A n c).ownBlock) W4 wr)) (fun _ i _ => n - (intOf i).toNat)
    case atStart => exact ⟨0, x, by omega, rfl, HN, HO4.out, Fr.refl _ _⟩
    case round =>
      obtain ⟨k, l', hk, rfl, HN', HOr, HFr⟩ := hrel
      by_cases hlt : k < n
      · obtain ⟨g, y, l2, rfl, hcell, hfr, hn2', hst⟩ := flip_at HOr.out HN'.out hlt
        have HN2' := Lib.hid hn2'
        have HST := Lib.hid hst
        have hyb := u8_bd y
        clear hn2' hst
        go_wp2_with fail
        go_roundw
        case rel => exact ⟨k + 1, l2, by omega, by go_num, HN2', (HST.out _ rfl).1, HFr.out.same (HST.out _ rfl).2.out⟩
        case measure => simp [intOf]; omega
      · obtain rfl : k = n := by omega
        have ST5 : Hid (StR w wr p G q A2 c2 x 0 false) := ST4.out.fr HFr.out (fun i hi => by have := HAq.out i hi.symm; omega)
        clear HOr HFr ST4 HO4
        go_wp2_with fail
        go_loopw [9, 10, 11, 12, 13, 44] (fun _ _ _ _ _ i wr => ∃ (k j : Nat) (bad : Bool), k ≤ ns ∧ i = .int .i64 k ∧ Hid (StR w wr p G q A2 c2 x j bad)) (fun _ _ _ _ _ i _ => ns - (intOf i).toNat)
        case atStart => exact ⟨0, 0, false, by omega, rfl, ST5.out⟩
        case round =>
          obtain ⟨k, j, bad, hk, rfl, ST⟩ := hrel
          by_cases hlt : k < ns
          · obtain ⟨ad, K, N, V, Ab, lb, cb, rfl, hop⟩ := HOP.out k hlt
            obtain ⟨o1, o2, o3, o4, bK, bN, bV, bl, bc, oby⟩ := hop.keep ST.out.below
            by_cases h60 : k < 60
            · obtain ⟨kd, hkd, hkd5⟩ : ∃ kd : Nat, (IntKind.u64.wrap K).tmod 5 = (kd : Int) ∧ kd < 5 := by
                have h0 : 0 ≤ IntKind.u64.wrap K := by rw [IntKind.wrap_u64]; omega
                rw [Int.tmod_eq_emod_of_nonneg h0]
                exact ⟨(IntKind.u64.wrap K % 5).toNat, by omega, by omega⟩
              go_upto_region 14 with (fail)
              obtain ⟨Wo, hWo⟩ : ∃ Wo, Wo = wr.alloc (.cells #[.int .i64 K, .int .i64 N, .int .u32 (V : Int), .slice Ab lb.length cb] 32) := ⟨_, rfl⟩
              have HBo : Hid (Blk Wo wr.heap.size 32 #[.int .i64 K, .int .i64 N, .int .u32 (V : Int), .slice Ab lb.length cb]) := by rw [hWo]; exact Blk.new _ _ _
              have STo : Hid (StR w Wo p G q A2 c2 x j bad) := ST.out.grows (by rw [hWo]; exact (Below.refl _ _).alloc (Nat.le_refl _) _)
              have HGo : Hid (q < wr.heap.size) := ST.out.tp.blk.lt
              rw [← hWo]
              clear hWo o1 o2 o3 o4 oby ST
              obtain ⟨go, hgo⟩ : ∃ go, go = wr.heap.size := ⟨_, rfl⟩
              rw [← hgo] at HBo HGo ⊢
              clear hgo
              have co0 : Wo.cell? ⟨go, 0, none⟩ = some (.int .i64 K) := HBo.out.cell 0
              go_upto_block 4 with (fail)
              try rw [hkd]
              clear hkd
              go_cut [11, 12] from 51 to 105 (fun s11 s12 wx => ∃ (j' : Nat) (bad' : Bool), Hid (StR w wx p G q A2 c2 x j' bad'))
              case first =>
                have hkc : kd = 0 ∨ kd = 1 ∨ kd = 2 ∨ kd = 3 ∨ kd = 4 := by omega
                rcases hkc with rfl | rfl | rfl | rfl | rfl
                · obtain ⟨y, j', bad', hy, C1, C2⟩ := num_told (m := 1) STo.out (by omega) (fun h => rd_u8 STo.out.rd h) (fun h => rd_u8_no STo.out.rd h) (by omega)
                  have hy2 : y < 4294967296 := by omega
                  clear hy
                  go_wp2_with fail
                  refine C1.out.mono ?_
                  rintro e V1 ⟨rfl, HT1⟩
                  go_wp2_with fail
                  refine (C2.out V1 HT1).mono ?_
                  rintro e V2 ⟨rfl, HT2⟩
                  go_wp2_with fail
                  go_meet
                  exact ⟨j', bad', HT2⟩
                · obtain ⟨y, j', bad', hy, C1, C2⟩ := num_told (m := 2) STo.out (by omega) (fun h => rd_u16 STo.out.rd h) (fun h => rd_u16_no STo.out.rd h) (by omega)
                  have hy2 : y < 4294967296 := by omega
                  clear hy
                  go_wp2_with fail
                  refine C1.out.mono ?_
                  rintro e V1 ⟨rfl, HT1⟩
                  go_wp2_with fail
                  refine (C2.out V1 HT1).mono ?_
                  rintro e V2 ⟨rfl, HT2⟩
                  go_wp2_with fail
                  go_meet
                  exact ⟨j', bad', HT2⟩
                · obtain ⟨y, j', bad', hy, C1, C2⟩ := num_told (m := 4) STo.out (by omega) (fun h => rd_u32 STo.out.rd h) (fun h => rd_u32_no STo.out.rd h) (by omega)
                  have hy2 : y < 4294967296 := by omega
                  clear hy
                  go_wp2_with fail
                  refine C1.out.mono ?_
                  rintro e V1 ⟨rfl, HT1⟩
                  go_wp2_with fail
                  refine (C2.out V1 HT1).mono ?_
                  rintro e V2 ⟨rfl, HT2⟩
                  go_wp2_with fail
                  go_meet
                  exact ⟨j', bad', HT2⟩
                · have co1 : Wo.cell? ⟨go, 1, none⟩ = some (.int .i64 N) := HBo.out.cell 1
                  obtain ⟨t, j', bad', htl, C1, C2⟩ := take_told STo.out N bN (by omega)
                  obtain ⟨nt, hnt⟩ : ∃ nt, nt = t.length := ⟨_, rfl⟩
                  have HNT := Lib.hid hnt
                  unfold TakeTold at *
                  rw [← hnt] at htl C1 C2
                  clear hnt
                  go_wp2_with fail
                  refine C1.out.mono ?_
                  rintro e V1 ⟨A3, c3, rfl, h3, HO1, HT1, hf1⟩
                  have HS26 : Hid (S26 w V1.drew p G q A2 c2 x j' bad' j bad go (.slice A3 nt c3) t K N V Ab lb cb Wo.heap.size) := by
                    have hpq := STo.out.pq
                    have h26 : S26 w V1 p G q A2 c2 x j' bad' j bad go (.slice A3 nt c3) t K N V Ab lb cb Wo.heap.size := ⟨HT1.out, hf1.blk HBo.out (fun e => by have : go = p := e; have := HGo.out; omega), by have := HO1.out; rw [HNT.out] at this ⊢; exact this, HGo.out, STo.out.tp.blk.lt⟩
                    exact h26.drew
                  clear hf1 HT1 HO1 C1 co1
                  have C26 : Hid (∀ V', Hid (S26 w V' p G q A2 c2 x j' bad' j bad go (.slice A3 nt c3) t K N V Ab lb cb Wo.heap.size) → Calls Try.prog 15 #[rptr q, .int .i64 N] V' fun e V'' => ∃ v, e = .returned v ∧ TakenR t nt q v V'' ∧ Hid (S26 w V'' p G q A2 c2 x j' bad' j' bad' go (.slice A3 nt c3) t K N V Ab lb cb Wo.heap.size) ∧ Fr (At q) V' V'') := fun V' hV => by
                    refine (C2.out V' hV.out.two).mono ?_
                    rintro e V'' ⟨A4, c4, rfl, hby, hs, hf⟩
                    exact ⟨_, rfl, ⟨A4, c4, rfl, hby, Nat.le_of_lt hs.out.tp.blk.lt⟩, hV.out.step hs.out hf, hf⟩
                  go_upto_region 26 with (fail)
                  refine wp_region_stage (Fr (At q)) (fun m V' => Hid (S26 w V' p G q A2 c2 x j' bad' (if m = 0 then j else j') (if m = 0 then bad else bad') go (.slice A3 nt c3) t K N V Ab lb cb Wo.heap.size)) [(false, .exact (.slice A3 nt c3)),
                      (false, .exact (.string ⟨t.toArray⟩)),
                      (false, .exact (rptr q)),
                      (false, .exact (.pointer (some ⟨go, 1, none⟩))),
                      (false, .exact (.int .i64 N)),
                      (true, .grows (TakenR t nt q)),
                      (false, .exact (.string ⟨t.toArray⟩)),
                      (false, .exact (.bool false))] (by kernel_rfl) (by kernel_rfl) (by kernel_rfl) rfl ?lasts ?start ?walk
                  case lasts => exact ⟨fun _ _ _ => TakenR.keep, trivial⟩
                  case start => exact HS26
                  case walk =>
                    refine stage_pure rfl (fun V => Fr.refl _ _) (fun V m hS hl => by go_simp) ?_
                    simp only [Act.put, List.setIfInBounds_toArray, List.set_cons_zero, List.set_cons_succ, List.cons_append, List.nil_append]
                    refine stage_pure rfl (fun V => Fr.refl _ _) (fun V m hS hl => by
                        have hcv := run_str (P := Try.prog) (Own.byt hS.out.own) 22 9 5 Try.underlying22 Try.underlying5 Try.underlying9 nt c3 HNT.out
                        go_simp) ?_
                    simp only [Act.put, List.setIfInBounds_toArray, List.set_cons_zero, List.set_cons_succ, List.cons_append, List.nil_append]
                    refine stage_pure rfl (fun V => Fr.refl _ _) (fun V m hS hl => by go_simp) ?_
                    simp only [Act.put, List.setIfInBounds_toArray, List.set_cons_zero, List.set_cons_succ, List.cons_append, List.nil_append]
                    refine stage_pure rfl (fun V => Fr.refl _ _) (fun V m hS hl => by go_simp) ?_
                    simp only [Act.put, List.setIfInBounds_toArray, List.set_cons_zero, List.set_cons_succ, List.cons_append, List.nil_append]
                    refine stage_pure rfl (fun V => Fr.refl _ _) (fun V m hS hl => by
                        have hc : V.cell? ⟨go, 1, none⟩ = some (.int .i64 N) := hS.out.blk.cell 1
                        go_simp) ?_
                    simp only [Act.put, List.setIfInBounds_toArray, List.set_cons_zero, List.set_cons_succ, List.cons_append, List.nil_append]
                    refine stage_move_grows rfl (fun V hS hl => by
                        go_simp
                        refine (C26.out V hS).mono ?_
                        rintro e V' ⟨v, rfl, h1, h2, h3⟩
                        exact ⟨_, rfl, h3, h1, h2⟩) (fun v90 => ?_)
                    simp only [Act.put, List.setIfInBounds_toArray, List.set_cons_zero, List.set_cons_succ, List.cons_append, List.nil_append]
                    refine stage_pure rfl (fun V => Fr.refl _ _) (fun V m hS hl => by
                        obtain ⟨A4, c4, rfl, h1, _⟩ := (hl.1 (by kernel_rfl))
                        have hcv := run_str (P := Try.prog) h1.out 22 9 5 Try.underlying22 Try.underlying5 Try.underlying9 nt c4 HNT.out
                        go_simp) ?_
                    simp only [Act.put, List.setIfInBounds_toArray, List.set_cons_zero, List.set_cons_succ, List.cons_append, List.nil_append]
                    refine stage_pure rfl (fun V => Fr.refl _ _) (fun V m hS hl => by go_simp) ?_
                    simp only [Act.put, List.setIfInBounds_toArray, List.set_cons_zero, List.set_cons_succ, List.cons_append, List.nil_append]
                    refine stage_nil (fun V2 hS hF => ?_)
                    have HO2 : Hid (V2.ownsRow Wo.heap.size 5 1 (.slice A3 nt c3) nt (u8s t)) := by have := hS.out.own; unfold Own at this; rw [← HNT.out] at this; exact this
                    have HT2 : Hid (StR w V2 p G q A2 c2 x j' bad') := hS.out.two
                    have HVQ : Hid (q < Wo.heap.size) := hS.out.vq
                    clear hS hF
                    go_wp2_with fail
                    go_loopw [12, 95] (fun _ i wr => ∃ (k : Nat) (l' : List UInt8), k ≤ nt ∧ i = .int .i64 k ∧ Hid (nt = l'.length) ∧ Hid (wr.ownsRow Wo.heap.size 5 1 (.slice A3 nt c3) nt (u8s l')) ∧ Hid (StR w wr p G q A2 c2 x j' bad')) (fun _ i _ => nt - (intOf i).toNat)
                    case atStart => exact ⟨0, t, by omega, rfl, HNT, HO2.out, HT2.out⟩
                    case round =>
                      obtain ⟨k, l', hk, rfl, HN', HOr, HTr⟩ := hrel
                      by_cases hlt : k < nt
                      · obtain ⟨g, y, l2, rfl, hcell, hfr, hn2', hst⟩ := flip_at HOr.out HN'.out hlt
                        have HN2' := Lib.hid hn2'
                        have HST := Lib.hid hst
                        have HGB : Hid (Wo.heap.size ≤ g) := (HOr.out.lt g rfl).1
                        have hyb := u8_bd y
                        clear hn2' hst
                        go_wp2_with fail
                        go_roundw
                        case rel => exact ⟨k + 1, l2, by omega, by go_num, HN2', (HST.out _ rfl).1, HTr.out.fr (HST.out _ rfl).2.out (fun i hi => by have e0 : i = g := (by injection hi); have := HGB.out; have := HVQ.out; have h3 := HTr.out.pq; have h4 := HTr.out.rd.le; have h5 := HTr.out.base; omega)⟩
                        case measure => simp [intOf]; omega
                      · obtain rfl : k = nt := by omega
                        go_wp2_with fail
                        go_meet
                        exact ⟨j', bad', HTr⟩
                · go_wp2_with fail
                  go_meet
                  exact ⟨j, bad, STo.out⟩
              case rest =>
                obtain ⟨j', bad', HT⟩ := hcut
                obtain ⟨nx, hnx⟩ : ∃ nx, nx = x.length := ⟨_, rfl⟩
                have hjn : j' ≤ nx := by rw [hnx]; exact HT.out.tp.le
                have hnx3 : nx ≤ 3000 := by omega
                have c0 : wc.cell? ⟨q, 0, none⟩ = some (.slice A2 nx c2) := by rw [hnx]; exact HT.out.tp.blk.cell 0
                have c1 : wc.cell? ⟨q, 1, none⟩ = some (.int .i64 (j' : Int)) := HT.out.tp.blk.cell 1
                have c2' : wc.cell? ⟨q, 2, none⟩ = some (.bool bad') := HT.out.tp.blk.cell 2
                have HLEN : Hid ((x.drop j').length = nx - j') := by rw [List.length_drop, hnx]; rfl
                clear hnx
                go_upto_if 108 with (fail)
                go_cut [13] from 105 to 119 (fun s13 wx => s13 = .int .i64 (endOf (x.drop j') bad') ∧ ∃ m, wc.drewN m = wx)
                case first =>
                  cases bad'
                  · by_cases hjl : j' < nx
                    · have he : endOf (x.drop j') false = 41 := by unfold endOf; rw [if_neg (by decide), HLEN.out, if_neg (by omega)]
                      go_wp2_with fail
                      go_quiet (fail)
                      go_wp2_with fail
                      go_meet
                      exact ⟨by rw [he], _, rfl⟩
                    · have he : endOf (x.drop j') false = 0 := by unfold endOf; rw [if_neg (by decide), HLEN.out, if_pos (by omega)]
                      go_wp2_with fail
                      go_quiet (fail)
                      go_wp2_with fail
                      go_meet
                      exact ⟨by rw [he], _, rfl⟩
                  · have he : endOf (x.drop j') true = 40 := rfl
                    go_wp2_with fail
                    go_meet
                    exact ⟨by rw [he], 0, rfl⟩
                case rest =>
                  obtain ⟨rfl, m, rfl⟩ := hcut
                  have c0 : (wc.drewN m).cell? ⟨q, 0, none⟩ = some (.slice A2 nx c2) := c0
                  have c1 : (wc.drewN m).cell? ⟨q, 1, none⟩ = some (.int .i64 (j' : Int)) := c1
                  have c2' : (wc.drewN m).cell? ⟨q, 2, none⟩ = some (.bool bad') := c2'
                  have HT2 : Hid (StR w (wc.drewN m) p G q A2 c2 x j' bad') := HT.out.drewN m
                  obtain ⟨Wq, hWq⟩ : ∃ Wq, Wq = wc.drewN m := ⟨_, rfl⟩
                  rw [← hWq] at c0 c1 c2' HT2 ⊢
                  clear hWq HT
                  obtain ⟨en, hen⟩ : ∃ en, en = endOf (x.drop j') bad' := ⟨_, rfl⟩
                  have L1 : Hid (∀ n, Calls Try.prog 16 #[rptr p] (Wq.drewN n) fun e w' => e = .returned (.int .i64 ((nx : Int) - (j' : Int))) ∧ Wq.drewN n = w') := fun n => by
                    have := rd_left (HT2.out.drewN n).rd
                    rw [HLEN.out, show ((nx - j' : Nat) : Int) = (nx : Int) - (j' : Int) by omega] at this
                    exact this
                  have L2 : Hid (∀ n, Calls Try.prog 17 #[rptr p] (Wq.drewN n) fun e w' => e = .returned (.bool (!bad')) ∧ Wq.drewN n = w') := fun n => rd_good (HT2.out.drewN n).rd
                  have L3 : Hid (∀ n, Calls Try.prog 18 #[rptr p] (Wq.drewN n) fun e w' => e = .returned (.int .i64 en) ∧ Wq.drewN n = w') := fun n => by
                    have := rd_end (HT2.out.drewN n).rd
                    rw [← hen] at this
                    exact this
                  rw [← hen]
                  have d1 : IntKind.i64.wrap ((nx : Int) - (j' : Int)) = (nx : Int) - (j' : Int) := IntWalk.i64_in _ (by omega)
                  have d2 : ((!bad') == bad') = false := by cases bad' <;> rfl
                  clear hen
                  go_wp2_with fail
                  go_quiet (first | (go_at_call 16; exact quiet_left (L1.out _)) | (go_at_call 17; exact quiet_left (L2.out _)) | (go_at_call 18; exact quiet_left (L3.out _)))
                  go_wp2_with fail
                  go_roundw
                  case rel => exact ⟨k + 1, j', bad', by omega, by go_num, HT2.out.drewN _⟩
                  case measure => simp [intOf]; omega
            · have hbr : Below w.heap.size w (wr.alloc (.cells #[.int .i64 K, .int .i64 N, .int .u32 (V : Int), .slice Ab lb.length cb] 32)) := ST.out.below.alloc ST.out.below.size _
              have HBR := Lib.hid hbr
              clear hbr
              go_wp2_with fail
              go_ret
              exact ⟨rfl, HBR.out⟩
          · obtain rfl : k = ns := by omega
            go_wp2_with fail
            go_ret
            exact ⟨rfl, ST.out.below⟩

/-! ### The row's step -/
set_option maxRecDepth 100000 in
theorem lifted (os : Os) (started : os.Started) (H : Type) (enc : TypeId × Value → H) :
    ReturnsInHanded {} Try.checked os 3 .any (Rows.octetReadsSpec.pre6 enc Try.prog Try.f3 Rows.octetReadsRow.domain false) (Rows.octetReadsSpec.post enc Try.prog Try.f3 false true false false) := by
  refine returnsInHanded_of_change (C := Try.checked) own started (by kernel_rfl) Try.func3
    (ChangeSpec.witness6 (enc := enc) (C := Try.checked) false ⟨#[], #[.slice none 0 0, .slice none 0 0], []⟩ 8 (by kernel_rfl) (by kernel_rfl) (by kernel_rfl) (by kernel_rfl)) ?_
  intro W base args ds gs before hval0 hW hcnd _
  have hval : ∀ (j : Nat) t v, Try.f3.params[j]? = some t → args[j]? = some v → Value.okWide Try.prog W .any base t v := hval0
  have hW' := hW
  obtain ⟨p, q, hA0, hV, rfl, hfz, hnd⟩ := hW
  have hA : DataW.TrodAll enc Try.prog W 0 (fun _ => true) true Try.f3.params.toList args.toList ds p := hA0
  rw [Try.params3] at hA hval
  obtain ⟨v0, vs0, d0, ds0, p0, q0, hargs, rfl, rfl, h0, r0⟩ := trodAll_cons hA
  obtain ⟨v1, vs1, d1, ds1, p1, q1, rfl, rfl, rfl, h1, r1⟩ := trodAll_cons r0
  obtain ⟨rfl, rfl, rfl⟩ := trodAll_nil r1
  obtain rfl : args = #[v0, v1] := by cases args; simp_all
  obtain ⟨rfl, rfl⟩ := trodVars_none hV
  obtain ⟨a0, len0, cap0, rfl⟩ := okWide_slice Try.underlying22 (hval 0 22 v0 rfl rfl)
  have k0 := h0
  have lt0 : ∀ x ∈ p0, x.block < W.heap.size := by obtain ⟨m, hm⟩ := k0; exact DataW.trod_lt m _ _ _ hm
  obtain ⟨z0, w0⟩ : ∃ zs, IsRow .u8 W a0 len0 cap0 zs := by
    obtain ⟨fuel, hf⟩ := h0
    rcases open_ints Try.underlying22 Try.underlying5 (by kernel_rfl) hf with ⟨hcs, _⟩ | ⟨x, l, c, zs, hcs, _, hl, hm, hz, _, hcell, hwz⟩
    · simp [Value.cells] at hcs
      obtain ⟨rfl, rfl, rfl⟩ := hcs
      exact ⟨[], .inl ⟨rfl, rfl, rfl, rfl⟩⟩
    · simp [Value.cells] at hcs
      obtain ⟨rfl, rfl, rfl⟩ := hcs
      exact ⟨zs, .inr ⟨_, rfl, hl, hm, by simpa using hz, hcell, hwz⟩⟩
  have lt1 : ∀ x ∈ p1, x.block < W.heap.size := by obtain ⟨m, hm⟩ := h1; exact DataW.trod_lt m _ _ _ hm
  clear hA0 hval0
  refine (walk a0 len0 cap0 z0 v1 d1 p1 W w0 (hval 1 23 v1 rfl rfl) h1).mono fun e W' ⟨he, bel⟩ => ?_
  subst he
  exact ⟨_, rfl, _, _, _, [], _, [], hW', trodAll_mk1 (shut_bool Try.underlying4 _), (trodAll_cons_mk (Below.trod laidOut (by kernel_rfl) (of_decide_eq_true (by kernel_rfl)) k0 bel lt0) (trodAll_cons_mk (Below.trod laidOut (by kernel_rfl) (of_decide_eq_true (by kernel_rfl)) h1 bel lt1) trodAll_mk0)), rfl, bel.frame _, fun h => by cases h⟩

theorem over : Rows.octetReadsRow.holds Try.pinned (OpenSpec.ofChange Rows.octetReadsSpec) :=
  OpenClaim.holds_of_wide 3 Try.f3 rfl rfl rfl rfl rfl rfl rfl ⟨rfl, rfl, rfl, rfl, rfl⟩ rfl rfl rfl rfl rfl (by kernel_rfl) Try.func3 (by kernel_rfl)
    (of_decide_eq_true (by kernel_rfl)) (by unfold Func.isWrapper; first | (rw [if_pos (by decide +kernel)]; kernel_rfl) | (rw [if_neg (by decide +kernel)]; exact ⟨rfl, rfl⟩))
    (fun os started H enc _ => lifted os started H enc)

theorem proved : Rows.OctetReadsSaid := over
#print axioms proved
end Go.Proofs.Ytnnfjndbilapfaa.octetReads
