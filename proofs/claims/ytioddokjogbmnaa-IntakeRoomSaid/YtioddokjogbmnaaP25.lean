/-
  Of the texts Jp28, Jp23, Jp24: what the laws reach.
-/
import Derived.Test.YtioddokjogbmnaaP24

set_option linter.unusedVariables false
set_option linter.unusedSimpArgs false
set_option maxRecDepth 20000
namespace Go.Proofs.Ytioddokjogbmnaa.Chk
open Go.ChangeShapes Go.WideShapes Go.ChangeAt Go.RowKit Go.Deep Go.Maps Go.Proofs.Ytioddokjogbmnaa.Words Go.Proofs.Ytioddokjogbmnaa.Oct Go.Proofs.Ytioddokjogbmnaa.Par Go.Proofs.Ytioddokjogbmnaa.Mx
section
variable {w w' : World} {T T' : Nat → Nat} {p bl bo h h' : Nat} {inter : Bool} {rv : Value} {F : Gk → Option Nat} {xs : List Mg} {Om : Nat → Option Nat} {Wb next : Nat → Nat} {wait wait' : List Jo.Ms} {S G : Nat → Prop} {s : Jo.JS} {pcs : List Jo.Pc}
theorem cells_mid {cs : Array Value} {c : Ck} {Hg Hd' Hs Hp Hb : Hd} (k : Cells cs c Hg Hd' Hs Hp Hb) (m : Nat) : Cells (cs.setIfInBounds 7 (.int .u32 (m : Int))) { c with mid := m } Hg Hd' Hs Hp Hb := by
  have hs := k.size
  have hg : ∀ i u, i ≠ 7 → cs[i]? = some u → (cs.setIfInBounds 7 (.int .u32 (m : Int)))[i]? = some u := fun i u hi hu => by
    rw [Array.getElem?_setIfInBounds, if_neg (fun e => hi e.symm)]; exact hu
  refine ⟨by simp [hs], hg _ _ (by decide) k.c0, hg _ _ (by decide) k.c1, hg _ _ (by decide) k.c2, hg _ _ (by decide) k.c3, hg _ _ (by decide) k.c4, hg _ _ (by decide) k.c5, hg _ _ (by decide) k.c6, ?_, hg _ _ (by decide) k.c8, hg _ _ (by decide) k.c9, hg _ _ (by decide) k.c10, hg _ _ (by decide) k.c11, hg _ _ (by decide) k.c12, hg _ _ (by decide) k.c13, hg _ _ (by decide) k.c14, hg _ _ (by decide) k.c15, hg _ _ (by decide) k.c16, hg _ _ (by decide) k.c17, hg _ _ (by decide) k.c18⟩
  rw [Array.getElem?_setIfInBounds, if_pos rfl, if_pos (by omega)]
set_option maxHeartbeats 1000000 in
theorem bclone_big (A : Option Addr) (l : List UInt8) (n c : Nat) (w : World) (hn : n = l.length) (hl : n ≤ 2000000000) (h : Byt w w.heap.size A l) :
    Calls Try.prog 32 #[.slice A n c] w fun e w' => (∃ v, e = .returned v ∧ Words.Own w' w.heap.size v l) ∧ Below w.heap.size w w' := by
  obtain ⟨i0, hi0, hz0, hz1, hz2⟩ := info_parts3 u8_info
  have hnil := fun (W : World) (a : Option Addr) (n c : Nat) => Lib.run_eql_slice_nil (P := Try.prog) W 39 5 a n c 0 0 Try.underlying39
  rcases A with _ | ad
  · have h0 : l = [] := by
      rcases Nat.eq_zero_or_pos l.length with h0 | h0
      · exact List.eq_nil_of_length_eq_zero h0
      · obtain ⟨ad, e, _⟩ := h.2 h0; cases e
    subst h0
    go_enter Try.func32, Try.ntmps32
    go_wp2
    go_ret
    exact ⟨⟨_, rfl, World.ownsRow_nil _ _ _ _⟩, Below.refl _ _⟩
  · have HB := Lib.hid h
    have HN := Lib.hid hn
    clear h hn
    go_enter Try.func32, Try.ntmps32
    go_wp2_with (at_builtin; refine wpList_append_any _ rfl (.tmp 5) (.tmp 6) _ rfl w.heap.size 5 i0 _ 1 1 Try.underlying39 hi0 hz0 hz1 hz2 rfl (by omega) (.slice (some ⟨w.heap.size, 0, none⟩) 0 0) 0 [] rfl (own_empty w _) w.heap.size (some ad) n c (u8s l) rfl (by have := HB.out; unfold Byt at this; rw [← HN.out] at this; exact this.alloc (Nat.le_refl _) _) (u8s_one l) (by simp only [maxLen]; omega) (by omega) (by simp) ?_; intro v1 w1 hown1 hg1 hat1)
    go_ret
    refine ⟨⟨v1, rfl, ?_⟩, ?_⟩
    · simp only [Nat.zero_add, List.nil_append] at hown1
      unfold Words.Own
      rw [← HN.out]
      exact hown1
    · exact ((Below.refl _ _).alloc (Nat.le_refl _) _).grown hg1 (by simp) (fun b e => by simp [Value.ownBlock] at e; omega)
/-- A body of one's own. -/
def bodT (w : World) (T : Nat → Nat) (A : Option Addr) (i : Nat) : Nat := if i < w.heap.size then T i else if A.map (·.block) = some i then 5 else 0
theorem own_body {B : Nat} {A : Option Addr} {cp n : Nat} {l : List UInt8} (h : Words.Own w' B (.slice A n cp) l) (hn : n = l.length) (hB : w.heap.size ≤ B) (hs : w.heap.size ≤ w'.heap.size) : BodT w' (bodT w T A) A cp l ∧ Ext w w' T (bodT w T A) := by
  obtain ⟨A', c', he, h1, h2⟩ := own_slice h
  injection he with e1 e2 e3
  subst e1 e3
  refine ⟨⟨h.byt, h1, h2, fun ad e => ?_⟩, ⟨fun i hi => if_pos hi, fun i hi => ?_⟩⟩
  · have h3 := World.ownsRow.lt h ad.block (by rw [e]; rfl)
    unfold bodT
    rw [if_neg (by omega), if_pos (by rw [e]; rfl)]
  · unfold bodT
    rw [if_neg (by omega)]
    split
    · rename_i e
      cases hA : A with
      | none => rw [hA] at e; cases e
      | some ad =>
        rw [hA] at e
        simp only [Option.map_some, Option.some.injEq] at e
        have h3 := World.ownsRow.lt h ad.block (by rw [hA]; rfl)
        omega
    · rfl
def OwnM (B : Nat) (l : List UInt8) (v : Value) (W : World) : Prop := Words.Own W B v l
theorem OwnM.grows {B : Nat} {l : List UInt8} {v : Value} {W W' : World} (h : OwnM B l v W) (k : Below W.heap.size W W') : OwnM B l v W' := by
  have h' : Words.Own W B v l := h
  exact (Fr.of_below k).own h' (fun g hg hi => by have := (h'.lt g hg).2; omega)
def BldM (B : Nat) (st : Nat) (lo : Bool) (mid pp : Nat) (l : List UInt8) (v : Value) (W : World) : Prop := ∃ A cp, v = .agg #[.int .u16 (st : Int), .bool lo, .int .u32 (mid : Int), .int .u32 (pp : Int), .slice A l.length cp] ∧ Words.Own W B (.slice A l.length cp) l
theorem BldM.grows {B st mid pp : Nat} {lo : Bool} {l : List UInt8} {v : Value} {W W' : World} (h : BldM B st lo mid pp l v W) (k : Below W.heap.size W W') : BldM B st lo mid pp l v W' := by
  obtain ⟨A, cp, rfl, h1⟩ := h
  exact ⟨A, cp, rfl, (Fr.of_below k).own h1 (fun g hg hi => by have := (h1.lt g hg).2; omega)⟩
def AlcM (B : Nat) (v : Value) (W : World) : Prop := ∃ g, v = .pointer (some ⟨g, 0, none⟩) ∧ B ≤ g ∧ Blk W g 43 #[.int .u16 0, .bool false, .int .u32 0, .int .u32 0, .slice none 0 0]
theorem AlcM.grows {B : Nat} {v : Value} {W W' : World} (h : AlcM B v W) (k : Below W.heap.size W W') : AlcM B v W' := by
  obtain ⟨g, rfl, h1, h2⟩ := h
  exact ⟨g, rfl, h1, (Fr.of_below k).blk h2 (fun e => by have e' : W.heap.size ≤ g := e; have := Blk.lt h2; omega)⟩
theorem exec_alloc_mg {ρ : Operand → Value} {o : Oper} {w : World} (ho : o.op = .alloc 43) : (execOp ρ o).run Try.prog w = .ok (.value (.pointer (some ⟨w.heap.size, 0, none⟩))) (w.alloc (.cells #[.int .u16 0, .bool false, .int .u32 0, .int .u32 0, .slice none 0 0] 43)) := by
  have h : ∀ W, (Instr.alloc 43 true (.tuple #[])).run Try.prog W = .ok (.pointer (some ⟨W.heap.size, 0, none⟩)) (W.alloc (.cells #[.int .u16 0, .bool false, .int .u32 0, .int .u32 0, .slice none 0 0] 43)) := fun W => by
    obtain ⟨i, hi, hz, hs, _⟩ := info_parts3 msg_whole
    go_simp
  unfold execOp
  simp [ho, h]
theorem msg_built5 (a : Nat) (b : Bool) (c d : Nat) (A : Option Addr) (n cp : Nat) : Try.prog.built 43 [(0, .int .u16 (a : Int)), (1, .bool b), (2, .int .u32 (c : Int)), (3, .int .u32 (d : Int)), (4, .slice A n cp)] = some #[.int .u16 (a : Int), .bool b, .int .u32 (c : Int), .int .u32 (d : Int), .slice A n cp] := by kernel_rfl
theorem exec_build5 {P : Program} {ρ : Operand → Value} {o : Oper} {w : World} (t : TypeId) {x0 x1 x2 x3 x4 : Operand} (ho : o.op = .build t #[(0, x0), (1, x1), (2, x2), (3, x3), (4, x4)]) (v0 v1 v2 v3 v4 : Value)
    (h0 : ρ x0 = v0) (h1 : ρ x1 = v1) (h2 : ρ x2 = v2) (h3 : ρ x3 = v3) (h4 : ρ x4 = v4) (cells : Array Value) (hf : P.built t [(0, v0), (1, v1), (2, v2), (3, v3), (4, v4)] = some cells) :
    (execOp ρ o).run P w = .ok (.value (.agg cells)) w := by
  subst h0 h1 h2 h3 h4
  exact exec_build ho (by simpa using hf)
/-- A line is made. -/
theorem LinesR.made (k : LinesR w T bl inter F pcs) (hT : ∀ i, w.heap.size ≤ i → T i = 0) {g : Gk} (hg : F g = none) {W w1 : World} (hW : W.heap = (w.alloc (.map #[] 0)).heap) (hm : MapX grpX w1 bl (putF (fun z => (F z).map lptr) g (lptr w.heap.size))) (hf : Fr (fun i => i = bl) W w1) (hWF : Fr (fun _ => False) w W) :
    LinesR w1 (extT w w1 T 2) bl inter (fun z => if z = g then some w.heap.size else F z) pcs ∧ LineAt w1 w.heap.size (fun _ => none) ∧ atK inter g pcs = [] := by
  have hf0 : Fr (fun i => i = bl) w w1 := (hWF.mono (T := fun i => i = bl) (fun _ _ e => e.elim)).same hf
  have hs : W.heap.size = w.heap.size + 1 := by rw [hW]; simp
  have hs1 : w.heap.size + 1 ≤ w1.heap.size := by have := hf.size; omega
  have hold : ∀ i, i < w.heap.size → extT w w1 T 2 i = T i := fun i hi => by unfold extT; rw [if_pos hi]
  have hbl := k.map.lt
  have h0 : atK inter g pcs = [] := List.filter_eq_nil_iff.2 (fun q hq e => by
    obtain ⟨b, hb⟩ := k.lns.all q hq
    simp only [decide_eq_true_eq] at e
    rw [e, hg] at hb; cases hb)
  have hl : LineAt w1 w.heap.size (fun _ => none) := by
    have h1 : MapX u32X W w.heap.size (fun _ => none) := by
      obtain ⟨D, h1, h2⟩ := (MapX.new u32X w).ex
      exact (MapX.new u32X w).same (by rw [hW])
    exact (h1.fr hf (by omega)).as_ (fun _ => rfl)
  refine ⟨⟨by rw [hold bl hbl]; exact k.tbl, hm.as_ (fun z => ?_), fun z b hz => ?_, fun q hq => ?_, fun z z' b hz hz' => ?_⟩, hl, h0⟩
  · unfold putF
    by_cases e : z = g
    · rw [if_pos e, if_pos e]; rfl
    · rw [if_neg e, if_neg e]
  · by_cases e : z = g
    · subst e
      rw [if_pos rfl] at hz
      injection hz with hz
      subst hz
      refine ⟨extT_new (Nat.le_refl _) hs1, by omega, _, hl, ?_, fun i x hx => by cases hx⟩
      rw [h0]
      exact ⟨fun p hp => (by simp at hp), fun i x hx => (by cases hx), List.Pairwise.nil⟩
    · rw [if_neg e] at hz
      obtain ⟨a1, a2, L, a3, a4, a5⟩ := k.lns.line z b hz
      refine ⟨by rw [hold b a3.lt]; exact a1, a2, L, a3.fr hf0 a2, a4, fun i x hx => ⟨(a5 i x hx).1.fr hf0 (fun j hj h5 ej => by rw [show j = bl from ej, k.tbl] at h5; cases h5) hold (a5 i x hx).2, (a5 i x hx).2⟩⟩
  · obtain ⟨b, hb⟩ := k.lns.all q hq
    by_cases e : keyP inter q = g
    · rw [e, hg] at hb; cases hb
    · exact ⟨b, by rw [if_neg e]; exact hb⟩
  · by_cases e : z = g
    · by_cases e' : z' = g
      · rw [e, e']
      · rw [if_pos e] at hz; rw [if_neg e'] at hz'
        injection hz with hz
        have := k.lns.lt hz'
        omega
    · by_cases e' : z' = g
      · rw [if_neg e] at hz; rw [if_pos e'] at hz'
        injection hz' with hz'
        have := k.lns.lt hz
        omega
      · rw [if_neg e] at hz; rw [if_neg e'] at hz'
        exact k.lns.inj z z' b hz hz'
/-- A piece is put into its line. -/
theorem LnsR.add (k : LnsR w T bl inter F pcs) {c : Jo.Pc} {b : Nat} {L : Nat → Option Fg} {x : Fg} (hF : F (keyP inter c) = some b) (hL1 : LineAt w b L) (hL2 : LnOf (idxP inter) L (atK inter (keyP inter c) pcs)) (hL3 : ∀ i x, L i = some x → BodT w T x.A x.cp x.m.body ∧ x.m.body ≠ []) (hno : L (idxP inter c) = none) (hx : Fits x c) (hb : BodT w T x.A x.cp x.m.body) (hne : x.m.body ≠ []) {w1 : World} (hm : LineAt w1 b (fun j => if j = idxP inter c then some x else L j)) (hf : Fr (fun i => i = b) w w1) :
    LnsR w1 T bl inter F (c :: pcs) ∧ LnOf (idxP inter) (fun j => if j = idxP inter c then some x else L j) (atK inter (keyP inter c) (c :: pcs)) ∧ ∀ i y, (if i = idxP inter c then some x else L i) = some y → BodT w1 T y.A y.cp y.m.body ∧ y.m.body ≠ [] := by
  have htb := (k.line _ b hF).1
  have hn5 : ∀ j, j < w.heap.size → T j = 5 → ¬ j = b := fun j hj h5 e => by rw [e, htb] at h5; cases h5
  have he : atK inter (keyP inter c) (c :: pcs) = c :: atK inter (keyP inter c) pcs := by unfold atK; rw [List.filter_cons_of_pos (by simp)]
  have hln : LnOf (idxP inter) (fun j => if j = idxP inter c then some x else L j) (atK inter (keyP inter c) (c :: pcs)) := by
    rw [he]
    have hne : ∀ q ∈ atK inter (keyP inter c) pcs, idxP inter q ≠ idxP inter c := fun q hq e => by
      obtain ⟨y, hy, _⟩ := hL2.has q hq
      rw [e, hno] at hy; cases hy
    refine ⟨fun q hq => ?_, fun i y hy => ?_, List.pairwise_cons.2 ⟨fun q hq e => hne q hq e.symm, hL2.nd⟩⟩
    · rcases List.mem_cons.1 hq with rfl | hq
      · exact ⟨x, if_pos rfl, hx⟩
      · obtain ⟨y, h1, h2⟩ := hL2.has q hq
        exact ⟨y, by show (if _ then _ else _) = _; rw [if_neg (hne q hq)]; exact h1, h2⟩
    · by_cases e : i = idxP inter c
      · exact ⟨c, List.mem_cons_self, e.symm⟩
      · have hy : (if i = idxP inter c then some x else L i) = some y := hy
        rw [if_neg e] at hy
        obtain ⟨q, h1, h2⟩ := hL2.of i y hy
        exact ⟨q, List.mem_cons_of_mem _ h1, h2⟩
  have hbod : ∀ i y, (if i = idxP inter c then some x else L i) = some y → BodT w1 T y.A y.cp y.m.body ∧ y.m.body ≠ [] := fun i y hy => by
    by_cases e : i = idxP inter c
    · rw [if_pos e] at hy
      injection hy with hy
      subst hy
      exact ⟨hb.fr hf hn5 (fun _ _ => rfl) hne, hne⟩
    · rw [if_neg e] at hy
      exact ⟨(hL3 i y hy).1.fr hf hn5 (fun _ _ => rfl) (hL3 i y hy).2, (hL3 i y hy).2⟩
  refine ⟨⟨fun z b' hz => ?_, fun q hq => ?_, k.inj⟩, hln, hbod⟩
  · by_cases e : z = keyP inter c
    · subst e
      rw [hF] at hz
      injection hz with hz
      subst hz
      exact ⟨htb, (k.line _ b hF).2.1, _, hm, hln, hbod⟩
    · obtain ⟨a1, a2, L', a3, a4, a5⟩ := k.line z b' hz
      have hbb : ¬ b' = b := fun e' => e (k.inj z _ b (by rw [← e']; exact hz) hF)
      have e2 : atK inter z (c :: pcs) = atK inter z pcs := by unfold atK; rw [List.filter_cons_of_neg (by simp; exact fun e' => e e'.symm)]
      rw [e2]
      exact ⟨a1, a2, L', a3.fr hf hbb, a4, fun i y hy => ⟨(a5 i y hy).1.fr hf hn5 (fun _ _ => rfl) (a5 i y hy).2, (a5 i y hy).2⟩⟩
  · rcases List.mem_cons.1 hq with rfl | hq
    · exact ⟨b, hF⟩
    · exact k.all q hq
/-- A message is cut out. -/
theorem LnsR.cut (k : LnsR w T bl inter F pcs) {g : Gk} {b : Nat} {L : Nat → Option Fg} {f n : Nat} (hg : F g = some b) (hf : f < 4294967296) (hn : n ≤ 2000000000) (hL : LnOf (idxP inter) L (atK inter g pcs)) (hok : ∀ p ∈ pcs, PcOk inter p) (h5 : ∀ i x, L i = some x → BodT w T x.A x.cp x.m.body ∧ x.m.body ≠ []) (hl : LineAt w' b (cutL L f (n + 1))) (hfr : Fr (fun i => i = b) w w') :
    LnsR w' T bl inter F (restP inter g f n pcs) := by
  obtain ⟨a1, a2, _⟩ := k.line g b hg
  have hn5 : ∀ i, i < w.heap.size → T i = 5 → ¬ i = b := fun i hi e e' => by rw [e', a1] at e; cases e
  have hsub : ∀ i x, cutL L f (n + 1) i = some x → L i = some x := fun i x hx => by
    unfold cutL at hx
    split at hx
    · cases hx
    · exact hx
  refine ⟨fun g' b' hg' => ?_, fun q hq => k.all q (List.mem_filter.1 hq).1, k.inj⟩
  by_cases e : g' = g
  · subst e
    rw [hg] at hg'
    injection hg' with hg'
    subst hg'
    exact ⟨a1, a2, _, hl, cut_ln hf hn hL hok, fun i x hx => by
      obtain ⟨c1, c2⟩ := h5 i x (hsub i x hx)
      exact ⟨c1.fr hfr hn5 (fun _ _ => rfl) c2, c2⟩⟩
  · obtain ⟨c1, c2, L', c3, c4, c5⟩ := k.line g' b' hg'
    exact ⟨c1, c2, L', c3.fr hfr (fun e' => e (k.inj g' g b (by rw [← e']; exact hg') hg)), by rw [cut_other e]; exact c4, fun i x hx => ⟨(c5 i x hx).1.fr hfr hn5 (fun _ _ => rfl) (c5 i x hx).2, (c5 i x hx).2⟩⟩
theorem whole_same {Lw : List Jo.Pc} (hW : Jo.Whole inter Lw) {p q : Jo.Pc} (hp : p ∈ Lw) (hq : q ∈ Lw) : p.st = q.st ∧ p.lo = q.lo ∧ (p.lo = false → p.mid = q.mid) := by
  have h0 : ∀ j (h : j < Lw.length), (Lw[0]'(by omega)).st = Lw[j].st ∧ (Lw[0]'(by omega)).lo = Lw[j].lo ∧ ((Lw[0]'(by omega)).lo = false → (Lw[0]'(by omega)).mid = Lw[j].mid) := by
    intro j
    induction j with
    | zero => intro _; exact ⟨rfl, rfl, fun _ => rfl⟩
    | succ j ih =>
      intro h
      obtain ⟨i1, i2, i3⟩ := ih (by omega)
      obtain ⟨_, _, _, _, s1, s2, s3⟩ := hW.later j Lw[j] Lw[j + 1] (List.getElem?_eq_getElem _) (List.getElem?_eq_getElem _)
      refine ⟨i1.trans s1, i2.trans s2, fun hl => ?_⟩
      rcases s3 with s3 | ⟨_, s3⟩
      · exact (i3 hl).trans s3
      · rw [← i2, hl] at s3; cases s3
  obtain ⟨i, hi, rfl⟩ := List.mem_iff_getElem.1 hp
  obtain ⟨j, hj, rfl⟩ := List.mem_iff_getElem.1 hq
  obtain ⟨a1, a2, a3⟩ := h0 i hi
  obtain ⟨b1, b2, b3⟩ := h0 j hj
  exact ⟨a1.symm.trans b1, a2.symm.trans b2, fun hl => (a3 (a2.trans hl)).symm.trans (b3 (a2.trans hl))⟩
theorem cut_bodies : ∀ zs : List (Fg × Jo.Pc), (∀ z ∈ zs, Fits z.1 z.2) → (zs.map (·.2)).flatMap (·.body) = catF (zs.map (·.1)) ∧ Jo.sizeP (zs.map (·.2)) = (catF (zs.map (·.1))).length
  | [], _ => ⟨rfl, rfl⟩
  | z :: t, h => by
    obtain ⟨i1, i2⟩ := cut_bodies t (fun y hy => h y (List.mem_cons_of_mem _ hy))
    have hz : z.1.m.body = z.2.body := by rw [(h z List.mem_cons_self).m]; rfl
    have e1 : catF ((z :: t).map (·.1)) = z.2.body ++ catF (t.map (·.1)) := by
      unfold catF
      rw [List.map_cons, List.map_cons, List.flatten_cons, hz]
    have ec : Jo.sizeP ((z :: t).map (·.2)) = z.2.body.length + Jo.sizeP (t.map (·.2)) := by simp [Jo.sizeP]
    refine ⟨?_, ?_⟩
    · rw [e1, List.map_cons, List.flatMap_cons, i1]
    · rw [e1, ec, i2, List.length_append]
theorem cut_msg {zs : List (Fg × Jo.Pc)} (h : ∀ z ∈ zs, Fits z.1 z.2) {z0 : Fg × Jo.Pc} (h0 : zs[0]? = some z0) : Jo.msgOf (zs.map (·.2)) = ⟨z0.1.m.st, z0.1.m.lo, z0.1.m.mid, z0.1.m.pp, catF (zs.map (·.1))⟩ := by
  cases zs with
  | nil => simp at h0
  | cons z t =>
    simp only [List.getElem?_cons_zero, Option.some.injEq] at h0
    subst h0
    have hb := (cut_bodies (z :: t) h).1
    have hm := (h z List.mem_cons_self).m
    show (⟨z.2.st, z.2.lo, z.2.mid, z.2.pp, _⟩ : Jo.Ms) = _
    rw [← hb, hm]
    rfl
end
end Go.Proofs.Ytioddokjogbmnaa.Chk

set_option linter.unusedVariables false
set_option linter.unusedSimpArgs false
set_option maxRecDepth 20000
namespace Go.Proofs.Ytioddokjogbmnaa.Chk
open Go.ChangeShapes Go.WideShapes Go.ChangeAt Go.RowKit Go.Deep Go.Maps Go.Proofs.Ytioddokjogbmnaa.Words Go.Proofs.Ytioddokjogbmnaa.Oct Go.Proofs.Ytioddokjogbmnaa.Par Go.Proofs.Ytioddokjogbmnaa.Mx
section
variable {w w' : World} {T T' : Nat → Nat} {p bl bo h h' : Nat} {inter : Bool} {rv : Value} {F : Gk → Option Nat} {xs : List Mg} {Om : Nat → Option Nat} {Wb next : Nat → Nat} {wait wait' : List Jo.Ms} {S G : Nat → Prop} {s : Jo.JS} {pcs : List Jo.Pc}
def skR (inter : Bool) (st : Nat) (lo : Bool) (mid : Nat) (q : Jo.Pc) : Bool := decide (q.st = st) && (decide (q.lo = lo) && reachB inter mid q.mid)
set_option maxHeartbeats 2000000 in
theorem skip1_any {W : World} {gs gj gm st mid mid0 : Nat} {lo : Bool} (bs : Blk W gs 53 #[.int .u16 (st : Int), .bool lo, .int .u32 (mid0 : Int)]) (cj : W.cell? ⟨gj, 0, none⟩ = some (jptr p)) (cm : W.cell? ⟨gm, 0, none⟩ = some (.int .u32 (mid : Int))) (c0 : W.cell? ⟨p, 0, none⟩ = some (.bool inter)) (hm : MidOk inter mid) {m : Msg} (hq : MidOk inter m.mid) (i : Value) (v : Value) :
    Calls Try.prog 38 #[i, .agg (mCells m v), .pointer (some ⟨gs, 0, none⟩), .pointer (some ⟨gj, 0, none⟩), .pointer (some ⟨gm, 0, none⟩)] W fun e w' => e = .returned (.bool (decide (m.st = st) && (decide (m.lo = lo) && reachB inter mid m.mid))) ∧ Below W.heap.size W w' := by
  obtain ⟨m1, m2, m3, m4, m5⟩ := m
  have hq' : MidOk inter m3 := hq
  show Calls _ _ _ _ fun e w' => e = .returned (.bool (decide (m1 = st) && (decide (m2 = lo) && reachB inter mid m3))) ∧ _
  simp only [mCells]
  have s0 := bs.cell 0
  have s1 := bs.cell 1
  simp only [List.getElem?_toArray, List.getElem?_cons_succ, List.getElem?_cons_zero] at s0 s1
  have ho : ∀ (o : Obj) (g k : Nat) (u : Value), W.cell? ⟨g, k, none⟩ = some u → (W.alloc o).cell? ⟨g, k, none⟩ = some u := fun o g k u hu => by
    rw [World.cell?_alloc_lt W o _ (World.block_lt_of_cell? W _ hu)]; exact hu
  obtain ⟨W1, hW1⟩ : ∃ W1, W1 = W.alloc (.cells #[.int .u16 (m1 : Int), .bool m2, .int .u32 (m3 : Int), .int .u32 (m4 : Int), v] 43) := ⟨_, rfl⟩
  obtain ⟨g1, hg1⟩ : ∃ g1, g1 = W.heap.size := ⟨_, rfl⟩
  have hb1 : Blk W1 g1 43 #[.int .u16 (m1 : Int), .bool m2, .int .u32 (m3 : Int), .int .u32 (m4 : Int), v] := by rw [hW1, hg1]; exact Blk.new _ _ _
  have f0 := hb1.cell 0
  have f1 := hb1.cell 1
  have f2 := hb1.cell 2
  simp only [List.getElem?_toArray, List.getElem?_cons_succ, List.getElem?_cons_zero] at f0 f1 f2
  have t0 : W1.cell? ⟨gs, 0, none⟩ = some (.int .u16 (st : Int)) := by rw [hW1]; exact ho _ _ _ _ s0
  have t1 : W1.cell? ⟨gs, 1, none⟩ = some (.bool lo) := by rw [hW1]; exact ho _ _ _ _ s1
  have t2 : W1.cell? ⟨gj, 0, none⟩ = some (jptr p) := by rw [hW1]; exact ho _ _ _ _ cj
  have t3 : W1.cell? ⟨gm, 0, none⟩ = some (.int .u32 (mid : Int)) := by rw [hW1]; exact ho _ _ _ _ cm
  have t4 : W1.cell? ⟨p, 0, none⟩ = some (.bool inter) := by rw [hW1]; exact ho _ _ _ _ c0
  have hre := reaches_any t4 hm hq'
  have HB : Hid (Below W.heap.size W W1) := by rw [hW1]; exact below_one W _
  obtain ⟨rb, hrb⟩ : ∃ rb, rb = reachB inter mid m3 := ⟨_, rfl⟩
  rw [← hrb] at hre ⊢
  clear s0 s1 bs cj cm c0 hm hq hq' ho hrb hb1
  go_enter Try.func38, Try.ntmps38
  go_upto_region 1 with (fail)
  rw [← hW1, ← hg1]
  clear hW1 hg1
  by_cases h1 : m1 = st
  · subst h1
    by_cases h2 : m2 = lo
    · subst h2
      go_wp2_with (go_at_call 39; refine hre.mono ?_; rintro e w' ⟨rfl, rfl⟩)
      go_ret
      exact ⟨ret_bool (by simp), HB.out⟩
    · cases m2 <;> cases lo <;> first
        | exact absurd rfl h2
        | (go_wp2_with fail
           go_ret
           exact ⟨ret_bool (by simp), HB.out⟩)
  · have h1' : ¬ ((m1 : Int) = (st : Int)) := by omega
    go_wp2_with fail
    go_ret
    exact ⟨ret_bool (by simp [h1]), HB.out⟩
theorem skip1_enters : ∀ args W, (callFunc 38 args).run Try.prog W = .ok (.enter 38 args) W := enters_of Try.func38 (by kernel_rfl) rfl
end
end Go.Proofs.Ytioddokjogbmnaa.Chk

set_option linter.unusedVariables false
set_option linter.unusedSimpArgs false
set_option maxRecDepth 20000
namespace Go.Proofs.Ytioddokjogbmnaa.Chk
open Go.ChangeShapes Go.WideShapes Go.ChangeAt Go.RowKit Go.Deep Go.Maps Go.Proofs.Ytioddokjogbmnaa.Words Go.Proofs.Ytioddokjogbmnaa.Oct Go.Proofs.Ytioddokjogbmnaa.Par Go.Proofs.Ytioddokjogbmnaa.Mx
section
variable {w w' : World} {T T' : Nat → Nat} {p bl bo h h' : Nat} {inter : Bool} {rv : Value} {F : Gk → Option Nat} {xs : List Mg} {Om : Nat → Option Nat} {Wb next : Nat → Nat} {wait wait' : List Jo.Ms} {S G : Nat → Prop} {s : Jo.JS} {pcs : List Jo.Pc}
theorem reachB_iff {mid x : Nat} : reachB inter mid x = true ↔ (x = mid ∨ Jo.lessN inter x mid) := by
  unfold reachB
  rw [Bool.or_eq_true, decide_eq_true_eq, ltB_eq]
theorem distM_N {nx x : Nat} (hn : MidOk inter nx) (hx : MidOk inter x) : distM inter nx x = Jo.distN inter nx x := by
  unfold distM midN Jo.distN Jo.modN
  unfold MidOk Jo.modN at hn hx
  cases inter
  · simp at hn hx ⊢; omega
  · simp at hn hx ⊢
theorem mid_next {mid : Nat} (hm : MidOk inter mid) : midN inter ((mid + 1) % 4294967296) = (mid + 1) % Jo.modN inter := by
  unfold midN Jo.modN
  unfold MidOk Jo.modN at hm
  cases inter
  · show (mid + 1) % 4294967296 % 65536 = (mid + 1) % 65536
    omega
  · rfl
theorem sizeP_split (r : Jo.Pc → Bool) : ∀ l : List Jo.Pc, Jo.sizeP (l.filter fun q => !r q) + Jo.sizeP (l.filter r) = Jo.sizeP l
  | [] => rfl
  | a :: t => by
    have ih := sizeP_split r t
    have ec : ∀ (z : Jo.Pc) (l : List Jo.Pc), Jo.sizeP (z :: l) = z.body.length + Jo.sizeP l := fun z l => by simp [Jo.sizeP]
    cases hr : r a <;> simp [hr, ec] <;> omega
/-- What leap leaves is what is asked. -/
theorem leap_plain {pcs0 : List Jo.Pc} {st mid : Nat} {e : Ending} {xs0 : List Mg} {wait0 : List Jo.Ms} {next0 : Nat → Nat} {Om0 : Nat → Option Nat} {Wb0 : Nat → Nat} {h0 : Nat} (hm : MidOk inter mid) (hj : JO w T p inter bl bo rv h0 xs0 Om0 Wb0 next0 wait0) (hl : LinesR w T bl inter F pcs0) (hh : h0 = Jo.sizeP pcs0 + Jo.sizeM wait0 + Jo.sizeM (xs0.map fun x => msOf x.m)) (hz : h0 ≤ 2000000000) (hp : ∀ q ∈ pcs0, PcOk inter q)
    (hd : LeapDone w T p inter bl bo h0 xs0 Om0 Wb0 next0 wait0 st mid e w') :
    ∃ s' T', e = .returned (.tuple #[]) ∧ s'.pcs = pcs0 ∧ (∃ rv' xs', JRp w' T' p bl bo inter rv' F Om0 Wb0 xs' s') ∧ Fr (ownS w T) w w' ∧ Ext w w' T T' ∧ ∃ ms w1, wait0.Perm (ms ++ w1) ∧ (∀ m ∈ ms, m.st = st ∧ (m.mid = mid ∨ Jo.lessN inter m.mid mid)) ∧ (∀ m ∈ w1, ¬ (m.st = st ∧ (m.mid = mid ∨ Jo.lessN inter m.mid mid))) ∧
      ms.Pairwise (fun a b => Jo.distN inter (next0 st) a.mid < Jo.distN inter (next0 st) b.mid) ∧ Jo.Goes inter st w1 s'.wait (xs0.map (fun x => msOf x.m) ++ ms) s'.ready ((mid + 1) % Jo.modN inter) (s'.next st) := by
  obtain ⟨T', rv', xs', wait', nx', ms, w1, rfl, d1, d2, d3, d4, d5, d6, d7, d8, d9⟩ := hd
  have hsz : Jo.held ⟨pcs0, wait', xs'.map fun x => msOf x.m, setN next0 st nx'⟩ = h0 := by
    have e1 := d5.size
    have e2 := sizeM_perm d1
    rw [Jo.sizeM_append] at e2
    rw [List.map_append, Jo.sizeM_append] at e1
    show Jo.sizeP pcs0 + Jo.sizeM wait' + Jo.sizeM (xs'.map fun x => msOf x.m) = h0
    omega
  have hmid : ∀ x ∈ ms, MidOk inter x.m.mid := fun x hx => (hj.ord.wok _ (d1.mem_iff.2 (List.mem_append.2 (.inl (List.mem_map.2 ⟨x, hx, rfl⟩))))).2.1
  refine ⟨⟨pcs0, wait', xs'.map fun x => msOf x.m, setN next0 st nx'⟩, T', rfl, rfl, ⟨rv', xs', by rw [hsz]; exact d7, hl.fr d8 (fun i hi e hx => ?_) (fun i hi e hx => ?_) d9.old, rfl, by rw [hsz]; exact hz, hp⟩, d8, d9, ms.map (fun x => msOf x.m), w1, d1, fun m hm' => ?_, fun m hm' hx => ?_, ?_, ?_⟩
  · rcases hx.2 with h | h | h <;> (rw [e] at h; cases h)
  · rcases hx.2 with h | h | h <;> (rw [e] at h; cases h)
  · obtain ⟨x, hx, rfl⟩ := List.mem_map.1 hm'
    exact ⟨(d2 x hx).1, reachB_iff.1 (d2 x hx).2⟩
  · have := d3 m hm' hx.1
    rw [reachB_iff.2 hx.2] at this; cases this
  · rw [List.pairwise_map]
    refine List.Pairwise.imp_of_mem (fun {a b} ha hb hab => ?_) d4
    show Jo.distN inter (next0 st) a.m.mid < Jo.distN inter (next0 st) b.m.mid
    rw [← distM_N (hj.ord.nx st) (hmid a ha), ← distM_N (hj.ord.nx st) (hmid b hb)]
    exact hab
  · have h1 := d5.goes d6
    rw [mid_next hm, List.map_append] at h1
    show Jo.Goes inter st w1 wait' _ _ _ (setN next0 st nx' st)
    rw [setN_at]
    exact h1
def SkipDone (w : World) (G : Nat → Prop) (p : Nat) (inter : Bool) (s : Jo.JS) (st : Nat) (lo : Bool) (mid : Nat) (e : Ending) (w' : World) : Prop :=
  ∃ s' G', e = .returned (.tuple #[]) ∧ JRep w' G' p inter s' ∧ Jo.SkipR inter s st lo mid s' ∧ (∀ i, G' i → G i ∨ w.heap.size ≤ i) ∧ Fr G w w'
/-- Behind the drop. -/
structure SkD (w W : World) (T : Nat → Nat) (p bl bo : Nat) (inter : Bool) (rv : Value) (F : Gk → Option Nat) (Om : Nat → Option Nat) (Wb : Nat → Nat) (xs : List Mg) (s : Jo.JS) (h1 : Nat) (pcs1 : List Jo.Pc) : Prop where
  jo : JO W T p inter bl bo rv h1 xs Om Wb s.next s.wait
  ln : LinesR W T bl inter F pcs1
  sub : ∀ q ∈ pcs1, q ∈ s.pcs
  hh : h1 = Jo.sizeP pcs1 + Jo.sizeM s.wait + Jo.sizeM s.ready
  fr : Fr (fun i => i < w.heap.size ∧ T i ≠ 0) w W
  le : h1 ≤ 2000000000
theorem SkD.rest (k : JRp w T p bl bo inter rv F Om Wb xs s) {W : World} {F' : Gk → Option Nat} {h1 : Nat} {pcs1 : List Jo.Pc} (d : SkD w W T p bl bo inter rv F' Om Wb xs s h1 pcs1) {W' : World} (hb : Below W.heap.size W W') {st mid : Nat} {lo : Bool} (hc : lo = true ∨ Jo.lessN inter mid (s.next st)) :
    SkipDone w (fun i => T i ≠ 0) p inter s st lo mid (.returned (.tuple #[])) W' := by
  refine ⟨⟨pcs1, s.wait, s.ready, s.next⟩, fun i => T i ≠ 0, rfl, ⟨T, bl, bo, rv, F', Om, Wb, xs, fun i => Iff.rfl, ?_, ?_, k.rd, ?_, fun q hq => k.pok q (d.sub q hq)⟩, ⟨d.sub, .inl ⟨hc, ⟨List.Perm.refl _, rfl, rfl⟩⟩⟩, fun i hi => .inl hi, ?_⟩
  · have e : Jo.held ⟨pcs1, s.wait, s.ready, s.next⟩ = h1 := d.hh.symm
    rw [e]
    exact d.jo.grows hb
  · exact d.ln.fr (Fr.of_below hb) (fun i hi _ e => by have e' : W.heap.size ≤ i := e; omega) (fun i hi _ e => by have e' : W.heap.size ≤ i := e; omega) (fun _ _ => rfl)
  · have e : Jo.held ⟨pcs1, s.wait, s.ready, s.next⟩ = h1 := d.hh.symm
    rw [e]; exact d.le
  · exact (d.fr.trans (Fr.of_below hb) (fun i hi e => by have e' : W.heap.size ≤ i := e; have := d.fr.size; omega)).mono (fun i hi e => e.2)
/-- A stream's order, found or made. -/
def OrdP (W : World) (T : Nat → Nat) (p : Nat) (inter : Bool) (bl bo : Nat) (rv : Value) (h : Nat) (xs : List Mg) (next : Nat → Nat) (wait : List Jo.Ms) (st : Nat) (v : Value) (V : World) : Prop :=
  ∃ b T' Om' Wb', v = optr b ∧ Om' st = some b ∧ JO V T' p inter bl bo rv h xs Om' Wb' next wait ∧ Fr (fun i => i < W.heap.size ∧ T i = 3) W V ∧ Ext W V T T'
theorem ordP_of {W V0 V : World} {st b : Nat} {Om' : Nat → Option Nat} {Wb' : Nat → Nat} (e : V0 = W) (h1 : Om' st = some b) (h2 : JO V T' p inter bl bo rv h xs Om' Wb' next wait) (h3 : Fr (fun i => i < V0.heap.size ∧ T i = 3) V0 V) (h4 : Ext V0 V T T') : OrdP W T p inter bl bo rv h xs next wait st (optr b) V := by subst e; exact ⟨b, T', Om', Wb', rfl, h1, h2, h3, h4⟩
set_option maxHeartbeats 8000000 in
theorem skip_any {st mid : Nat} {lo : Bool} (k : JRp w T p bl bo inter rv F Om Wb xs s) (hst : st < 65536) (hmid : mid < 4294967296) :
    Calls Try.prog 18 #[jptr p, .agg #[.int .u16 (st : Int), .bool lo, .int .u32 (mid : Int)]] w (SkipDone w (fun i => T i ≠ 0) p inter s st lo (midN inter mid)) := by
  have HK := Lib.hid k
  have hnum := fun (W : World) (hW : W.cell? ⟨p, 0, none⟩ = some (.bool inter)) => number_any hW hmid
  obtain ⟨z, hz⟩ : ∃ z, z = midN inter mid := ⟨_, rfl⟩
  have HZM : Hid (MidOk inter z) := by rw [hz]; exact mid_small inter hmid
  rw [← hz] at hnum ⊢
  have HNUM := Lib.hid hnum
  clear hnum hz
  obtain ⟨W2, hW2⟩ : ∃ W2, W2 = (w.alloc (.cells #[jptr p] 28)).alloc (.cells #[.int .u16 (st : Int), .bool lo, .int .u32 (mid : Int)] 53) := ⟨_, rfl⟩
  obtain ⟨gj, hgj⟩ : ∃ gj, gj = w.heap.size := ⟨_, rfl⟩
  obtain ⟨gs, hgs⟩ : ∃ gs, gs = w.heap.size + 1 := ⟨_, rfl⟩
  have HB2 : Hid (Below w.heap.size w W2) := by rw [hW2]; exact below_two w _ _
  have HBJ : Hid (Blk W2 gj 28 #[jptr p]) := by rw [hW2, hgj]; exact (Blk.new w _ _).alloc _
  have HBS : Hid (Blk W2 gs 53 #[.int .u16 (st : Int), .bool lo, .int .u32 (mid : Int)]) := by
    have := Blk.new (w.alloc (.cells #[jptr p] 28)) 53 #[.int .u16 (st : Int), .bool lo, .int .u32 (mid : Int)]
    rw [World.size_alloc] at this
    rw [hW2, hgs]; exact this
  have HJ2 := Lib.hid (k.jo.grows HB2.out)
  have HL2 : Hid (LinesR W2 T bl inter F s.pcs) := k.ln.fr (Fr.of_below HB2.out) (fun i hi _ e => by have e' : w.heap.size ≤ i := e; omega) (fun i hi _ e => by have e' : w.heap.size ≤ i := e; omega) (fun _ _ => rfl)
  have cj := HBJ.out.cell 0
  have s2 := HBS.out.cell 2
  simp only [List.getElem?_toArray, List.getElem?_cons_succ, List.getElem?_cons_zero] at cj s2
  have HS2 : Hid (W2.heap.size = w.heap.size + 2) := by rw [hW2]; show _ = _; simp
  have HGJ := Lib.hid hgj
  have HGS := Lib.hid hgs
  clear k
  go_enter Try.func18, Try.ntmps18
  go_upto_region 1 with (fail)
  rw [← hW2, ← hgs, ← hgj]
  clear hW2 hgj hgs
  go_wp2_with fail
  refine (HNUM.out W2 HJ2.out.jb.c0).mono ?_
  rintro e w3 ⟨rfl, rfl⟩
  obtain ⟨W3, hW3⟩ : ∃ W3, W3 = W2.alloc (.cells #[.int .u32 (z : Int)] 33) := ⟨_, rfl⟩
  obtain ⟨gm, hgm⟩ : ∃ gm, gm = W2.heap.size := ⟨_, rfl⟩
  go_upto_region 2 with (fail)
  rw [← hW3, ← hgm]
  have hf23 : Fr (fun _ => False) W2 W3 := by rw [hW3]; exact (Fr.refl _ W2).alloc _
  have HBM3 : Hid (Blk W3 gm 33 #[.int .u32 (z : Int)]) := by rw [hW3, hgm]; exact Blk.new _ _ _
  have HBJ3 := Lib.hid (hf23.blk HBJ.out (fun h => h))
  have HBS3 := Lib.hid (hf23.blk HBS.out (fun h => h))
  have HJ3 := Lib.hid (HJ2.out.fr hf23 (fun _ _ _ h => h) (Ext.same HJ2.out.out hf23.size))
  have HL3 := Lib.hid (HL2.out.fr (T' := T) hf23 (fun _ _ _ h => h) (fun _ _ _ h => h) (fun _ _ => rfl))
  have HB3 : Hid (Below w.heap.size w W3) := below_fr HB2.out hf23 (Nat.le_refl _) (fun _ h => h.elim)
  have HGT : Hid (∀ i, w.heap.size ≤ i → T i = 0) := HK.out.jo.out
  have HGE : Hid (w.heap.size ≤ gj ∧ w.heap.size ≤ gs ∧ w.heap.size ≤ gm ∧ p < w.heap.size) := by
    refine ⟨?_, ?_, ?_, Blk.lt HK.out.jo.jb⟩
    · rw [HGJ.out]; exact Nat.le_refl _
    · rw [HGS.out]; omega
    · rw [hgm, HS2.out]; omega
  have HSP : Hid (Jo.sizeP s.pcs ≤ Jo.held s) := by unfold Hid Jo.held; omega
  have cj := HBJ3.out.cell 0
  have s1 := HBS3.out.cell 1
  have cm := HBM3.out.cell 0
  have c0 := HJ3.out.jb.c0
  simp only [List.getElem?_toArray, List.getElem?_cons_succ, List.getElem?_cons_zero] at cj s1 cm
  have hrule : RuleJ W3 T p 38 #[.pointer (some ⟨gs, 0, none⟩), .pointer (some ⟨gj, 0, none⟩), .pointer (some ⟨gm, 0, none⟩)] inter s.pcs (skR inter st lo z) := fun W q v hf hc hq => by
    have hn : ∀ i, w.heap.size ≤ i → ¬ (i < W3.heap.size ∧ (T i = 2 ∨ i = p)) := fun i hi e => by
      rcases e.2 with e2 | e2
      · rw [HGT.out i hi] at e2; cases e2
      · have := HGE.out.2.2.2; omega
    have h1 := (hf.blk HBJ3.out (hn gj HGE.out.1)).cell 0
    have h2 := (hf.blk HBM3.out (hn gm HGE.out.2.2.1)).cell 0
    simp only [List.getElem?_toArray, List.getElem?_cons_zero] at h1 h2
    exact skip1_any (hf.blk HBS3.out (hn gs HGE.out.2.1)) h1 h2 hc HZM.out (m := pcM q) (HK.out.pok q hq).mid _ _
  have hdrop := jdrop_any HJ3.out.jb HJ3.out.tp HL3.out HJ3.out.out HSP.out HK.out.small skip1_enters hrule
  have HD0 : Hid (SkD w W3 T p bl bo inter rv F Om Wb xs s (Jo.held s) s.pcs) := ⟨HJ3.out, HL3.out, fun _ h => h, rfl, (Fr.of_below HB3.out).mono (fun i hi e => by have e' : w.heap.size ≤ i := e; omega), HK.out.small⟩
  have HD1 : Hid (∀ e w4, DropJ W3 T p inter bl bo rv (Jo.held s) s.pcs (skR inter st lo z) e w4 → ∃ F', e = .returned (.tuple #[]) ∧ SkD w w4 T p bl bo inter rv F' Om Wb xs s (Jo.held s - Jo.sizeP (s.pcs.filter (skR inter st lo z))) (s.pcs.filter fun q => !skR inter st lo z q) ∧ Blk w4 gj 28 #[jptr p] ∧ Blk w4 gs 53 #[.int .u16 (st : Int), .bool lo, .int .u32 (mid : Int)] ∧ Blk w4 gm 33 #[.int .u32 (z : Int)]) := fun e w4 hd => by
    obtain ⟨F', rfl, h1, h2, h3⟩ := hd
    have hn : ∀ i, w.heap.size ≤ i → ¬ (i < W3.heap.size ∧ (T i = 2 ∨ i = p)) := fun i hi e => by
      rcases e.2 with e2 | e2
      · rw [HGT.out i hi] at e2; cases e2
      · have := HGE.out.2.2.2; omega
    have hsp := sizeP_split (skR inter st lo z) s.pcs
    refine ⟨F', rfl, ⟨HJ3.out.reheld h3 h2, h1, fun q hq => (List.mem_filter.1 hq).1, ?_, ((Fr.of_below HB3.out).mono (T := fun i => i < w.heap.size ∧ T i ≠ 0) (fun i hi e => by have e' : w.heap.size ≤ i := e; omega)).trans h3 (fun i hi e => ⟨hi, ?_⟩), by have := HK.out.small; omega⟩, h3.blk HBJ3.out (hn gj HGE.out.1), h3.blk HBS3.out (hn gs HGE.out.2.1), h3.blk HBM3.out (hn gm HGE.out.2.2.1)⟩
    · unfold Jo.held; omega
    · rcases e.2 with e2 | e2
      · rw [e2]; decide
      · rw [e2, HK.out.jo.tp]; decide
  have hz32 := small32 HZM.out
  clear hW3 hgm hf23 hrule HBJ HBS HBJ3 HBS3 HBM3 HJ3 HL3 HJ2 HL2 HB2 HS2 HGJ HGS HNUM s2
  cases inter
  · cases lo
    · go_wp2_with fail
      refine hdrop.mono ?_
      clear hdrop cj s1 cm c0
      rintro e w4 hd
      obtain ⟨F', rfl, hd, hbj, hbs, hbm⟩ := HD1.out e w4 hd
      have HD := Lib.hid hd
      have HBJ := Lib.hid hbj
      have HBS := Lib.hid hbs
      have HBM := Lib.hid hbm
      have s0 := hbs.cell 0
      have s1 := hbs.cell 1
      have cj := hbj.cell 0
      have cm := hbm.cell 0
      simp only [List.getElem?_toArray, List.getElem?_cons_succ, List.getElem?_cons_zero] at s0 s1 cj cm
      clear hd hbj hbs hbm HD0 HD1
      have hpass := passed_any HD.out.jo hst HZM.out
      obtain ⟨pb, hpb⟩ : ∃ pb, pb = ltB z (s.next st) (Jo.modN false) := ⟨_, rfl⟩
      rw [← hpb] at hpass
      have HPB := Lib.hid hpb
      clear hpb
      go_wp2_with fail
      refine hpass.mono ?_
      rintro e w5 ⟨rfl, rfl⟩
      clear hpass
      cases pb
      · have HLF : Hid (¬ Jo.lessN false z (s.next st)) := fun h => by
          have h1 := (ltB_eq (inter := false) z (s.next st)).2 h
          have h2 := HPB.out
          rw [h1] at h2; cases h2
        have HCD : Hid (∀ V, Fr (fun i => i < w4.heap.size ∧ T i = 3) w4.drew V → V.cell? ⟨gj, 0, none⟩ = some (jptr p) ∧ V.cell? ⟨gs, 0, none⟩ = some (.int .u16 (st : Int)) ∧ V.cell? ⟨gm, 0, none⟩ = some (.int .u32 (z : Int))) := fun V hV => by
          have hn : ∀ i, w.heap.size ≤ i → ¬ (i < w4.heap.size ∧ T i = 3) := fun i hi e => by have := e.2; rw [HGT.out i hi] at this; cases this
          have h1 := (hV.blk (show Blk w4.drew gj _ _ from HBJ.out) (hn gj HGE.out.1)).cell 0
          have h2 := (hV.blk (show Blk w4.drew gs _ _ from HBS.out) (hn gs HGE.out.2.1)).cell 0
          have h3 := (hV.blk (show Blk w4.drew gm _ _ from HBM.out) (hn gm HGE.out.2.2.1)).cell 0
          simp only [List.getElem?_toArray, List.getElem?_cons_zero] at h1 h2 h3
          exact ⟨h1, h2, h3⟩
        clear s0 s1 cj cm
        go_upto_region 5 with (fail)
        refine wp_region_stage_tail 6 (fun m V V' => 1 ≤ m → V = V') (fun m V => Hid ((m = 0 → V = w4.drew) ∧ Fr (fun i => i < w4.heap.size ∧ T i = 3) w4.drew V)) [(false, .exact (.pointer (some ⟨p, 0, none⟩))),
            (false, .exact (.pointer (some ⟨p, 0, none⟩))),
            (false, .exact (.pointer (some ⟨gs, 0, none⟩))),
            (false, .exact (.int .u16 (st : Int))),
            (true, .grows (OrdP w4.drew T p false bl bo rv (Jo.held s - Jo.sizeP (s.pcs.filter (skR false st false z))) xs s.next s.wait st)),
            (false, .exact (.int .u32 (z : Int)))] (by kernel_rfl) (by kernel_rfl) (by kernel_rfl) rfl (of_decide_eq_true (by kernel_rfl)) (by kernel_rfl) (by kernel_rfl) ?lasts ?start ?walk
        case lasts => exact ⟨fun m v V V' hm h k => by rw [← k (Nat.lt_of_le_of_lt (Nat.zero_le _) (hm rfl))]; exact h, trivial⟩
        case start => exact ⟨fun _ => rfl, Fr.refl _ _⟩
        case walk =>
          simp only [List.take_succ_cons, List.take_zero, List.drop_succ_cons, List.drop_zero]
          refine stageT_pure rfl (fun _ _ _ => rfl) (fun V m hS hl => by
              have hc := (HCD.out V hS.out.2).1
              go_simp) ?_
          simp only [Act.put, List.setIfInBounds_toArray, List.set_cons_zero, List.set_cons_succ, List.cons_append, List.nil_append]
          refine stageT_pure rfl (fun _ _ _ => rfl) (fun V m hS hl => by
              have hc := (HCD.out V hS.out.2).1
              go_simp) ?_
          simp only [Act.put, List.setIfInBounds_toArray, List.set_cons_zero, List.set_cons_succ, List.cons_append, List.nil_append]
          refine stageT_pure rfl (fun _ _ _ => rfl) (fun V m hS hl => by go_simp) ?_
          simp only [Act.put, List.setIfInBounds_toArray, List.set_cons_zero, List.set_cons_succ, List.cons_append, List.nil_append]
          refine stageT_pure rfl (fun _ _ _ => rfl) (fun V m hS hl => by
              have hc := (HCD.out V hS.out.2).2.1
              go_simp) ?_
          simp only [Act.put, List.setIfInBounds_toArray, List.set_cons_zero, List.set_cons_succ, List.cons_append, List.nil_append]
          refine stageT_move_grows rfl (fun V hS hl => by
              go_simp
              refine Calls.mono (order_any (show JO V T p false bl bo rv (Jo.held s - Jo.sizeP (s.pcs.filter (skR false st false z))) xs Om Wb s.next s.wait from by rw [hS.out.1 rfl]; exact HD.out.jo.drewN 1) hst) ?_
              rintro e V' ⟨b, T', Om', Wb', rfl, h1, h2, h3, h4⟩
              exact ⟨_, rfl, ordP_of (hS.out.1 rfl) h1 h2 h3 h4, by have h5 := h3; rw [hS.out.1 rfl] at h5; exact h5⟩) (fun v36 => ?_)
          simp only [Act.put, List.setIfInBounds_toArray, List.set_cons_zero, List.set_cons_succ, List.cons_append, List.nil_append]
          refine stageT_pure rfl (fun _ _ _ => rfl) (fun V m hS hl => by
              have hc := (HCD.out V hS.out.2).2.2
              go_simp) ?_
          simp only [Act.put, List.setIfInBounds_toArray, List.set_cons_zero, List.set_cons_succ, List.cons_append, List.nil_append]
          refine stageT_nil (fun V2 hS hF => ?_)
          have hF1 : OrdP w4.drew T p false bl bo rv (Jo.held s - Jo.sizeP (s.pcs.filter (skR false st false z))) xs s.next s.wait st v36 V2 := hF.1
          clear hS hF
          obtain ⟨b, T', Om', Wb', rfl, ho, hjo, hfr, hext⟩ := hF1
          have HJO := Lib.hid hjo
          have HFR := Lib.hid hfr
          have HEXT := Lib.hid hext
          have hrd : s.ready = xs.map (fun x => msOf x.m) := HK.out.rd
          have hleap := leap_any hjo (by
            have h1 := hjo.xlen
            have h2 := hjo.wlen
            have h3 := HD.out.hh
            have h4 := HD.out.le
            rw [hrd] at h3
            omega) ho HZM.out
          clear ho hjo hfr hext
          go_wp2_with fail
          refine hleap.mono ?_
          clear hleap
          intro e w6 hd
          have hl5 : LinesR V2 T' bl false F' (s.pcs.filter fun q => !skR false st false z q) := (show LinesR w4.drew T bl false F' _ from HD.out.ln.fr ((Fr.refl (fun _ => False) w4).drew) (fun _ _ _ h => h) (fun _ _ _ h => h) (fun _ _ => rfl)).fr HFR.out (fun i hi e hx => by have := hx.2; rw [e] at this; cases this) (fun i hi e hx => by have := hx.2; rw [e] at this; cases this) HEXT.out.old
          obtain ⟨s', T6, rfl, q1, ⟨rv6, xs6, q2⟩, q3, q4, ms, w1, q5, q6, q7, q8, q9⟩ := leap_plain HZM.out HJO.out hl5 (by rw [← hrd]; exact HD.out.hh) HD.out.le (fun q hq => HK.out.pok q (List.mem_filter.1 hq).1) hd
          have HEND : Hid (SkipDone w (fun i => T i ≠ 0) p false s st false z (.returned (.tuple #[])) w6) := by
            have hfa : Fr (fun i => i < w.heap.size ∧ T i ≠ 0) w V2 := HD.out.fr.drew.trans HFR.out (fun i hi e => ⟨hi, by have := e.2; rw [this]; decide⟩)
            have hea : Ext w V2 T T' := ⟨fun i hi => HEXT.out.old i (by have := HD.out.fr.size; show i < w4.heap.size; omega), HEXT.out.out⟩
            refine ⟨s', fun i => T6 i ≠ 0, rfl, ⟨T6, bl, bo, rv6, F', Om', Wb', xs6, fun i => Iff.rfl, q2⟩, ⟨fun q hq => by rw [q1] at hq; exact (List.mem_filter.1 hq).1, .inr ⟨rfl, HLF.out, ms, w1, q5, q6, q7, q8, by rw [hrd]; exact q9⟩⟩, fun i hi => ?_, (hfa.trans q3 (fun i hi e => ⟨hi, ?_⟩)).mono (fun i hi e => e.2)⟩
            · rcases Nat.lt_or_ge i w.heap.size with h | h
              · have e1 := q4.old i (by have := hfa.size; omega)
                have e2 := hea.old i h
                have hi' : T6 i ≠ 0 := hi
                rw [e1, e2] at hi'
                exact .inl hi'
              · exact .inr h
            · have e2 := hea.old i hi
              rw [← e2]
              rcases e.2 with h | h | h <;> (rw [h]; decide)
          clear hd q1 q2 q3 q4 q5 q6 q7 q8 q9 hl5
          go_wp2_with fail
          go_end0
          exact HEND.out
      · go_wp2_with fail
        go_end0
        exact HD.out.rest HK.out (Below.refl _ _) (.inr (ltB_eq _ _ |>.1 HPB.out.symm))
    · go_wp2_with fail
      go_end0
      exact HD0.out.rest HK.out (Below.refl _ _) (.inl rfl)
  · cases lo
    · go_wp2_with fail
      refine hdrop.mono ?_
      clear hdrop cj s1 cm c0
      rintro e w4 hd
      obtain ⟨F', rfl, hd, hbj, hbs, hbm⟩ := HD1.out e w4 hd
      have HD := Lib.hid hd
      have HBJ := Lib.hid hbj
      have HBS := Lib.hid hbs
      have HBM := Lib.hid hbm
      have s0 := hbs.cell 0
      have s1 := hbs.cell 1
      have cj := hbj.cell 0
      have cm := hbm.cell 0
      simp only [List.getElem?_toArray, List.getElem?_cons_succ, List.getElem?_cons_zero] at s0 s1 cj cm
      clear hd hbj hbs hbm HD0 HD1
      have hpass := passed_any HD.out.jo hst HZM.out
      obtain ⟨pb, hpb⟩ : ∃ pb, pb = ltB z (s.next st) (Jo.modN true) := ⟨_, rfl⟩
      rw [← hpb] at hpass
      have HPB := Lib.hid hpb
      clear hpb
      go_wp2_with fail
      refine hpass.mono ?_
      rintro e w5 ⟨rfl, rfl⟩
      clear hpass
      cases pb
      · have HLF : Hid (¬ Jo.lessN true z (s.next st)) := fun h => by
          have h1 := (ltB_eq (inter := true) z (s.next st)).2 h
          have h2 := HPB.out
          rw [h1] at h2; cases h2
        have HCD : Hid (∀ V, Fr (fun i => i < w4.heap.size ∧ T i = 3) w4.drew V → V.cell? ⟨gj, 0, none⟩ = some (jptr p) ∧ V.cell? ⟨gs, 0, none⟩ = some (.int .u16 (st : Int)) ∧ V.cell? ⟨gm, 0, none⟩ = some (.int .u32 (z : Int))) := fun V hV => by
          have hn : ∀ i, w.heap.size ≤ i → ¬ (i < w4.heap.size ∧ T i = 3) := fun i hi e => by have := e.2; rw [HGT.out i hi] at this; cases this
          have h1 := (hV.blk (show Blk w4.drew gj _ _ from HBJ.out) (hn gj HGE.out.1)).cell 0
          have h2 := (hV.blk (show Blk w4.drew gs _ _ from HBS.out) (hn gs HGE.out.2.1)).cell 0
          have h3 := (hV.blk (show Blk w4.drew gm _ _ from HBM.out) (hn gm HGE.out.2.2.1)).cell 0
          simp only [List.getElem?_toArray, List.getElem?_cons_zero] at h1 h2 h3
          exact ⟨h1, h2, h3⟩
        clear s0 s1 cj cm
        go_upto_region 5 with (fail)
        refine wp_region_stage_tail 6 (fun m V V' => 1 ≤ m → V = V') (fun m V => Hid ((m = 0 → V = w4.drew) ∧ Fr (fun i => i < w4.heap.size ∧ T i = 3) w4.drew V)) [(false, .exact (.pointer (some ⟨p, 0, none⟩))),
            (false, .exact (.pointer (some ⟨p, 0, none⟩))),
            (false, .exact (.pointer (some ⟨gs, 0, none⟩))),
            (false, .exact (.int .u16 (st : Int))),
            (true, .grows (OrdP w4.drew T p true bl bo rv (Jo.held s - Jo.sizeP (s.pcs.filter (skR true st false z))) xs s.next s.wait st)),
            (false, .exact (.int .u32 (z : Int)))] (by kernel_rfl) (by kernel_rfl) (by kernel_rfl) rfl (of_decide_eq_true (by kernel_rfl)) (by kernel_rfl) (by kernel_rfl) ?lasts ?start ?walk
        case lasts => exact ⟨fun m v V V' hm h k => by rw [← k (Nat.lt_of_le_of_lt (Nat.zero_le _) (hm rfl))]; exact h, trivial⟩
        case start => exact ⟨fun _ => rfl, Fr.refl _ _⟩
        case walk =>
          simp only [List.take_succ_cons, List.take_zero, List.drop_succ_cons, List.drop_zero]
          refine stageT_pure rfl (fun _ _ _ => rfl) (fun V m hS hl => by
              have hc := (HCD.out V hS.out.2).1
              go_simp) ?_
          simp only [Act.put, List.setIfInBounds_toArray, List.set_cons_zero, List.set_cons_succ, List.cons_append, List.nil_append]
          refine stageT_pure rfl (fun _ _ _ => rfl) (fun V m hS hl => by
              have hc := (HCD.out V hS.out.2).1
              go_simp) ?_
          simp only [Act.put, List.setIfInBounds_toArray, List.set_cons_zero, List.set_cons_succ, List.cons_append, List.nil_append]
          refine stageT_pure rfl (fun _ _ _ => rfl) (fun V m hS hl => by go_simp) ?_
          simp only [Act.put, List.setIfInBounds_toArray, List.set_cons_zero, List.set_cons_succ, List.cons_append, List.nil_append]
          refine stageT_pure rfl (fun _ _ _ => rfl) (fun V m hS hl => by
              have hc := (HCD.out V hS.out.2).2.1
              go_simp) ?_
          simp only [Act.put, List.setIfInBounds_toArray, List.set_cons_zero, List.set_cons_succ, List.cons_append, List.nil_append]
          refine stageT_move_grows rfl (fun V hS hl => by
              go_simp
              refine Calls.mono (order_any (show JO V T p true bl bo rv (Jo.held s - Jo.sizeP (s.pcs.filter (skR true st false z))) xs Om Wb s.next s.wait from by rw [hS.out.1 rfl]; exact HD.out.jo.drewN 1) hst) ?_
              rintro e V' ⟨b, T', Om', Wb', rfl, h1, h2, h3, h4⟩
              exact ⟨_, rfl, ordP_of (hS.out.1 rfl) h1 h2 h3 h4, by have h5 := h3; rw [hS.out.1 rfl] at h5; exact h5⟩) (fun v36 => ?_)
          simp only [Act.put, List.setIfInBounds_toArray, List.set_cons_zero, List.set_cons_succ, List.cons_append, List.nil_append]
          refine stageT_pure rfl (fun _ _ _ => rfl) (fun V m hS hl => by
              have hc := (HCD.out V hS.out.2).2.2
              go_simp) ?_
          simp only [Act.put, List.setIfInBounds_toArray, List.set_cons_zero, List.set_cons_succ, List.cons_append, List.nil_append]
          refine stageT_nil (fun V2 hS hF => ?_)
          have hF1 : OrdP w4.drew T p true bl bo rv (Jo.held s - Jo.sizeP (s.pcs.filter (skR true st false z))) xs s.next s.wait st v36 V2 := hF.1
          clear hS hF
          obtain ⟨b, T', Om', Wb', rfl, ho, hjo, hfr, hext⟩ := hF1
          have HJO := Lib.hid hjo
          have HFR := Lib.hid hfr
          have HEXT := Lib.hid hext
          have hrd : s.ready = xs.map (fun x => msOf x.m) := HK.out.rd
          have hleap := leap_any hjo (by
            have h1 := hjo.xlen
            have h2 := hjo.wlen
            have h3 := HD.out.hh
            have h4 := HD.out.le
            rw [hrd] at h3
            omega) ho HZM.out
          clear ho hjo hfr hext
          go_wp2_with fail
          refine hleap.mono ?_
          clear hleap
          intro e w6 hd
          have hl5 : LinesR V2 T' bl true F' (s.pcs.filter fun q => !skR true st false z q) := (show LinesR w4.drew T bl true F' _ from HD.out.ln.fr ((Fr.refl (fun _ => False) w4).drew) (fun _ _ _ h => h) (fun _ _ _ h => h) (fun _ _ => rfl)).fr HFR.out (fun i hi e hx => by have := hx.2; rw [e] at this; cases this) (fun i hi e hx => by have := hx.2; rw [e] at this; cases this) HEXT.out.old
          obtain ⟨s', T6, rfl, q1, ⟨rv6, xs6, q2⟩, q3, q4, ms, w1, q5, q6, q7, q8, q9⟩ := leap_plain HZM.out HJO.out hl5 (by rw [← hrd]; exact HD.out.hh) HD.out.le (fun q hq => HK.out.pok q (List.mem_filter.1 hq).1) hd
          have HEND : Hid (SkipDone w (fun i => T i ≠ 0) p true s st false z (.returned (.tuple #[])) w6) := by
            have hfa : Fr (fun i => i < w.heap.size ∧ T i ≠ 0) w V2 := HD.out.fr.drew.trans HFR.out (fun i hi e => ⟨hi, by have := e.2; rw [this]; decide⟩)
            have hea : Ext w V2 T T' := ⟨fun i hi => HEXT.out.old i (by have := HD.out.fr.size; show i < w4.heap.size; omega), HEXT.out.out⟩
            refine ⟨s', fun i => T6 i ≠ 0, rfl, ⟨T6, bl, bo, rv6, F', Om', Wb', xs6, fun i => Iff.rfl, q2⟩, ⟨fun q hq => by rw [q1] at hq; exact (List.mem_filter.1 hq).1, .inr ⟨rfl, HLF.out, ms, w1, q5, q6, q7, q8, by rw [hrd]; exact q9⟩⟩, fun i hi => ?_, (hfa.trans q3 (fun i hi e => ⟨hi, ?_⟩)).mono (fun i hi e => e.2)⟩
            · rcases Nat.lt_or_ge i w.heap.size with h | h
              · have e1 := q4.old i (by have := hfa.size; omega)
                have e2 := hea.old i h
                have hi' : T6 i ≠ 0 := hi
                rw [e1, e2] at hi'
                exact .inl hi'
              · exact .inr h
            · have e2 := hea.old i hi
              rw [← e2]
              rcases e.2 with h | h | h <;> (rw [h]; decide)
          clear hd q1 q2 q3 q4 q5 q6 q7 q8 q9 hl5
          go_wp2_with fail
          go_end0
          exact HEND.out
      · go_wp2_with fail
        go_end0
        exact HD.out.rest HK.out (Below.refl _ _) (.inr (ltB_eq _ _ |>.1 HPB.out.symm))
    · go_wp2_with fail
      refine hdrop.mono ?_
      clear hdrop cj s1 cm c0
      rintro e w4 hd
      obtain ⟨F', rfl, hd, hbj, hbs, hbm⟩ := HD1.out e w4 hd
      have HD := Lib.hid hd
      have HBJ := Lib.hid hbj
      have HBS := Lib.hid hbs
      have HBM := Lib.hid hbm
      have s0 := hbs.cell 0
      have s1 := hbs.cell 1
      have cj := hbj.cell 0
      have cm := hbm.cell 0
      simp only [List.getElem?_toArray, List.getElem?_cons_succ, List.getElem?_cons_zero] at s0 s1 cj cm
      clear hd hbj hbs hbm HD0 HD1
      go_wp2_with fail
      go_end0
      exact HD.out.rest HK.out (Below.refl _ _) (.inl rfl)
end
end Go.Proofs.Ytioddokjogbmnaa.Chk
