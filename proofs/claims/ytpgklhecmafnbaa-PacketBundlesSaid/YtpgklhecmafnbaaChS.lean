/-
  Contracts of package chunk's reader: acknowledgements, what is skipped.
-/
import Derived.Test.YtpgklhecmafnbaaChR
set_option linter.unusedVariables false
set_option linter.unusedSimpArgs false
namespace Go.Proofs.Ytpgklhecmafnbaa.Chk
open Go.ChangeShapes Go.WideShapes Go.ChangeAt Go.RowKit Go.Deep Go.Proofs.Ytpgklhecmafnbaa.Words Go.Proofs.Ytpgklhecmafnbaa.Oct Go.Proofs.Ytpgklhecmafnbaa.Par

theorem gap_info : (Try.prog.info? 85).map (fun i => (i.zero, i.size, i.bytes)) = some (some (.agg #[.int .u16 0, .int .u16 0]), 2, 4) := by kernel_rfl
theorem skip_info : (Try.prog.info? 87).map (fun i => (i.zero, i.size, i.bytes)) = some (some (.agg #[.int .u16 0, .bool false, .int .u32 0]), 3, 8) := by kernel_rfl
theorem u32_info : (Try.prog.info? 25).map (fun i => (i.zero, i.size, i.bytes)) = some (some (.int .u32 0), 1, 4) := by kernel_rfl

/-- 'append(s, x...)' in a region of stages. -/
theorem leaves_append {P : Program} {w : World} {o : Oper} {ev : Operand → Value} {Φ : Value → World → Prop} (s x : Operand) (t : TypeId) (ho : o.op = .call { callee := .builtin .append, args := #[s, x], argTypes := #[t, t] })
    (base : Nat) (e : TypeId) (i : TypeInfo) (z : Value) (size bytes : Nat) (ht : P.underlying t = some (.slice e)) (hi : P.info? e = some i) (hz : i.zero = some z)
    (hsize : i.size = size) (hby : i.bytes = bytes) (hzs : z.cells.size = size) (hsz : 0 < size)
    (v : Value) (n : Nat) (xs : List Value) (hs : ev s = v) (hown : w.ownsRow base e size v n xs)
    (B : Nat) (A : Option Addr) (m c : Nat) (news : List Value) (hx : ev x = .slice A m c) (hr : Reads w B size A m news) (h1 : ∀ u ∈ news, u.oneCell' = true)
    (h63 : n + m ≤ maxLen) (hbytes : (n + m) * bytes ≤ 140737488355328) (hbase : base ≤ w.heap.size)
    (h : ∀ v' w', w'.ownsRow base e size v' (n + m) (xs ++ news) → w.grownBy w' v.ownBlock → (v'.ownBlock = v.ownBlock ∨ v'.ownBlock = some w.heap.size) → Φ v' w') : Words.Leaves P Φ ((execOp ev o).run P w) := by
  obtain ⟨v', w', hrun, h2, h3, h4⟩ := run_append_any (P := P) w base t o.type e i z size bytes ht hi hz hsize hby hzs hsz v n xs hown B A m c news hr h1 h63 hbytes hbase
  unfold execOp
  simp only [ho, resolve, invoke, builtin, Sem.run_bind, Sem.run_pure, Result.andThen_ok, List.map_toArray, List.map_cons, List.map_nil, hs, hx, hrun]
  exact h v' w' h2 h3 h4

/-- What a step of such a region may turn: at the append (stage a) the row's block, else the reader's. -/
def stRel (a p : Nat) (v : Value) (m : Nat) : World → World → Prop := Fr (fun i => (m = a ∧ some i = v.ownBlock) ∨ (m ≠ a ∧ i = p))
/-- A row just laid, beside another and the reader. -/
def Laid (t : TypeId) (cs : Array Value) (p : Nat) (v : Value) (u : Value) (V : World) : Prop := ∃ b, u = .slice (some ⟨b, 0, none⟩) 1 1 ∧ Blk V b t cs ∧ v.ownBlock ≠ some b ∧ b ≠ p
theorem Laid.lasts {a p : Nat} {t : TypeId} {cs : Array Value} {v u : Value} {m : Nat} {V V' : World} (h : Laid t cs p v u V) (k : stRel a p v m V V') : Laid t cs p v u V' := by
  obtain ⟨b, rfl, h1, h2, h3⟩ := h
  refine ⟨b, rfl, Fr.blk k h1 ?_, h2, h3⟩
  rintro (⟨_, e⟩ | ⟨_, e⟩)
  · exact h2 e.symm
  · exact h3 e
/-- A row that was appended to. -/
def Grew (B : Nat) (t : TypeId) (size p n : Nat) (xs : List Value) (u : Value) (V : World) : Prop := V.ownsRow B t size u n xs ∧ u.ownBlock ≠ some p
theorem Grew.lasts {a p B size n : Nat} {t : TypeId} {xs : List Value} {v u : Value} {m : Nat} {V V' : World} (hm : m ≠ a) (h : Grew B t size p n xs u V) (k : stRel a p v m V V') : Grew B t size p n xs u V' := by
  refine ⟨Fr.own k h.1 (fun g hg => ?_), h.2⟩
  rintro (⟨e, _⟩ | ⟨_, e⟩)
  · exact hm e
  · exact h.2 (by rw [hg, e])
/-- Where such a region stands: the reader, the row. -/
def RSr (w V : World) (p G r g : Nat) (l : List UInt8) (bad wr : Bool) (cs : Array Value) (a m B : Nat) (t : TypeId) (size n : Nat) (v : Value) (xs : List Value) : Prop :=
  RS w V p G r g l bad wr cs ∧ (m ≤ a → V.ownsRow B t size v n xs)
section
variable {w V V' : World} {p G r g a m B size n : Nat} {l l' : List UInt8} {bad bad' wr : Bool} {cs : Array Value} {t : TypeId} {v : Value} {xs : List Value}
theorem RSr.step (h : RSr w V p G r g l bad wr cs a m B t size n v xs) (hm : m < a) (ht : t ≠ 121) (k : Rd V' p G l' bad') (f : Fr (At p) V V') : RSr w V' p G r g l' bad' wr cs a (m + 1) B t size n v xs :=
  ⟨h.1.step k f, fun _ => f.own (h.2 (by omega)) (fun b hb e => by
    obtain ⟨A, c, hbl, _⟩ := h.1.rd.ex
    have e' : b = p := e
    subst e'
    exact own_blk_ne (h.2 (by omega)) hbl ht hb)⟩
theorem RSr.rel (hm : m ≠ a) (f : Fr (At p) V V') : stRel a p v m V V' := f.mono fun x _ hx => .inr ⟨hm, hx⟩
theorem RSr.lay (h : RSr w V p G r g l bad wr cs a m B t size n v xs) (hm : m < a) (t' : TypeId) (ys : Array Value) :
    stRel a p v m V (V.alloc (.cells ys t')) ∧ Laid t' ys p v (.slice (some ⟨V.heap.size, 0, none⟩) 1 1) (V.alloc (.cells ys t')) ∧ RSr w (V.alloc (.cells ys t')) p G r g l bad wr cs a (m + 1) B t size n v xs := by
  have hb := (Below.refl V.heap.size V).alloc (Nat.le_refl _) (.cells ys t')
  refine ⟨(Fr.refl _ V).alloc _, ⟨_, rfl, Blk.new _ _ _, fun e => by have := ((h.2 (by omega)).lt _ e).2; omega, fun e => by have := h.1.rd.lt; omega⟩, h.1.grows hb, fun _ => (Fr.of_below hb).own (h.2 (by omega)) (fun b hb' hi => by have := ((h.2 (by omega)).lt b hb').2; omega)⟩
theorem RSr.grow (h : RSr w V p G r g l bad wr cs a a B t size n v xs) (hB : w.heap.size ≤ B) (hw : p < w.heap.size ∧ r < w.heap.size ∧ g < w.heap.size) (hG : G ≤ p) {u : Value} {n' : Nat} {ys : List Value} (ho : V'.ownsRow B t size u n' ys) (hg : V.grownBy V' v.ownBlock) :
    stRel a p v a V V' ∧ Grew B t size p n' ys u V' ∧ RSr w V' p G r g l bad wr cs a (a + 1) B t size n v xs := by
  have hv := h.2 (Nat.le_refl _)
  have F : Fr (fun i => some i = v.ownBlock) V V' := Fr.of_grown hg
  have hne : ∀ i, i < w.heap.size → ¬ some i = v.ownBlock := fun i hi e => by have := (hv.lt i e.symm).1; omega
  refine ⟨F.mono fun x _ hx => .inl ⟨rfl, hx⟩, ⟨ho, fun e => by have := (ho.lt p e).1; omega⟩, ⟨h.1.rd.fr F (hne p hw.1) (hne G (by omega)), F.blk h.1.rblk (hne r hw.2.1), F.blk h.1.blk (hne g hw.2.2), h.1.fr.grown hg (fun b hb => .inr (by have := (hv.lt b hb).1; omega)), h.1.o1, h.1.o2⟩, fun hx => by omega⟩
end
theorem gapC_snoc (l : List Gp) (g : Gp) : gapC (l ++ [g]) = gapC l ++ [.int .u16 (g.1 : Int), .int .u16 (g.2 : Int)] := by simp [gapC]
theorem dupC_snoc (l : List Nat) (d : Nat) : dupC (l ++ [d]) = dupC l ++ [.int .u32 (d : Int)] := by simp [dupC]
theorem skC_snoc (l : List Skp) (s : Skp) : skC (l ++ [s]) = skC l ++ [.int .u16 (s.1 : Int), .bool s.2.1, .int .u32 (s.2.2 : Int)] := by simp [skC]
theorem gapsN_snoc : ∀ (k : Nat) (l : List UInt8), gapsN (k + 1) l = gapsN k l ++ [(num ((l.drop (4 * k)).take 2), num (((l.drop (4 * k)).drop 2).take 2))]
  | 0, l => by simp [gapsN]
  | k + 1, l => by
    have e : gapsN (k + 1 + 1) l = (num (l.take 2), num ((l.drop 2).take 2)) :: gapsN (k + 1) (l.drop 4) := rfl
    rw [e, gapsN_snoc k (l.drop 4), List.drop_drop, show 4 + 4 * k = 4 * (k + 1) by omega]
    rfl
theorem dupsN_snoc : ∀ (k : Nat) (l : List UInt8), dupsN (k + 1) l = dupsN k l ++ [num ((l.drop (4 * k)).take 4)]
  | 0, l => by simp [dupsN]
  | k + 1, l => by
    have e : dupsN (k + 1 + 1) l = num (l.take 4) :: dupsN (k + 1) (l.drop 4) := rfl
    rw [e, dupsN_snoc k (l.drop 4), List.drop_drop, show 4 + 4 * k = 4 * (k + 1) by omega]
    rfl

theorem nil_own {w : World} {B size : Nat} {t : TypeId} : w.ownsRow B t size (.slice none 0 0) 0 [] := World.ownsRow_nil _ _ _ _
theorem blk_reads {w : World} {b n size : Nat} {t : TypeId} {cs : Array Value} (h : Blk w b t cs) (hn : cs.toList.length = n * size) : Reads w (b + 1) size (some ⟨b, 0, none⟩) n cs.toList :=
  ⟨hn, fun _ => ⟨_, rfl, by simp, fun j u hu => by rw [h.cellAdd, ← hu]; simp⟩⟩
theorem own_at {V V' : World} {B size n p : Nat} {t : TypeId} {v : Value} {xs : List Value} (h : V.ownsRow B t size v n xs) (hp : p < B) (f : Fr (At p) V V') : V'.ownsRow B t size v n xs :=
  f.own h (fun b hb e => by have := (h.lt b hb).1; have e' : b = p := e; omega)
theorem own_up {V V' : World} {B size n : Nat} {t : TypeId} {v : Value} {xs : List Value} (h : V.ownsRow B t size v n xs) (k : Below V.heap.size V V') : V'.ownsRow B t size v n xs :=
  (Fr.of_below k).own h (fun b hb hi => by have := (h.lt b hb).2; omega)
theorem own_beside {V V' : World} {B B' size size' n n' : Nat} {t t' : TypeId} {v v' : Value} {xs xs' : List Value} (h : V.ownsRow B t size v n xs) (h' : V.ownsRow B' t' size' v' n' xs') (hne : t ≠ t') (k : V.grownBy V' v'.ownBlock) : V'.ownsRow B t size v n xs :=
  (Fr.of_grown k).own h (fun b hb e => own_ne h h' hne b hb e.symm)
/-- What sack leaves. -/
def SackGot (w : World) (p G r g : Nat) (l : List UInt8) (bad bw : Bool) (c : Ck) (sv pv bv : Value) (e : Ending) (w' : World) : Prop :=
  e = .returned (.tuple #[]) ∧
  ((∃ gv dv, (cutL 12 l).length = 4 * (val 2 (cutL 8 l) + val 2 (cutL 10 l)) ∧ RS w w' p G r g [] (cutB 12 l bad) bw (ckArr { c with tsn := val 4 l, win := val 4 (cutL 4 l) } gv dv sv pv bv) ∧
    w'.ownsRow w.heap.size 85 2 gv (val 2 (cutL 8 l)) (gapC (gapsN (val 2 (cutL 8 l)) (cutL 12 l))) ∧
    w'.ownsRow w.heap.size 25 1 dv (val 2 (cutL 10 l)) (dupC (dupsN (val 2 (cutL 10 l)) ((cutL 12 l).drop (4 * val 2 (cutL 8 l)))))) ∨
  ((cutL 12 l).length ≠ 4 * (val 2 (cutL 8 l) + val 2 (cutL 10 l)) ∧ ∃ l' b' cs', RS w w' p G r g l' b' true cs'))

set_option maxHeartbeats 8000000 in
set_option maxRecDepth 100000 in
theorem sack_r {w : World} {p G r g : Nat} {l : List UInt8} {bad bw : Bool} {c : Ck} {sv pv bv : Value} (hl : l.length ≤ 900000) (h : RS w w p G r g l bad bw (ckArr c (.slice none 0 0) (.slice none 0 0) sv pv bv)) :
    Calls Try.prog 98 #[rptr r, cptr g] w (SackGot w p G r g l bad bw c sv pv bv) := by
  obtain ⟨i0, hi0, hz0, hz1, hz2⟩ := info_parts3 gap_info
  obtain ⟨j0, hj0, hjz0, hjz1, hjz2⟩ := info_parts3 u32_info
  have HLT := Lib.hid h.lts
  have HGP := Lib.hid h.rd.le
  have HLL := Lib.hid hl
  obtain ⟨W1, hW1⟩ : ∃ W1, W1 = w := ⟨_, rfl⟩
  have HR1 : Hid (RS w W1 p G r g l bad bw (ckArr c (.slice none 0 0) (.slice none 0 0) sv pv bv)) := by rw [hW1]; exact h
  rw [← hW1] at h
  rw [show Calls Try.prog 98 #[rptr r, cptr g] w = Calls Try.prog 98 #[rptr r, cptr g] W1 by rw [hW1]]
  clear h hW1 hl
  go_enter Try.func98, Try.ntmps98
  have d0 : W1.cell? ⟨r, 0, none⟩ = some (rptr p) := HR1.out.rblk.cell 0
  go_wp2_with fail
  refine (rdx_u32 HR1.out.rd).mono ?_
  rintro e V1 ⟨rfl, hr, hf⟩
  have HS1 := Lib.hid (HR1.out.step hr hf)
  clear hr hf d0 HR1
  have kc := CkBlk.at (i := 5) HS1.out.blk rfl
  have kf := HS1.out.blk.frozen 5
  go_upto_region 1 with (fail)
  obtain ⟨W2, hW⟩ : ∃ W, W = V1.setCell ⟨g, 5, none⟩ (.int .u32 ((val 4 (l) : Nat) : Int)) := ⟨_, rfl⟩
  have HR2 := Lib.hid (HS1.out.setC 5 (.int .u32 ((val 4 (l) : Nat) : Int)))
  rw [← hW] at HR2 ⊢
  clear hW kc kf HS1
  have d0 : W2.cell? ⟨r, 0, none⟩ = some (rptr p) := HR2.out.rblk.cell 0
  go_wp2_with fail
  refine (rdx_u32 HR2.out.rd).mono ?_
  rintro e V2 ⟨rfl, hr, hf⟩
  have HS2 := Lib.hid (HR2.out.step hr hf)
  clear hr hf d0 HR2
  have kc := CkBlk.at (i := 11) HS2.out.blk rfl
  have kf := HS2.out.blk.frozen 11
  go_upto_region 2 with (fail)
  obtain ⟨W3, hW⟩ : ∃ W, W = V2.setCell ⟨g, 11, none⟩ (.int .u32 ((val 4 (cutL 4 l) : Nat) : Int)) := ⟨_, rfl⟩
  have HR3 := Lib.hid (HS2.out.setC 11 (.int .u32 ((val 4 (cutL 4 l) : Nat) : Int)))
  rw [← hW] at HR3 ⊢
  clear hW kc kf HS2
  have d0 : W3.cell? ⟨r, 0, none⟩ = some (rptr p) := HR3.out.rblk.cell 0
  go_wp2_with fail
  refine (rdx_u16 HR3.out.rd).mono ?_
  rintro e V3 ⟨rfl, hr, hf⟩
  have HR4 := Lib.hid (HR3.out.step hr hf)
  obtain ⟨ng, hng⟩ : ∃ ng, ng = val 2 (cutL 4 (cutL 4 l)) := ⟨_, rfl⟩
  have hng6 : ng < 65536 := by rw [hng]; exact val_lt 2 _
  rw [← hng]
  have d1 : V3.cell? ⟨r, 0, none⟩ = some (rptr p) := HR4.out.rblk.cell 0
  have HNG : Hid (ng = val 2 (cutL 8 l)) := by rw [hng, cutL_cutL]; rfl
  clear hr hf d0 HR3 hng
  go_wp2_with fail
  refine (rdx_u16 HR4.out.rd).mono ?_
  rintro e V4 ⟨rfl, hr, hf⟩
  have HR5 := Lib.hid (HR4.out.step hr hf)
  obtain ⟨nd, hnd⟩ : ∃ nd, nd = val 2 (cutL 2 (cutL 4 (cutL 4 l))) := ⟨_, rfl⟩
  have hnd6 : nd < 65536 := by rw [hnd]; exact val_lt 2 _
  rw [← hnd]
  have d2 : V4.cell? ⟨r, 0, none⟩ = some (rptr p) := HR5.out.rblk.cell 0
  have HND : Hid (nd = val 2 (cutL 10 l)) := by rw [hnd, cutL_cutL, cutL_cutL]; rfl
  clear hr hf d1 HR4 hnd
  simp only [cutL_cutL, cutB_cutB, Nat.reduceAdd] at HR5
  have HLEFT := Lib.hid (rd_left HR5.out.rd)
  obtain ⟨x, hx⟩ : ∃ x, x = cutL 12 l := ⟨_, rfl⟩
  obtain ⟨bx, hbx⟩ : ∃ bx, bx = cutB 12 l bad := ⟨_, rfl⟩
  rw [← hx, ← hbx] at HR5
  rw [← hx] at HLEFT
  have HXL : Hid (x.length ≤ 900000) := by rw [hx]; exact Nat.le_trans (cutL_len 12 l) HLL.out
  have HX := Lib.hid hx
  have HBX := Lib.hid hbx
  obtain ⟨q, hq⟩ : ∃ q, q = x.length := ⟨_, rfl⟩
  rw [← hq] at HLEFT
  have HQ := Lib.hid hq
  clear hx hbx hq
  go_wp2_with fail
  refine HLEFT.out.mono ?_
  rintro e V5 ⟨rfl, rfl⟩
  clear HLEFT d2
  by_cases hne : (q : Int) = 4 * ((ng : Int) + (nd : Int))
  · have hne2 : ((q : Int) != 4 * ((ng : Int) + (nd : Int))) = false := by simpa using hne
    have HEQ : Hid (q = 4 * (ng + nd)) := by show _ = _; omega
    obtain ⟨c2, hc2⟩ : ∃ c2 : Ck, c2 = { c with tsn := val 4 l, win := val 4 (cutL 4 l) } := ⟨_, rfl⟩
    have HR6 : Hid (RS w V4 p G r g x bx bw (ckArr c2 (.slice none 0 0) (.slice none 0 0) sv pv bv)) := by rw [hc2]; exact HR5.out
    have HC2 := Lib.hid hc2
    have hq9 : q ≤ 900000 := by rw [HQ.out]; exact HXL.out
    clear hc2 HR5 hne
    go_wp2_with fail
    go_loopw [48] (fun i wr => ∃ (k : Nat) (gk : Value), k ≤ ng ∧ i = .int .i64 k ∧ Hid (RS w wr p G r g (x.drop (4 * k)) bx bw (ckArr c2 gk (.slice none 0 0) sv pv bv)) ∧ Hid (wr.ownsRow w.heap.size 85 2 gk k (gapC (gapsN k x)))) (fun i _ => ng - (intOf i).toNat)
    case atStart => exact ⟨0, .slice none 0 0, by omega, rfl, by rw [Nat.mul_zero, List.drop_zero]; exact HR6, nil_own⟩
    case round =>
      obtain ⟨k, gk, hk, rfl, HRk, HOk⟩ := hrel
      by_cases hlt : k < ng
      · obtain ⟨ln, hln⟩ : ∃ ln, ln = x.drop (4 * k) := ⟨_, rfl⟩
        have HLN : Hid (4 ≤ ln.length) := by rw [hln, List.length_drop]; have := HEQ.out; have := HQ.out; show _ ≤ _; omega
        have HSN : Hid (gapsN (k + 1) x = gapsN k x ++ [(num (ln.take 2), num ((ln.drop 2).take 2))]) := by rw [hln]; exact gapsN_snoc k x
        have HDN : Hid (ln.drop 4 = x.drop (4 * (k + 1))) := by rw [hln, List.drop_drop, show 4 * k + 4 = 4 * (k + 1) by omega]; rfl
        rw [← hln] at HRk
        obtain ⟨u1, hu1⟩ : ∃ u1, u1 = num (ln.take 2) := ⟨_, rfl⟩
        obtain ⟨u2, hu2⟩ : ∃ u2, u2 = num ((ln.drop 2).take 2) := ⟨_, rfl⟩
        have HU1 := Lib.hid hu1
        have HU2 := Lib.hid hu2
        obtain ⟨xs, hxs⟩ : ∃ xs, xs = gapC (gapsN k x) := ⟨_, rfl⟩
        have HXS := Lib.hid hxs
        rw [← hxs] at HOk
        have HS0 : Hid (RSr w wr.drew p G r g ln bx bw (ckArr c2 gk (.slice none 0 0) sv pv bv) 3 0 w.heap.size 85 2 k gk xs) := ⟨HRk.out.drew, fun _ => ((Fr.refl (fun _ => False) wr).drew.own HOk.out (fun _ _ h => h))⟩
        clear hln hu1 hu2 hxs
        go_upto_region 8 with (fail)
        refine wp_region_stage_tail 18 (fun m => stRel 3 p gk m) (fun m V => Hid (RSr w V p G r g (if m = 0 then ln else if m = 1 then ln.drop 2 else ln.drop 4) bx bw (ckArr c2 gk (.slice none 0 0) sv pv bv) 3 m w.heap.size 85 2 k gk xs)) [(false, .exact (cptr g)),
            (false, .exact (cptr g)),
            (false, .exact (cptr g)),
            (false, .exact (.pointer (some ⟨g, 14, none⟩))),
            (false, .exact (gk)),
            (false, .exact (rptr r)),
            (false, .exact (rptr r)),
            (false, .exact (.pointer (some ⟨r, 0, none⟩))),
            (false, .exact (rptr p)),
            (true, .exact (.int .u16 ((u1 : Nat) : Int))),
            (false, .exact (rptr r)),
            (false, .exact (rptr r)),
            (false, .exact (.pointer (some ⟨r, 0, none⟩))),
            (false, .exact (rptr p)),
            (true, .exact (.int .u16 ((u2 : Nat) : Int))),
            (false, .exact (.agg #[.int .u16 ((u1 : Nat) : Int), .int .u16 ((u2 : Nat) : Int)])),
            (true, .grows (Laid 85 #[.int .u16 ((u1 : Nat) : Int), .int .u16 ((u2 : Nat) : Int)] p gk)),
            (true, .grows (Grew w.heap.size 85 2 p (k + 1) (xs ++ [.int .u16 ((u1 : Nat) : Int), .int .u16 ((u2 : Nat) : Int)])))] (by kernel_rfl) (by kernel_rfl) (by kernel_rfl) rfl (of_decide_eq_true (by kernel_rfl)) (by kernel_rfl) (by kernel_rfl) ?lasts ?start ?walk
        case lasts => exact ⟨fun m v V V' _ h k => h.lasts k, fun m v V V' hm h k => h.lasts (fun e => by subst e; exact absurd (hm rfl) (by decide)) k, trivial⟩
        case start => exact HS0
        case walk =>
          simp only [List.take_succ_cons, List.take_zero, List.drop_succ_cons, List.drop_zero]
          refine stageT_pure rfl (fun m V => Fr.refl _ _) (fun V m hS hl => by go_simp) ?_
          simp only [Act.put, List.setIfInBounds_toArray, List.set_cons_zero, List.set_cons_succ, List.cons_append, List.nil_append]
          refine stageT_pure rfl (fun m V => Fr.refl _ _) (fun V m hS hl => by go_simp) ?_
          simp only [Act.put, List.setIfInBounds_toArray, List.set_cons_zero, List.set_cons_succ, List.cons_append, List.nil_append]
          refine stageT_pure rfl (fun m V => Fr.refl _ _) (fun V m hS hl => by go_simp) ?_
          simp only [Act.put, List.setIfInBounds_toArray, List.set_cons_zero, List.set_cons_succ, List.cons_append, List.nil_append]
          refine stageT_pure rfl (fun m V => Fr.refl _ _) (fun V m hS hl => by go_simp) ?_
          simp only [Act.put, List.setIfInBounds_toArray, List.set_cons_zero, List.set_cons_succ, List.cons_append, List.nil_append]
          refine stageT_pure rfl (fun m V => Fr.refl _ _) (fun V m hS hl => by
              have hc : V.cell? ⟨g, 14, none⟩ = some gk := CkBlk.at hS.out.1.blk rfl
              go_simp) ?_
          simp only [Act.put, List.setIfInBounds_toArray, List.set_cons_zero, List.set_cons_succ, List.cons_append, List.nil_append]
          refine stageT_pure rfl (fun m V => Fr.refl _ _) (fun V m hS hl => by go_simp) ?_
          simp only [Act.put, List.setIfInBounds_toArray, List.set_cons_zero, List.set_cons_succ, List.cons_append, List.nil_append]
          refine stageT_pure rfl (fun m V => Fr.refl _ _) (fun V m hS hl => by go_simp) ?_
          simp only [Act.put, List.setIfInBounds_toArray, List.set_cons_zero, List.set_cons_succ, List.cons_append, List.nil_append]
          refine stageT_pure rfl (fun m V => Fr.refl _ _) (fun V m hS hl => by go_simp) ?_
          simp only [Act.put, List.setIfInBounds_toArray, List.set_cons_zero, List.set_cons_succ, List.cons_append, List.nil_append]
          refine stageT_pure rfl (fun m V => Fr.refl _ _) (fun V m hS hl => by
              have hc : V.cell? ⟨r, 0, none⟩ = some (rptr p) := hS.out.1.rblk.cell 0
              go_simp) ?_
          simp only [Act.put, List.setIfInBounds_toArray, List.set_cons_zero, List.set_cons_succ, List.cons_append, List.nil_append]
          refine stageT_move rfl (fun V hS hl => by
              go_simp
              refine (rd_u16 (show Rd V p G ln bx from hS.out.1.rd) (by have := HLN.out; omega)).mono ?_
              rintro e V' ⟨rfl, h1, h2⟩
              exact ⟨_, rfl, RSr.rel (by decide) h2, by rw [HU1.out], hS.out.step (by decide) (by decide) h1 h2⟩) ?_
          simp only [Act.put, List.setIfInBounds_toArray, List.set_cons_zero, List.set_cons_succ, List.cons_append, List.nil_append]
          refine stageT_pure rfl (fun m V => Fr.refl _ _) (fun V m hS hl => by go_simp) ?_
          simp only [Act.put, List.setIfInBounds_toArray, List.set_cons_zero, List.set_cons_succ, List.cons_append, List.nil_append]
          refine stageT_pure rfl (fun m V => Fr.refl _ _) (fun V m hS hl => by go_simp) ?_
          simp only [Act.put, List.setIfInBounds_toArray, List.set_cons_zero, List.set_cons_succ, List.cons_append, List.nil_append]
          refine stageT_pure rfl (fun m V => Fr.refl _ _) (fun V m hS hl => by go_simp) ?_
          simp only [Act.put, List.setIfInBounds_toArray, List.set_cons_zero, List.set_cons_succ, List.cons_append, List.nil_append]
          refine stageT_pure rfl (fun m V => Fr.refl _ _) (fun V m hS hl => by
              have hc : V.cell? ⟨r, 0, none⟩ = some (rptr p) := hS.out.1.rblk.cell 0
              go_simp) ?_
          simp only [Act.put, List.setIfInBounds_toArray, List.set_cons_zero, List.set_cons_succ, List.cons_append, List.nil_append]
          refine stageT_move rfl (fun V hS hl => by
              go_simp
              refine (rd_u16 (show Rd V p G (ln.drop 2) bx from hS.out.1.rd) (by have := HLN.out; rw [List.length_drop]; omega)).mono ?_
              rintro e V' ⟨rfl, h1, h2⟩
              rw [List.drop_drop] at h1
              exact ⟨_, rfl, RSr.rel (by decide) h2, by rw [HU2.out], hS.out.step (by decide) (by decide) h1 h2⟩) ?_
          simp only [Act.put, List.setIfInBounds_toArray, List.set_cons_zero, List.set_cons_succ, List.cons_append, List.nil_append]
          refine stageT_pure rfl (fun m V => Fr.refl _ _) (fun V m hS hl => by go_simp) ?_
          simp only [Act.put, List.setIfInBounds_toArray, List.set_cons_zero, List.set_cons_succ, List.cons_append, List.nil_append]
          refine stageT_move_grows rfl (fun V hS hl => by
              go_simp
              exact hS.out.lay (by decide) 85 #[.int .u16 ((u1 : Nat) : Int), .int .u16 ((u2 : Nat) : Int)]) (fun v66 => ?_)
          simp only [Act.put, List.setIfInBounds_toArray, List.set_cons_zero, List.set_cons_succ, List.cons_append, List.nil_append]
          refine stageT_move_grows rfl (fun V hS hl => by
              obtain ⟨b, rfl, hbl, hb1, hb2⟩ := (hl.1 (by kernel_rfl))
              exact leaves_append (.tmp 54) (.tmp 66) _ rfl w.heap.size 85 i0 _ 2 4 Try.underlying27 hi0 hz0 hz1 hz2 rfl (by omega) gk k xs rfl (hS.out.2 (Nat.le_refl _)) (b + 1) (some ⟨b, 0, none⟩) 1 1 [.int .u16 ((u1 : Nat) : Int), .int .u16 ((u2 : Nat) : Int)] rfl (blk_reads hbl rfl) (by simp [Value.oneCell']) (by simp only [maxLen]; omega) (by omega) hS.out.1.size (fun v' V' ho hg _ => hS.out.grow (Nat.le_refl _) HLT.out HGP.out ho hg)) (fun v67 => ?_)
          simp only [Act.put, List.setIfInBounds_toArray, List.set_cons_zero, List.set_cons_succ, List.cons_append, List.nil_append]
          refine stageT_nil (fun V2 hS hF => ?_)
          have hF2 : Laid 85 #[.int .u16 ((u1 : Nat) : Int), .int .u16 ((u2 : Nat) : Int)] p gk v66 V2 ∧ Grew w.heap.size 85 2 p (k + 1) (xs ++ [.int .u16 ((u1 : Nat) : Int), .int .u16 ((u2 : Nat) : Int)]) v67 V2 ∧ True := hF
          have HG := Lib.hid hF2.2.1
          have HS4 : Hid (RS w V2 p G r g (ln.drop 4) bx bw (ckArr c2 gk (.slice none 0 0) sv pv bv)) := hS.out.1
          obtain ⟨A7, c7, rfl, h7a, h7b⟩ := own_slice HG.out.1
          have kc : V2.cell? ⟨g, 14, none⟩ = some gk := CkBlk.at HS4.out.blk rfl
          have kf := HS4.out.blk.frozen 14
          clear hS hF hF2
          show wpList _ _ _ _ _ _
          go_wp2_with fail
          go_roundw
          case rel =>
            refine ⟨k + 1, _, by omega, by go_num, by rw [← HDN.out]; exact HS4.out.setC 14 _, ?_⟩
            have F : Fr (fun i => i = g) V2 (V2.setCell ⟨g, 14, none⟩ (.slice A7 (k + 1) c7)) := (Fr.refl (fun i => i = g) V2).setCell (p := ⟨g, 14, none⟩) (.inl rfl) _
            rw [HSN.out, gapC_snoc, ← HXS.out, ← HU1.out, ← HU2.out]
            exact F.own HG.out.1 (fun b hb e => by have := (HG.out.1.lt b hb).1; have := HLT.out.2.2; omega)
          case measure => simp [intOf]; omega
      · obtain rfl : k = ng := by omega
        go_wp2_with fail
        go_loopw [72] (fun i wr => ∃ (m : Nat) (dk : Value), m ≤ nd ∧ i = .int .i64 m ∧ Hid (RS w wr p G r g ((x.drop (4 * k)).drop (4 * m)) bx bw (ckArr c2 gk dk sv pv bv)) ∧ Hid (wr.ownsRow w.heap.size 85 2 gk k (gapC (gapsN k x))) ∧ Hid (wr.ownsRow w.heap.size 25 1 dk m (dupC (dupsN m (x.drop (4 * k)))))) (fun i _ => nd - (intOf i).toNat)
        case atStart => exact ⟨0, .slice none 0 0, by omega, rfl, by rw [Nat.mul_zero, List.drop_zero]; exact HRk, HOk, nil_own⟩
        case round =>
          obtain ⟨m0, dk, hm0, rfl, HRm, HOg, HOd⟩ := hrel
          by_cases hlt2 : m0 < nd
          · obtain ⟨ln, hln⟩ : ∃ ln, ln = (x.drop (4 * k)).drop (4 * m0) := ⟨_, rfl⟩
            have HLN : Hid (4 ≤ ln.length) := by rw [hln, List.length_drop, List.length_drop]; have := HEQ.out; have := HQ.out; show _ ≤ _; omega
            have HSN : Hid (dupsN (m0 + 1) (x.drop (4 * k)) = dupsN m0 (x.drop (4 * k)) ++ [num (ln.take 4)]) := by rw [hln]; exact dupsN_snoc m0 _
            have HDN : Hid (ln.drop 4 = (x.drop (4 * k)).drop (4 * (m0 + 1))) := by rw [hln, List.drop_drop, show 4 * m0 + 4 = 4 * (m0 + 1) by omega]; rfl
            rw [← hln] at HRm
            obtain ⟨u1, hu1⟩ : ∃ u1, u1 = num (ln.take 4) := ⟨_, rfl⟩
            have HU1 := Lib.hid hu1
            obtain ⟨xs, hxs⟩ : ∃ xs, xs = dupC (dupsN m0 (x.drop (4 * k))) := ⟨_, rfl⟩
            have HXS := Lib.hid hxs
            rw [← hxs] at HOd
            obtain ⟨ys, hys⟩ : ∃ ys, ys = gapC (gapsN k x) := ⟨_, rfl⟩
            have HYS := Lib.hid hys
            rw [← hys] at HOg
            have HS0 : Hid (RSr w wr.drew p G r g ln bx bw (ckArr c2 gk dk sv pv bv) 2 0 w.heap.size 25 1 m0 dk xs ∧ wr.drew.ownsRow w.heap.size 85 2 gk k ys) := ⟨⟨HRm.out.drew, fun _ => ((Fr.refl (fun _ => False) wr).drew.own HOd.out (fun _ _ h => h))⟩, ((Fr.refl (fun _ => False) wr).drew.own HOg.out (fun _ _ h => h))⟩
            clear hln hu1 hxs hys
            go_upto_region 12 with (fail)
            refine wp_region_stage_tail 12 (fun m => stRel 2 p dk m) (fun m V => Hid (RSr w V p G r g (if m = 0 then ln else ln.drop 4) bx bw (ckArr c2 gk dk sv pv bv) 2 m w.heap.size 25 1 m0 dk xs ∧ V.ownsRow w.heap.size 85 2 gk k ys)) [(false, .exact (cptr g)),
                (false, .exact (cptr g)),
                (false, .exact (cptr g)),
                (false, .exact (.pointer (some ⟨g, 15, none⟩))),
                (false, .exact (dk)),
                (false, .exact (rptr r)),
                (false, .exact (rptr r)),
                (false, .exact (.pointer (some ⟨r, 0, none⟩))),
                (false, .exact (rptr p)),
                (true, .exact (.int .u32 ((u1 : Nat) : Int))),
                (true, .grows (Laid 25 #[.int .u32 ((u1 : Nat) : Int)] p dk)),
                (true, .grows (Grew w.heap.size 25 1 p (m0 + 1) (xs ++ [.int .u32 ((u1 : Nat) : Int)])))] (by kernel_rfl) (by kernel_rfl) (by kernel_rfl) rfl (of_decide_eq_true (by kernel_rfl)) (by kernel_rfl) (by kernel_rfl) ?lasts ?start ?walk
            case lasts => exact ⟨fun m v V V' _ h k => h.lasts k, fun m v V V' hm h k => h.lasts (fun e => by subst e; exact absurd (hm rfl) (by decide)) k, trivial⟩
            case start => exact HS0
            case walk =>
              simp only [List.take_succ_cons, List.take_zero, List.drop_succ_cons, List.drop_zero]
              refine stageT_pure rfl (fun m V => Fr.refl _ _) (fun V m hS hl => by go_simp) ?_
              simp only [Act.put, List.setIfInBounds_toArray, List.set_cons_zero, List.set_cons_succ, List.cons_append, List.nil_append]
              refine stageT_pure rfl (fun m V => Fr.refl _ _) (fun V m hS hl => by go_simp) ?_
              simp only [Act.put, List.setIfInBounds_toArray, List.set_cons_zero, List.set_cons_succ, List.cons_append, List.nil_append]
              refine stageT_pure rfl (fun m V => Fr.refl _ _) (fun V m hS hl => by go_simp) ?_
              simp only [Act.put, List.setIfInBounds_toArray, List.set_cons_zero, List.set_cons_succ, List.cons_append, List.nil_append]
              refine stageT_pure rfl (fun m V => Fr.refl _ _) (fun V m hS hl => by go_simp) ?_
              simp only [Act.put, List.setIfInBounds_toArray, List.set_cons_zero, List.set_cons_succ, List.cons_append, List.nil_append]
              refine stageT_pure rfl (fun m V => Fr.refl _ _) (fun V m hS hl => by
                  have hc : V.cell? ⟨g, 15, none⟩ = some dk := CkBlk.at hS.out.1.1.blk rfl
                  go_simp) ?_
              simp only [Act.put, List.setIfInBounds_toArray, List.set_cons_zero, List.set_cons_succ, List.cons_append, List.nil_append]
              refine stageT_pure rfl (fun m V => Fr.refl _ _) (fun V m hS hl => by go_simp) ?_
              simp only [Act.put, List.setIfInBounds_toArray, List.set_cons_zero, List.set_cons_succ, List.cons_append, List.nil_append]
              refine stageT_pure rfl (fun m V => Fr.refl _ _) (fun V m hS hl => by go_simp) ?_
              simp only [Act.put, List.setIfInBounds_toArray, List.set_cons_zero, List.set_cons_succ, List.cons_append, List.nil_append]
              refine stageT_pure rfl (fun m V => Fr.refl _ _) (fun V m hS hl => by go_simp) ?_
              simp only [Act.put, List.setIfInBounds_toArray, List.set_cons_zero, List.set_cons_succ, List.cons_append, List.nil_append]
              refine stageT_pure rfl (fun m V => Fr.refl _ _) (fun V m hS hl => by
                  have hc : V.cell? ⟨r, 0, none⟩ = some (rptr p) := hS.out.1.1.rblk.cell 0
                  go_simp) ?_
              simp only [Act.put, List.setIfInBounds_toArray, List.set_cons_zero, List.set_cons_succ, List.cons_append, List.nil_append]
              refine stageT_move rfl (fun V hS hl => by
                  go_simp
                  refine (rd_u32 (show Rd V p G ln bx from hS.out.1.1.rd) (by have := HLN.out; omega)).mono ?_
                  rintro e V' ⟨rfl, h1, h2⟩
                  exact ⟨_, rfl, RSr.rel (by decide) h2, by rw [HU1.out], hS.out.1.step (by decide) (by decide) h1 h2, own_at hS.out.2 HLT.out.1 h2⟩) ?_
              simp only [Act.put, List.setIfInBounds_toArray, List.set_cons_zero, List.set_cons_succ, List.cons_append, List.nil_append]
              refine stageT_move_grows rfl (fun V hS hl => by
                  go_simp
                  have h3 := hS.out.1.lay (by decide) 25 #[.int .u32 ((u1 : Nat) : Int)]
                  exact ⟨h3.1, h3.2.1, h3.2.2, own_up hS.out.2 ((Below.refl V.heap.size V).alloc (Nat.le_refl _) _)⟩) (fun v84 => ?_)
              simp only [Act.put, List.setIfInBounds_toArray, List.set_cons_zero, List.set_cons_succ, List.cons_append, List.nil_append]
              refine stageT_move_grows rfl (fun V hS hl => by
                  obtain ⟨b, rfl, hbl, hb1, hb2⟩ := (hl.1 (by kernel_rfl))
                  exact leaves_append (.tmp 78) (.tmp 84) _ rfl w.heap.size 25 j0 _ 1 4 Try.underlying28 hj0 hjz0 hjz1 hjz2 rfl (by omega) dk m0 xs rfl (hS.out.1.2 (Nat.le_refl _)) (b + 1) (some ⟨b, 0, none⟩) 1 1 [.int .u32 ((u1 : Nat) : Int)] rfl (blk_reads hbl rfl) (by simp [Value.oneCell']) (by simp only [maxLen]; omega) (by omega) hS.out.1.1.size (fun v' V' ho hg _ => have h3 := hS.out.1.grow (Nat.le_refl _) HLT.out HGP.out ho hg; ⟨h3.1, h3.2.1, h3.2.2, own_beside hS.out.2 (hS.out.1.2 (Nat.le_refl _)) (by decide) hg⟩)) (fun v85 => ?_)
              simp only [Act.put, List.setIfInBounds_toArray, List.set_cons_zero, List.set_cons_succ, List.cons_append, List.nil_append]
              refine stageT_nil (fun V2 hS hF => ?_)
              have hF2 : Laid 25 #[.int .u32 ((u1 : Nat) : Int)] p dk v84 V2 ∧ Grew w.heap.size 25 1 p (m0 + 1) (xs ++ [.int .u32 ((u1 : Nat) : Int)]) v85 V2 ∧ True := hF
              have HG := Lib.hid hF2.2.1
              have HS4 : Hid (RS w V2 p G r g (ln.drop 4) bx bw (ckArr c2 gk dk sv pv bv)) := hS.out.1.1
              have HOG : Hid (V2.ownsRow w.heap.size 85 2 gk k ys) := hS.out.2
              obtain ⟨A7, c7, rfl, h7a, h7b⟩ := own_slice HG.out.1
              have kc : V2.cell? ⟨g, 15, none⟩ = some dk := CkBlk.at HS4.out.blk rfl
              have kf := HS4.out.blk.frozen 15
              clear hS hF hF2
              show wpList _ _ _ _ _ _
              go_wp2_with fail
              go_roundw
              case rel =>
                have F : Fr (fun i => i = g) V2 (V2.setCell ⟨g, 15, none⟩ (.slice A7 (m0 + 1) c7)) := (Fr.refl (fun i => i = g) V2).setCell (p := ⟨g, 15, none⟩) (.inl rfl) _
                refine ⟨m0 + 1, _, by omega, by go_num, by rw [← HDN.out]; exact HS4.out.setC 15 _, ?_, ?_⟩
                · rw [← HYS.out]
                  exact F.own HOG.out (fun b hb e => by have := (HOG.out.lt b hb).1; have := HLT.out.2.2; omega)
                · rw [HSN.out, dupC_snoc, ← HXS.out, ← HU1.out]
                  exact F.own HG.out.1 (fun b hb e => by have := (HG.out.1.lt b hb).1; have := HLT.out.2.2; omega)
              case measure => simp [intOf]; omega
          · obtain rfl : m0 = nd := by omega
            go_wp2_with fail
            go_end0
            have hnil : (x.drop (4 * k)).drop (4 * m0) = [] := by
              rw [List.drop_drop]
              exact List.drop_of_length_le (by have := HEQ.out; have := HQ.out; omega)
            rw [hnil] at HRm
            refine ⟨rfl, .inl ⟨gk, dk, ?_, ?_, ?_, ?_⟩⟩
            · rw [← HX.out, ← HNG.out, ← HND.out, ← HQ.out]; exact HEQ.out
            · rw [← HBX.out, ← HC2.out]; exact HRm.out
            · rw [← HNG.out, ← HX.out]; exact HOg.out
            · rw [← HNG.out, ← HND.out, ← HX.out]; exact HOd.out
  · have hne2 : ((q : Int) != 4 * ((ng : Int) + (nd : Int))) = true := by simpa using hne
    have k1 : V4.cell? ⟨r, 1, none⟩ = some (.bool bw) := HR5.out.rblk.cell 1
    have f1 := HR5.out.rblk.frozen 1
    go_wp2_with fail
    (try simp only [Exit.inBlock, Exit.then])
    refine bodyPost_ret (results_none rfl _ _ _) rfl ?_
    refine ⟨rfl, .inr ⟨?_, _, _, _, HR5.out.setW true⟩⟩
    rw [← HX.out, ← HNG.out, ← HND.out, ← HQ.out]
    omega

end Go.Proofs.Ytpgklhecmafnbaa.Chk
