/-
  Of the texts Jp29: what the laws reach.
-/
import Derived.Test.YtioddokjogbmnaaP25
import Derived.Test.YtioddokjogbmnaaP26

set_option linter.unusedVariables false
set_option linter.unusedSimpArgs false
set_option maxRecDepth 20000
namespace Go.Proofs.Ytioddokjogbmnaa.Chk
open Go.ChangeShapes Go.WideShapes Go.ChangeAt Go.RowKit Go.Deep Go.Maps Go.Proofs.Ytioddokjogbmnaa.Words Go.Proofs.Ytioddokjogbmnaa.Oct Go.Proofs.Ytioddokjogbmnaa.Par Go.Proofs.Ytioddokjogbmnaa.Mx
section
variable {w w' : World} {T T' : Nat → Nat} {p bl bo h h' : Nat} {inter : Bool} {rv : Value} {F : Gk → Option Nat} {xs : List Mg} {Om : Nat → Option Nat} {Wb next : Nat → Nat} {wait wait' : List Jo.Ms} {S G : Nat → Prop} {s : Jo.JS} {pcs : List Jo.Pc}
def PutDone (w : World) (G : Nat → Prop) (p : Nat) (inter : Bool) (s : Jo.JS) (c : Jo.Pc) (e : Ending) (w' : World) : Prop :=
  ∃ r s' G', e = .returned (.bool r) ∧ JRep w' G' p inter s' ∧ Jo.PutR inter s c r s' ∧ (∀ i, G' i → G i ∨ w.heap.size ≤ i) ∧ Fr G w w'
theorem put_refused (k : JRp w T p bl bo inter rv F Om Wb xs s) {c : Jo.Pc} (hr : Jo.Refused inter s c) (hb : Below w.heap.size w w') : PutDone w (fun i => T i ≠ 0) p inter s c (.returned (.bool false)) w' :=
  ⟨false, s, fun i => T i ≠ 0, rfl, JRep.fr ⟨T, bl, bo, rv, F, Om, Wb, xs, fun i => Iff.rfl, k⟩ (Fr.of_below hb) (fun i h1 h2 => by have e' : w.heap.size ≤ i := h1; omega), .inl ⟨hr, rfl, List.Perm.refl _, List.Perm.refl _, rfl, rfl⟩, fun i hi => .inl hi, (Fr.of_below hb).mono (fun i h1 h2 => by have e' : w.heap.size ≤ i := h2; omega)⟩
theorem pcs_len : ∀ l : List Jo.Pc, (∀ q ∈ l, q.body ≠ []) → l.length ≤ Jo.sizeP l
  | [], _ => by simp
  | a :: t, h => by
    have ih := pcs_len t (fun q hq => h q (List.mem_cons_of_mem _ hq))
    have h3 : 0 < a.body.length := List.length_pos_iff.2 (h a List.mem_cons_self)
    have ec : Jo.sizeP (a :: t) = a.body.length + Jo.sizeP t := by simp [Jo.sizeP]
    rw [ec, List.length_cons]; omega
theorem put_more {T2 : Nat → Nat} {F1 : Gk → Option Nat} {W : World} {c : Jo.Pc} (k : JRp w T p bl bo inter rv F Om Wb xs s) (hr : ¬ Jo.Refused inter s c) (jo : JO W T2 p inter bl bo rv (Jo.held s + c.body.length) xs Om Wb s.next s.wait) (ln : LinesR W T2 bl inter F1 (c :: s.pcs)) (hpc : PcOk inter c) (hz : Jo.held s + c.body.length ≤ 2000000000)
    (hfr : Fr (fun i => i < w.heap.size ∧ T i ≠ 0) w W) (hex : Ext w W T T2) (hno : ∀ L, Jo.Whole inter L → (∀ p ∈ L, p ∈ c :: s.pcs) → c ∈ L → False) : PutDone w (fun i => T i ≠ 0) p inter s c (.returned (.bool true)) W := by
  have hh : Jo.held ⟨c :: s.pcs, s.wait, s.ready, s.next⟩ = Jo.held s + c.body.length := by
    have ec : Jo.sizeP (c :: s.pcs) = c.body.length + Jo.sizeP s.pcs := by simp [Jo.sizeP]
    show Jo.sizeP (c :: s.pcs) + Jo.sizeM s.wait + Jo.sizeM s.ready = Jo.sizeP s.pcs + Jo.sizeM s.wait + Jo.sizeM s.ready + c.body.length
    omega
  refine ⟨true, ⟨c :: s.pcs, s.wait, s.ready, s.next⟩, fun i => T2 i ≠ 0, rfl, ⟨T2, bl, bo, rv, F1, Om, Wb, xs, fun i => Iff.rfl, by rw [hh]; exact jo, ln, k.rd, by rw [hh]; exact hz, fun q hq => ?_⟩, .inr (.inl ⟨hr, rfl, hno, List.Perm.refl _, List.Perm.refl _, rfl, rfl⟩), fun i hi => ?_, hfr.mono (fun i hi e => e.2)⟩
  · rcases List.mem_cons.1 hq with rfl | hq
    · exact hpc
    · exact k.pok q hq
  · rcases Nat.lt_or_ge i w.heap.size with h | h
    · have hi' : T2 i ≠ 0 := hi
      rw [hex.old i h] at hi'
      exact .inl hi'
    · exact .inr h
theorem put_whole {T4 : Nat → Nat} {F4 : Gk → Option Nat} {Om4 : Nat → Option Nat} {Wb4 next4 : Nat → Nat} {wait4 : List Jo.Ms} {xs4 : List Mg} {rv4 : Value} {h4 : Nat} {W : World} {c : Jo.Pc} {Lw rest rest4 : List Jo.Pc} {x : Mg} (k : JRp w T p bl bo inter rv F Om Wb xs s) (hr : ¬ Jo.Refused inter s c) (hW : Jo.Whole inter Lw) (hc : c ∈ Lw) (hperm : (c :: s.pcs).Perm (Lw ++ rest)) (hms : msOf x.m = Jo.msgOf Lw)
    (hrest : rest4 = if inter = true then rest.filter (fun p => !decide (Jo.same true p c)) else rest) (ln : LinesR W T4 bl inter F4 rest4) (jo : JO W T4 p inter bl bo rv4 h4 xs4 Om4 Wb4 next4 wait4) (hh : h4 = Jo.sizeP rest4 + Jo.sizeM s.wait + Jo.sizeM s.ready + x.m.body.length) (hle : h4 ≤ 2000000000)
    (hfr : Fr (fun i => i < w.heap.size ∧ T i ≠ 0) w W) (hex : Ext w W T T4) (hok : ∀ q ∈ rest4, PcOk inter q)
    (harr : (x.m.lo = true ∧ xs4 = xs ++ [x] ∧ wait4 = s.wait ∧ next4 = s.next) ∨ (x.m.lo = false ∧ ∃ nx', AdvR inter x.m.st (s.next x.m.st) xs xs4 (s.wait ++ [msOf x.m]) wait4 nx' ∧ waitB wait4 x.m.st nx' = false ∧ next4 = setN s.next x.m.st nx')) (hlo : x.m.lo = c.lo) (hst : x.m.st = c.st) :
    PutDone w (fun i => T i ≠ 0) p inter s c (.returned (.bool true)) W := by
  have hone : ∀ l : List Mg, Jo.sizeM ((l ++ [x]).map fun x => msOf x.m) = Jo.sizeM (l.map fun x => msOf x.m) + x.m.body.length := fun l => by
    rw [List.map_append, Jo.sizeM_append]
    have h2 : Jo.sizeM ([x].map fun x => msOf x.m) = x.m.body.length := by simp [Jo.sizeM, msOf]
    rw [h2]
  have hheld : Jo.held ⟨rest4, wait4, xs4.map fun x => msOf x.m, next4⟩ = h4 := by
    show Jo.sizeP rest4 + Jo.sizeM wait4 + Jo.sizeM (xs4.map fun x => msOf x.m) = h4
    rw [hh, k.rd]
    rcases harr with ⟨_, rfl, rfl, _⟩ | ⟨_, nx', ha, _⟩
    · rw [hone]; omega
    · have h1 := ha.size
      have h2 : Jo.sizeM [msOf x.m] = x.m.body.length := by simp [Jo.sizeM, msOf]
      rw [Jo.sizeM_append, h2] at h1
      omega
  refine ⟨true, ⟨rest4, wait4, xs4.map fun x => msOf x.m, next4⟩, fun i => T4 i ≠ 0, rfl, ⟨T4, bl, bo, rv4, F4, Om4, Wb4, xs4, fun i => Iff.rfl, by rw [hheld]; exact jo, ln, rfl, by rw [hheld]; exact hle, hok⟩, .inr (.inr ⟨hr, rfl, Lw, rest, hW, hc, hperm, by rw [hrest], ?_⟩), fun i hi => ?_, hfr.mono (fun i hi e => e.2)⟩
  · rcases harr with ⟨a1, rfl, rfl, rfl⟩ | ⟨a1, nx', a2, a3, rfl⟩
    · refine .inl ⟨by rw [← hlo]; exact a1, ?_, List.Perm.refl _, rfl⟩
      show (xs ++ [x]).map (fun x => msOf x.m) = s.ready ++ [Jo.msgOf Lw]
      rw [List.map_append, k.rd, ← hms]; rfl
    · refine .inr ⟨by rw [← hlo]; exact a1, ?_, fun t ht => ?_⟩
      · have h1 := a2.goes a3
        rw [hms, hst] at h1
        rw [k.rd]
        show Jo.Goes inter c.st _ wait4 _ _ (s.next c.st) (setN s.next x.m.st nx' c.st)
        rw [hst, setN_at]
        exact h1
      · show setN s.next x.m.st nx' t = s.next t
        unfold setN
        rw [if_neg (by rw [hst]; exact ht)]
  · rcases Nat.lt_or_ge i w.heap.size with h | h
    · have hi' : T4 i ≠ 0 := hi
      rw [hex.old i h] at hi'
      exact .inl hi'
    · exact .inr h
theorem grp_sz : (Try.prog.info? 79).map (·.size) = some 3 := by kernel_rfl
theorem nil_look (i : Nat) (W : World) : (Instr.lookup 83 (.map none) (.int .u32 (i : Int)) true).run Try.prog W = .ok (.tuple #[.agg #[.bool false, .bool false, .int .u16 0, .bool false, .int .u32 0, .int .u32 0, .slice none 0 0], .bool false]) W := by kernel_rfl
theorem wpList_load_anyW {P : Program} {ops : Array Oper} {rest : List Oper} {o : Oper} {a : Act} {w : World} {Q : Exit → Act → World → Prop} (hgd : Region.wanted o (yielded ops a.tmps) = true) (ty : TypeId) (x : Operand) (ho : o.op = .load ty x)
    (ad : Addr) (hx : a.eval x = .pointer (some ad)) (cs : Array Value) (d : TypeDesc) (hc : ∀ j v, cs[j]? = some v → w.cell? (ad.add j) = some v)
    (hu : P.underlying ty = some d) (hd : d.isRow = true) (hi : (P.info? ty).map (·.size) = some cs.size)
    (h : wpList P ops Q rest (a.put o.dst (.agg cs)) w) : wpList P ops Q (o :: rest) a w :=
  BigFrame.wpList_want hgd fun _ hK => by
    unfold Oper.wp execOp
    simp only [ho, hx, Instr.loadAt, Instr.sureAddr, Sem.run_bind, Sem.run_pure, Result.andThen_ok, run_loadVar_any w ad ty cs d hc hu hd hi]
    exact hK _ _ h
theorem map_eql0 (W : World) : (binOp .eql 83 (.map none) (.map none)).run Try.prog W = .ok (.bool true) W := by kernel_rfl
theorem map_eql1 (b : Nat) (W : World) : (binOp .eql 83 (.map (some b)) (.map none)).run Try.prog W = .ok (.bool false) W := by kernel_rfl
/-- What stands as a piece is put beside the others of its line. -/
structure PutM (w W : World) (T T1 : Nat → Nat) (p : Nat) (inter : Bool) (bl bo : Nat) (rv : Value) (F1 : Gk → Option Nat) (Om : Nat → Option Nat) (Wb : Nat → Nat) (xs : List Mg) (s : Jo.JS) (g : Gk) (i b : Nat) (L : Nat → Option Fg) (gc gg : Nat) (cs2 gcs : Array Value) : Prop where
  jo : JO W T1 p inter bl bo rv (Jo.held s) xs Om Wb s.next s.wait
  ln : LinesR W T1 bl inter F1 s.pcs
  hF : F1 g = some b
  l1 : LineAt W b L
  l2 : LnOf (idxP inter) L (atK inter g s.pcs)
  l3 : ∀ j x, L j = some x → BodT W T1 x.A x.cp x.m.body ∧ x.m.body ≠ []
  no : L i = none
  ck : Blk W gc 41 cs2
  gr : Blk W gg 79 gcs
  fr : Fr (fun i => i < w.heap.size ∧ T i ≠ 0) w W
  ext : Ext w W T T1
  tc : T1 gc = 0
  tg : T1 gg = 0
set_option maxHeartbeats 8000000 in
theorem put_any {cs : Array Value} {c : Ck} (k : JRp w T p bl bo inter rv F Om Wb xs s) (hk : c.kind = (if inter = true then 64 else 0)) (hz : Jo.held s + c.body.length ≤ 2000000000) (hck : CkAt w w.heap.size cs c) (hA : ∀ (ad : Addr) (n cp : Nat), cs[18]? = some (.slice (some ad) n cp) → T ad.block = 0) :
    Calls Try.prog 15 #[jptr p, .agg cs] w (PutDone w (fun i => T i ≠ 0) p inter s (pcOf inter c)) := by
  obtain ⟨Hg, Hd', Hs, Hp, Hb, hcells, hlists⟩ := hck.parts
  have hok := hck.ok
  obtain ⟨mu, hm⟩ : ∃ mu, mu = midN inter c.mid := ⟨_, rfl⟩
  have hmok : MidOk inter mu := by rw [hm]; exact mid_small inter hok.mid
  obtain ⟨cs2, hcs2⟩ : ∃ cs2, cs2 = cs.setIfInBounds 7 (.int .u32 (mu : Int)) := ⟨_, rfl⟩
  have hcells2 := cells_mid hcells mu
  rw [← hcs2] at hcells2
  obtain ⟨W1, hW1⟩ : ∃ W1, W1 = w.alloc (.cells cs 41) := ⟨_, rfl⟩
  obtain ⟨gc, hgc⟩ : ∃ gc, gc = w.heap.size := ⟨_, rfl⟩
  have HB1 : Hid (Below w.heap.size w W1) := by rw [hW1]; exact below_one w _
  have HC1 : Hid (Blk W1 gc 41 cs) := by rw [hW1, hgc]; exact Blk.new _ _ _
  have HGC : Hid (w.heap.size ≤ gc) := by unfold Hid; omega
  have HJ1 := Lib.hid (k.jo.grows HB1.out)
  have c7 := (HC1.out.cell 7).trans hcells.c7
  have f7 := HC1.out.frozen 7
  have hnum := number_any HJ1.out.jb.c0 hok.mid
  rw [← hm] at hnum
  obtain ⟨W2, hW2⟩ : ∃ W2, W2 = W1.setCell ⟨gc, 7, none⟩ (.int .u32 (mu : Int)) := ⟨_, rfl⟩
  have hf12 : Fr (fun i => i = gc) W1 W2 := by rw [hW2]; exact (Fr.refl (fun i => i = gc) W1).setCell (p := ⟨gc, 7, none⟩) (.inl rfl) _
  have HB2 : Hid (Below w.heap.size w W2) := below_fr HB1.out hf12 (Nat.le_refl _) (fun x e => by rw [show x = gc from e]; exact HGC.out)
  have HC2 : Hid (Blk W2 gc 41 cs2) := by rw [hW2, hcs2]; exact HC1.out.set_ 7 _
  have HJ2 := Lib.hid (k.jo.grows HB2.out)
  have HCC := Lib.hid hcells2
  have HLI := Lib.hid hlists
  have HOKC := Lib.hid hok
  have HM := Lib.hid hm
  have HMOK := Lib.hid hmok
  have HK := Lib.hid k
  have HKIND := Lib.hid hk
  have HZ := Lib.hid hz
  have HA := Lib.hid hA
  have HPC : Hid (pcOf inter c = ⟨c.bg, c.en, c.lo, c.tsn, c.st, mu, c.pp, c.fr, c.body⟩) := by rw [hm]; rfl
  have hcsz : cs2.size = 19 := hcells2.size
  have HCS0 : Hid (cs2[18]? = cs[18]?) := by rw [hcs2]; unfold Hid; rw [Array.getElem?_setIfInBounds, if_neg (by decide)]
  obtain ⟨md, hmd⟩ : ∃ md, md = c.mid := ⟨_, rfl⟩
  rw [← hmd] at c7 hnum
  clear hmd
  clear k hk hz hck hA hcells hcells2 hlists hok hm hmok hf12 HB1 hcs2
  go_enter Try.func15, Try.ntmps15
  go_upto_region 1 with (fail)
  rw [← hW1, ← hgc]
  clear hW1 hgc
  go_wp2_with fail
  refine hnum.mono ?_
  rintro e w3 ⟨rfl, rfl⟩
  clear hnum
  go_upto_region 2 with (fail)
  rw [← hW2]
  clear hW2 c7 f7 HC1 HJ1
  have hld : ∀ j v, cs2[j]? = some v → W2.cell? ((⟨gc, 0, none⟩ : Addr).add j) = some v := fun j v hv => by rw [HC2.out.cellAdd]; exact hv
  have hform := formed_any HCC.out HJ2.out.jb.c0 HKIND.out (by show c.body.length ≤ _; have := HZ.out; omega)
  obtain ⟨fb, hfb⟩ : ∃ fb, fb = (decide (c.body ≠ []) && (!inter || (decide (c.bg = decide (c.fr = 0)) && decide (c.fr ≤ 65535)))) := ⟨_, rfl⟩
  have hform2 : Calls Try.prog 29 #[jptr p, .agg cs2] W2 fun e w' => e = .returned (.bool fb) ∧ Below W2.heap.size W2 w' := by rw [hfb]; exact hform
  have HFB := Lib.hid hfb
  clear hform hfb
  go_wp2_with (refine wpList_load_any rfl 41 _ rfl ⟨gc, 0, none⟩ (by first | rfl | simp) cs2 _ (by assumption) Try.underlying41 rfl (by rw [hcsz]; exact chunk_info) ?_)
  refine hform2.mono ?_
  rintro e w3 ⟨rfl, hb3⟩
  clear hform2 hld
  have HB3 : Hid (Below w.heap.size w w3) := HB2.out.trans (hb3.mono HB2.out.size)
  have HC3 : Hid (Blk w3 gc 41 cs2) := (Fr.of_below hb3).blk HC2.out (fun e => by have e' : W2.heap.size ≤ gc := e; have := Blk.lt HC2.out; omega)
  clear hb3 HC2 HJ2 HB2
  cases fb
  · go_wp2_with fail
    go_ret
    refine put_refused HK.out ?_ HB3.out
    rw [HPC.out]
    have h1 := HFB.out
    by_cases hb : c.body = []
    · exact .inl hb
    · right; right; left
      cases inter
      · simp [hb] at h1
      · refine ⟨rfl, ?_⟩
        simp [hb] at h1
        by_cases h2 : c.bg = decide (c.fr = 0)
        · right; left
          have := h1 h2
          show 65535 < c.fr
          omega
        · exact .inl h2
  · have HJ3 := Lib.hid (HK.out.jo.grows HB3.out)
    have hld : ∀ j v, cs2[j]? = some v → w3.cell? ((⟨gc, 0, none⟩ : Addr).add j) = some v := fun j v hv => by rw [HC3.out.cellAdd]; exact hv
    have hlate := late_any HJ3.out (cs := cs2) HOKC.out.st HMOK.out HCC.out.c3 HCC.out.c6 HCC.out.c7
    obtain ⟨lb, hlb⟩ : ∃ lb, lb = lateB s.wait s.next inter c.lo c.st mu := ⟨_, rfl⟩
    have hlate2 : Calls Try.prog 30 #[jptr p, .agg cs2] w3 fun e w' => e = .returned (.bool lb) ∧ Below w3.heap.size w3 w' := by rw [hlb]; exact hlate
    have HLB := Lib.hid hlb
    clear hlate hlb
    go_wp2_with (refine wpList_load_anyW rfl 41 _ rfl ⟨gc, 0, none⟩ (by first | rfl | simp) cs2 _ (by assumption) Try.underlying41 rfl (by rw [hcsz]; exact chunk_info) ?_)
    refine hlate2.mono ?_
    rintro e w4 ⟨rfl, hb4⟩
    clear hlate2 hld
    have HB4 : Hid (Below w.heap.size w w4) := HB3.out.trans (hb4.mono HB3.out.size)
    have HC4 : Hid (Blk w4 gc 41 cs2) := (Fr.of_below hb4).blk HC3.out (fun e => by have e' : w3.heap.size ≤ gc := e; have := Blk.lt HC3.out; omega)
    clear hb4 HC3 HJ3 HB3
    cases lb
    · have HJ4 := Lib.hid (HK.out.jo.grows HB4.out)
      have hld : ∀ j v, cs2[j]? = some v → w4.cell? ((⟨gc, 0, none⟩ : Addr).add j) = some v := fun j v hv => by rw [HC4.out.cellAdd]; exact hv
      have hplace := place_any (cs := cs2) HJ4.out.jb.c0 HCC.out.c3 HCC.out.c5 HCC.out.c6 HCC.out.c7 HCC.out.c9
      obtain ⟨g, hg⟩ : ∃ g, g = keyC inter c.st c.lo mu := ⟨_, rfl⟩
      obtain ⟨i, hi⟩ : ∃ i, i = (if inter = true then c.fr else c.tsn) := ⟨_, rfl⟩
      have hplace2 : Calls Try.prog 31 #[jptr p, .agg cs2] w4 fun e w' => e = .returned (.tuple #[gkV g, .int .u32 (i : Int)]) ∧ Below w4.heap.size w4 w' := by rw [hg, hi]; exact hplace
      have hi32 : i < 4294967296 := by rw [hi]; split; exact HOKC.out.fr; exact HOKC.out.tsn
      have HKG : Hid (keyP inter (pcOf inter c) = g) := by rw [HPC.out, hg]; rfl
      have HIX : Hid (idxP inter (pcOf inter c) = i) := by rw [HPC.out, hi]; rfl
      have HDOM : Hid (grpX.dom g) := by
        rw [hg]
        show (keyC inter c.st c.lo mu).st < 65536 ∧ (keyC inter c.st c.lo mu).mid < 4294967296
        unfold keyC
        cases inter
        · simp
        · exact ⟨HOKC.out.st, small32 HMOK.out⟩
      obtain ⟨g1, hg1⟩ : ∃ x, x = g.st := ⟨_, rfl⟩
      obtain ⟨g2, hg2⟩ : ∃ x, x = g.lo := ⟨_, rfl⟩
      obtain ⟨g3, hg3⟩ : ∃ x, x = g.mid := ⟨_, rfl⟩
      have HGE : Hid (gkV g = .agg #[.int .u16 (g1 : Int), .bool g2, .int .u32 (g3 : Int)]) := by rw [hg1, hg2, hg3]; rfl
      rw [HGE.out] at hplace2
      clear hplace hg hi hg1 hg2 hg3
      go_wp2_with (refine wpList_load_any rfl 41 _ rfl ⟨gc, 0, none⟩ (by first | rfl | simp) cs2 _ (by assumption) Try.underlying41 rfl (by rw [hcsz]; exact chunk_info) ?_)
      refine hplace2.mono ?_
      rintro e w5 ⟨rfl, hb5⟩
      clear hplace2 hld
      obtain ⟨W6, hW6⟩ : ∃ W6, W6 = w5.alloc (.cells #[.int .u16 (g1 : Int), .bool g2, .int .u32 (g3 : Int)] 79) := ⟨_, rfl⟩
      obtain ⟨gg, hgg⟩ : ∃ gg, gg = w5.heap.size := ⟨_, rfl⟩
      have HB5 : Hid (Below w.heap.size w w5) := HB4.out.trans (hb5.mono HB4.out.size)
      have HC5 : Hid (Blk w5 gc 41 cs2) := (Fr.of_below hb5).blk HC4.out (fun e => by have e' : w4.heap.size ≤ gc := e; have := Blk.lt HC4.out; omega)
      have hf56 : Fr (fun _ => False) w5 W6 := by rw [hW6]; exact (Fr.refl _ w5).alloc _
      have HB6 : Hid (Below w.heap.size w W6) := below_fr HB5.out hf56 (Nat.le_refl _) (fun _ e => e.elim)
      have HC6 := Lib.hid (hf56.blk HC5.out (fun h => h))
      have HG6 : Hid (Blk W6 gg 79 #[.int .u16 (g1 : Int), .bool g2, .int .u32 (g3 : Int)]) := by rw [hW6, hgg]; exact Blk.new _ _ _
      have HGG : Hid (w.heap.size ≤ gg) := by rw [hgg]; exact HB5.out.size
      have HJ6 := Lib.hid (HK.out.jo.grows HB6.out)
      have HL6 : Hid (LinesR W6 T bl inter F s.pcs) := HK.out.ln.fr (Fr.of_below HB6.out) (fun i hi _ e => by have e' : w.heap.size ≤ i := e; omega) (fun i hi _ e => by have e' : w.heap.size ≤ i := e; omega) (fun _ _ => rfl)
      go_upto_region 5 with (fail)
      rw [← hW6, ← hgg]
      clear hW6 hgg hb5 hf56 HC4 HJ4 HB4 HC5 HB5
      have e0 := HG6.out.cell 0
      have e1 := HG6.out.cell 1
      have e2 := HG6.out.cell 2
      have c1 := HJ6.out.jb.c1
      simp only [List.getElem?_toArray, List.getElem?_cons_succ, List.getElem?_cons_zero] at e0 e1 e2
      have hlk := HL6.out.look HDOM.out
      rw [HGE.out] at hlk
      obtain ⟨Fo, hFo⟩ : ∃ Fo, Fo = F g := ⟨_, rfl⟩
      rw [← hFo] at hlk
      have HFO := Lib.hid hFo
      clear hFo
      go_quiet (fail)
      obtain ⟨W7, hW7⟩ : ∃ W7, W7 = W6.drewN nq := ⟨_, rfl⟩
      have hf67 : Fr (fun _ => False) W6 W7 := by rw [hW7]; exact (Fr.refl _ W6).drewN nq
      rw [← hW7]
      have HB7 : Hid (Below w.heap.size w W7) := below_fr HB6.out hf67 (Nat.le_refl _) (fun _ e => e.elim)
      have HC7 := Lib.hid (hf67.blk HC6.out (fun h => h))
      have HG7 := Lib.hid (hf67.blk HG6.out (fun h => h))
      have HJ7 := Lib.hid (HK.out.jo.grows HB7.out)
      have HL7 : Hid (LinesR W7 T bl inter F s.pcs) := HK.out.ln.fr (Fr.of_below HB7.out) (fun i hi _ e => by have e' : w.heap.size ≤ i := e; omega) (fun i hi _ e => by have e' : w.heap.size ≤ i := e; omega) (fun _ _ => rfl)
      clear hW7 hf67 hlk e0 e1 e2 c1 HB6 HC6 HG6 HJ6 HL6
      cases Fo with
      | none =>
        have hnl := nil_look i W7
        go_upto_region 9 with (fail)
        obtain ⟨W8, hW8⟩ : ∃ W8, W8 = W7.alloc (.cells #[.bool false, .bool false, .int .u16 0, .bool false, .int .u32 0, .int .u32 0, .slice none 0 0] 85) := ⟨_, rfl⟩
        rw [← hW8]
        have hf78 : Fr (fun _ => False) W7 W8 := by rw [hW8]; exact (Fr.refl _ W7).alloc _
        have HB8 : Hid (Below w.heap.size w W8) := below_fr HB7.out hf78 (Nat.le_refl _) (fun _ e => e.elim)
        have HJ8 := Lib.hid (HK.out.jo.grows HB8.out)
        have HL8 := Lib.hid (HL7.out.fr (T' := T) hf78 (fun _ _ _ h => h) (fun _ _ _ h => h) (fun _ _ => rfl))
        have HC8 := Lib.hid (hf78.blk HC7.out (fun h => h))
        have HG8 := Lib.hid (hf78.blk HG7.out (fun h => h))
        have hmm := @run_makeMap Try.prog
        have hf8a : Fr (fun _ => False) W8 (W8.alloc (.map #[] 0)) := (Fr.refl _ W8).alloc _
        have c1 := (HJ8.out.jb.fr hf8a (fun h => h)).c1
        have e0 := (hf8a.blk HG8.out (fun h => h)).cell 0
        have e1 := (hf8a.blk HG8.out (fun h => h)).cell 1
        have e2 := (hf8a.blk HG8.out (fun h => h)).cell 2
        simp only [List.getElem?_toArray, List.getElem?_cons_succ, List.getElem?_cons_zero] at e0 e1 e2
        obtain ⟨W9, hput, hm9, hturn⟩ := MapX.put ((HL8.out.map.fr hf8a (fun h => h)).drew) (t := 72) Try.underlying72 (x := g) HDOM.out (lptr W8.heap.size)
        rw [show grpX.enc g = _ from HGE.out] at hput
        have hput2 : (Instr.mapUpdate 72 (.map (some bl)) (.agg #[.int .u16 (g1 : Int), .bool g2, .int .u32 (g3 : Int)]) (.map (some W8.heap.size))).run Try.prog (W8.alloc (.map #[] 0)).drew = .ok () W9 := hput
        have hf89 : Fr (fun i => i = bl) (W8.alloc (.map #[] 0)).drew W9 := (Fr.of_grown hturn.grown).mono (fun i hi e => by injection e)
        obtain ⟨hl9, hla9, h09⟩ := HL8.out.made HJ8.out.out HFO.out.symm (W := (W8.alloc (.map #[] 0)).drew) rfl hm9 hf89 (show Fr (fun _ => False) W8 (W8.alloc (.map #[] 0)).drew from hf8a.drew)
        have hf8 : Fr (fun i => i = bl) W8 W9 := (hf8a.drew.mono (T := fun i => i = bl) (fun _ _ e => e.elim)).same hf89
        have hs9 : W8.heap.size ≤ W9.heap.size := hf8.size
        have hex := extT_ext W8 W9 T 2 hs9
        have htb : T bl = 2 := HL8.out.tbl
        have hbw : bl < w.heap.size := HK.out.ln.map.lt
        have HM : Hid (PutM w W9 T (extT W8 W9 T 2) p inter bl bo rv (fun z => if z = g then some W8.heap.size else F z) Om Wb xs s g i W8.heap.size (fun _ => none) gc gg cs2 #[.int .u16 (g1 : Int), .bool g2, .int .u32 (g3 : Int)]) := ⟨HJ8.out.fr hf8 (fun i hi e e' => by rw [show i = bl from e', htb] at e; rcases e with e | e | e | e <;> cases e) hex, hl9, if_pos rfl, hla9, by rw [h09]; exact ⟨fun p hp => (by simp at hp), fun i x hx => (by cases hx), List.Pairwise.nil⟩, fun j x hx => (by cases hx), rfl, hf8.blk HC8.out (fun e => by have := HGC.out; omega), hf8.blk HG8.out (fun e => by have := HGG.out; omega), ((Fr.of_below HB8.out).mono (T := fun i => i < w.heap.size ∧ T i ≠ 0) (fun i hi e => by have e' : w.heap.size ≤ i := e; omega)).trans hf8 (fun i hi e => ⟨hi, by rw [show i = bl from e, htb]; decide⟩), ⟨fun i hi => hex.old i (by have := HB8.out.size; omega), hex.out⟩, by rw [hex.old gc (Blk.lt HC8.out)]; exact HK.out.jo.out gc HGC.out, by rw [hex.old gg (Blk.lt HG8.out)]; exact HK.out.jo.out gg HGG.out⟩
        obtain ⟨b, hb⟩ : ∃ b, b = W8.heap.size := ⟨_, rfl⟩
        rw [← hb] at HM hput2
        obtain ⟨F1, hF1⟩ : ∃ F1 : Gk → Option Nat, F1 = fun z => if z = g then some b else F z := ⟨_, rfl⟩
        rw [← hF1] at HM
        obtain ⟨L, hL⟩ : ∃ L : Nat → Option Fg, L = fun _ => none := ⟨_, rfl⟩
        rw [← hL] at HM
        obtain ⟨T1, hT1⟩ : ∃ T1, T1 = extT W8 W9 T 2 := ⟨_, rfl⟩
        rw [← hT1] at HM
        clear hput hm9 hturn hf89 hl9 hla9 h09 hf8 hs9 hex htb hbw hF1 hL hT1 hf8a hf78 HB8 HJ8 HL8 HC8 HG8 HB7 HC7 HG7 HJ7 HL7 hnl HFO hW8
        have heq := map_eql0 W8
        go_upto_region 11 with (fail)
        rw [← hb]
        clear hb heq
        go_region
        clear hput2 c1 e0 e1 e2 hmm
        go_upto_region 12 with (fail)
        have ck6 := (HM.out.ck.cell 6).trans HCC.out.c6
        have ck3 := (HM.out.ck.cell 3).trans HCC.out.c3
        have ck7 := (HM.out.ck.cell 7).trans HCC.out.c7
        have ck8 := (HM.out.ck.cell 8).trans HCC.out.c8
        have ck18 := (HM.out.ck.cell 18).trans HCC.out.c18
        obtain ⟨bn, hbn⟩ : ∃ bn, bn = c.body.length := ⟨_, rfl⟩
        have hck18 : W9.cell? ⟨gc, 18, none⟩ = some (.slice Hb.A bn Hb.cap) := by rw [hbn]; exact ck18
        have HBN := Lib.hid hbn
        have hbl9 : bn ≤ 2000000000 := by have := HZ.out; omega
        have HCKS : Hid (∀ V, Below W9.heap.size W9.drew V → V.cell? ⟨gc, 6, none⟩ = some (.int .u16 (c.st : Int)) ∧ V.cell? ⟨gc, 3, none⟩ = some (.bool c.lo) ∧ V.cell? ⟨gc, 7, none⟩ = some (.int .u32 (mu : Int)) ∧ V.cell? ⟨gc, 8, none⟩ = some (.int .u32 (c.pp : Int)) ∧ V.cell? ⟨gc, 18, none⟩ = some (.slice Hb.A bn Hb.cap)) := fun V hV => by
          have h1 : ∀ k u, W9.cell? ⟨gc, k, none⟩ = some u → V.cell? ⟨gc, k, none⟩ = some u := fun k u hu => by
            rw [World.cell?_of_block (hV.block gc (Blk.lt HM.out.ck))]; exact hu
          exact ⟨h1 _ _ ck6, h1 _ _ ck3, h1 _ _ ck7, h1 _ _ ck8, h1 _ _ hck18⟩
        have HBY : Hid (∀ V, Below W9.heap.size W9.drew V → Byt V V.heap.size Hb.A c.body) := fun V hV => by
          have h1 : Byt w w.heap.size Hb.A c.body := HLI.out.body
          have h2 : Byt W9 w.heap.size Hb.A c.body := HM.out.fr.byt h1 (Nat.le_refl _) (fun ad e hx => by
            have h3 := HA.out ad c.body.length Hb.cap (by rw [← HCS0.out, ← e]; exact HCC.out.c18)
            exact hx.2 h3)
          have h4 : w.heap.size ≤ W9.heap.size := HM.out.fr.size
          exact ((Fr.of_below hV).byt (show Byt W9.drew w.heap.size Hb.A c.body from h2) h4 (fun ad e hx => by
            have e' : W9.heap.size ≤ ad.block := hx
            rcases Nat.eq_zero_or_pos c.body.length with h0 | h0
            · have h5 := HFB.out
              have h6 : c.body = [] := List.eq_nil_of_length_eq_zero h0
              rw [h6] at h5
              simp at h5
            · obtain ⟨ad', e1, e2, _⟩ := h1.2 h0
              rw [e] at e1; injection e1 with e1; subst e1
              omega)).more (by have := hV.size; show _ ≤ _; have e8 : W9.drew.heap.size = W9.heap.size := rfl; omega)
        clear ck6 ck3 ck7 ck8 ck18 hck18 hbn
        refine wp_region_stage_tail 13 (fun _ V V' => Below V.heap.size V V') (fun _ V => Hid (Below W9.heap.size W9.drew V)) [(false, .exact (.pointer (some ⟨gc, 6, none⟩))),
            (false, .exact (.int .u16 (c.st : Int))),
            (false, .exact (.pointer (some ⟨gc, 3, none⟩))),
            (false, .exact (.bool c.lo)),
            (false, .exact (.pointer (some ⟨gc, 7, none⟩))),
            (false, .exact (.int .u32 (mu : Int))),
            (false, .exact (.pointer (some ⟨gc, 8, none⟩))),
            (false, .exact (.int .u32 (c.pp : Int))),
            (false, .exact (.pointer (some ⟨gc, 18, none⟩))),
            (false, .exact (.slice Hb.A bn Hb.cap)),
            (false, .grows (OwnM W9.heap.size c.body)),
            (false, .grows (BldM W9.heap.size c.st c.lo mu c.pp c.body)),
            (false, .grows (AlcM W9.heap.size))] (by kernel_rfl) (by kernel_rfl) (by kernel_rfl) rfl (of_decide_eq_true (by kernel_rfl)) (by kernel_rfl) (by kernel_rfl) ?lasts ?start ?walk
        case lasts => exact ⟨fun mu v V V' _ h k => h.grows k, fun mu v V V' _ h k => h.grows k, fun mu v V V' _ h k => h.grows k, trivial⟩
        case start => exact Below.refl _ _
        case walk =>
          simp only [List.take_succ_cons, List.take_zero, List.drop_succ_cons, List.drop_zero]
          refine stageT_pure rfl (fun _ V => Below.refl _ V) (fun V m hS hl => by go_simp) ?_
          simp only [Act.put, List.setIfInBounds_toArray, List.set_cons_zero, List.set_cons_succ, List.cons_append, List.nil_append]
          refine stageT_pure rfl (fun _ V => Below.refl _ V) (fun V m hS hl => by
              have hc := (HCKS.out V hS.out).1
              go_simp) ?_
          simp only [Act.put, List.setIfInBounds_toArray, List.set_cons_zero, List.set_cons_succ, List.cons_append, List.nil_append]
          refine stageT_pure rfl (fun _ V => Below.refl _ V) (fun V m hS hl => by go_simp) ?_
          simp only [Act.put, List.setIfInBounds_toArray, List.set_cons_zero, List.set_cons_succ, List.cons_append, List.nil_append]
          refine stageT_pure rfl (fun _ V => Below.refl _ V) (fun V m hS hl => by
              have hc := (HCKS.out V hS.out).2.1
              go_simp) ?_
          simp only [Act.put, List.setIfInBounds_toArray, List.set_cons_zero, List.set_cons_succ, List.cons_append, List.nil_append]
          refine stageT_pure rfl (fun _ V => Below.refl _ V) (fun V m hS hl => by go_simp) ?_
          simp only [Act.put, List.setIfInBounds_toArray, List.set_cons_zero, List.set_cons_succ, List.cons_append, List.nil_append]
          refine stageT_pure rfl (fun _ V => Below.refl _ V) (fun V m hS hl => by
              have hc := (HCKS.out V hS.out).2.2.1
              go_simp) ?_
          simp only [Act.put, List.setIfInBounds_toArray, List.set_cons_zero, List.set_cons_succ, List.cons_append, List.nil_append]
          refine stageT_pure rfl (fun _ V => Below.refl _ V) (fun V m hS hl => by go_simp) ?_
          simp only [Act.put, List.setIfInBounds_toArray, List.set_cons_zero, List.set_cons_succ, List.cons_append, List.nil_append]
          refine stageT_pure rfl (fun _ V => Below.refl _ V) (fun V m hS hl => by
              have hc := (HCKS.out V hS.out).2.2.2.1
              go_simp) ?_
          simp only [Act.put, List.setIfInBounds_toArray, List.set_cons_zero, List.set_cons_succ, List.cons_append, List.nil_append]
          refine stageT_pure rfl (fun _ V => Below.refl _ V) (fun V m hS hl => by go_simp) ?_
          simp only [Act.put, List.setIfInBounds_toArray, List.set_cons_zero, List.set_cons_succ, List.cons_append, List.nil_append]
          refine stageT_pure rfl (fun _ V => Below.refl _ V) (fun V m hS hl => by
              have hc := (HCKS.out V hS.out).2.2.2.2
              go_simp) ?_
          simp only [Act.put, List.setIfInBounds_toArray, List.set_cons_zero, List.set_cons_succ, List.cons_append, List.nil_append]
          refine stageT_grows rfl (fun V m hS hl => by
              go_simp
              refine (bclone_big Hb.A c.body bn Hb.cap V HBN.out hbl9 (HBY.out V hS.out)).mono ?_
              rintro e V' ⟨⟨v, rfl, ho⟩, hb⟩
              exact ⟨_, rfl, hb, own_mono ho hS.out.size, hS.out.trans (hb.mono hS.out.size)⟩) (fun v67 => ?_)
          simp only [Act.put, List.setIfInBounds_toArray, List.set_cons_zero, List.set_cons_succ, List.cons_append, List.nil_append]
          refine stageT_grows rfl (fun V m hS hl => by
              show Words.Leaves _ _ _
              have ho : Words.Own V W9.heap.size _ c.body := (hl.1 (by kernel_rfl))
              obtain ⟨A9, c9, rfl, h9a, h9b⟩ := own_slice ho
              rw [exec_build5 43 rfl (.int .u16 (c.st : Int)) (.bool c.lo) (.int .u32 (mu : Int)) (.int .u32 (c.pp : Int)) (.slice A9 c.body.length c9) rfl rfl rfl rfl rfl _ (msg_built5 c.st c.lo mu c.pp A9 c.body.length c9)]
              exact ⟨Below.refl _ _, ⟨_, _, rfl, ho⟩, hS.out⟩) (fun v68 => ?_)
          simp only [Act.put, List.setIfInBounds_toArray, List.set_cons_zero, List.set_cons_succ, List.cons_append, List.nil_append]
          refine stageT_grows rfl (fun V m hS hl => by
              show Words.Leaves _ _ _
              rw [exec_alloc_mg rfl]
              exact ⟨below_one V _, ⟨_, rfl, hS.out.size, Blk.new V _ _⟩, hS.out.trans ((below_one V _).mono hS.out.size)⟩) (fun v10 => ?_)
          simp only [Act.put, List.setIfInBounds_toArray, List.set_cons_zero, List.set_cons_succ, List.cons_append, List.nil_append]
          refine stageT_nil (fun V2 hS hF => ?_)
          have hF2 : OwnM W9.heap.size c.body v67 V2 ∧ BldM W9.heap.size c.st c.lo mu c.pp c.body v68 V2 ∧ AlcM W9.heap.size v10 V2 ∧ True := hF
          have HBV : Hid (Below W9.heap.size W9.drew V2) := hS.out
          obtain ⟨A, cc, rfl, hown⟩ := hF2.2.1
          obtain ⟨gp, rfl, hgp, hbp⟩ := hF2.2.2.1
          rw [← HBN.out] at hown ⊢
          obtain ⟨hbod, hex2⟩ := own_body (w := W9) (T := T1) hown HBN.out (Nat.le_refl _) HBV.out.size
          have hneA : ∀ ad, A = some ad → ¬ ad.block = gp := fun ad e e' => own_blk_ne hown hbp (by decide) (by rw [e]; show some ad.block = _; rw [e'])
          clear hS hF hF2 hown
          have hgpT : bodT W9 T1 A gp = 0 := by
            unfold bodT
            rw [if_neg (by omega), if_neg]
            intro e
            cases hA2 : A with
            | none => rw [hA2] at e; cases e
            | some ad => rw [hA2] at e; simp only [Option.map_some, Option.some.injEq] at e; exact hneA ad hA2 e
          obtain ⟨T2, hT2⟩ : ∃ T2, T2 = bodT W9 T1 A := ⟨_, rfl⟩
          rw [← hT2] at hbod hex2 hgpT
          obtain ⟨W10, hW10⟩ : ∃ W10, W10 = ((((V2.setCell ⟨gp, 0, none⟩ (.int .u16 (c.st : Int))).setCell ⟨gp, 1, none⟩ (.bool c.lo)).setCell ⟨gp, 2, none⟩ (.int .u32 (mu : Int))).setCell ⟨gp, 3, none⟩ (.int .u32 (c.pp : Int))).setCell ⟨gp, 4, none⟩ (.slice A bn cc) := ⟨_, rfl⟩
          have hf10 : Fr (fun i => i = gp) V2 W10 := by rw [hW10]; exact ((((((Fr.refl (fun i => i = gp) V2).setCell (p := ⟨gp, 0, none⟩) (.inl rfl) _).setCell (p := ⟨gp, 1, none⟩) (.inl rfl) _).setCell (p := ⟨gp, 2, none⟩) (.inl rfl) _).setCell (p := ⟨gp, 3, none⟩) (.inl rfl) _).setCell (p := ⟨gp, 4, none⟩) (.inl rfl) _)
          have HBP : Hid (Blk W10 gp 43 #[.int .u16 (c.st : Int), .bool c.lo, .int .u32 (mu : Int), .int .u32 (c.pp : Int), .slice A bn cc]) := by rw [hW10]; exact ((((hbp.set_ 0 _).set_ 1 _).set_ 2 _).set_ 3 _).set_ 4 _
          have hf9 : Fr (fun _ => False) W9 W10 := ((show Fr (fun _ => False) W9 V2 from ((Fr.refl (fun _ => False) W9).drew).trans (Fr.of_below HBV.out) (fun i hi e => by have e' : W9.heap.size ≤ i := e; have e8 : W9.drew.heap.size = W9.heap.size := rfl; omega))).trans hf10 (fun i hi e => by rw [show i = gp from e] at hi; omega)
          have hex10 : Ext W9 W10 T1 T2 := ⟨hex2.old, fun i hi => hex2.out i (by have := hf10.size; omega)⟩
          have z0 := hbp.cell 0
          have z1 := hbp.cell 1
          have z2 := hbp.cell 2
          have z3 := hbp.cell 3
          have z4 := hbp.cell 4
          have y0 := hbp.frozen 0
          have y1 := hbp.frozen 1
          have y2 := hbp.frozen 2
          have y3 := hbp.frozen 3
          have y4 := hbp.frozen 4
          simp only [List.getElem?_toArray, List.getElem?_cons_succ, List.getElem?_cons_zero] at z0 z1 z2 z3 z4
          have HBOD : Hid (BodT W10 T2 A cc c.body) := hbod.fr hf10 (fun i hi h5 e => by rw [show i = gp from e, hgpT] at h5; cases h5) (fun _ _ => rfl) (by
            intro e
            have h5 := HFB.out
            rw [e] at h5
            simp at h5)
          have HJ10 := Lib.hid (HM.out.jo.fr hf9 (fun _ _ _ h => h) hex10)
          have HL10 := Lib.hid (HM.out.ln.fr hf9 (fun _ _ _ h => h) (fun _ _ _ h => h) hex10.old)
          have HLA := Lib.hid (HM.out.l1.fr hf9 (fun h => h))
          have HL3 : Hid (∀ j x, L j = some x → BodT W10 T2 x.A x.cp x.m.body ∧ x.m.body ≠ []) := fun j x hx => ⟨(HM.out.l3 j x hx).1.fr hf9 (fun _ _ _ h => h) hex10.old (HM.out.l3 j x hx).2, (HM.out.l3 j x hx).2⟩
          have HCK := Lib.hid (hf9.blk HM.out.ck (fun h => h))
          have HGR := Lib.hid (hf9.blk HM.out.gr (fun h => h))
          have HFR : Hid (Fr (fun i => i < w.heap.size ∧ T i ≠ 0) w W10) := HM.out.fr.trans hf9 (fun _ _ e => e.elim)
          have HEX : Hid (Ext w W10 T T2) := HM.out.ext.trans hex10 HM.out.fr.size
          have HTC : Hid (T2 gc = 0 ∧ T2 gg = 0) := ⟨by rw [hex10.old gc (Blk.lt HM.out.ck)]; exact HM.out.tc, by rw [hex10.old gg (Blk.lt HM.out.gr)]; exact HM.out.tg⟩
          have HFG := Lib.hid HM.out.hF
          have HL2 := Lib.hid HM.out.l2
          have HNO := Lib.hid HM.out.no
          obtain ⟨x, hx⟩ : ∃ x : Fg, x = ⟨c.bg, c.en, ⟨c.st, c.lo, mu, c.pp, c.body⟩, A, cc⟩ := ⟨_, rfl⟩
          have hxv : fgV x = .agg #[.bool c.bg, .bool c.en, .int .u16 (c.st : Int), .bool c.lo, .int .u32 (mu : Int), .int .u32 (c.pp : Int), .slice A bn cc] := by rw [hx, HBN.out]; rfl
          have HFIT : Hid (Fits x (pcOf inter c)) := by rw [HPC.out, hx]; exact ⟨rfl, rfl, rfl⟩
          have HXB : Hid (x.A = A ∧ x.cp = cc ∧ x.m.body = c.body) := by rw [hx]; exact ⟨rfl, rfl, rfl⟩
          obtain ⟨W11, hput11, hm11, hturn11⟩ := MapX.put HLA.out (t := 83) Try.underlying83 (x := i) hi32 (fgV x)
          rw [hxv] at hput11
          have hput12 : (Instr.mapUpdate 83 (.map (some b)) (.int .u32 (i : Int)) (.agg #[.bool c.bg, .bool c.en, .int .u16 (c.st : Int), .bool c.lo, .int .u32 (mu : Int), .int .u32 (c.pp : Int), .slice A bn cc])).run Try.prog W10 = .ok () W11 := hput11
          have hf11 : Fr (fun i => i = b) W10 W11 := (Fr.of_grown hturn11.grown).mono (fun i hi e => by injection e)
          have hla11 : LineAt W11 b (fun j => if j = idxP inter (pcOf inter c) then some x else L j) := hm11.as_ (fun j => by
            rw [HIX.out]
            unfold putF
            show (if j = i then some (fgV x) else (L j).map fgV) = (if j = i then some x else L j).map fgV
            by_cases e : j = i
            · rw [if_pos e, if_pos e]; rfl
            · rw [if_neg e, if_neg e])
          have hne0 : c.body ≠ [] := by
            intro e
            have h5 := HFB.out
            rw [e] at h5
            simp at h5
          have hadd := HL10.out.lns.add (c := pcOf inter c) (by rw [HKG.out]; exact HFG.out) HLA.out (by rw [HKG.out]; exact HL2.out) HL3.out (by rw [HIX.out]; exact HNO.out) HFIT.out (by rw [HXB.out.1, HXB.out.2.1, HXB.out.2.2]; exact HBOD.out) (by rw [HXB.out.2.2]; exact hne0) hla11 hf11
          have htb : T2 b = 2 := (HL10.out.lns.line g b HFG.out).1
          have hbbl : b ≠ bl := (HL10.out.lns.line g b HFG.out).2.1
          have hbw10 : b < W10.heap.size := HLA.out.lt
          have HADD := Lib.hid hadd
          have HLA11 := Lib.hid hla11
          have HTB := Lib.hid htb
          have HBBL := Lib.hid hbbl
          have HJ11 := Lib.hid (HJ10.out.fr hf11 (fun i hi e e' => by rw [show i = b from e', htb] at e; rcases e with e | e | e | e <;> cases e) (Ext.same HJ10.out.out hf11.size))
          have HMB11 : Hid (MapX grpX W11 bl fun z => (F1 z).map lptr) := HL10.out.map.fr hf11 (fun e => hbbl e.symm)
          have HCK11 := Lib.hid (hf11.blk HCK.out (fun e => by have := HTC.out.1; rw [show gc = b from e, htb] at this; cases this))
          have HGR11 := Lib.hid (hf11.blk HGR.out (fun e => by have := HTC.out.2; rw [show gg = b from e, htb] at this; cases this))
          have hgpb : ¬ gp = b := fun e => by rw [e, htb] at hgpT; cases hgpT
          have HBP11 := Lib.hid (hf11.blk HBP.out hgpb)
          have HF11 : Hid (Fr (fun i => i = b) W10 W11) := hf11
          have hld : ∀ j v, (#[.int .u16 (c.st : Int), .bool c.lo, .int .u32 (mu : Int), .int .u32 (c.pp : Int), .slice A bn cc] : Array Value)[j]? = some v → W10.cell? ((⟨gp, 0, none⟩ : Addr).add j) = some v := fun j v hv => by rw [HBP.out.cellAdd]; exact hv
          have k1 := (HCK.out.cell 1).trans HCC.out.c1
          have k2 := (HCK.out.cell 2).trans HCC.out.c2
          have HTBL : Hid (T2 bl = 2) := HL10.out.tbl
          clear hput11 hm11 hturn11 hla11 hadd hxv hx hbod hex2 hf9 hex10 hneA hgpT HCKS HBY HBV htb hbbl hT2 HLI
          go_upto_region 13 with (fail)
          rw [← hW10]
          clear hW10 z0 z1 z2 z3 z4 y0 y1 y2 y3 y4 hbp hf10
          have k1' : W10.cell? ⟨gc, 1, none⟩ = some (.bool c.bg) := k1
          have k2' : W10.cell? ⟨gc, 2, none⟩ = some (.bool c.en) := k2
          clear k1 k2
          go_upto_region 14 with (refine wpList_load_any rfl 43 _ rfl ⟨gp, 0, none⟩ (by first | rfl | simp) #[.int .u16 (c.st : Int), .bool c.lo, .int .u32 (mu : Int), .int .u32 (c.pp : Int), .slice A bn cc] _ hld Try.underlying43 rfl msg_sz ?_)
          have c4 := HJ11.out.jb.c4
          have f4 := Blk.frozen HJ11.out.jb 4
          have g4 := HBP11.out.cell 4
          simp only [List.getElem?_toArray, List.getElem?_cons_succ, List.getElem?_cons_zero] at g4
          obtain ⟨hh, hhh⟩ : ∃ hh, hh = Jo.held s := ⟨_, rfl⟩
          obtain ⟨h2, hh2⟩ : ∃ h2, h2 = hh + bn := ⟨_, rfl⟩
          have hz2 : h2 ≤ 2000000000 := by rw [hh2, hhh, HBN.out]; exact HZ.out
          have hsum : (hh : Int) + (bn : Int) = (h2 : Int) := by omega
          have hwr : IntKind.i64.wrap (h2 : Int) = (h2 : Int) := IntWalk.i64_in _ (by omega)
          rw [← hhh] at c4
          have HH2 : Hid (h2 = Jo.held s + (pcOf inter c).body.length) := by rw [HPC.out]; show h2 = Jo.held s + c.body.length; rw [hh2, hhh, HBN.out]
          have HZ2 : Hid (h2 ≤ 2000000000) := hz2
          clear hhh hh2 hld hput12 k1' k2'
          go_region
          obtain ⟨W12, hW12⟩ : ∃ W12, W12 = (W11.setCell ⟨p, 4, none⟩ (.int .i64 (h2 : Int))).drew := ⟨_, rfl⟩
          have hf12 : Fr (fun i => i = p) W11 W12 := by rw [hW12]; exact ((Fr.refl (fun i => i = p) W11).setCell (p := ⟨p, 4, none⟩) (.inl rfl) _).drew
          have hjb12 : JB W12 p inter bl bo rv h2 := by rw [hW12]; exact HJ11.out.jb.held h2
          have htp : T2 p = 1 := HJ11.out.tp
          have HJ12 := Lib.hid (HJ11.out.reheld (hf12.mono (fun i hi e => ⟨hi, .inr e⟩)) hjb12)
          have hn12 : ∀ i, T2 i ≠ 1 → ¬ i = p := fun i hi e => hi (by rw [e]; exact htp)
          have HLN12 : Hid (LinesR W12 T2 bl inter F1 (pcOf inter c :: s.pcs)) := ⟨HTBL.out, HMB11.out.fr hf12 (hn12 bl (by rw [HTBL.out]; decide)), HADD.out.1.fr hf12 (fun i hi e _ => hn12 i (by rw [e]; decide)) (fun i hi e => hn12 i (by rw [e]; decide)) (fun _ _ => rfl)⟩
          have HLA12 := Lib.hid (HLA11.out.fr hf12 (hn12 b (by rw [HTB.out]; decide)))
          have HGR12 := Lib.hid (hf12.blk HGR11.out (hn12 gg (by rw [HTC.out.2]; decide)))
          have HBD12 : Hid (∀ j y, (if j = idxP inter (pcOf inter c) then some x else L j) = some y → BodT W12 T2 y.A y.cp y.m.body ∧ y.m.body ≠ []) := fun j y hy => ⟨(HADD.out.2.2 j y hy).1.fr hf12 (fun i hi e => hn12 i (by rw [e]; decide)) (fun _ _ => rfl) (HADD.out.2.2 j y hy).2, (HADD.out.2.2 j y hy).2⟩
          have hfa : Fr (fun i => i < w.heap.size ∧ T i ≠ 0) w W12 := (HFR.out.trans HF11.out (fun i hi e => ⟨hi, by rw [← HEX.out.old i hi, show i = b from e, HTB.out]; decide⟩)).trans hf12 (fun i hi e => ⟨hi, by rw [← HEX.out.old i hi, show i = p from e, htp]; decide⟩)
          have HFA := Lib.hid hfa
          have HEA : Hid (Ext w W12 T T2) := ⟨HEX.out.old, fun i hi => HEX.out.out i (by have := HF11.out.size; have := hf12.size; omega)⟩
          have HPOK : Hid (PcOk inter (pcOf inter c)) := by
            rw [HPC.out]
            have h5 := HFB.out
            refine ⟨?_, HOKC.out.st, HMOK.out, ?_, fun hI => ?_, fun hI => ?_⟩
            · intro e
              have e' : c.body = [] := e
              rw [e'] at h5
              simp at h5
            · unfold idxP
              split
              · exact HOKC.out.fr
              · exact HOKC.out.tsn
            · subst hI
              simp at h5
              exact h5.2.1
            · subst hI
              simp at h5
              exact h5.2.2
          have HALL : Hid (∀ q ∈ pcOf inter c :: s.pcs, PcOk inter q) := fun q hq => by
            rcases List.mem_cons.1 hq with rfl | hq
            · exact HPOK.out
            · exact HK.out.pok q hq
          have HNR : Hid (¬ Jo.Refused inter s (pcOf inter c)) := by
            intro hr
            have hkg := HKG.out
            have hix := HIX.out
            rw [HPC.out] at hr hkg hix
            have h5 := HFB.out
            have h6 := HLB.out
            rcases hr with hr | ⟨hr1, hr2⟩ | ⟨hI, hr⟩ | ⟨hI, q, hq, hr⟩
            · exact HPOK.out.ne (by rw [HPC.out]; exact hr)
            · have hlo : c.lo = false := hr1
              unfold lateB at h6
              rw [hlo] at h6
              simp only [Bool.not_false, Bool.true_and] at h6
              rcases hr2 with h7 | ⟨q, q1, q2, q3⟩
              · have h8 := (ltB_eq (inter := inter) mu (s.next c.st)).2 h7
                rw [h8, Bool.or_true] at h6; cases h6
              · have h8 : waitB s.wait c.st mu = true := waitB_iff.2 ⟨q, q1, q2, q3⟩
                rw [h8] at h6; cases h6
            · subst hI
              rcases hr with hr | hr | ⟨q, hq, hr1, hr2⟩
              · exact hr (by have := HPOK.out.bg rfl; rw [HPC.out] at this; exact this)
              · have h8 := HPOK.out.fr rfl
                rw [HPC.out] at h8
                have hr' : 65535 < c.fr := hr
                have h8' : c.fr ≤ 65535 := h8
                omega
              · have h9 : q ∈ atK true g s.pcs := List.mem_filter.2 ⟨hq, by rw [← hkg, ← same_key hr1]; simp⟩
                obtain ⟨y, hy, _⟩ := HL2.out.has q h9
                have e : idxP true q = i := by rw [← hix]; exact hr2
                rw [e, HNO.out] at hy; cases hy
            · subst hI
              have h9 : q ∈ atK false g s.pcs := List.mem_filter.2 ⟨hq, by rw [← hkg]; simp [keyP, keyC]⟩
              obtain ⟨y, hy, _⟩ := HL2.out.has q h9
              have e : idxP false q = i := by rw [← hix]; exact hr
              rw [e, HNO.out] at hy; cases hy
          have hlenA : (atK inter g (pcOf inter c :: s.pcs)).length ≤ 2000000000 := by
            have h1 := List.length_filter_le (fun q => decide (keyP inter q = g)) (pcOf inter c :: s.pcs)
            have h3 := pcs_len (pcOf inter c :: s.pcs) (fun q hq => (HALL.out q hq).ne)
            have h4 : Jo.sizeP (pcOf inter c :: s.pcs) = (pcOf inter c).body.length + Jo.sizeP s.pcs := by simp [Jo.sizeP]
            have h5 := HH2.out
            have h6 := HZ2.out
            unfold Jo.held at h5
            unfold atK
            omega
          have HLENA := Lib.hid hlenA
          have hln12 : LnOf (idxP inter) (fun j => if j = idxP inter (pcOf inter c) then some x else L j) (atK inter g (pcOf inter c :: s.pcs)) := by have := HADD.out.2.1; rw [HKG.out] at this; exact this
          have HLN2 := Lib.hid hln12
          obtain ⟨L2, hL2⟩ : ∃ L2 : Nat → Option Fg, L2 = fun j => if j = idxP inter (pcOf inter c) then some x else L j := ⟨_, rfl⟩
          rw [← hL2] at HLA12 HLN2 hln12
          have HL2i : Hid (L2 i = some x) := by rw [hL2, HIX.out]; exact if_pos rfl
          have HBD2 : Hid (∀ j y, L2 j = some y → BodT W12 T2 y.A y.cp y.m.body ∧ y.m.body ≠ []) := by rw [hL2]; exact HBD12.out
          have hwh := whole_any HLA12.out (hln12.few hlenA) hi32
          rw [← hW12]
          clear hW12 hf12 hjb12 htp hn12 hfa hlenA hln12 hL2 c4 f4 g4 hsum hwr HADD HBD12 HLA11 HGR11 HBP11 HF11 HJ11 HMB11 HCK11 HLA HJ10 HL10 HL3 HFR HEX HFIT HXB HBOD HCK HGR HBP HL2 HNO HM
          go_upto_region 15 with (fail)
          go_wp2_with fail
          refine hwh.mono ?_
          clear hwh
          rintro e w13 ⟨hd, hb13⟩
          have hf13 : Fr (fun _ => False) W12 w13 := (Fr.of_below hb13).mono (fun i hi e => by have e' : W12.heap.size ≤ i := e; omega)
          have HJ13 := Lib.hid (HJ12.out.fr hf13 (fun _ _ _ h => h) (Ext.same HJ12.out.out hf13.size))
          have HLN13 := Lib.hid (HLN12.out.fr (T' := T2) hf13 (fun _ _ _ h => h) (fun _ _ _ h => h) (fun _ _ => rfl))
          have HLA13 := Lib.hid (HLA12.out.fr hf13 (fun h => h))
          have HGR13 := Lib.hid (hf13.blk HGR12.out (fun h => h))
          have HBD13 : Hid (∀ j y, L2 j = some y → BodT w13 T2 y.A y.cp y.m.body ∧ y.m.body ≠ []) := fun j y hy => ⟨(HBD2.out j y hy).1.fr hf13 (fun _ _ _ h => h) (fun _ _ => rfl) (HBD2.out j y hy).2, (HBD2.out j y hy).2⟩
          have HFA13 : Hid (Fr (fun i => i < w.heap.size ∧ T i ≠ 0) w w13) := HFA.out.trans hf13 (fun _ _ e => e.elim)
          have HEA13 : Hid (Ext w w13 T T2) := ⟨HEA.out.old, fun i hi => HEA.out.out i (by have := hf13.size; omega)⟩
          clear hf13 hb13 HJ12 HLN12 HLA12 HGR12 HBD2 HFA HEA
          rcases hd with ⟨rfl, hno⟩ | ⟨a, cc2, ha, hc2, rfl, hch⟩
          · have HEND : Hid (PutDone w (fun i => T i ≠ 0) p inter s (pcOf inter c) (.returned (.bool true)) w13) := put_more HK.out HNR.out (by rw [← HH2.out]; exact HJ13.out) HLN13.out HPOK.out (by rw [← HH2.out]; exact HZ2.out) HFA13.out HEA13.out (fun Lw h1 h2 h3 => whole_none HALL.out (by rw [HKG.out]; exact HLN2.out) (by rw [HKG.out]; exact HLENA.out) (by rw [HIX.out]; exact hno) h1 h2 h3)
            clear hno
            go_wp2_with fail
            go_ret
            exact HEND.out
          · obtain ⟨hn, zs, hcut, hfol⟩ := chain_cut hi32 ⟨x, HL2i.out⟩ HLN2.out HLENA.out ha hc2 hch
            obtain ⟨n, hnn⟩ : ∃ n, n = a + cc2 := ⟨_, rfl⟩
            obtain ⟨f, hff⟩ : ∃ f, f = dn i a := ⟨_, rfl⟩
            obtain ⟨l, hll⟩ : ∃ l, l = up i cc2 := ⟨_, rfl⟩
            have hlf : l = up f n := by rw [hll, hff, hnn]; unfold up dn; omega
            have hf32 : f < 4294967296 := by rw [hff]; unfold dn; omega
            have hWh := hcut.whole hi32 hn hch hfol HALL.out
            rw [← hnn] at hn hcut
            rw [← hff] at hcut ⊢
            rw [← hll]
            have hzlen : zs.length = n + 1 := hcut.len
            have hperm := hcut.perm hf32 hn HLN2.out HALL.out
            have hfits : ∀ z ∈ zs, Fits z.1 z.2 := fun z hz => by
              obtain ⟨j, hj, rfl⟩ := List.mem_iff_getElem.1 hz
              exact (hcut.at_ j _ (List.getElem?_eq_getElem hj)).2.2.2
            obtain ⟨z0, hz0⟩ : ∃ z0, zs[0]? = some z0 := ⟨_, List.getElem?_eq_getElem (by omega)⟩
            have hpcin : pcOf inter c ∈ zs.map (·.2) := by
              have ha2 : a < zs.length := by omega
              obtain ⟨_, q2, q3, _⟩ := hcut.at_ a zs[a] (List.getElem?_eq_getElem ha2)
              have h6 : pcOf inter c ∈ atK inter g (pcOf inter c :: s.pcs) := List.mem_filter.2 ⟨List.mem_cons_self, by rw [HKG.out]; simp⟩
              have h7 : idxP inter zs[a].2 = idxP inter (pcOf inter c) := by rw [q3, HIX.out, hff]; unfold up dn; omega
              have h8 := pw_inj HLN2.out.nd q2 h6 h7
              exact List.mem_map.2 ⟨zs[a], List.getElem_mem ha2, h8⟩
            have hbz := cut_bodies zs hfits
            have hsz : (catF (zs.map (·.1))).length + Jo.sizeP (restP inter g f n (pcOf inter c :: s.pcs)) = (pcOf inter c).body.length + Jo.sizeP s.pcs := by
              have e1 := Jo.sizeP_perm hperm
              rw [Jo.sizeP_append, hbz.2] at e1
              have ec : Jo.sizeP (pcOf inter c :: s.pcs) = (pcOf inter c).body.length + Jo.sizeP s.pcs := by simp [Jo.sizeP]
              omega
            have hcat : (catF (zs.map (·.1))).length ≤ 2000000000 := by
              have e2 := HH2.out
              have e3 := HZ2.out
              unfold Jo.held at e2
              omega
            have hT13 : T2 b = 2 := HTB.out
            have hcx : CutX w13 b L2 f (zs.map (·.1)) := ⟨fun q y hq => by
              rw [List.getElem?_map] at hq
              cases hzq : zs[q]? with
              | none => rw [hzq] at hq; cases hq
              | some z => rw [hzq] at hq; injection hq with hq; rw [← hq]; exact (hcut.at_ q z hzq).1, fun q y hq => by
              rw [List.getElem?_map] at hq
              cases hzq : zs[q]? with
              | none => rw [hzq] at hq; cases hq
              | some z =>
                rw [hzq] at hq; injection hq with hq; subst hq
                have h9 := (HBD13.out _ _ (hcut.at_ q z hzq).1).1
                exact ⟨h9.rd, fun ad e e' => by have h10 := h9.own ad e; rw [e', hT13] at h10; cases h10⟩, fun q y hq => by
              rw [List.getElem?_map] at hq
              cases hzq : zs[q]? with
              | none => rw [hzq] at hq; cases hq
              | some z => rw [hzq] at hq; injection hq with hq; subst hq; exact (HBD13.out _ _ (hcut.at_ q z hzq).1).2⟩
            have hcall := cut_any joinC HLA13.out hf32 hlf hn (by rw [List.length_map]; exact hzlen) (x0 := z0.1) (by rw [List.getElem?_map, hz0]; rfl) hcx hcat
            have HWH := Lib.hid hWh
            have HPERM := Lib.hid hperm
            have HFITS := Lib.hid hfits
            have HZ0 := Lib.hid hz0
            have HPCIN := Lib.hid hpcin
            have HSZ := Lib.hid hsz
            have HCAT := Lib.hid hcat
            have HF32 := Lib.hid hf32
            have HN := Lib.hid hn
            have HCNE : Hid (catF (zs.map (·.1)) ≠ []) := by
              intro e
              have e1 := hbz.2
              rw [e] at e1
              have e2 := pcs_len (zs.map (·.2)) (fun q hq => (HALL.out q (hperm.mem_iff.2 (List.mem_append.2 (.inl hq)))).ne)
              rw [List.length_map, hzlen] at e2
              simp at e1
              omega
            clear hcut hfol hch ha hc2 hnn hff hll hlf hWh hzlen hperm hfits hz0 hpcin hbz hsz hcat hcx hT13 hf32 hn
            go_wp2_with fail
            refine hcall.mono ?_
            clear hcall
            rintro e w14 ⟨A2, n2, c2, rfl, hn2, hnc2, hcm2, hby2, hA2, hla14, hf14⟩
            obtain ⟨cat, hcatE⟩ : ∃ cat, cat = catF (zs.map (·.1)) := ⟨_, rfl⟩
            rw [← hcatE] at hn2 hby2
            have HCATE := Lib.hid hcatE
            have hcne : cat ≠ [] := by rw [hcatE]; exact HCNE.out
            obtain ⟨q1, hq1⟩ : ∃ q, q = z0.1.m.st := ⟨_, rfl⟩
            obtain ⟨q2, hq2⟩ : ∃ q, q = z0.1.m.lo := ⟨_, rfl⟩
            obtain ⟨q3, hq3⟩ : ∃ q, q = z0.1.m.mid := ⟨_, rfl⟩
            obtain ⟨q4, hq4⟩ : ∃ q, q = z0.1.m.pp := ⟨_, rfl⟩
            have HMSG : Hid (Jo.msgOf (zs.map (·.2)) = ⟨q1, q2, q3, q4, cat⟩) := by rw [hq1, hq2, hq3, hq4, hcatE]; exact cut_msg HFITS.out HZ0.out
            have hp0 : ∃ p0, p0 ∈ zs.map (·.2) ∧ p0.st = q1 ∧ p0.lo = q2 ∧ p0.mid = q3 := by
              have hin : z0 ∈ zs := List.mem_of_getElem? HZ0.out
              have hm0 := (HFITS.out z0 hin).m
              exact ⟨z0.2, List.mem_map.2 ⟨z0, hin, rfl⟩, by rw [hq1, hm0]; rfl, by rw [hq2, hm0]; rfl, by rw [hq3, hm0]; rfl⟩
            have HSAME : Hid (q1 = (pcOf inter c).st ∧ q2 = (pcOf inter c).lo ∧ (q2 = false → q3 = (pcOf inter c).mid)) := by
              obtain ⟨p0, h1, h2, h3, h4⟩ := hp0
              obtain ⟨r1, r2, r3⟩ := whole_same HWH.out h1 HPCIN.out
              exact ⟨h2.symm.trans r1, h3.symm.trans r2, fun hl => h4.symm.trans (r3 (h3.trans hl))⟩
            simp only [mCells, ← hq1, ← hq2, ← hq3, ← hq4]
            have hA2lt : ∀ ad, A2 = some ad → ad.block < w14.heap.size := fun ad e => by
              have hpos : 0 < cat.length := List.length_pos_iff.2 hcne
              obtain ⟨ad', e1, e2, _⟩ := hby2.2 hpos
              rw [e] at e1; injection e1 with e1; subst e1; exact e2
            obtain ⟨T3, hT3⟩ : ∃ T3, T3 = bodT w13 T2 A2 := ⟨_, rfl⟩
            have hold3 : ∀ i, i < w13.heap.size → T3 i = T2 i := fun i hi => by rw [hT3]; exact if_pos hi
            have hout3 : ∀ i, w14.heap.size ≤ i → T3 i = 0 := fun i hi => by
              rw [hT3]
              unfold bodT
              rw [if_neg (by have := hf14.size; omega)]
              split
              · rename_i e
                cases hAA : A2 with
                | none => rw [hAA] at e; cases e
                | some ad =>
                  rw [hAA] at e
                  simp only [Option.map_some, Option.some.injEq] at e
                  have := hA2lt ad hAA
                  omega
              · rfl
            have hbod14 : BodT w14 T3 A2 c2 cat := ⟨hby2, by omega, hcm2, fun ad e => by rw [hT3]; unfold bodT; rw [if_neg (by have := hA2 ad e; omega), if_pos (by rw [e]; rfl)]⟩
            have htb3 : T3 b = 2 := by rw [hold3 b HLA13.out.lt]; exact HTB.out
            have hl13 : LnsR w13 T3 bl inter F1 (pcOf inter c :: s.pcs) := HLN13.out.lns.fr (Fr.refl (fun _ => False) w13) (fun _ _ _ _ h => h) (fun _ _ _ h => h) hold3
            have hl14 := hl13.cut HFG.out HF32.out HN.out HLN2.out HALL.out (fun j y hy => ⟨(HBD13.out j y hy).1.fr (Fr.refl (fun _ => False) w13) (fun _ _ _ h => h) hold3 (HBD13.out j y hy).2, (HBD13.out j y hy).2⟩) hla14 hf14
            obtain ⟨W15, hW15⟩ : ∃ W15, W15 = w14.alloc (.cells #[.int .u16 (q1 : Int), .bool q2, .int .u32 (q3 : Int), .int .u32 (q4 : Int), .slice A2 n2 c2] 43) := ⟨_, rfl⟩
            obtain ⟨gm, hgm⟩ : ∃ gm, gm = w14.heap.size := ⟨_, rfl⟩
            have hf15 : Fr (fun _ => False) w14 W15 := by rw [hW15]; exact (Fr.refl _ w14).alloc _
            have HBM : Hid (Blk W15 gm 43 #[.int .u16 (q1 : Int), .bool q2, .int .u32 (q3 : Int), .int .u32 (q4 : Int), .slice A2 n2 c2]) := by rw [hW15, hgm]; exact Blk.new _ _ _
            have hfb : Fr (fun i => i = b) w13 W15 := hf14.trans hf15 (fun _ _ e => e.elim)
            have hex15 : Ext w13 W15 T2 T3 := ⟨hold3, fun i hi => hout3 i (by have := hf15.size; omega)⟩
            have HX15 := Lib.hid hex15
            have HJ15 := Lib.hid (HJ13.out.fr hfb (fun i hi e e' => by rw [show i = b from e', HTB.out] at e; rcases e with e | e | e | e <;> cases e) hex15)
            have HL15 : Hid (LinesR W15 T3 bl inter F1 (restP inter g f n (pcOf inter c :: s.pcs))) := ⟨by rw [hold3 bl HLN13.out.map.lt]; exact HTBL.out, HLN13.out.map.fr hfb (fun e => HBBL.out e.symm), hl14.fr hf15 (fun _ _ _ _ h => h) (fun _ _ _ h => h) (fun _ _ => rfl)⟩
            have HMG15 : Hid (BodT W15 T3 A2 c2 cat) := hbod14.fr hf15 (fun _ _ _ h => h) (fun _ _ => rfl) hcne
            have HGR15 : Hid (Blk W15 gg 79 #[.int .u16 (g1 : Int), .bool g2, .int .u32 (g3 : Int)]) := hfb.blk HGR13.out (fun e => by have := HTC.out.2; rw [show gg = b from e, HTB.out] at this; cases this)
            have HTG3 : Hid (T3 gm = 0) := hout3 gm (by omega)
            have HN2 := Lib.hid hn2
            have HCN := Lib.hid hcne
            have HF15 : Hid (Fr (fun i => i < w.heap.size ∧ T i ≠ 0) w W15) := HFA13.out.trans hfb (fun i hi e => ⟨hi, by rw [← HEA13.out.old i hi, show i = b from e, HTB.out]; decide⟩)
            have HE15 : Hid (Ext w W15 T T3) := HEA13.out.trans hex15 HFA13.out.size
            have hgl : ∀ j v, (#[.int .u16 (g1 : Int), .bool g2, .int .u32 (g3 : Int)] : Array Value)[j]? = some v → W15.cell? ((⟨gg, 0, none⟩ : Addr).add j) = some v := fun j v hv => by rw [HGR15.out.cellAdd]; exact hv
            have htidy := tidy_any HJ15.out.jb HJ15.out.tp HL15.out HJ15.out.out (by have e2 := HH2.out; have e3 := HSZ.out; unfold Jo.held at e2; omega) HZ2.out HFG.out HDOM.out
            rw [HGE.out] at htidy
            clear hT3 hold3 hout3 hbod14 htb3 hl13 hl14 hf15 hfb hex15 hq1 hq2 hq3 hq4 hcatE hn2 hnc2 hby2 hA2 hla14 hf14 hA2lt hp0 hcne
            go_upto_region 18 with (fail)
            rw [← hW15, ← hgm]
            clear hW15 hgm
            go_wp2_with (refine wpList_load_any rfl 79 _ rfl ⟨gg, 0, none⟩ (by first | rfl | simp) #[.int .u16 (g1 : Int), .bool g2, .int .u32 (g3 : Int)] _ hgl Try.underlying79 rfl grp_sz ?_)
            refine htidy.mono ?_
            clear htidy hgl
            rintro e w16 ⟨F3, rfl, hl16, hj16, hf16⟩
            obtain ⟨rest, hrest⟩ : ∃ rest, rest = restP inter g f n (pcOf inter c :: s.pcs) := ⟨_, rfl⟩
            rw [← hrest] at hl16 hj16
            obtain ⟨rest4, hrest4⟩ : ∃ rest4, rest4 = (if inter = true then dropK inter g (fun _ => true) rest else rest) := ⟨_, rfl⟩
            obtain ⟨h4, hh4⟩ : ∃ h4, h4 = h2 - (if inter = true then Jo.sizeP (atK inter g rest) else 0) := ⟨_, rfl⟩
            rw [← hrest4] at hl16
            rw [← hh4] at hj16
            have hsub4 : ∀ q ∈ rest4, q ∈ pcOf inter c :: s.pcs := fun q hq => by
              have h1 : q ∈ rest := by
                rw [hrest4] at hq
                split at hq
                · exact (List.mem_filter.1 hq).1
                · exact hq
              rw [hrest] at h1
              exact (List.mem_filter.1 h1).1
            have hsz4 : h4 = Jo.sizeP rest4 + Jo.sizeM s.wait + Jo.sizeM s.ready + cat.length := by
              have e1 := HSZ.out
              have e2 := HH2.out
              rw [← hrest, ← HCATE.out] at e1
              unfold Jo.held at e2
              rw [hh4, hrest4]
              cases inter
              · simp only [Bool.false_eq_true, if_false] at e1 e2 ⊢
                omega
              · simp only [if_true] at e1 e2 ⊢
                have e3 := sizeP_split (fun q => decide (keyP true q = g)) rest
                have e4 : dropK true g (fun _ => true) rest = rest.filter fun q => !decide (keyP true q = g) := rfl
                rw [e4]
                unfold atK
                omega
            have hrest5 : rest4 = if inter = true then rest.filter (fun q => !decide (Jo.same true q (pcOf inter c))) else rest := by
              rw [hrest4]
              have hkg := HKG.out
              cases inter
              · rfl
              · simp only [if_true]
                refine List.filter_congr fun q _ => ?_
                have e5 : (decide (keyP true q = g)) = decide (Jo.same true q (pcOf true c)) := decide_eq_decide.2 (by
                  rw [← hkg]
                  constructor
                  · intro e
                    unfold keyP keyC at e
                    rw [if_pos rfl, if_pos rfl] at e
                    injection e with e1 e2 e3
                    exact ⟨e1, e2, .inl e3⟩
                  · intro e
                    exact (same_key e).symm)
                rw [← e5]
                simp
            have hle4 : h4 ≤ 2000000000 := by rw [hh4]; have := HZ2.out; omega
            have hn16 : ∀ i, i < W15.heap.size → (T3 i ≠ 2 ∧ T3 i ≠ 1) → ¬ (i < W15.heap.size ∧ (T3 i = 2 ∨ i = p)) := fun i hi e hx => by
              rcases hx.2 with h | h
              · exact e.1 h
              · exact e.2 (by rw [h]; exact HJ15.out.tp)
            have HJ16 := Lib.hid (HJ15.out.reheld hf16 hj16)
            have HMG16 : Hid (MgOk w16 T3 ⟨⟨q1, q2, q3, q4, cat⟩, A2, c2⟩) := ⟨HMG15.out.fr hf16 (fun i hi h5 => hn16 i hi ⟨by rw [h5]; decide, by rw [h5]; decide⟩) (fun _ _ => rfl) HCN.out, HCN.out⟩
            have hbm16 := hf16.blk HBM.out (hn16 gm (Blk.lt HBM.out) ⟨by rw [HTG3.out]; decide, by rw [HTG3.out]; decide⟩)
            have hml : ∀ j v, (#[.int .u16 (q1 : Int), .bool q2, .int .u32 (q3 : Int), .int .u32 (q4 : Int), .slice A2 n2 c2] : Array Value)[j]? = some v → w16.cell? ((⟨gm, 0, none⟩ : Addr).add j) = some v := fun j v hv => by rw [hbm16.cellAdd]; exact hv
            have HL16 := Lib.hid hl16
            have HF16 : Hid (Fr (fun i => i < w.heap.size ∧ T i ≠ 0) w w16) := HF15.out.trans hf16 (fun i hi e => ⟨hi, by
              rw [← HE15.out.old i hi]
              rcases e.2 with e | e
              · rw [e]; decide
              · rw [e, HJ15.out.tp]; decide⟩)
            have HE16 : Hid (Ext w w16 T T3) := ⟨HE15.out.old, fun i hi => HE15.out.out i (by have := hf16.size; omega)⟩
            have HRST := Lib.hid hrest
            have HRST5 := Lib.hid hrest5
            have HSZ4 := Lib.hid hsz4
            have HLE4 := Lib.hid hle4
            have HSUB := Lib.hid hsub4
            have hlateB := HLB.out
            have hpcs := HPC.out
            have hxl16 := HK.out.few
            have harr := arrive_any HJ16.out hxl16 (x := ⟨⟨q1, q2, q3, q4, cat⟩, A2, c2⟩) HMG16.out (by show q1 < 65536; rw [HSAME.out.1, hpcs]; exact HOKC.out.st) (fun hl => by
              have hl' : q2 = false := hl
              have e3 := HSAME.out.2.2 hl'
              have e2 := HSAME.out.2.1
              have e1 := HSAME.out.1
              rw [hpcs] at e1 e2 e3
              have e1' : q1 = c.st := e1
              have e2' : q2 = c.lo := e2
              have e3' : q3 = mu := e3
              show MidOk inter q3 ∧ waitB s.wait q1 q3 = false
              rw [e1', e3']
              refine ⟨HMOK.out, ?_⟩
              unfold lateB at hlateB
              rw [← e2', hl'] at hlateB
              simp only [Bool.not_false, Bool.true_and] at hlateB
              cases hw : waitB s.wait c.st mu with
              | false => rfl
              | true => rw [hw] at hlateB; cases hlateB)
            have harr2 : Calls Try.prog 36 #[jptr p, .agg #[.int .u16 (q1 : Int), .bool q2, .int .u32 (q3 : Int), .int .u32 (q4 : Int), .slice A2 n2 c2]] w16 (ArrDone w16 T3 p inter bl bo h4 xs s.next s.wait ⟨⟨q1, q2, q3, q4, cat⟩, A2, c2⟩) := by rw [HN2.out]; exact harr
            clear hl16 hj16 hf16 hrest hrest4 hh4 hsub4 hsz4 hrest5 hle4 hn16 hbm16 hlateB hpcs hxl16 harr
            go_wp2_with (refine wpList_load_any rfl 43 _ rfl ⟨gm, 0, none⟩ (by first | rfl | simp) #[.int .u16 (q1 : Int), .bool q2, .int .u32 (q3 : Int), .int .u32 (q4 : Int), .slice A2 n2 c2] _ hml Try.underlying43 rfl msg_sz ?_)
            refine harr2.mono ?_
            clear harr2 hml
            rintro e w17 ⟨T5, rv5, xs5, Om5, Wb5, next5, wait5, rfl, harr, hj17, hf17, hex17⟩
            have hl17 : LinesR w17 T5 bl inter F3 rest4 := HL16.out.fr hf17 (fun i hi e hx => by rcases hx.2 with h | h | h <;> (rw [e] at h; cases h)) (fun i hi e hx => by rcases hx.2 with h | h | h <;> (rw [e] at h; cases h)) hex17.old
            have HEND : Hid (PutDone w (fun i => T i ≠ 0) p inter s (pcOf inter c) (.returned (.bool true)) w17) := put_whole HK.out HNR.out HWH.out HPCIN.out (by rw [HRST.out]; exact HPERM.out) (x := ⟨⟨q1, q2, q3, q4, cat⟩, A2, c2⟩) HMSG.out.symm HRST5.out hl17 hj17 HSZ4.out HLE4.out (HF16.out.trans hf17 (fun i hi e => ⟨hi, by
              rw [← HE16.out.old i hi]
              rcases e.2 with e | e | e <;> (rw [e]; decide)⟩)) (HE16.out.trans hex17 HF16.out.size) (fun q hq => HALL.out q (HSUB.out q hq)) harr HSAME.out.2.1 HSAME.out.1
            clear harr hj17 hf17 hex17 hl17
            go_wp2_with fail
            go_ret
            exact HEND.out
      | some b =>
        obtain ⟨hb2, hbne, L, hL1, hL2, hL3⟩ := HL7.out.lns.line g b HFO.out.symm
        have hlo := hL1.look_ok hi32
        obtain ⟨x0, hx0⟩ : ∃ x0, x0 = (L i).getD fg0 := ⟨_, rfl⟩
        obtain ⟨there, hthere⟩ : ∃ there, there = (L i).isSome := ⟨_, rfl⟩
        rw [← hx0, ← hthere] at hlo
        have HTH := Lib.hid hthere
        have HL1 := Lib.hid hL1
        have HL2 := Lib.hid hL2
        have HL3 := Lib.hid hL3
        obtain ⟨yb, ye, ⟨y1, y2, y3, y4, y5⟩, yA, yc⟩ := x0
        simp only [fgV, bodyV] at hlo
        clear hx0 hthere hb2 hbne hL1 hL2 hL3
        cases there
        · go_upto_region 9 with (fail)
          obtain ⟨W9, hW9⟩ : ∃ W9, W9 = W7.alloc (.cells #[.bool yb, .bool ye, .int .u16 (y1 : Int), .bool y2, .int .u32 (y3 : Int), .int .u32 (y4 : Int), .slice yA y5.length yc] 85) := ⟨_, rfl⟩
          rw [← hW9]
          have hf79 : Fr (fun _ => False) W7 W9 := by rw [hW9]; exact (Fr.refl _ W7).alloc _
          have HB9 : Hid (Below w.heap.size w W9) := below_fr HB7.out hf79 (Nat.le_refl _) (fun _ e => e.elim)
          have HM : Hid (PutM w W9 T T p inter bl bo rv F Om Wb xs s g i b L gc gg cs2 #[.int .u16 (g1 : Int), .bool g2, .int .u32 (g3 : Int)]) := ⟨HK.out.jo.grows HB9.out, HL7.out.fr hf79 (fun _ _ _ h => h) (fun _ _ _ h => h) (fun _ _ => rfl), HFO.out.symm, HL1.out.fr hf79 (fun h => h), HL2.out, fun j x hx => ⟨(HL3.out j x hx).1.fr hf79 (fun _ _ _ h => h) (fun _ _ => rfl) (HL3.out j x hx).2, (HL3.out j x hx).2⟩, (by
            have h1 : false = (L i).isSome := HTH.out
            cases hLi : L i with
            | none => rfl
            | some x => rw [hLi] at h1; cases h1), hf79.blk HC7.out (fun h => h), hf79.blk HG7.out (fun h => h), (Fr.of_below HB9.out).mono (fun i hi e => by have e' : w.heap.size ≤ i := e; omega), Ext.same HK.out.jo.out HB9.out.size, HK.out.jo.out gc HGC.out, HK.out.jo.out gg HGG.out⟩
          clear hW9 hf79 HB9 HB7 HC7 HG7 HJ7 HL7 HL1 HL2 HL3 HTH hlo HFO
          have heq := map_eql1 b W9
          go_upto_region 12 with (fail)
          clear heq
          have ck6 := (HM.out.ck.cell 6).trans HCC.out.c6
          have ck3 := (HM.out.ck.cell 3).trans HCC.out.c3
          have ck7 := (HM.out.ck.cell 7).trans HCC.out.c7
          have ck8 := (HM.out.ck.cell 8).trans HCC.out.c8
          have ck18 := (HM.out.ck.cell 18).trans HCC.out.c18
          obtain ⟨bn, hbn⟩ : ∃ bn, bn = c.body.length := ⟨_, rfl⟩
          have hck18 : W9.cell? ⟨gc, 18, none⟩ = some (.slice Hb.A bn Hb.cap) := by rw [hbn]; exact ck18
          have HBN := Lib.hid hbn
          have hbl9 : bn ≤ 2000000000 := by have := HZ.out; omega
          have HCKS : Hid (∀ V, Below W9.heap.size W9.drew V → V.cell? ⟨gc, 6, none⟩ = some (.int .u16 (c.st : Int)) ∧ V.cell? ⟨gc, 3, none⟩ = some (.bool c.lo) ∧ V.cell? ⟨gc, 7, none⟩ = some (.int .u32 (mu : Int)) ∧ V.cell? ⟨gc, 8, none⟩ = some (.int .u32 (c.pp : Int)) ∧ V.cell? ⟨gc, 18, none⟩ = some (.slice Hb.A bn Hb.cap)) := fun V hV => by
            have h1 : ∀ k u, W9.cell? ⟨gc, k, none⟩ = some u → V.cell? ⟨gc, k, none⟩ = some u := fun k u hu => by
              rw [World.cell?_of_block (hV.block gc (Blk.lt HM.out.ck))]; exact hu
            exact ⟨h1 _ _ ck6, h1 _ _ ck3, h1 _ _ ck7, h1 _ _ ck8, h1 _ _ hck18⟩
          have HBY : Hid (∀ V, Below W9.heap.size W9.drew V → Byt V V.heap.size Hb.A c.body) := fun V hV => by
            have h1 : Byt w w.heap.size Hb.A c.body := HLI.out.body
            have h2 : Byt W9 w.heap.size Hb.A c.body := HM.out.fr.byt h1 (Nat.le_refl _) (fun ad e hx => by
              have h3 := HA.out ad c.body.length Hb.cap (by rw [← HCS0.out, ← e]; exact HCC.out.c18)
              exact hx.2 h3)
            have h4 : w.heap.size ≤ W9.heap.size := HM.out.fr.size
            exact ((Fr.of_below hV).byt (show Byt W9.drew w.heap.size Hb.A c.body from h2) h4 (fun ad e hx => by
              have e' : W9.heap.size ≤ ad.block := hx
              rcases Nat.eq_zero_or_pos c.body.length with h0 | h0
              · have h5 := HFB.out
                have h6 : c.body = [] := List.eq_nil_of_length_eq_zero h0
                rw [h6] at h5
                simp at h5
              · obtain ⟨ad', e1, e2, _⟩ := h1.2 h0
                rw [e] at e1; injection e1 with e1; subst e1
                omega)).more (by have := hV.size; show _ ≤ _; have e8 : W9.drew.heap.size = W9.heap.size := rfl; omega)
          clear ck6 ck3 ck7 ck8 ck18 hck18 hbn
          refine wp_region_stage_tail 13 (fun _ V V' => Below V.heap.size V V') (fun _ V => Hid (Below W9.heap.size W9.drew V)) [(false, .exact (.pointer (some ⟨gc, 6, none⟩))),
              (false, .exact (.int .u16 (c.st : Int))),
              (false, .exact (.pointer (some ⟨gc, 3, none⟩))),
              (false, .exact (.bool c.lo)),
              (false, .exact (.pointer (some ⟨gc, 7, none⟩))),
              (false, .exact (.int .u32 (mu : Int))),
              (false, .exact (.pointer (some ⟨gc, 8, none⟩))),
              (false, .exact (.int .u32 (c.pp : Int))),
              (false, .exact (.pointer (some ⟨gc, 18, none⟩))),
              (false, .exact (.slice Hb.A bn Hb.cap)),
              (false, .grows (OwnM W9.heap.size c.body)),
              (false, .grows (BldM W9.heap.size c.st c.lo mu c.pp c.body)),
              (false, .grows (AlcM W9.heap.size))] (by kernel_rfl) (by kernel_rfl) (by kernel_rfl) rfl (of_decide_eq_true (by kernel_rfl)) (by kernel_rfl) (by kernel_rfl) ?lasts ?start ?walk
          case lasts => exact ⟨fun mu v V V' _ h k => h.grows k, fun mu v V V' _ h k => h.grows k, fun mu v V V' _ h k => h.grows k, trivial⟩
          case start => exact Below.refl _ _
          case walk =>
            simp only [List.take_succ_cons, List.take_zero, List.drop_succ_cons, List.drop_zero]
            refine stageT_pure rfl (fun _ V => Below.refl _ V) (fun V m hS hl => by go_simp) ?_
            simp only [Act.put, List.setIfInBounds_toArray, List.set_cons_zero, List.set_cons_succ, List.cons_append, List.nil_append]
            refine stageT_pure rfl (fun _ V => Below.refl _ V) (fun V m hS hl => by
                have hc := (HCKS.out V hS.out).1
                go_simp) ?_
            simp only [Act.put, List.setIfInBounds_toArray, List.set_cons_zero, List.set_cons_succ, List.cons_append, List.nil_append]
            refine stageT_pure rfl (fun _ V => Below.refl _ V) (fun V m hS hl => by go_simp) ?_
            simp only [Act.put, List.setIfInBounds_toArray, List.set_cons_zero, List.set_cons_succ, List.cons_append, List.nil_append]
            refine stageT_pure rfl (fun _ V => Below.refl _ V) (fun V m hS hl => by
                have hc := (HCKS.out V hS.out).2.1
                go_simp) ?_
            simp only [Act.put, List.setIfInBounds_toArray, List.set_cons_zero, List.set_cons_succ, List.cons_append, List.nil_append]
            refine stageT_pure rfl (fun _ V => Below.refl _ V) (fun V m hS hl => by go_simp) ?_
            simp only [Act.put, List.setIfInBounds_toArray, List.set_cons_zero, List.set_cons_succ, List.cons_append, List.nil_append]
            refine stageT_pure rfl (fun _ V => Below.refl _ V) (fun V m hS hl => by
                have hc := (HCKS.out V hS.out).2.2.1
                go_simp) ?_
            simp only [Act.put, List.setIfInBounds_toArray, List.set_cons_zero, List.set_cons_succ, List.cons_append, List.nil_append]
            refine stageT_pure rfl (fun _ V => Below.refl _ V) (fun V m hS hl => by go_simp) ?_
            simp only [Act.put, List.setIfInBounds_toArray, List.set_cons_zero, List.set_cons_succ, List.cons_append, List.nil_append]
            refine stageT_pure rfl (fun _ V => Below.refl _ V) (fun V m hS hl => by
                have hc := (HCKS.out V hS.out).2.2.2.1
                go_simp) ?_
            simp only [Act.put, List.setIfInBounds_toArray, List.set_cons_zero, List.set_cons_succ, List.cons_append, List.nil_append]
            refine stageT_pure rfl (fun _ V => Below.refl _ V) (fun V m hS hl => by go_simp) ?_
            simp only [Act.put, List.setIfInBounds_toArray, List.set_cons_zero, List.set_cons_succ, List.cons_append, List.nil_append]
            refine stageT_pure rfl (fun _ V => Below.refl _ V) (fun V m hS hl => by
                have hc := (HCKS.out V hS.out).2.2.2.2
                go_simp) ?_
            simp only [Act.put, List.setIfInBounds_toArray, List.set_cons_zero, List.set_cons_succ, List.cons_append, List.nil_append]
            refine stageT_grows rfl (fun V m hS hl => by
                go_simp
                refine (bclone_big Hb.A c.body bn Hb.cap V HBN.out hbl9 (HBY.out V hS.out)).mono ?_
                rintro e V' ⟨⟨v, rfl, ho⟩, hb⟩
                exact ⟨_, rfl, hb, own_mono ho hS.out.size, hS.out.trans (hb.mono hS.out.size)⟩) (fun v67 => ?_)
            simp only [Act.put, List.setIfInBounds_toArray, List.set_cons_zero, List.set_cons_succ, List.cons_append, List.nil_append]
            refine stageT_grows rfl (fun V m hS hl => by
                show Words.Leaves _ _ _
                have ho : Words.Own V W9.heap.size _ c.body := (hl.1 (by kernel_rfl))
                obtain ⟨A9, c9, rfl, h9a, h9b⟩ := own_slice ho
                rw [exec_build5 43 rfl (.int .u16 (c.st : Int)) (.bool c.lo) (.int .u32 (mu : Int)) (.int .u32 (c.pp : Int)) (.slice A9 c.body.length c9) rfl rfl rfl rfl rfl _ (msg_built5 c.st c.lo mu c.pp A9 c.body.length c9)]
                exact ⟨Below.refl _ _, ⟨_, _, rfl, ho⟩, hS.out⟩) (fun v68 => ?_)
            simp only [Act.put, List.setIfInBounds_toArray, List.set_cons_zero, List.set_cons_succ, List.cons_append, List.nil_append]
            refine stageT_grows rfl (fun V m hS hl => by
                show Words.Leaves _ _ _
                rw [exec_alloc_mg rfl]
                exact ⟨below_one V _, ⟨_, rfl, hS.out.size, Blk.new V _ _⟩, hS.out.trans ((below_one V _).mono hS.out.size)⟩) (fun v10 => ?_)
            simp only [Act.put, List.setIfInBounds_toArray, List.set_cons_zero, List.set_cons_succ, List.cons_append, List.nil_append]
            refine stageT_nil (fun V2 hS hF => ?_)
            have hF2 : OwnM W9.heap.size c.body v67 V2 ∧ BldM W9.heap.size c.st c.lo mu c.pp c.body v68 V2 ∧ AlcM W9.heap.size v10 V2 ∧ True := hF
            have HBV : Hid (Below W9.heap.size W9.drew V2) := hS.out
            obtain ⟨A, cc, rfl, hown⟩ := hF2.2.1
            obtain ⟨gp, rfl, hgp, hbp⟩ := hF2.2.2.1
            rw [← HBN.out] at hown ⊢
            obtain ⟨hbod, hex2⟩ := own_body (w := W9) (T := T) hown HBN.out (Nat.le_refl _) HBV.out.size
            have hneA : ∀ ad, A = some ad → ¬ ad.block = gp := fun ad e e' => own_blk_ne hown hbp (by decide) (by rw [e]; show some ad.block = _; rw [e'])
            clear hS hF hF2 hown
            have hgpT : bodT W9 T A gp = 0 := by
              unfold bodT
              rw [if_neg (by omega), if_neg]
              intro e
              cases hA2 : A with
              | none => rw [hA2] at e; cases e
              | some ad => rw [hA2] at e; simp only [Option.map_some, Option.some.injEq] at e; exact hneA ad hA2 e
            obtain ⟨T2, hT2⟩ : ∃ T2, T2 = bodT W9 T A := ⟨_, rfl⟩
            rw [← hT2] at hbod hex2 hgpT
            obtain ⟨W10, hW10⟩ : ∃ W10, W10 = ((((V2.setCell ⟨gp, 0, none⟩ (.int .u16 (c.st : Int))).setCell ⟨gp, 1, none⟩ (.bool c.lo)).setCell ⟨gp, 2, none⟩ (.int .u32 (mu : Int))).setCell ⟨gp, 3, none⟩ (.int .u32 (c.pp : Int))).setCell ⟨gp, 4, none⟩ (.slice A bn cc) := ⟨_, rfl⟩
            have hf10 : Fr (fun i => i = gp) V2 W10 := by rw [hW10]; exact ((((((Fr.refl (fun i => i = gp) V2).setCell (p := ⟨gp, 0, none⟩) (.inl rfl) _).setCell (p := ⟨gp, 1, none⟩) (.inl rfl) _).setCell (p := ⟨gp, 2, none⟩) (.inl rfl) _).setCell (p := ⟨gp, 3, none⟩) (.inl rfl) _).setCell (p := ⟨gp, 4, none⟩) (.inl rfl) _)
            have HBP : Hid (Blk W10 gp 43 #[.int .u16 (c.st : Int), .bool c.lo, .int .u32 (mu : Int), .int .u32 (c.pp : Int), .slice A bn cc]) := by rw [hW10]; exact ((((hbp.set_ 0 _).set_ 1 _).set_ 2 _).set_ 3 _).set_ 4 _
            have hf9 : Fr (fun _ => False) W9 W10 := ((show Fr (fun _ => False) W9 V2 from ((Fr.refl (fun _ => False) W9).drew).trans (Fr.of_below HBV.out) (fun i hi e => by have e' : W9.heap.size ≤ i := e; have e8 : W9.drew.heap.size = W9.heap.size := rfl; omega))).trans hf10 (fun i hi e => by rw [show i = gp from e] at hi; omega)
            have hex10 : Ext W9 W10 T T2 := ⟨hex2.old, fun i hi => hex2.out i (by have := hf10.size; omega)⟩
            have z0 := hbp.cell 0
            have z1 := hbp.cell 1
            have z2 := hbp.cell 2
            have z3 := hbp.cell 3
            have z4 := hbp.cell 4
            have y0 := hbp.frozen 0
            have y1 := hbp.frozen 1
            have y2 := hbp.frozen 2
            have y3 := hbp.frozen 3
            have y4 := hbp.frozen 4
            simp only [List.getElem?_toArray, List.getElem?_cons_succ, List.getElem?_cons_zero] at z0 z1 z2 z3 z4
            have HBOD : Hid (BodT W10 T2 A cc c.body) := hbod.fr hf10 (fun i hi h5 e => by rw [show i = gp from e, hgpT] at h5; cases h5) (fun _ _ => rfl) (by
              intro e
              have h5 := HFB.out
              rw [e] at h5
              simp at h5)
            have HJ10 := Lib.hid (HM.out.jo.fr hf9 (fun _ _ _ h => h) hex10)
            have HL10 := Lib.hid (HM.out.ln.fr hf9 (fun _ _ _ h => h) (fun _ _ _ h => h) hex10.old)
            have HLA := Lib.hid (HM.out.l1.fr hf9 (fun h => h))
            have HL3 : Hid (∀ j x, L j = some x → BodT W10 T2 x.A x.cp x.m.body ∧ x.m.body ≠ []) := fun j x hx => ⟨(HM.out.l3 j x hx).1.fr hf9 (fun _ _ _ h => h) hex10.old (HM.out.l3 j x hx).2, (HM.out.l3 j x hx).2⟩
            have HCK := Lib.hid (hf9.blk HM.out.ck (fun h => h))
            have HGR := Lib.hid (hf9.blk HM.out.gr (fun h => h))
            have HFR : Hid (Fr (fun i => i < w.heap.size ∧ T i ≠ 0) w W10) := HM.out.fr.trans hf9 (fun _ _ e => e.elim)
            have HEX : Hid (Ext w W10 T T2) := HM.out.ext.trans hex10 HM.out.fr.size
            have HTC : Hid (T2 gc = 0 ∧ T2 gg = 0) := ⟨by rw [hex10.old gc (Blk.lt HM.out.ck)]; exact HM.out.tc, by rw [hex10.old gg (Blk.lt HM.out.gr)]; exact HM.out.tg⟩
            have HFG := Lib.hid HM.out.hF
            have HL2 := Lib.hid HM.out.l2
            have HNO := Lib.hid HM.out.no
            obtain ⟨x, hx⟩ : ∃ x : Fg, x = ⟨c.bg, c.en, ⟨c.st, c.lo, mu, c.pp, c.body⟩, A, cc⟩ := ⟨_, rfl⟩
            have hxv : fgV x = .agg #[.bool c.bg, .bool c.en, .int .u16 (c.st : Int), .bool c.lo, .int .u32 (mu : Int), .int .u32 (c.pp : Int), .slice A bn cc] := by rw [hx, HBN.out]; rfl
            have HFIT : Hid (Fits x (pcOf inter c)) := by rw [HPC.out, hx]; exact ⟨rfl, rfl, rfl⟩
            have HXB : Hid (x.A = A ∧ x.cp = cc ∧ x.m.body = c.body) := by rw [hx]; exact ⟨rfl, rfl, rfl⟩
            obtain ⟨W11, hput11, hm11, hturn11⟩ := MapX.put HLA.out (t := 83) Try.underlying83 (x := i) hi32 (fgV x)
            rw [hxv] at hput11
            have hput12 : (Instr.mapUpdate 83 (.map (some b)) (.int .u32 (i : Int)) (.agg #[.bool c.bg, .bool c.en, .int .u16 (c.st : Int), .bool c.lo, .int .u32 (mu : Int), .int .u32 (c.pp : Int), .slice A bn cc])).run Try.prog W10 = .ok () W11 := hput11
            have hf11 : Fr (fun i => i = b) W10 W11 := (Fr.of_grown hturn11.grown).mono (fun i hi e => by injection e)
            have hla11 : LineAt W11 b (fun j => if j = idxP inter (pcOf inter c) then some x else L j) := hm11.as_ (fun j => by
              rw [HIX.out]
              unfold putF
              show (if j = i then some (fgV x) else (L j).map fgV) = (if j = i then some x else L j).map fgV
              by_cases e : j = i
              · rw [if_pos e, if_pos e]; rfl
              · rw [if_neg e, if_neg e])
            have hne0 : c.body ≠ [] := by
              intro e
              have h5 := HFB.out
              rw [e] at h5
              simp at h5
            have hadd := HL10.out.lns.add (c := pcOf inter c) (by rw [HKG.out]; exact HFG.out) HLA.out (by rw [HKG.out]; exact HL2.out) HL3.out (by rw [HIX.out]; exact HNO.out) HFIT.out (by rw [HXB.out.1, HXB.out.2.1, HXB.out.2.2]; exact HBOD.out) (by rw [HXB.out.2.2]; exact hne0) hla11 hf11
            have htb : T2 b = 2 := (HL10.out.lns.line g b HFG.out).1
            have hbbl : b ≠ bl := (HL10.out.lns.line g b HFG.out).2.1
            have hbw10 : b < W10.heap.size := HLA.out.lt
            have HADD := Lib.hid hadd
            have HLA11 := Lib.hid hla11
            have HTB := Lib.hid htb
            have HBBL := Lib.hid hbbl
            have HJ11 := Lib.hid (HJ10.out.fr hf11 (fun i hi e e' => by rw [show i = b from e', htb] at e; rcases e with e | e | e | e <;> cases e) (Ext.same HJ10.out.out hf11.size))
            have HMB11 : Hid (MapX grpX W11 bl fun z => (F z).map lptr) := HL10.out.map.fr hf11 (fun e => hbbl e.symm)
            have HCK11 := Lib.hid (hf11.blk HCK.out (fun e => by have := HTC.out.1; rw [show gc = b from e, htb] at this; cases this))
            have HGR11 := Lib.hid (hf11.blk HGR.out (fun e => by have := HTC.out.2; rw [show gg = b from e, htb] at this; cases this))
            have hgpb : ¬ gp = b := fun e => by rw [e, htb] at hgpT; cases hgpT
            have HBP11 := Lib.hid (hf11.blk HBP.out hgpb)
            have HF11 : Hid (Fr (fun i => i = b) W10 W11) := hf11
            have hld : ∀ j v, (#[.int .u16 (c.st : Int), .bool c.lo, .int .u32 (mu : Int), .int .u32 (c.pp : Int), .slice A bn cc] : Array Value)[j]? = some v → W10.cell? ((⟨gp, 0, none⟩ : Addr).add j) = some v := fun j v hv => by rw [HBP.out.cellAdd]; exact hv
            have k1 := (HCK.out.cell 1).trans HCC.out.c1
            have k2 := (HCK.out.cell 2).trans HCC.out.c2
            have HTBL : Hid (T2 bl = 2) := HL10.out.tbl
            clear hput11 hm11 hturn11 hla11 hadd hxv hx hbod hex2 hf9 hex10 hneA hgpT HCKS HBY HBV htb hbbl hT2 HLI
            go_upto_region 13 with (fail)
            rw [← hW10]
            clear hW10 z0 z1 z2 z3 z4 y0 y1 y2 y3 y4 hbp hf10
            have k1' : W10.cell? ⟨gc, 1, none⟩ = some (.bool c.bg) := k1
            have k2' : W10.cell? ⟨gc, 2, none⟩ = some (.bool c.en) := k2
            clear k1 k2
            go_upto_region 14 with (refine wpList_load_any rfl 43 _ rfl ⟨gp, 0, none⟩ (by first | rfl | simp) #[.int .u16 (c.st : Int), .bool c.lo, .int .u32 (mu : Int), .int .u32 (c.pp : Int), .slice A bn cc] _ hld Try.underlying43 rfl msg_sz ?_)
            have c4 := HJ11.out.jb.c4
            have f4 := Blk.frozen HJ11.out.jb 4
            have g4 := HBP11.out.cell 4
            simp only [List.getElem?_toArray, List.getElem?_cons_succ, List.getElem?_cons_zero] at g4
            obtain ⟨hh, hhh⟩ : ∃ hh, hh = Jo.held s := ⟨_, rfl⟩
            obtain ⟨h2, hh2⟩ : ∃ h2, h2 = hh + bn := ⟨_, rfl⟩
            have hz2 : h2 ≤ 2000000000 := by rw [hh2, hhh, HBN.out]; exact HZ.out
            have hsum : (hh : Int) + (bn : Int) = (h2 : Int) := by omega
            have hwr : IntKind.i64.wrap (h2 : Int) = (h2 : Int) := IntWalk.i64_in _ (by omega)
            rw [← hhh] at c4
            have HH2 : Hid (h2 = Jo.held s + (pcOf inter c).body.length) := by rw [HPC.out]; show h2 = Jo.held s + c.body.length; rw [hh2, hhh, HBN.out]
            have HZ2 : Hid (h2 ≤ 2000000000) := hz2
            clear hhh hh2 hld hput12 k1' k2'
            go_region
            obtain ⟨W12, hW12⟩ : ∃ W12, W12 = (W11.setCell ⟨p, 4, none⟩ (.int .i64 (h2 : Int))).drew := ⟨_, rfl⟩
            have hf12 : Fr (fun i => i = p) W11 W12 := by rw [hW12]; exact ((Fr.refl (fun i => i = p) W11).setCell (p := ⟨p, 4, none⟩) (.inl rfl) _).drew
            have hjb12 : JB W12 p inter bl bo rv h2 := by rw [hW12]; exact HJ11.out.jb.held h2
            have htp : T2 p = 1 := HJ11.out.tp
            have HJ12 := Lib.hid (HJ11.out.reheld (hf12.mono (fun i hi e => ⟨hi, .inr e⟩)) hjb12)
            have hn12 : ∀ i, T2 i ≠ 1 → ¬ i = p := fun i hi e => hi (by rw [e]; exact htp)
            have HLN12 : Hid (LinesR W12 T2 bl inter F (pcOf inter c :: s.pcs)) := ⟨HTBL.out, HMB11.out.fr hf12 (hn12 bl (by rw [HTBL.out]; decide)), HADD.out.1.fr hf12 (fun i hi e _ => hn12 i (by rw [e]; decide)) (fun i hi e => hn12 i (by rw [e]; decide)) (fun _ _ => rfl)⟩
            have HLA12 := Lib.hid (HLA11.out.fr hf12 (hn12 b (by rw [HTB.out]; decide)))
            have HGR12 := Lib.hid (hf12.blk HGR11.out (hn12 gg (by rw [HTC.out.2]; decide)))
            have HBD12 : Hid (∀ j y, (if j = idxP inter (pcOf inter c) then some x else L j) = some y → BodT W12 T2 y.A y.cp y.m.body ∧ y.m.body ≠ []) := fun j y hy => ⟨(HADD.out.2.2 j y hy).1.fr hf12 (fun i hi e => hn12 i (by rw [e]; decide)) (fun _ _ => rfl) (HADD.out.2.2 j y hy).2, (HADD.out.2.2 j y hy).2⟩
            have hfa : Fr (fun i => i < w.heap.size ∧ T i ≠ 0) w W12 := (HFR.out.trans HF11.out (fun i hi e => ⟨hi, by rw [← HEX.out.old i hi, show i = b from e, HTB.out]; decide⟩)).trans hf12 (fun i hi e => ⟨hi, by rw [← HEX.out.old i hi, show i = p from e, htp]; decide⟩)
            have HFA := Lib.hid hfa
            have HEA : Hid (Ext w W12 T T2) := ⟨HEX.out.old, fun i hi => HEX.out.out i (by have := HF11.out.size; have := hf12.size; omega)⟩
            have HPOK : Hid (PcOk inter (pcOf inter c)) := by
              rw [HPC.out]
              have h5 := HFB.out
              refine ⟨?_, HOKC.out.st, HMOK.out, ?_, fun hI => ?_, fun hI => ?_⟩
              · intro e
                have e' : c.body = [] := e
                rw [e'] at h5
                simp at h5
              · unfold idxP
                split
                · exact HOKC.out.fr
                · exact HOKC.out.tsn
              · subst hI
                simp at h5
                exact h5.2.1
              · subst hI
                simp at h5
                exact h5.2.2
            have HALL : Hid (∀ q ∈ pcOf inter c :: s.pcs, PcOk inter q) := fun q hq => by
              rcases List.mem_cons.1 hq with rfl | hq
              · exact HPOK.out
              · exact HK.out.pok q hq
            have HNR : Hid (¬ Jo.Refused inter s (pcOf inter c)) := by
              intro hr
              have hkg := HKG.out
              have hix := HIX.out
              rw [HPC.out] at hr hkg hix
              have h5 := HFB.out
              have h6 := HLB.out
              rcases hr with hr | ⟨hr1, hr2⟩ | ⟨hI, hr⟩ | ⟨hI, q, hq, hr⟩
              · exact HPOK.out.ne (by rw [HPC.out]; exact hr)
              · have hlo : c.lo = false := hr1
                unfold lateB at h6
                rw [hlo] at h6
                simp only [Bool.not_false, Bool.true_and] at h6
                rcases hr2 with h7 | ⟨q, q1, q2, q3⟩
                · have h8 := (ltB_eq (inter := inter) mu (s.next c.st)).2 h7
                  rw [h8, Bool.or_true] at h6; cases h6
                · have h8 : waitB s.wait c.st mu = true := waitB_iff.2 ⟨q, q1, q2, q3⟩
                  rw [h8] at h6; cases h6
              · subst hI
                rcases hr with hr | hr | ⟨q, hq, hr1, hr2⟩
                · exact hr (by have := HPOK.out.bg rfl; rw [HPC.out] at this; exact this)
                · have h8 := HPOK.out.fr rfl
                  rw [HPC.out] at h8
                  have hr' : 65535 < c.fr := hr
                  have h8' : c.fr ≤ 65535 := h8
                  omega
                · have h9 : q ∈ atK true g s.pcs := List.mem_filter.2 ⟨hq, by rw [← hkg, ← same_key hr1]; simp⟩
                  obtain ⟨y, hy, _⟩ := HL2.out.has q h9
                  have e : idxP true q = i := by rw [← hix]; exact hr2
                  rw [e, HNO.out] at hy; cases hy
              · subst hI
                have h9 : q ∈ atK false g s.pcs := List.mem_filter.2 ⟨hq, by rw [← hkg]; simp [keyP, keyC]⟩
                obtain ⟨y, hy, _⟩ := HL2.out.has q h9
                have e : idxP false q = i := by rw [← hix]; exact hr
                rw [e, HNO.out] at hy; cases hy
            have hlenA : (atK inter g (pcOf inter c :: s.pcs)).length ≤ 2000000000 := by
              have h1 := List.length_filter_le (fun q => decide (keyP inter q = g)) (pcOf inter c :: s.pcs)
              have h3 := pcs_len (pcOf inter c :: s.pcs) (fun q hq => (HALL.out q hq).ne)
              have h4 : Jo.sizeP (pcOf inter c :: s.pcs) = (pcOf inter c).body.length + Jo.sizeP s.pcs := by simp [Jo.sizeP]
              have h5 := HH2.out
              have h6 := HZ2.out
              unfold Jo.held at h5
              unfold atK
              omega
            have HLENA := Lib.hid hlenA
            have hln12 : LnOf (idxP inter) (fun j => if j = idxP inter (pcOf inter c) then some x else L j) (atK inter g (pcOf inter c :: s.pcs)) := by have := HADD.out.2.1; rw [HKG.out] at this; exact this
            have HLN2 := Lib.hid hln12
            obtain ⟨L2, hL2⟩ : ∃ L2 : Nat → Option Fg, L2 = fun j => if j = idxP inter (pcOf inter c) then some x else L j := ⟨_, rfl⟩
            rw [← hL2] at HLA12 HLN2 hln12
            have HL2i : Hid (L2 i = some x) := by rw [hL2, HIX.out]; exact if_pos rfl
            have HBD2 : Hid (∀ j y, L2 j = some y → BodT W12 T2 y.A y.cp y.m.body ∧ y.m.body ≠ []) := by rw [hL2]; exact HBD12.out
            have hwh := whole_any HLA12.out (hln12.few hlenA) hi32
            rw [← hW12]
            clear hW12 hf12 hjb12 htp hn12 hfa hlenA hln12 hL2 c4 f4 g4 hsum hwr HADD HBD12 HLA11 HGR11 HBP11 HF11 HJ11 HMB11 HCK11 HLA HJ10 HL10 HL3 HFR HEX HFIT HXB HBOD HCK HGR HBP HL2 HNO HM
            go_upto_region 15 with (fail)
            go_wp2_with fail
            refine hwh.mono ?_
            clear hwh
            rintro e w13 ⟨hd, hb13⟩
            have hf13 : Fr (fun _ => False) W12 w13 := (Fr.of_below hb13).mono (fun i hi e => by have e' : W12.heap.size ≤ i := e; omega)
            have HJ13 := Lib.hid (HJ12.out.fr hf13 (fun _ _ _ h => h) (Ext.same HJ12.out.out hf13.size))
            have HLN13 := Lib.hid (HLN12.out.fr (T' := T2) hf13 (fun _ _ _ h => h) (fun _ _ _ h => h) (fun _ _ => rfl))
            have HLA13 := Lib.hid (HLA12.out.fr hf13 (fun h => h))
            have HGR13 := Lib.hid (hf13.blk HGR12.out (fun h => h))
            have HBD13 : Hid (∀ j y, L2 j = some y → BodT w13 T2 y.A y.cp y.m.body ∧ y.m.body ≠ []) := fun j y hy => ⟨(HBD2.out j y hy).1.fr hf13 (fun _ _ _ h => h) (fun _ _ => rfl) (HBD2.out j y hy).2, (HBD2.out j y hy).2⟩
            have HFA13 : Hid (Fr (fun i => i < w.heap.size ∧ T i ≠ 0) w w13) := HFA.out.trans hf13 (fun _ _ e => e.elim)
            have HEA13 : Hid (Ext w w13 T T2) := ⟨HEA.out.old, fun i hi => HEA.out.out i (by have := hf13.size; omega)⟩
            clear hf13 hb13 HJ12 HLN12 HLA12 HGR12 HBD2 HFA HEA
            rcases hd with ⟨rfl, hno⟩ | ⟨a, cc2, ha, hc2, rfl, hch⟩
            · have HEND : Hid (PutDone w (fun i => T i ≠ 0) p inter s (pcOf inter c) (.returned (.bool true)) w13) := put_more HK.out HNR.out (by rw [← HH2.out]; exact HJ13.out) HLN13.out HPOK.out (by rw [← HH2.out]; exact HZ2.out) HFA13.out HEA13.out (fun Lw h1 h2 h3 => whole_none HALL.out (by rw [HKG.out]; exact HLN2.out) (by rw [HKG.out]; exact HLENA.out) (by rw [HIX.out]; exact hno) h1 h2 h3)
              clear hno
              go_wp2_with fail
              go_ret
              exact HEND.out
            · obtain ⟨hn, zs, hcut, hfol⟩ := chain_cut hi32 ⟨x, HL2i.out⟩ HLN2.out HLENA.out ha hc2 hch
              obtain ⟨n, hnn⟩ : ∃ n, n = a + cc2 := ⟨_, rfl⟩
              obtain ⟨f, hff⟩ : ∃ f, f = dn i a := ⟨_, rfl⟩
              obtain ⟨l, hll⟩ : ∃ l, l = up i cc2 := ⟨_, rfl⟩
              have hlf : l = up f n := by rw [hll, hff, hnn]; unfold up dn; omega
              have hf32 : f < 4294967296 := by rw [hff]; unfold dn; omega
              have hWh := hcut.whole hi32 hn hch hfol HALL.out
              rw [← hnn] at hn hcut
              rw [← hff] at hcut ⊢
              rw [← hll]
              have hzlen : zs.length = n + 1 := hcut.len
              have hperm := hcut.perm hf32 hn HLN2.out HALL.out
              have hfits : ∀ z ∈ zs, Fits z.1 z.2 := fun z hz => by
                obtain ⟨j, hj, rfl⟩ := List.mem_iff_getElem.1 hz
                exact (hcut.at_ j _ (List.getElem?_eq_getElem hj)).2.2.2
              obtain ⟨z0, hz0⟩ : ∃ z0, zs[0]? = some z0 := ⟨_, List.getElem?_eq_getElem (by omega)⟩
              have hpcin : pcOf inter c ∈ zs.map (·.2) := by
                have ha2 : a < zs.length := by omega
                obtain ⟨_, q2, q3, _⟩ := hcut.at_ a zs[a] (List.getElem?_eq_getElem ha2)
                have h6 : pcOf inter c ∈ atK inter g (pcOf inter c :: s.pcs) := List.mem_filter.2 ⟨List.mem_cons_self, by rw [HKG.out]; simp⟩
                have h7 : idxP inter zs[a].2 = idxP inter (pcOf inter c) := by rw [q3, HIX.out, hff]; unfold up dn; omega
                have h8 := pw_inj HLN2.out.nd q2 h6 h7
                exact List.mem_map.2 ⟨zs[a], List.getElem_mem ha2, h8⟩
              have hbz := cut_bodies zs hfits
              have hsz : (catF (zs.map (·.1))).length + Jo.sizeP (restP inter g f n (pcOf inter c :: s.pcs)) = (pcOf inter c).body.length + Jo.sizeP s.pcs := by
                have e1 := Jo.sizeP_perm hperm
                rw [Jo.sizeP_append, hbz.2] at e1
                have ec : Jo.sizeP (pcOf inter c :: s.pcs) = (pcOf inter c).body.length + Jo.sizeP s.pcs := by simp [Jo.sizeP]
                omega
              have hcat : (catF (zs.map (·.1))).length ≤ 2000000000 := by
                have e2 := HH2.out
                have e3 := HZ2.out
                unfold Jo.held at e2
                omega
              have hT13 : T2 b = 2 := HTB.out
              have hcx : CutX w13 b L2 f (zs.map (·.1)) := ⟨fun q y hq => by
                rw [List.getElem?_map] at hq
                cases hzq : zs[q]? with
                | none => rw [hzq] at hq; cases hq
                | some z => rw [hzq] at hq; injection hq with hq; rw [← hq]; exact (hcut.at_ q z hzq).1, fun q y hq => by
                rw [List.getElem?_map] at hq
                cases hzq : zs[q]? with
                | none => rw [hzq] at hq; cases hq
                | some z =>
                  rw [hzq] at hq; injection hq with hq; subst hq
                  have h9 := (HBD13.out _ _ (hcut.at_ q z hzq).1).1
                  exact ⟨h9.rd, fun ad e e' => by have h10 := h9.own ad e; rw [e', hT13] at h10; cases h10⟩, fun q y hq => by
                rw [List.getElem?_map] at hq
                cases hzq : zs[q]? with
                | none => rw [hzq] at hq; cases hq
                | some z => rw [hzq] at hq; injection hq with hq; subst hq; exact (HBD13.out _ _ (hcut.at_ q z hzq).1).2⟩
              have hcall := cut_any joinC HLA13.out hf32 hlf hn (by rw [List.length_map]; exact hzlen) (x0 := z0.1) (by rw [List.getElem?_map, hz0]; rfl) hcx hcat
              have HWH := Lib.hid hWh
              have HPERM := Lib.hid hperm
              have HFITS := Lib.hid hfits
              have HZ0 := Lib.hid hz0
              have HPCIN := Lib.hid hpcin
              have HSZ := Lib.hid hsz
              have HCAT := Lib.hid hcat
              have HF32 := Lib.hid hf32
              have HN := Lib.hid hn
              have HCNE : Hid (catF (zs.map (·.1)) ≠ []) := by
                intro e
                have e1 := hbz.2
                rw [e] at e1
                have e2 := pcs_len (zs.map (·.2)) (fun q hq => (HALL.out q (hperm.mem_iff.2 (List.mem_append.2 (.inl hq)))).ne)
                rw [List.length_map, hzlen] at e2
                simp at e1
                omega
              clear hcut hfol hch ha hc2 hnn hff hll hlf hWh hzlen hperm hfits hz0 hpcin hbz hsz hcat hcx hT13 hf32 hn
              go_wp2_with fail
              refine hcall.mono ?_
              clear hcall
              rintro e w14 ⟨A2, n2, c2, rfl, hn2, hnc2, hcm2, hby2, hA2, hla14, hf14⟩
              obtain ⟨cat, hcatE⟩ : ∃ cat, cat = catF (zs.map (·.1)) := ⟨_, rfl⟩
              rw [← hcatE] at hn2 hby2
              have HCATE := Lib.hid hcatE
              have hcne : cat ≠ [] := by rw [hcatE]; exact HCNE.out
              obtain ⟨q1, hq1⟩ : ∃ q, q = z0.1.m.st := ⟨_, rfl⟩
              obtain ⟨q2, hq2⟩ : ∃ q, q = z0.1.m.lo := ⟨_, rfl⟩
              obtain ⟨q3, hq3⟩ : ∃ q, q = z0.1.m.mid := ⟨_, rfl⟩
              obtain ⟨q4, hq4⟩ : ∃ q, q = z0.1.m.pp := ⟨_, rfl⟩
              have HMSG : Hid (Jo.msgOf (zs.map (·.2)) = ⟨q1, q2, q3, q4, cat⟩) := by rw [hq1, hq2, hq3, hq4, hcatE]; exact cut_msg HFITS.out HZ0.out
              have hp0 : ∃ p0, p0 ∈ zs.map (·.2) ∧ p0.st = q1 ∧ p0.lo = q2 ∧ p0.mid = q3 := by
                have hin : z0 ∈ zs := List.mem_of_getElem? HZ0.out
                have hm0 := (HFITS.out z0 hin).m
                exact ⟨z0.2, List.mem_map.2 ⟨z0, hin, rfl⟩, by rw [hq1, hm0]; rfl, by rw [hq2, hm0]; rfl, by rw [hq3, hm0]; rfl⟩
              have HSAME : Hid (q1 = (pcOf inter c).st ∧ q2 = (pcOf inter c).lo ∧ (q2 = false → q3 = (pcOf inter c).mid)) := by
                obtain ⟨p0, h1, h2, h3, h4⟩ := hp0
                obtain ⟨r1, r2, r3⟩ := whole_same HWH.out h1 HPCIN.out
                exact ⟨h2.symm.trans r1, h3.symm.trans r2, fun hl => h4.symm.trans (r3 (h3.trans hl))⟩
              simp only [mCells, ← hq1, ← hq2, ← hq3, ← hq4]
              have hA2lt : ∀ ad, A2 = some ad → ad.block < w14.heap.size := fun ad e => by
                have hpos : 0 < cat.length := List.length_pos_iff.2 hcne
                obtain ⟨ad', e1, e2, _⟩ := hby2.2 hpos
                rw [e] at e1; injection e1 with e1; subst e1; exact e2
              obtain ⟨T3, hT3⟩ : ∃ T3, T3 = bodT w13 T2 A2 := ⟨_, rfl⟩
              have hold3 : ∀ i, i < w13.heap.size → T3 i = T2 i := fun i hi => by rw [hT3]; exact if_pos hi
              have hout3 : ∀ i, w14.heap.size ≤ i → T3 i = 0 := fun i hi => by
                rw [hT3]
                unfold bodT
                rw [if_neg (by have := hf14.size; omega)]
                split
                · rename_i e
                  cases hAA : A2 with
                  | none => rw [hAA] at e; cases e
                  | some ad =>
                    rw [hAA] at e
                    simp only [Option.map_some, Option.some.injEq] at e
                    have := hA2lt ad hAA
                    omega
                · rfl
              have hbod14 : BodT w14 T3 A2 c2 cat := ⟨hby2, by omega, hcm2, fun ad e => by rw [hT3]; unfold bodT; rw [if_neg (by have := hA2 ad e; omega), if_pos (by rw [e]; rfl)]⟩
              have htb3 : T3 b = 2 := by rw [hold3 b HLA13.out.lt]; exact HTB.out
              have hl13 : LnsR w13 T3 bl inter F (pcOf inter c :: s.pcs) := HLN13.out.lns.fr (Fr.refl (fun _ => False) w13) (fun _ _ _ _ h => h) (fun _ _ _ h => h) hold3
              have hl14 := hl13.cut HFG.out HF32.out HN.out HLN2.out HALL.out (fun j y hy => ⟨(HBD13.out j y hy).1.fr (Fr.refl (fun _ => False) w13) (fun _ _ _ h => h) hold3 (HBD13.out j y hy).2, (HBD13.out j y hy).2⟩) hla14 hf14
              obtain ⟨W15, hW15⟩ : ∃ W15, W15 = w14.alloc (.cells #[.int .u16 (q1 : Int), .bool q2, .int .u32 (q3 : Int), .int .u32 (q4 : Int), .slice A2 n2 c2] 43) := ⟨_, rfl⟩
              obtain ⟨gm, hgm⟩ : ∃ gm, gm = w14.heap.size := ⟨_, rfl⟩
              have hf15 : Fr (fun _ => False) w14 W15 := by rw [hW15]; exact (Fr.refl _ w14).alloc _
              have HBM : Hid (Blk W15 gm 43 #[.int .u16 (q1 : Int), .bool q2, .int .u32 (q3 : Int), .int .u32 (q4 : Int), .slice A2 n2 c2]) := by rw [hW15, hgm]; exact Blk.new _ _ _
              have hfb : Fr (fun i => i = b) w13 W15 := hf14.trans hf15 (fun _ _ e => e.elim)
              have hex15 : Ext w13 W15 T2 T3 := ⟨hold3, fun i hi => hout3 i (by have := hf15.size; omega)⟩
              have HX15 := Lib.hid hex15
              have HJ15 := Lib.hid (HJ13.out.fr hfb (fun i hi e e' => by rw [show i = b from e', HTB.out] at e; rcases e with e | e | e | e <;> cases e) hex15)
              have HL15 : Hid (LinesR W15 T3 bl inter F (restP inter g f n (pcOf inter c :: s.pcs))) := ⟨by rw [hold3 bl HLN13.out.map.lt]; exact HTBL.out, HLN13.out.map.fr hfb (fun e => HBBL.out e.symm), hl14.fr hf15 (fun _ _ _ _ h => h) (fun _ _ _ h => h) (fun _ _ => rfl)⟩
              have HMG15 : Hid (BodT W15 T3 A2 c2 cat) := hbod14.fr hf15 (fun _ _ _ h => h) (fun _ _ => rfl) hcne
              have HGR15 : Hid (Blk W15 gg 79 #[.int .u16 (g1 : Int), .bool g2, .int .u32 (g3 : Int)]) := hfb.blk HGR13.out (fun e => by have := HTC.out.2; rw [show gg = b from e, HTB.out] at this; cases this)
              have HTG3 : Hid (T3 gm = 0) := hout3 gm (by omega)
              have HN2 := Lib.hid hn2
              have HCN := Lib.hid hcne
              have HF15 : Hid (Fr (fun i => i < w.heap.size ∧ T i ≠ 0) w W15) := HFA13.out.trans hfb (fun i hi e => ⟨hi, by rw [← HEA13.out.old i hi, show i = b from e, HTB.out]; decide⟩)
              have HE15 : Hid (Ext w W15 T T3) := HEA13.out.trans hex15 HFA13.out.size
              have hgl : ∀ j v, (#[.int .u16 (g1 : Int), .bool g2, .int .u32 (g3 : Int)] : Array Value)[j]? = some v → W15.cell? ((⟨gg, 0, none⟩ : Addr).add j) = some v := fun j v hv => by rw [HGR15.out.cellAdd]; exact hv
              have htidy := tidy_any HJ15.out.jb HJ15.out.tp HL15.out HJ15.out.out (by have e2 := HH2.out; have e3 := HSZ.out; unfold Jo.held at e2; omega) HZ2.out HFG.out HDOM.out
              rw [HGE.out] at htidy
              clear hT3 hold3 hout3 hbod14 htb3 hl13 hl14 hf15 hfb hex15 hq1 hq2 hq3 hq4 hcatE hn2 hnc2 hby2 hA2 hla14 hf14 hA2lt hp0 hcne
              go_upto_region 18 with (fail)
              rw [← hW15, ← hgm]
              clear hW15 hgm
              go_wp2_with (refine wpList_load_any rfl 79 _ rfl ⟨gg, 0, none⟩ (by first | rfl | simp) #[.int .u16 (g1 : Int), .bool g2, .int .u32 (g3 : Int)] _ hgl Try.underlying79 rfl grp_sz ?_)
              refine htidy.mono ?_
              clear htidy hgl
              rintro e w16 ⟨F3, rfl, hl16, hj16, hf16⟩
              obtain ⟨rest, hrest⟩ : ∃ rest, rest = restP inter g f n (pcOf inter c :: s.pcs) := ⟨_, rfl⟩
              rw [← hrest] at hl16 hj16
              obtain ⟨rest4, hrest4⟩ : ∃ rest4, rest4 = (if inter = true then dropK inter g (fun _ => true) rest else rest) := ⟨_, rfl⟩
              obtain ⟨h4, hh4⟩ : ∃ h4, h4 = h2 - (if inter = true then Jo.sizeP (atK inter g rest) else 0) := ⟨_, rfl⟩
              rw [← hrest4] at hl16
              rw [← hh4] at hj16
              have hsub4 : ∀ q ∈ rest4, q ∈ pcOf inter c :: s.pcs := fun q hq => by
                have h1 : q ∈ rest := by
                  rw [hrest4] at hq
                  split at hq
                  · exact (List.mem_filter.1 hq).1
                  · exact hq
                rw [hrest] at h1
                exact (List.mem_filter.1 h1).1
              have hsz4 : h4 = Jo.sizeP rest4 + Jo.sizeM s.wait + Jo.sizeM s.ready + cat.length := by
                have e1 := HSZ.out
                have e2 := HH2.out
                rw [← hrest, ← HCATE.out] at e1
                unfold Jo.held at e2
                rw [hh4, hrest4]
                cases inter
                · simp only [Bool.false_eq_true, if_false] at e1 e2 ⊢
                  omega
                · simp only [if_true] at e1 e2 ⊢
                  have e3 := sizeP_split (fun q => decide (keyP true q = g)) rest
                  have e4 : dropK true g (fun _ => true) rest = rest.filter fun q => !decide (keyP true q = g) := rfl
                  rw [e4]
                  unfold atK
                  omega
              have hrest5 : rest4 = if inter = true then rest.filter (fun q => !decide (Jo.same true q (pcOf inter c))) else rest := by
                rw [hrest4]
                have hkg := HKG.out
                cases inter
                · rfl
                · simp only [if_true]
                  refine List.filter_congr fun q _ => ?_
                  have e5 : (decide (keyP true q = g)) = decide (Jo.same true q (pcOf true c)) := decide_eq_decide.2 (by
                    rw [← hkg]
                    constructor
                    · intro e
                      unfold keyP keyC at e
                      rw [if_pos rfl, if_pos rfl] at e
                      injection e with e1 e2 e3
                      exact ⟨e1, e2, .inl e3⟩
                    · intro e
                      exact (same_key e).symm)
                  rw [← e5]
                  simp
              have hle4 : h4 ≤ 2000000000 := by rw [hh4]; have := HZ2.out; omega
              have hn16 : ∀ i, i < W15.heap.size → (T3 i ≠ 2 ∧ T3 i ≠ 1) → ¬ (i < W15.heap.size ∧ (T3 i = 2 ∨ i = p)) := fun i hi e hx => by
                rcases hx.2 with h | h
                · exact e.1 h
                · exact e.2 (by rw [h]; exact HJ15.out.tp)
              have HJ16 := Lib.hid (HJ15.out.reheld hf16 hj16)
              have HMG16 : Hid (MgOk w16 T3 ⟨⟨q1, q2, q3, q4, cat⟩, A2, c2⟩) := ⟨HMG15.out.fr hf16 (fun i hi h5 => hn16 i hi ⟨by rw [h5]; decide, by rw [h5]; decide⟩) (fun _ _ => rfl) HCN.out, HCN.out⟩
              have hbm16 := hf16.blk HBM.out (hn16 gm (Blk.lt HBM.out) ⟨by rw [HTG3.out]; decide, by rw [HTG3.out]; decide⟩)
              have hml : ∀ j v, (#[.int .u16 (q1 : Int), .bool q2, .int .u32 (q3 : Int), .int .u32 (q4 : Int), .slice A2 n2 c2] : Array Value)[j]? = some v → w16.cell? ((⟨gm, 0, none⟩ : Addr).add j) = some v := fun j v hv => by rw [hbm16.cellAdd]; exact hv
              have HL16 := Lib.hid hl16
              have HF16 : Hid (Fr (fun i => i < w.heap.size ∧ T i ≠ 0) w w16) := HF15.out.trans hf16 (fun i hi e => ⟨hi, by
                rw [← HE15.out.old i hi]
                rcases e.2 with e | e
                · rw [e]; decide
                · rw [e, HJ15.out.tp]; decide⟩)
              have HE16 : Hid (Ext w w16 T T3) := ⟨HE15.out.old, fun i hi => HE15.out.out i (by have := hf16.size; omega)⟩
              have HRST := Lib.hid hrest
              have HRST5 := Lib.hid hrest5
              have HSZ4 := Lib.hid hsz4
              have HLE4 := Lib.hid hle4
              have HSUB := Lib.hid hsub4
              have hlateB := HLB.out
              have hpcs := HPC.out
              have hxl16 := HK.out.few
              have harr := arrive_any HJ16.out hxl16 (x := ⟨⟨q1, q2, q3, q4, cat⟩, A2, c2⟩) HMG16.out (by show q1 < 65536; rw [HSAME.out.1, hpcs]; exact HOKC.out.st) (fun hl => by
                have hl' : q2 = false := hl
                have e3 := HSAME.out.2.2 hl'
                have e2 := HSAME.out.2.1
                have e1 := HSAME.out.1
                rw [hpcs] at e1 e2 e3
                have e1' : q1 = c.st := e1
                have e2' : q2 = c.lo := e2
                have e3' : q3 = mu := e3
                show MidOk inter q3 ∧ waitB s.wait q1 q3 = false
                rw [e1', e3']
                refine ⟨HMOK.out, ?_⟩
                unfold lateB at hlateB
                rw [← e2', hl'] at hlateB
                simp only [Bool.not_false, Bool.true_and] at hlateB
                cases hw : waitB s.wait c.st mu with
                | false => rfl
                | true => rw [hw] at hlateB; cases hlateB)
              have harr2 : Calls Try.prog 36 #[jptr p, .agg #[.int .u16 (q1 : Int), .bool q2, .int .u32 (q3 : Int), .int .u32 (q4 : Int), .slice A2 n2 c2]] w16 (ArrDone w16 T3 p inter bl bo h4 xs s.next s.wait ⟨⟨q1, q2, q3, q4, cat⟩, A2, c2⟩) := by rw [HN2.out]; exact harr
              clear hl16 hj16 hf16 hrest hrest4 hh4 hsub4 hsz4 hrest5 hle4 hn16 hbm16 hlateB hpcs hxl16 harr
              go_wp2_with (refine wpList_load_any rfl 43 _ rfl ⟨gm, 0, none⟩ (by first | rfl | simp) #[.int .u16 (q1 : Int), .bool q2, .int .u32 (q3 : Int), .int .u32 (q4 : Int), .slice A2 n2 c2] _ hml Try.underlying43 rfl msg_sz ?_)
              refine harr2.mono ?_
              clear harr2 hml
              rintro e w17 ⟨T5, rv5, xs5, Om5, Wb5, next5, wait5, rfl, harr, hj17, hf17, hex17⟩
              have hl17 : LinesR w17 T5 bl inter F3 rest4 := HL16.out.fr hf17 (fun i hi e hx => by rcases hx.2 with h | h | h <;> (rw [e] at h; cases h)) (fun i hi e hx => by rcases hx.2 with h | h | h <;> (rw [e] at h; cases h)) hex17.old
              have HEND : Hid (PutDone w (fun i => T i ≠ 0) p inter s (pcOf inter c) (.returned (.bool true)) w17) := put_whole HK.out HNR.out HWH.out HPCIN.out (by rw [HRST.out]; exact HPERM.out) (x := ⟨⟨q1, q2, q3, q4, cat⟩, A2, c2⟩) HMSG.out.symm HRST5.out hl17 hj17 HSZ4.out HLE4.out (HF16.out.trans hf17 (fun i hi e => ⟨hi, by
                rw [← HE16.out.old i hi]
                rcases e.2 with e | e | e <;> (rw [e]; decide)⟩)) (HE16.out.trans hex17 HF16.out.size) (fun q hq => HALL.out q (HSUB.out q hq)) harr HSAME.out.2.1 HSAME.out.1
              clear harr hj17 hf17 hex17 hl17
              go_wp2_with fail
              go_ret
              exact HEND.out
        · go_wp2_with fail
          go_ret
          refine put_refused HK.out ?_ (HB7.out.alloc (by have := HB7.out.size; omega) _)
          have hs2 : (L i).isSome = true := HTH.out.symm
          obtain ⟨x, hx⟩ := Option.isSome_iff_exists.1 hs2
          obtain ⟨q, hq, hqi, _⟩ := HL2.out.at_ hx
          obtain ⟨q1, q2⟩ := List.mem_filter.1 hq
          have hkey : keyP inter q = keyP inter (pcOf inter c) := by rw [HKG.out]; simpa using q2
          have hidx : idxP inter q = idxP inter (pcOf inter c) := by rw [HIX.out]; exact hqi
          right; right
          unfold keyP keyC at hkey
          unfold idxP at hidx
          cases inter
          · exact .inr ⟨rfl, q, q1, hidx⟩
          · simp only [if_true] at hkey hidx
            injection hkey with k1 k2 k3
            exact .inl ⟨rfl, .inr (.inr ⟨q, q1, ⟨k1, k2, .inl k3⟩, hidx⟩)⟩
    · go_wp2_with fail
      go_ret
      refine put_refused HK.out ?_ HB4.out
      rw [HPC.out]
      have h1 := HLB.out
      unfold lateB at h1
      cases hlo : c.lo with
      | true => rw [hlo] at h1; simp at h1
      | false =>
        rw [hlo] at h1
        right; left
        refine ⟨rfl, ?_⟩
        rcases Bool.or_eq_true_iff.1 (show (waitB s.wait c.st mu || ltB mu (s.next c.st) (Jo.modN inter)) = true by simpa using h1.symm) with h2 | h2
        · obtain ⟨q, q1, q2, q3⟩ := waitB_iff.1 h2
          exact .inr ⟨q, q1, q2, q3⟩
        · exact .inl ((ltB_eq _ _).1 h2)
end
end Go.Proofs.Ytioddokjogbmnaa.Chk
