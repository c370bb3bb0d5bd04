/-
  The document's answers of layer 6 (flumeref06): Strip.
-/
import Derived.Test.YtpgklhecmafnbaaChRf1
import Derived.Test.YtpgklhecmafnbaaStage
set_option linter.unusedVariables false
set_option linter.unusedSimpArgs false
namespace Go.Proofs.Ytpgklhecmafnbaa.Chk
open Go.ChangeShapes Go.WideShapes Go.ChangeAt Go.RowKit Go.Deep Go.Proofs.Ytpgklhecmafnbaa.Words Go.Proofs.Ytpgklhecmafnbaa.Oct Go.Proofs.Ytpgklhecmafnbaa.Par

theorem ckAt_of {w : World} {B : Nat} {cs : Array Value} {c : Ck} {g d s p b : Hd} (ok : c.ok) (e : cs = ckArr c (g.v c.gaps.length) (d.v c.dups.length) (s.v c.skips.length) (p.v c.ps.length) (b.v c.body.length)) (l : Lists w B c g d s p b) : CkAt w B cs c :=
  ⟨ok, g, d, s, p, b, e, l.okg, l.okd, l.oks, l.okp, l.okb, l.gaps, l.dups, l.skips, l.ps, l.body⟩
theorem lists_keep {w w' : World} {B B' : Nat} {c : Ck} {g d s p b : Hd} (h : Lists w B c g d s p b) (hk : ∀ q : Addr, q.block < B → w'.cell? q = w.cell? q) (hB : B ≤ B') : Lists w' B' c g d s p b :=
  ⟨h.okg, h.okd, h.oks, h.okp, h.okb, (h.gaps.keep hk).more hB, (h.dups.keep hk).more hB, (h.skips.keep hk).more hB, (h.ps.keep hk).more hB, (h.body.keep hk).more hB⟩
theorem ck_cells (c : Ck) (g d s p b : Hd) : Cells (ckArr c (g.v c.gaps.length) (d.v c.dups.length) (s.v c.skips.length) (p.v c.ps.length) (b.v c.body.length)) c g d s p b :=
  ⟨rfl, rfl, rfl, rfl, rfl, rfl, rfl, rfl, rfl, rfl, rfl, rfl, rfl, rfl, rfl, rfl, rfl, rfl, rfl, rfl⟩
theorem setCell_size (w : World) (p : Addr) (u : Value) : (w.setCell p u).heap.size = w.heap.size := by simp [World.setCell]
theorem lists_zero (w : World) (B k : Nat) : Lists w B (zeroC k) ⟨none, 0⟩ ⟨none, 0⟩ ⟨none, 0⟩ ⟨none, 0⟩ ⟨none, 0⟩ :=
  ⟨⟨Nat.le_refl _, by simp⟩, ⟨Nat.le_refl _, by simp⟩, ⟨Nat.le_refl _, by simp⟩, ⟨Nat.le_refl _, by simp⟩, ⟨Nat.le_refl _, by simp⟩, Reads.none_, Reads.none_, Reads.none_, Ps.nil _ _ _, by unfold Byt; exact Reads.none_⟩
/-! ### what is left, 'if' by 'if' -/
def D1 (c : Ck) : Ck := if c.kind = 0 ∨ c.kind = 64 then { zeroC c.kind with bg := c.bg, en := c.en, lo := c.lo, tsn := c.tsn, st := c.st, mid := (if c.kind = 0 then c.mid % 65536 else c.mid), pp := (if c.kind = 64 ∧ c.bg = false then 0 else c.pp), fr := (if c.kind = 64 ∧ c.bg = false then c.fr else 0) } else zeroC c.kind
def D2 (c : Ck) : Ck := if c.kind = 1 ∨ c.kind = 2 then { D1 c with tag := c.tag, win := c.win, out := c.out, inn := c.inn, tsn := c.tsn } else D1 c
def D3 (c : Ck) : Ck := if c.kind = 3 then { D2 c with tsn := c.tsn, win := c.win, gaps := c.gaps, dups := c.dups } else D2 c
def D4 (c : Ck) : Ck := if c.kind = 6 ∨ c.kind = 14 then { D3 c with ba := c.ba } else D3 c
def D5 (c : Ck) : Ck := if c.kind = 7 ∨ c.kind = 192 ∨ c.kind = 194 then { D4 c with tsn := c.tsn } else D4 c
def skD (k : Nat) (l : List Skp) : List Skp := if k = 192 then l.map fun s => (s.1, false, s.2.2 % 65536) else l
def D6 (c : Ck) : Ck := if c.kind = 192 ∨ c.kind = 194 then { D5 c with skips := skD c.kind c.skips } else D5 c
def D7 (c : Ck) : Ck := if c.kind = 1 ∨ c.kind = 2 ∨ c.kind = 6 ∨ c.kind = 9 ∨ c.kind = 130 then { D6 c with ps := c.ps } else D6 c
def D8 (c : Ck) : Ck := if c.kind = 0 ∨ c.kind = 64 ∨ c.kind = 4 ∨ c.kind = 5 ∨ c.kind = 10 then { D7 c with body := c.body } else D7 c
theorem skD_snoc (k : Nat) (l : List Skp) (s : Skp) : skD k (l ++ [s]) = skD k l ++ skD k [s] := by unfold skD; split <;> simp
theorem skD_len (k : Nat) (l : List Skp) : (skD k l).length = l.length := by unfold skD; split <;> simp
theorem skD_ok {k : Nat} {l : List Skp} (h : ∀ s ∈ l, s.1 < 65536 ∧ s.2.2 < 4294967296) : ∀ s ∈ skD k l, s.1 < 65536 ∧ s.2.2 < 4294967296 := by
  unfold skD
  split
  · intro s hs
    simp only [List.mem_map] at hs
    obtain ⟨x, hx, rfl⟩ := hs
    have := h x hx
    exact ⟨this.1, by show x.2.2 % 65536 < _; omega⟩
  · exact h
theorem D8_strip {c : Ck} (h : known c.kind = true) : D8 c = strip c := by
  obtain ⟨k, bg, en, lo, ba, tsn, st, mid, pp, fr, tag, win, out, inn, gaps, dups, skips, ps, body⟩ := c
  simp only at h
  rcases kinds h with rfl | rfl | rfl | rfl | rfl | rfl | rfl | rfl | rfl | rfl | rfl | rfl | rfl | rfl | rfl | rfl | rfl <;> first | rfl | (cases bg <;> rfl)
/-- D5 where messages are skipped. -/
theorem D5_skip {c : Ck} (h : c.kind = 192 ∨ c.kind = 194) : D5 c = { zeroC c.kind with tsn := c.tsn } := by
  unfold D5 D4 D3 D2 D1
  rw [if_pos (by omega), if_neg (by omega), if_neg (by omega), if_neg (by omega), if_neg (by omega)]
/-- Where Strip stands: the chunk's variable, the result's; the result's lists lie elsewhere. -/
structure StS (ea : Bool) (w V : World) (g0 g1 g2 : Nat) (cs : Array Value) (d : Ck) : Prop where
  b0 : CkBlk V g0 cs
  ex : ∃ g dd s p b : Hd, CkBlk V g1 (ckArr d (g.v d.gaps.length) (dd.v d.dups.length) (s.v d.skips.length) (p.v d.ps.length) (b.v d.body.length)) ∧ d.ok ∧ (∀ V' : World, (∀ q : Addr, q.block ≠ g1 → q.block ≠ g2 → V'.cell? q = V.cell? q) → Lists V' V.heap.size d g dd s p b) ∧ (ea = true → s = ⟨none, 0⟩)
  below : Below w.heap.size w V
  ne : g0 ≠ g1
  lo : w.heap.size ≤ g1
  lo0 : w.heap.size ≤ g0
  b2 : CkBlk V g2 zeroA
  ne2 : g2 ≠ g1
  ne3 : g2 ≠ g0
  lo2 : w.heap.size ≤ g2
/-- Where Strip stands in the loop over what is skipped. -/
structure SkS (w V : World) (g0 g1 g2 : Nat) (cs : Array Value) (kd tsn : Nat) (vg vd vp vb : Value) (A : Option Addr) (n cp : Nat) (l : List Skp) : Prop where
  b0 : CkBlk V g0 cs
  b1 : CkBlk V g1 (ckArr { zeroC kd with tsn := tsn } vg vd (.slice A n cp) vp vb)
  own : V.ownsRow w.heap.size 87 3 (.slice A n cp) n (skC l)
  len : n = l.length
  below : Below w.heap.size w V
  b2 : CkBlk V g2 zeroA
section
variable {w V V' : World} {g0 g1 g2 : Nat} {cs : Array Value} {kd tsn : Nat} {vg vd vp vb : Value} {A A' : Option Addr} {n cp cp' : Nat} {l : List Skp} {v' : Value}
theorem SkS.grows (h : SkS w V g0 g1 g2 cs kd tsn vg vd vp vb A n cp l) (k : Below V.heap.size V V') : SkS w V' g0 g1 g2 cs kd tsn vg vd vp vb A n cp l :=
  ⟨h.b0.below k h.b0.lt, h.b1.below k h.b1.lt, (Fr.of_below k).own h.own (fun g hg hi => by have := (h.own.lt g hg).2; omega), h.len, h.below.trans (k.mono h.below.size), h.b2.below k h.b2.lt⟩
/-- Behind the append and its store. -/
theorem SkS.more {s : Skp} {n' : Nat} (h : SkS w V g0 g1 g2 cs kd tsn vg vd vp vb A n cp l) (ho : V'.ownsRow w.heap.size 87 3 (.slice A' n' cp') n' (skC l ++ [.int .u16 (s.1 : Int), .bool s.2.1, .int .u32 (s.2.2 : Int)])) (hn : n' = n + 1) (hg : V.grownBy V' (Value.slice A n cp).ownBlock) (ne : g0 ≠ g1) (ne2 : g2 ≠ g1) (lo : w.heap.size ≤ g1) :
    SkS w (V'.setCell ⟨g1, 16, none⟩ (.slice A' n' cp')) g0 g1 g2 cs kd tsn vg vd vp vb A' n' cp' (l ++ [s]) := by
  have f0 := Blk.grown h.b0 hg (own_blk_ne h.own h.b0 (by decide)).symm
  have f1 := Blk.grown h.b1 hg (own_blk_ne h.own h.b1 (by decide)).symm
  have f2 := Blk.grown h.b2 hg (own_blk_ne h.own h.b2 (by decide)).symm
  have hb := h.below.grown hg h.below.size (fun g hg => (h.own.lt g hg).1)
  refine ⟨Blk.far f0 (p := ⟨g1, 16, none⟩) ne _, Blk.set_ f1 16 _, ?_, by rw [List.length_append, ← h.len]; exact hn, hb.setCell (p := ⟨g1, 16, none⟩) lo _, Blk.far f2 (p := ⟨g1, 16, none⟩) ne2 _⟩
  rw [skC_snoc]
  exact ((Fr.refl (fun k => k = g1) V').setCell (p := ⟨g1, 16, none⟩) (.inl rfl) _).own ho (fun g hg e => own_blk_ne ho f1 (by decide) (by rw [hg, e]))
end
theorem three_reads (w : World) (u0 u1 u2 : Value) (t : TypeId) : Reads (w.alloc (.cells #[u0, u1, u2] t)) (w.heap.size + 1) 3 (some ⟨w.heap.size, 0, none⟩) 1 [u0, u1, u2] := by
  have hb := Blk.new w t #[u0, u1, u2]
  refine ⟨rfl, fun _ => ⟨_, rfl, by simp, fun j u hu => ?_⟩⟩
  rw [hb.cellAdd, ← hu]
  match j with
  | 0 => rfl
  | 1 => rfl
  | 2 => rfl
  | j + 3 => rfl
theorem reads_apart {w : World} {B g1 g2 n c size : Nat} {e T : TypeId} {A : Option Addr} {xs : List Value} {cs cs2 : Array Value} (h : w.ownsRow B e size (.slice A n c) n xs) (hb : Blk w g1 T cs) (hb2 : Blk w g2 T cs2) (hne : e ≠ T) (V : World) (hV : ∀ q : Addr, q.block ≠ g1 → q.block ≠ g2 → V.cell? q = w.cell? q) : Reads V w.heap.size size A n xs := by
  refine ⟨h.1, fun hn => ?_⟩
  obtain ⟨g, cap, hv, _, hlt⟩ := h.form hn
  have hA : A = some ⟨g, 0, none⟩ := by injection hv
  subst hA
  refine ⟨_, rfl, hlt, fun j u hu => ?_⟩
  have hg : g ≠ g1 := fun e => own_blk_ne h hb hne (by rw [← e]; rfl)
  have hg2 : g ≠ g2 := fun e => own_blk_ne h hb2 hne (by rw [← e]; rfl)
  rw [hV _ (by rw [block_of_add]; exact hg) (by rw [block_of_add]; exact hg2)]
  exact h.cells (g := g) rfl j u hu
set_option maxHeartbeats 8000000 in
set_option maxRecDepth 100000 in
theorem rstrip_k {w : World} {B : Nat} {cs : Array Value} {c : Ck} (hB : B ≤ w.heap.size) (h : CkAt w B cs c) (hkn : known c.kind = true) (hsl : c.skips.length ≤ 500000) :
    Calls Try.prog 61 #[.agg cs] w fun e w' => (∃ cs', e = .returned (.agg cs') ∧ CkAt w' w'.heap.size cs' (strip c)) ∧ Below w.heap.size w w' := by
  have HCOK := Lib.hid h.ok
  have hk256 := h.ok.kind
  have HSZ := Lib.hid h.size
  have HBW := Lib.hid hB
  have HKN := Lib.hid hkn
  have HSL := Lib.hid hsl
  obtain ⟨cg, cd, csk, cp, cb, hcc, hcl⟩ := h.parts
  have HCC := Lib.hid hcc
  have HCL := Lib.hid hcl
  obtain ⟨kd, hkd⟩ : ∃ kd, kd = c.kind := ⟨_, rfl⟩
  have HKD := Lib.hid hkd
  rw [← hkd] at hk256
  have e0 := hcc.c0
  rw [← hkd] at e0
  clear h hcc hcl hB hkn hsl hkd
  go_enter Try.func61, Try.ntmps61
  go_upto_region 1 with fail
  have HZ : Hid (CkBlk ((w.alloc (.cells cs 32)).alloc (.cells zeroA 32)) w.heap.size cs ∧ CkBlk ((w.alloc (.cells cs 32)).alloc (.cells zeroA 32)) (w.heap.size + 1) zeroA ∧ Below w.heap.size w ((w.alloc (.cells cs 32)).alloc (.cells zeroA 32)) ∧ ((w.alloc (.cells cs 32)).alloc (.cells zeroA 32)).heap.size = w.heap.size + 2) :=
    ⟨(Blk.new w 32 cs).below ((Below.refl (w.alloc (.cells cs 32)).heap.size _).alloc (Nat.le_refl _) _) (Blk.new w 32 cs).lt, by simpa using Blk.new (w.alloc (.cells cs 32)) 32 zeroA, ((Below.refl w.heap.size w).alloc (Nat.le_refl _) _).alloc (((Below.refl w.heap.size w).alloc (Nat.le_refl _) (.cells cs 32)).size) _, by simp⟩
  obtain ⟨W0, hW0⟩ : ∃ W0, W0 = (w.alloc (.cells cs 32)).alloc (.cells zeroA 32) := ⟨_, rfl⟩
  have hW0' : W0 = (w.alloc (.cells cs 32)).alloc (.cells #[.int .u8 0, .bool false, .bool false, .bool false, .bool false, .int .u32 0, .int .u16 0, .int .u32 0, .int .u32 0, .int .u32 0, .int .u32 0, .int .u32 0, .int .u16 0, .int .u16 0, .slice none 0 0, .slice none 0 0, .slice none 0 0, .slice none 0 0, .slice none 0 0] 32) := hW0
  rw [← hW0] at HZ
  rw [← hW0']
  obtain ⟨g0, hg0⟩ : ∃ g0, g0 = w.heap.size := ⟨_, rfl⟩
  obtain ⟨g2, hg2⟩ : ∃ g2, g2 = w.heap.size + 1 := ⟨_, rfl⟩
  obtain ⟨g1, hg1⟩ : ∃ g1, g1 = W0.heap.size := ⟨_, rfl⟩
  rw [← hg2, ← hg0]
  have HG0 : Hid (CkBlk W0 g0 cs) := by rw [hg0]; exact HZ.out.1
  have HS1 : Hid (StS true w ((W0.alloc (.cells zeroA 32)).setRow W0.heap.size (ckArr (zeroC kd) nilV nilV nilV nilV nilV)) g0 g1 g2 cs (zeroC kd)) := by
    obtain ⟨z1, z2, z3, z4⟩ := HZ.out
    have hn := kept_ck W0 zeroA (ckArr (zeroC kd) nilV nilV nilV nilV nilV)
    refine ⟨by rw [hg0]; exact z1.below hn.2 z1.lt, ⟨⟨none, 0⟩, ⟨none, 0⟩, ⟨none, 0⟩, ⟨none, 0⟩, ⟨none, 0⟩, by rw [hg1]; exact hn.1, zero_ok hk256, fun V _ => lists_zero _ _ _, fun _ => rfl⟩, z3.trans (hn.2.mono z3.size), by omega, by omega, by omega, by rw [hg2]; exact z2.below hn.2 z2.lt, by omega, by omega, by omega⟩
  have hbk := built_kind kd
  have f0 := CkBlk.at HG0.out e0
  have wkd : IntKind.i64.wrap (kd : Int) = (kd : Int) := IntWalk.i64_in _ (by omega)
  clear hW0 hW0' hg0 hg2 HZ
  go_upto_region 3 with (first | (refine wpList_build_one rfl 32 _ rfl _ rfl _ hbk ?_) | (refine wpList_store_row rfl 32 _ _ rfl W0.heap.size (ckArr (zeroC kd) nilV nilV nilV nilV nilV) rfl rfl 32 _ (Blk.new W0 32 _) chunk_info rfl (ck_one (zeroC kd)) ?_))
  obtain ⟨W1, hW1⟩ : ∃ W1, W1 = (W0.alloc (.cells zeroA 32)).setRow W0.heap.size (ckArr (zeroC kd) nilV nilV nilV nilV nilV) := ⟨_, rfl⟩
  rw [← hW1] at HS1
  have hW1' : W1 = (W0.alloc (.cells #[.int .u8 0, .bool false, .bool false, .bool false, .bool false, .int .u32 0, .int .u16 0, .int .u32 0, .int .u32 0, .int .u32 0, .int .u32 0, .int .u32 0, .int .u16 0, .int .u16 0, .slice none 0 0, .slice none 0 0, .slice none 0 0, .slice none 0 0, .slice none 0 0] 32)).setRow W0.heap.size (ckArr (zeroC kd) nilV nilV nilV nilV nilV) := hW1
  rw [← hW1', ← hg1]
  clear hW1 hW1' hg1 hbk f0 HG0 wkd
  obtain ⟨W0, hW⟩ : ∃ W, W = W1 := ⟨_, rfl⟩
  rw [← hW] at HS1 ⊢
  have HS0 : Hid (StS true w W0 g0 g1 g2 cs (zeroC kd)) := HS1.out
  clear hW HS1
  dsimp only [Act.put]
  go_cut [18] from 18 to 18 (fun s wx => ∃ r, s = .bool r ∧ Hid (r = decide (kd = 0 ∨ kd = 64)) ∧ wx = W0)
  case first =>
    by_cases h0 : kd = 0
    · have d0b : ((kd : Int) == 0) = true := by rw [h0]; rfl
      have HQ : Hid (kd = 0 ∨ kd = 64) := by first | exact .inl h0 | exact .inr h0 | exact .inr (.inl h0) | exact .inr (.inr h0) | exact .inr (.inr (.inl h0)) | exact .inr (.inr (.inr h0)) | exact .inr (.inr (.inr (.inl h0))) | exact .inr (.inr (.inr (.inr h0)))
      clear h0
      go_wp2_with fail
      go_meet
      exact ⟨_, rfl, (decide_eq_true HQ.out).symm, rfl⟩
    have d0b : ((kd : Int) == 0) = false := beq_no (by omega)
    have HN0 := Lib.hid h0
    clear h0
    by_cases h1 : kd = 64
    · have d1b : ((kd : Int) == 64) = true := by rw [h1]; rfl
      have HQ : Hid (kd = 0 ∨ kd = 64) := by first | exact .inl h1 | exact .inr h1 | exact .inr (.inl h1) | exact .inr (.inr h1) | exact .inr (.inr (.inl h1)) | exact .inr (.inr (.inr h1)) | exact .inr (.inr (.inr (.inl h1))) | exact .inr (.inr (.inr (.inr h1)))
      clear h1
      go_wp2_with fail
      go_meet
      exact ⟨_, rfl, (decide_eq_true HQ.out).symm, rfl⟩
    have d1b : ((kd : Int) == 64) = false := beq_no (by omega)
    have HN1 := Lib.hid h1
    clear h1
    have HQ : Hid (¬ (kd = 0 ∨ kd = 64)) := by
      have := HN0.out
      have := HN1.out
      show ¬ _
      omega
    go_wp2_with fail
    go_meet
    exact ⟨_, rfl, (decide_eq_false HQ.out).symm, rfl⟩
  case rest =>
    obtain ⟨r, rfl, HR, hwc⟩ := hcut
    rw [hwc]
    clear hwc
    go_upto_if 18 with (fail)
    go_cut [] from 18 to 18 (fun wx => Hid (StS true w wx g0 g1 g2 cs (D1 c)))
    case first =>
      cases r
      rotate_left
      · have hc : kd = 0 ∨ kd = 64 := of_decide_eq_true HR.out.symm
        clear HR
        obtain ⟨d0, hd0⟩ : ∃ d, d = zeroC kd := ⟨_, rfl⟩
        rw [← hd0] at HS0
        have HD0 := Lib.hid hd0
        clear hd0
        rcases hc with hc | hc
        · have HC := Lib.hid hc
          clear hc
          have q0 : ((kd : Int) == 0) = true := by rw [HC.out]; rfl
          have q64 : ((kd : Int) == 64) = false := by rw [HC.out]; rfl
          obtain ⟨xg, xd, xs, xp, xb, hb1, ok1, ll1, sk1⟩ := HS0.out.ex
          have HOK1 := Lib.hid ok1
          have HLL := Lib.hid ll1
          have HSK := Lib.hid sk1
          obtain ⟨B0, hB0⟩ : ∃ B, B = ckArr d0 (xg.v d0.gaps.length) (xd.v d0.dups.length) (xs.v d0.skips.length) (xp.v d0.ps.length) (xb.v d0.body.length) := ⟨_, rfl⟩
          rw [← hB0] at hb1
          have HV0 : Hid (CkBlk W0.drew g0 cs ∧ CkBlk W0.drew g1 B0) := ⟨Blk.drew HS0.out.b0, Blk.drew hb1⟩
          obtain ⟨V0, hV0⟩ : ∃ V, V = W0.drew := ⟨_, rfl⟩
          rw [← hV0] at HV0
          have HVW := Lib.hid hV0
          obtain ⟨B1, hB1⟩ : ∃ B, B = B0.setIfInBounds 1 (.bool c.bg) := ⟨_, rfl⟩
          obtain ⟨V1, hV1⟩ : ∃ V, V = V0.setCell ⟨g1, 1, none⟩ (.bool c.bg) := ⟨_, rfl⟩
          have HV1 : Hid (CkBlk V1 g0 cs ∧ CkBlk V1 g1 B1) := by rw [hV1, hB1]; exact ⟨Blk.far HV0.out.1 (p := ⟨g1, 1, none⟩) HS0.out.ne _, Blk.set_ HV0.out.2 1 _⟩
          have HX0 : Hid (∃ u, B0[1]? = some u) := by rw [hB0]; exact ⟨_, rfl⟩
          have HE1 := Lib.hid hV1
          obtain ⟨B2, hB2⟩ : ∃ B, B = B1.setIfInBounds 2 (.bool c.en) := ⟨_, rfl⟩
          obtain ⟨V2, hV2⟩ : ∃ V, V = V1.setCell ⟨g1, 2, none⟩ (.bool c.en) := ⟨_, rfl⟩
          have HV2 : Hid (CkBlk V2 g0 cs ∧ CkBlk V2 g1 B2) := by rw [hV2, hB2]; exact ⟨Blk.far HV1.out.1 (p := ⟨g1, 2, none⟩) HS0.out.ne _, Blk.set_ HV1.out.2 2 _⟩
          have HX1 : Hid (∃ u, B1[2]? = some u) := by rw [hB1, hB0]; exact ⟨_, rfl⟩
          have HE2 := Lib.hid hV2
          obtain ⟨B3, hB3⟩ : ∃ B, B = B2.setIfInBounds 3 (.bool c.lo) := ⟨_, rfl⟩
          obtain ⟨V3, hV3⟩ : ∃ V, V = V2.setCell ⟨g1, 3, none⟩ (.bool c.lo) := ⟨_, rfl⟩
          have HV3 : Hid (CkBlk V3 g0 cs ∧ CkBlk V3 g1 B3) := by rw [hV3, hB3]; exact ⟨Blk.far HV2.out.1 (p := ⟨g1, 3, none⟩) HS0.out.ne _, Blk.set_ HV2.out.2 3 _⟩
          have HX2 : Hid (∃ u, B2[3]? = some u) := by rw [hB2, hB1, hB0]; exact ⟨_, rfl⟩
          have HE3 := Lib.hid hV3
          have HBE : Hid (B3 = ckArr { d0 with bg := c.bg, en := c.en, lo := c.lo } (xg.v d0.gaps.length) (xd.v d0.dups.length) (xs.v d0.skips.length) (xp.v d0.ps.length) (xb.v d0.body.length)) := by rw [hB3, hB2, hB1, hB0]; rfl
          have HVE : Hid (∀ q : Addr, q.block ≠ g1 → V3.cell? q = W0.cell? q) := fun q hq => by rw [hV3, hV2, hV1, hV0]; exact ((World.cell?_setCell_other ((W0.drew.setCell ⟨g1, 1, none⟩ (.bool c.bg)).setCell ⟨g1, 2, none⟩ (.bool c.en)) ⟨g1, 3, none⟩ q _ (fun e => hq (by rw [← e]))).trans (World.cell?_setCell_other (W0.drew.setCell ⟨g1, 1, none⟩ (.bool c.bg)) ⟨g1, 2, none⟩ q _ (fun e => hq (by rw [← e])))).trans (World.cell?_setCell_other W0.drew ⟨g1, 1, none⟩ q _ (fun e => hq (by rw [← e])))
          have HBL : Hid (Below w.heap.size w V3) := by rw [hV3, hV2, hV1, hV0]; exact (((((((Below.drew HS0.out.below)).setCell (p := ⟨g1, 1, none⟩) HS0.out.lo (.bool c.bg))).setCell (p := ⟨g1, 2, none⟩) HS0.out.lo (.bool c.en))).setCell (p := ⟨g1, 3, none⟩) HS0.out.lo (.bool c.lo))
          have HB2 : Hid (CkBlk V3 g2 zeroA) := by rw [hV3, hV2, hV1, hV0]; exact (Blk.far (Blk.far (Blk.far (Blk.drew HS0.out.b2) (p := ⟨g1, 1, none⟩) HS0.out.ne2 (.bool c.bg)) (p := ⟨g1, 2, none⟩) HS0.out.ne2 (.bool c.en)) (p := ⟨g1, 3, none⟩) HS0.out.ne2 (.bool c.lo))
          have HSZV : Hid (V3.heap.size = W0.heap.size) := by rw [hV3, hV2, hV1, hV0]; exact (show _ = _ by rw [setCell_size, setCell_size, setCell_size]; rfl)
          clear hb1 ok1 ll1 sk1 hB0 hV0 hB1 hV1 hB2 hV2 hB3 hV3
          go_upto_region 4 with fail
          refine wp_region_stage (fun _ _ => True) (fun m V => Hid (CkBlk V g0 cs ∧ CkBlk V g1 ([B0, B1, B2, B3].getD m B0) ∧ V = ([V0, V1, V2, V3].getD m V0))) [(false, .exact (.pointer (some ⟨g0, 1, none⟩))),
              (false, .exact (.bool c.bg)),
              (false, .exact (.pointer (some ⟨g0, 2, none⟩))),
              (false, .exact (.bool c.en)),
              (false, .exact (.pointer (some ⟨g0, 3, none⟩))),
              (false, .exact (.bool c.lo)),
              (false, .exact (.pointer (some ⟨g1, 1, none⟩))),
              (true, .exact (undef)),
              (false, .exact (.pointer (some ⟨g1, 2, none⟩))),
              (true, .exact (undef)),
              (false, .exact (.pointer (some ⟨g1, 3, none⟩))),
              (true, .exact (undef))] (by kernel_rfl) (by kernel_rfl) (by kernel_rfl) rfl ?lasts ?start ?walk
          case lasts => exact trivial
          case start => exact (by rw [← HVW.out]; exact ⟨HV0.out.1, HV0.out.2, rfl⟩)
          case walk =>
            refine stage_pure rfl (fun V => trivial) (fun V m hS hl => by go_simp) ?_
            simp only [Act.put, List.setIfInBounds_toArray, List.set_cons_zero, List.set_cons_succ, List.cons_append, List.nil_append]
            refine stage_pure rfl (fun V => trivial) (fun V m hS hl => by
                have hc : V.cell? ⟨g0, 1, none⟩ = some (.bool c.bg) := CkBlk.at hS.out.1 HCC.out.c1
                go_simp) ?_
            simp only [Act.put, List.setIfInBounds_toArray, List.set_cons_zero, List.set_cons_succ, List.cons_append, List.nil_append]
            refine stage_pure rfl (fun V => trivial) (fun V m hS hl => by go_simp) ?_
            simp only [Act.put, List.setIfInBounds_toArray, List.set_cons_zero, List.set_cons_succ, List.cons_append, List.nil_append]
            refine stage_pure rfl (fun V => trivial) (fun V m hS hl => by
                have hc : V.cell? ⟨g0, 2, none⟩ = some (.bool c.en) := CkBlk.at hS.out.1 HCC.out.c2
                go_simp) ?_
            simp only [Act.put, List.setIfInBounds_toArray, List.set_cons_zero, List.set_cons_succ, List.cons_append, List.nil_append]
            refine stage_pure rfl (fun V => trivial) (fun V m hS hl => by go_simp) ?_
            simp only [Act.put, List.setIfInBounds_toArray, List.set_cons_zero, List.set_cons_succ, List.cons_append, List.nil_append]
            refine stage_pure rfl (fun V => trivial) (fun V m hS hl => by
                have hc : V.cell? ⟨g0, 3, none⟩ = some (.bool c.lo) := CkBlk.at hS.out.1 HCC.out.c3
                go_simp) ?_
            simp only [Act.put, List.setIfInBounds_toArray, List.set_cons_zero, List.set_cons_succ, List.cons_append, List.nil_append]
            refine stage_pure rfl (fun V => trivial) (fun V m hS hl => by go_simp) ?_
            simp only [Act.put, List.setIfInBounds_toArray, List.set_cons_zero, List.set_cons_succ, List.cons_append, List.nil_append]
            refine stage_move rfl (fun V hS hl => by
                obtain ⟨ux, hux⟩ := HX0.out
                obtain ⟨_, h2, hv⟩ := hS.out
                have hv : V = V0 := hv
                have h2 : CkBlk V g1 B0 := h2
                rw [hv] at h2 ⊢
                have hc : V0.cell? ⟨g1, 1, none⟩ = some ux := CkBlk.at h2 hux
                have hz := Blk.frozen h2 1
                clear hv h2 hS hl hux
                go_simp
                rw [← HE1.out]
                exact ⟨rfl, HV1.out.1, HV1.out.2, rfl⟩) ?_
            simp only [Act.put, List.setIfInBounds_toArray, List.set_cons_zero, List.set_cons_succ, List.cons_append, List.nil_append]
            refine stage_pure rfl (fun V => trivial) (fun V m hS hl => by go_simp) ?_
            simp only [Act.put, List.setIfInBounds_toArray, List.set_cons_zero, List.set_cons_succ, List.cons_append, List.nil_append]
            refine stage_move rfl (fun V hS hl => by
                obtain ⟨ux, hux⟩ := HX1.out
                obtain ⟨_, h2, hv⟩ := hS.out
                have hv : V = V1 := hv
                have h2 : CkBlk V g1 B1 := h2
                rw [hv] at h2 ⊢
                have hc : V1.cell? ⟨g1, 2, none⟩ = some ux := CkBlk.at h2 hux
                have hz := Blk.frozen h2 2
                clear hv h2 hS hl hux
                go_simp
                rw [← HE2.out]
                exact ⟨rfl, HV2.out.1, HV2.out.2, rfl⟩) ?_
            simp only [Act.put, List.setIfInBounds_toArray, List.set_cons_zero, List.set_cons_succ, List.cons_append, List.nil_append]
            refine stage_pure rfl (fun V => trivial) (fun V m hS hl => by go_simp) ?_
            simp only [Act.put, List.setIfInBounds_toArray, List.set_cons_zero, List.set_cons_succ, List.cons_append, List.nil_append]
            refine stage_move rfl (fun V hS hl => by
                obtain ⟨ux, hux⟩ := HX2.out
                obtain ⟨_, h2, hv⟩ := hS.out
                have hv : V = V2 := hv
                have h2 : CkBlk V g1 B2 := h2
                rw [hv] at h2 ⊢
                have hc : V2.cell? ⟨g1, 3, none⟩ = some ux := CkBlk.at h2 hux
                have hz := Blk.frozen h2 3
                clear hv h2 hS hl hux
                go_simp
                rw [← HE3.out]
                exact ⟨rfl, HV3.out.1, HV3.out.2, rfl⟩) ?_
            simp only [Act.put, List.setIfInBounds_toArray, List.set_cons_zero, List.set_cons_succ, List.cons_append, List.nil_append]
            refine stage_nil (fun V hS hF => ?_)
            have hv : V = V3 := hS.out.2.2
            rw [hv]
            clear hS hF hv
            obtain ⟨W1, hW⟩ : ∃ W, W = V3 := ⟨_, rfl⟩
            rw [← hW]
            obtain ⟨d1, hd⟩ : ∃ d, d = { d0 with bg := c.bg, en := c.en, lo := c.lo } := ⟨_, rfl⟩
            have HD1 := Lib.hid hd
            have k4 := HOK1.out
            have ko := HCOK.out
            have hok : d1.ok := by rw [hd]; exact ⟨k4.kind, k4.tsn, k4.st, k4.mid, k4.pp, k4.fr, k4.tag, k4.win, k4.out, k4.inn, k4.gaps, k4.dups, k4.skips, k4.ps⟩
            have HS1 : Hid (StS true w W1 g0 g1 g2 cs d1) := by
              rw [hW]
              refine ⟨HV3.out.1, ⟨xg, xd, xs, xp, xb, by rw [hd]; have := HV3.out.2; rw [HBE.out] at this; exact this, hok, ?_, fun h => by first | exact HSK.out h | exact HSK.out trivial | cases h⟩, HBL.out, HS0.out.ne, HS0.out.lo, HS0.out.lo0, HB2.out, HS0.out.ne2, HS0.out.ne3, HS0.out.lo2⟩
              intro V' hV
              have X := HLL.out V' (fun q hq hq2 => (hV q hq hq2).trans (HVE.out q hq))
              have CC := lists_keep (B' := V3.heap.size) HCL.out (fun q hq => (hV q (fun e => by have := HBW.out; have := HS0.out.lo; omega) (fun e => by have := HBW.out; have := HS0.out.lo2; omega)).trans (HBL.out.cell (Nat.lt_of_lt_of_le hq HBW.out))) (Nat.le_trans HBW.out HBL.out.size)
              rw [hd]
              rw [HSZV.out] at CC ⊢
              exact ⟨X.okg, X.okd, X.oks, X.okp, X.okb, X.gaps, X.dups, X.skips, X.ps, X.body⟩
            clear hW hd k4 ko hok HVW HBE HVE HBL HB2 HSZV HOK1 HLL HSK HV0 HV1 HV2 HV3 HX0 HE1 HX1 HE2 HX2 HE3
            obtain ⟨xg, xd, xs, xp, xb, hb1, ok1, ll1, sk1⟩ := HS1.out.ex
            have HOK1 := Lib.hid ok1
            have HLL := Lib.hid ll1
            have HSK := Lib.hid sk1
            obtain ⟨B0, hB0⟩ : ∃ B, B = ckArr d1 (xg.v d1.gaps.length) (xd.v d1.dups.length) (xs.v d1.skips.length) (xp.v d1.ps.length) (xb.v d1.body.length) := ⟨_, rfl⟩
            rw [← hB0] at hb1
            have HV0 : Hid (CkBlk W1.drew g0 cs ∧ CkBlk W1.drew g1 B0) := ⟨Blk.drew HS1.out.b0, Blk.drew hb1⟩
            obtain ⟨V0, hV0⟩ : ∃ V, V = W1.drew := ⟨_, rfl⟩
            rw [← hV0] at HV0
            have HVW := Lib.hid hV0
            obtain ⟨B1, hB1⟩ : ∃ B, B = B0.setIfInBounds 5 (.int .u32 (c.tsn : Int)) := ⟨_, rfl⟩
            obtain ⟨V1, hV1⟩ : ∃ V, V = V0.setCell ⟨g1, 5, none⟩ (.int .u32 (c.tsn : Int)) := ⟨_, rfl⟩
            have HV1 : Hid (CkBlk V1 g0 cs ∧ CkBlk V1 g1 B1) := by rw [hV1, hB1]; exact ⟨Blk.far HV0.out.1 (p := ⟨g1, 5, none⟩) HS1.out.ne _, Blk.set_ HV0.out.2 5 _⟩
            have HX0 : Hid (∃ u, B0[5]? = some u) := by rw [hB0]; exact ⟨_, rfl⟩
            have HE1 := Lib.hid hV1
            obtain ⟨B2, hB2⟩ : ∃ B, B = B1.setIfInBounds 6 (.int .u16 (c.st : Int)) := ⟨_, rfl⟩
            obtain ⟨V2, hV2⟩ : ∃ V, V = V1.setCell ⟨g1, 6, none⟩ (.int .u16 (c.st : Int)) := ⟨_, rfl⟩
            have HV2 : Hid (CkBlk V2 g0 cs ∧ CkBlk V2 g1 B2) := by rw [hV2, hB2]; exact ⟨Blk.far HV1.out.1 (p := ⟨g1, 6, none⟩) HS1.out.ne _, Blk.set_ HV1.out.2 6 _⟩
            have HX1 : Hid (∃ u, B1[6]? = some u) := by rw [hB1, hB0]; exact ⟨_, rfl⟩
            have HE2 := Lib.hid hV2
            obtain ⟨B3, hB3⟩ : ∃ B, B = B2.setIfInBounds 7 (.int .u32 (c.mid : Int)) := ⟨_, rfl⟩
            obtain ⟨V3, hV3⟩ : ∃ V, V = V2.setCell ⟨g1, 7, none⟩ (.int .u32 (c.mid : Int)) := ⟨_, rfl⟩
            have HV3 : Hid (CkBlk V3 g0 cs ∧ CkBlk V3 g1 B3) := by rw [hV3, hB3]; exact ⟨Blk.far HV2.out.1 (p := ⟨g1, 7, none⟩) HS1.out.ne _, Blk.set_ HV2.out.2 7 _⟩
            have HX2 : Hid (∃ u, B2[7]? = some u) := by rw [hB2, hB1, hB0]; exact ⟨_, rfl⟩
            have HE3 := Lib.hid hV3
            have HBE : Hid (B3 = ckArr { d1 with tsn := c.tsn, st := c.st, mid := c.mid } (xg.v d1.gaps.length) (xd.v d1.dups.length) (xs.v d1.skips.length) (xp.v d1.ps.length) (xb.v d1.body.length)) := by rw [hB3, hB2, hB1, hB0]; rfl
            have HVE : Hid (∀ q : Addr, q.block ≠ g1 → V3.cell? q = W1.cell? q) := fun q hq => by rw [hV3, hV2, hV1, hV0]; exact ((World.cell?_setCell_other ((W1.drew.setCell ⟨g1, 5, none⟩ (.int .u32 (c.tsn : Int))).setCell ⟨g1, 6, none⟩ (.int .u16 (c.st : Int))) ⟨g1, 7, none⟩ q _ (fun e => hq (by rw [← e]))).trans (World.cell?_setCell_other (W1.drew.setCell ⟨g1, 5, none⟩ (.int .u32 (c.tsn : Int))) ⟨g1, 6, none⟩ q _ (fun e => hq (by rw [← e])))).trans (World.cell?_setCell_other W1.drew ⟨g1, 5, none⟩ q _ (fun e => hq (by rw [← e])))
            have HBL : Hid (Below w.heap.size w V3) := by rw [hV3, hV2, hV1, hV0]; exact (((((((Below.drew HS1.out.below)).setCell (p := ⟨g1, 5, none⟩) HS1.out.lo (.int .u32 (c.tsn : Int)))).setCell (p := ⟨g1, 6, none⟩) HS1.out.lo (.int .u16 (c.st : Int)))).setCell (p := ⟨g1, 7, none⟩) HS1.out.lo (.int .u32 (c.mid : Int)))
            have HB2 : Hid (CkBlk V3 g2 zeroA) := by rw [hV3, hV2, hV1, hV0]; exact (Blk.far (Blk.far (Blk.far (Blk.drew HS1.out.b2) (p := ⟨g1, 5, none⟩) HS1.out.ne2 (.int .u32 (c.tsn : Int))) (p := ⟨g1, 6, none⟩) HS1.out.ne2 (.int .u16 (c.st : Int))) (p := ⟨g1, 7, none⟩) HS1.out.ne2 (.int .u32 (c.mid : Int)))
            have HSZV : Hid (V3.heap.size = W1.heap.size) := by rw [hV3, hV2, hV1, hV0]; exact (show _ = _ by rw [setCell_size, setCell_size, setCell_size]; rfl)
            clear hb1 ok1 ll1 sk1 hB0 hV0 hB1 hV1 hB2 hV2 hB3 hV3
            go_upto_region 5 with fail
            refine wp_region_stage (fun _ _ => True) (fun m V => Hid (CkBlk V g0 cs ∧ CkBlk V g1 ([B0, B1, B2, B3].getD m B0) ∧ V = ([V0, V1, V2, V3].getD m V0))) [(false, .exact (.pointer (some ⟨g0, 5, none⟩))),
                (false, .exact (.int .u32 (c.tsn : Int))),
                (false, .exact (.pointer (some ⟨g0, 6, none⟩))),
                (false, .exact (.int .u16 (c.st : Int))),
                (false, .exact (.pointer (some ⟨g0, 7, none⟩))),
                (false, .exact (.int .u32 (c.mid : Int))),
                (false, .exact (.pointer (some ⟨g1, 5, none⟩))),
                (true, .exact (undef)),
                (false, .exact (.pointer (some ⟨g1, 6, none⟩))),
                (true, .exact (undef)),
                (false, .exact (.pointer (some ⟨g1, 7, none⟩))),
                (true, .exact (undef))] (by kernel_rfl) (by kernel_rfl) (by kernel_rfl) rfl ?lasts ?start ?walk
            case lasts => exact trivial
            case start => exact (by rw [← HVW.out]; exact ⟨HV0.out.1, HV0.out.2, rfl⟩)
            case walk =>
              refine stage_pure rfl (fun V => trivial) (fun V m hS hl => by go_simp) ?_
              simp only [Act.put, List.setIfInBounds_toArray, List.set_cons_zero, List.set_cons_succ, List.cons_append, List.nil_append]
              refine stage_pure rfl (fun V => trivial) (fun V m hS hl => by
                  have hc : V.cell? ⟨g0, 5, none⟩ = some (.int .u32 (c.tsn : Int)) := CkBlk.at hS.out.1 HCC.out.c5
                  go_simp) ?_
              simp only [Act.put, List.setIfInBounds_toArray, List.set_cons_zero, List.set_cons_succ, List.cons_append, List.nil_append]
              refine stage_pure rfl (fun V => trivial) (fun V m hS hl => by go_simp) ?_
              simp only [Act.put, List.setIfInBounds_toArray, List.set_cons_zero, List.set_cons_succ, List.cons_append, List.nil_append]
              refine stage_pure rfl (fun V => trivial) (fun V m hS hl => by
                  have hc : V.cell? ⟨g0, 6, none⟩ = some (.int .u16 (c.st : Int)) := CkBlk.at hS.out.1 HCC.out.c6
                  go_simp) ?_
              simp only [Act.put, List.setIfInBounds_toArray, List.set_cons_zero, List.set_cons_succ, List.cons_append, List.nil_append]
              refine stage_pure rfl (fun V => trivial) (fun V m hS hl => by go_simp) ?_
              simp only [Act.put, List.setIfInBounds_toArray, List.set_cons_zero, List.set_cons_succ, List.cons_append, List.nil_append]
              refine stage_pure rfl (fun V => trivial) (fun V m hS hl => by
                  have hc : V.cell? ⟨g0, 7, none⟩ = some (.int .u32 (c.mid : Int)) := CkBlk.at hS.out.1 HCC.out.c7
                  go_simp) ?_
              simp only [Act.put, List.setIfInBounds_toArray, List.set_cons_zero, List.set_cons_succ, List.cons_append, List.nil_append]
              refine stage_pure rfl (fun V => trivial) (fun V m hS hl => by go_simp) ?_
              simp only [Act.put, List.setIfInBounds_toArray, List.set_cons_zero, List.set_cons_succ, List.cons_append, List.nil_append]
              refine stage_move rfl (fun V hS hl => by
                  obtain ⟨ux, hux⟩ := HX0.out
                  obtain ⟨_, h2, hv⟩ := hS.out
                  have hv : V = V0 := hv
                  have h2 : CkBlk V g1 B0 := h2
                  rw [hv] at h2 ⊢
                  have hc : V0.cell? ⟨g1, 5, none⟩ = some ux := CkBlk.at h2 hux
                  have hz := Blk.frozen h2 5
                  clear hv h2 hS hl hux
                  go_simp
                  rw [← HE1.out]
                  exact ⟨rfl, HV1.out.1, HV1.out.2, rfl⟩) ?_
              simp only [Act.put, List.setIfInBounds_toArray, List.set_cons_zero, List.set_cons_succ, List.cons_append, List.nil_append]
              refine stage_pure rfl (fun V => trivial) (fun V m hS hl => by go_simp) ?_
              simp only [Act.put, List.setIfInBounds_toArray, List.set_cons_zero, List.set_cons_succ, List.cons_append, List.nil_append]
              refine stage_move rfl (fun V hS hl => by
                  obtain ⟨ux, hux⟩ := HX1.out
                  obtain ⟨_, h2, hv⟩ := hS.out
                  have hv : V = V1 := hv
                  have h2 : CkBlk V g1 B1 := h2
                  rw [hv] at h2 ⊢
                  have hc : V1.cell? ⟨g1, 6, none⟩ = some ux := CkBlk.at h2 hux
                  have hz := Blk.frozen h2 6
                  clear hv h2 hS hl hux
                  go_simp
                  rw [← HE2.out]
                  exact ⟨rfl, HV2.out.1, HV2.out.2, rfl⟩) ?_
              simp only [Act.put, List.setIfInBounds_toArray, List.set_cons_zero, List.set_cons_succ, List.cons_append, List.nil_append]
              refine stage_pure rfl (fun V => trivial) (fun V m hS hl => by go_simp) ?_
              simp only [Act.put, List.setIfInBounds_toArray, List.set_cons_zero, List.set_cons_succ, List.cons_append, List.nil_append]
              refine stage_move rfl (fun V hS hl => by
                  obtain ⟨ux, hux⟩ := HX2.out
                  obtain ⟨_, h2, hv⟩ := hS.out
                  have hv : V = V2 := hv
                  have h2 : CkBlk V g1 B2 := h2
                  rw [hv] at h2 ⊢
                  have hc : V2.cell? ⟨g1, 7, none⟩ = some ux := CkBlk.at h2 hux
                  have hz := Blk.frozen h2 7
                  clear hv h2 hS hl hux
                  go_simp
                  rw [← HE3.out]
                  exact ⟨rfl, HV3.out.1, HV3.out.2, rfl⟩) ?_
              simp only [Act.put, List.setIfInBounds_toArray, List.set_cons_zero, List.set_cons_succ, List.cons_append, List.nil_append]
              refine stage_nil (fun V hS hF => ?_)
              have hv : V = V3 := hS.out.2.2
              rw [hv]
              clear hS hF hv
              obtain ⟨W2, hW⟩ : ∃ W, W = V3 := ⟨_, rfl⟩
              rw [← hW]
              obtain ⟨d2, hd⟩ : ∃ d, d = { d1 with tsn := c.tsn, st := c.st, mid := c.mid } := ⟨_, rfl⟩
              have HD2 := Lib.hid hd
              have k4 := HOK1.out
              have ko := HCOK.out
              have hok : d2.ok := by rw [hd]; exact ⟨k4.kind, ko.tsn, ko.st, ko.mid, k4.pp, k4.fr, k4.tag, k4.win, k4.out, k4.inn, k4.gaps, k4.dups, k4.skips, k4.ps⟩
              have HS2 : Hid (StS true w W2 g0 g1 g2 cs d2) := by
                rw [hW]
                refine ⟨HV3.out.1, ⟨xg, xd, xs, xp, xb, by rw [hd]; have := HV3.out.2; rw [HBE.out] at this; exact this, hok, ?_, fun h => by first | exact HSK.out h | exact HSK.out trivial | cases h⟩, HBL.out, HS1.out.ne, HS1.out.lo, HS1.out.lo0, HB2.out, HS1.out.ne2, HS1.out.ne3, HS1.out.lo2⟩
                intro V' hV
                have X := HLL.out V' (fun q hq hq2 => (hV q hq hq2).trans (HVE.out q hq))
                have CC := lists_keep (B' := V3.heap.size) HCL.out (fun q hq => (hV q (fun e => by have := HBW.out; have := HS1.out.lo; omega) (fun e => by have := HBW.out; have := HS1.out.lo2; omega)).trans (HBL.out.cell (Nat.lt_of_lt_of_le hq HBW.out))) (Nat.le_trans HBW.out HBL.out.size)
                rw [hd]
                rw [HSZV.out] at CC ⊢
                exact ⟨X.okg, X.okd, X.oks, X.okp, X.okb, X.gaps, X.dups, X.skips, X.ps, X.body⟩
              clear hW hd k4 ko hok HVW HBE HVE HBL HB2 HSZV HOK1 HLL HSK HV0 HV1 HV2 HV3 HX0 HE1 HX1 HE2 HX2 HE3
              go_upto_region 7 with fail
              obtain ⟨xg, xd, xs, xp, xb, hb1, ok1, ll1, sk1⟩ := HS2.out.ex
              have HGX := Lib.hid hb1
              have HOK1 := Lib.hid ok1
              have HLL := Lib.hid ll1
              have HSK := Lib.hid sk1
              clear hb1 ok1 ll1 sk1
              have o7 := CkBlk.at HS2.out.b0 HCC.out.c7
              have x7 := CkBlk.at HGX.out (ck_cells _ _ _ _ _ _).c7
              have z7 := Blk.frozen HGX.out 7
              have hne1 : g0 ≠ g1 := HS2.out.ne
              have hne2 : g1 ≠ g0 := fun e => HS2.out.ne e.symm
              go_upto_region 8 with fail
              obtain ⟨W3, hW⟩ : ∃ W, W = (W2.setCell ⟨g1, 7, none⟩ (.int .u32 ((c.mid : Int) % 65536))) := ⟨_, rfl⟩
              rw [← hW]
              obtain ⟨d3, hd⟩ : ∃ d, d = { d2 with mid := c.mid % 65536 } := ⟨_, rfl⟩
              have HD3 := Lib.hid hd
              have hgx : CkBlk W3 g1 (ckArr d3 (xg.v d2.gaps.length) (xd.v d2.dups.length) (xs.v d2.skips.length) (xp.v d2.ps.length) (xb.v d2.body.length)) := by rw [hW, hd]; exact (Blk.set_ HGX.out 7 (.int .u32 ((c.mid : Int) % 65536)))
              have hcell : ∀ q : Addr, q.block ≠ g1 → W3.cell? q = W2.cell? q := fun q hq => by rw [hW]; exact World.cell?_setCell_other W2 ⟨g1, 7, none⟩ q _ (fun e => hq (by rw [← e]))
              have hbel : Below w.heap.size w W3 := by rw [hW]; exact ((HS2.out.below).setCell (p := ⟨g1, 7, none⟩) HS2.out.lo (.int .u32 ((c.mid : Int) % 65536)))
              have hb0 : CkBlk W3 g0 cs := by rw [hW]; exact (Blk.far HS2.out.b0 (p := ⟨g1, 7, none⟩) HS2.out.ne (.int .u32 ((c.mid : Int) % 65536)))
              have hb2 : CkBlk W3 g2 zeroA := by rw [hW]; exact (Blk.far HS2.out.b2 (p := ⟨g1, 7, none⟩) HS2.out.ne2 (.int .u32 ((c.mid : Int) % 65536)))
              have k4 := HOK1.out
              have ko := HCOK.out
              have hok : d3.ok := by rw [hd]; exact ⟨k4.kind, k4.tsn, k4.st, (by show c.mid % 65536 < 4294967296; omega), k4.pp, k4.fr, k4.tag, k4.win, k4.out, k4.inn, k4.gaps, k4.dups, k4.skips, k4.ps⟩
              have hsz : W3.heap.size = W2.heap.size := by rw [hW]; simp [World.setCell]
              have HS3 : Hid (StS true w W3 g0 g1 g2 cs d3) := by
                refine ⟨hb0, ⟨xg, xd, xs, xp, xb, by rw [hd] at hgx ⊢; exact hgx, hok, ?_, fun h => by first | exact HSK.out h | exact HSK.out trivial | cases h⟩, hbel, HS2.out.ne, HS2.out.lo, HS2.out.lo0, hb2, HS2.out.ne2, HS2.out.ne3, HS2.out.lo2⟩
                intro V hV
                have X := HLL.out V (fun q hq hq2 => (hV q hq hq2).trans (hcell q hq))
                have CC := lists_keep (B' := W3.heap.size) HCL.out (fun q hq => (hV q (fun e => by have := HBW.out; have := HS2.out.lo; omega) (fun e => by have := HBW.out; have := HS2.out.lo2; omega)).trans (hbel.cell (Nat.lt_of_lt_of_le hq HBW.out))) (Nat.le_trans HBW.out hbel.size)
                rw [hd]
                rw [hsz] at CC ⊢
                exact ⟨X.okg, X.okd, X.oks, X.okp, X.okb, X.gaps, X.dups, X.skips, X.ps, X.body⟩
              clear hW hd hgx hcell hbel hb0 hb2 k4 ko hok hsz hne1 hne2 o7 x7 z7  HGX HOK1 HLL HSK
              obtain ⟨xg, xd, xs, xp, xb, hb1, ok1, ll1, sk1⟩ := HS3.out.ex
              have HGX := Lib.hid hb1
              have HOK1 := Lib.hid ok1
              have HLL := Lib.hid ll1
              have HSK := Lib.hid sk1
              clear hb1 ok1 ll1 sk1
              have o8 := CkBlk.at HS3.out.b0 HCC.out.c8
              have x8 := CkBlk.at HGX.out (ck_cells _ _ _ _ _ _).c8
              have z8 := Blk.frozen HGX.out 8
              have hne1 : g0 ≠ g1 := HS3.out.ne
              have hne2 : g1 ≠ g0 := fun e => HS3.out.ne e.symm
              go_wp2_with fail
              obtain ⟨W4, hW⟩ : ∃ W, W = (W3.setCell ⟨g1, 8, none⟩ (.int .u32 (c.pp : Int))) := ⟨_, rfl⟩
              rw [← hW]
              obtain ⟨d4, hd⟩ : ∃ d, d = { d3 with pp := c.pp } := ⟨_, rfl⟩
              have HD4 := Lib.hid hd
              have hgx : CkBlk W4 g1 (ckArr d4 (xg.v d3.gaps.length) (xd.v d3.dups.length) (xs.v d3.skips.length) (xp.v d3.ps.length) (xb.v d3.body.length)) := by rw [hW, hd]; exact (Blk.set_ HGX.out 8 (.int .u32 (c.pp : Int)))
              have hcell : ∀ q : Addr, q.block ≠ g1 → W4.cell? q = W3.cell? q := fun q hq => by rw [hW]; exact World.cell?_setCell_other W3 ⟨g1, 8, none⟩ q _ (fun e => hq (by rw [← e]))
              have hbel : Below w.heap.size w W4 := by rw [hW]; exact ((HS3.out.below).setCell (p := ⟨g1, 8, none⟩) HS3.out.lo (.int .u32 (c.pp : Int)))
              have hb0 : CkBlk W4 g0 cs := by rw [hW]; exact (Blk.far HS3.out.b0 (p := ⟨g1, 8, none⟩) HS3.out.ne (.int .u32 (c.pp : Int)))
              have hb2 : CkBlk W4 g2 zeroA := by rw [hW]; exact (Blk.far HS3.out.b2 (p := ⟨g1, 8, none⟩) HS3.out.ne2 (.int .u32 (c.pp : Int)))
              have k4 := HOK1.out
              have ko := HCOK.out
              have hok : d4.ok := by rw [hd]; exact ⟨k4.kind, k4.tsn, k4.st, k4.mid, ko.pp, k4.fr, k4.tag, k4.win, k4.out, k4.inn, k4.gaps, k4.dups, k4.skips, k4.ps⟩
              have hsz : W4.heap.size = W3.heap.size := by rw [hW]; simp [World.setCell]
              have HS4 : Hid (StS true w W4 g0 g1 g2 cs d4) := by
                refine ⟨hb0, ⟨xg, xd, xs, xp, xb, by rw [hd] at hgx ⊢; exact hgx, hok, ?_, fun h => by first | exact HSK.out h | exact HSK.out trivial | cases h⟩, hbel, HS3.out.ne, HS3.out.lo, HS3.out.lo0, hb2, HS3.out.ne2, HS3.out.ne3, HS3.out.lo2⟩
                intro V hV
                have X := HLL.out V (fun q hq hq2 => (hV q hq hq2).trans (hcell q hq))
                have CC := lists_keep (B' := W4.heap.size) HCL.out (fun q hq => (hV q (fun e => by have := HBW.out; have := HS3.out.lo; omega) (fun e => by have := HBW.out; have := HS3.out.lo2; omega)).trans (hbel.cell (Nat.lt_of_lt_of_le hq HBW.out))) (Nat.le_trans HBW.out hbel.size)
                rw [hd]
                rw [hsz] at CC ⊢
                exact ⟨X.okg, X.okd, X.oks, X.okp, X.okb, X.gaps, X.dups, X.skips, X.ps, X.body⟩
              clear hW hd hgx hcell hbel hb0 hb2 k4 ko hok hsz hne1 hne2 o8 x8 z8  HGX HOK1 HLL HSK
              have HF : Hid (StS true w W4 g0 g1 g2 cs (D1 c)) := by
                have e : d4 = D1 c := by
                  unfold D1
                  rw [if_pos (by rw [← HKD.out]; exact .inl HC.out), HD4.out, HD3.out, HD2.out, HD1.out, HD0.out, ← HKD.out, HC.out]
                  rfl
                rw [← e]; exact HS4.out
              go_meet
              exact HF
        · have HC := Lib.hid hc
          clear hc
          have q0 : ((kd : Int) == 0) = false := by rw [HC.out]; rfl
          have q64 : ((kd : Int) == 64) = true := by rw [HC.out]; rfl
          obtain ⟨xg, xd, xs, xp, xb, hb1, ok1, ll1, sk1⟩ := HS0.out.ex
          have HOK1 := Lib.hid ok1
          have HLL := Lib.hid ll1
          have HSK := Lib.hid sk1
          obtain ⟨B0, hB0⟩ : ∃ B, B = ckArr d0 (xg.v d0.gaps.length) (xd.v d0.dups.length) (xs.v d0.skips.length) (xp.v d0.ps.length) (xb.v d0.body.length) := ⟨_, rfl⟩
          rw [← hB0] at hb1
          have HV0 : Hid (CkBlk W0.drew g0 cs ∧ CkBlk W0.drew g1 B0) := ⟨Blk.drew HS0.out.b0, Blk.drew hb1⟩
          obtain ⟨V0, hV0⟩ : ∃ V, V = W0.drew := ⟨_, rfl⟩
          rw [← hV0] at HV0
          have HVW := Lib.hid hV0
          obtain ⟨B1, hB1⟩ : ∃ B, B = B0.setIfInBounds 1 (.bool c.bg) := ⟨_, rfl⟩
          obtain ⟨V1, hV1⟩ : ∃ V, V = V0.setCell ⟨g1, 1, none⟩ (.bool c.bg) := ⟨_, rfl⟩
          have HV1 : Hid (CkBlk V1 g0 cs ∧ CkBlk V1 g1 B1) := by rw [hV1, hB1]; exact ⟨Blk.far HV0.out.1 (p := ⟨g1, 1, none⟩) HS0.out.ne _, Blk.set_ HV0.out.2 1 _⟩
          have HX0 : Hid (∃ u, B0[1]? = some u) := by rw [hB0]; exact ⟨_, rfl⟩
          have HE1 := Lib.hid hV1
          obtain ⟨B2, hB2⟩ : ∃ B, B = B1.setIfInBounds 2 (.bool c.en) := ⟨_, rfl⟩
          obtain ⟨V2, hV2⟩ : ∃ V, V = V1.setCell ⟨g1, 2, none⟩ (.bool c.en) := ⟨_, rfl⟩
          have HV2 : Hid (CkBlk V2 g0 cs ∧ CkBlk V2 g1 B2) := by rw [hV2, hB2]; exact ⟨Blk.far HV1.out.1 (p := ⟨g1, 2, none⟩) HS0.out.ne _, Blk.set_ HV1.out.2 2 _⟩
          have HX1 : Hid (∃ u, B1[2]? = some u) := by rw [hB1, hB0]; exact ⟨_, rfl⟩
          have HE2 := Lib.hid hV2
          obtain ⟨B3, hB3⟩ : ∃ B, B = B2.setIfInBounds 3 (.bool c.lo) := ⟨_, rfl⟩
          obtain ⟨V3, hV3⟩ : ∃ V, V = V2.setCell ⟨g1, 3, none⟩ (.bool c.lo) := ⟨_, rfl⟩
          have HV3 : Hid (CkBlk V3 g0 cs ∧ CkBlk V3 g1 B3) := by rw [hV3, hB3]; exact ⟨Blk.far HV2.out.1 (p := ⟨g1, 3, none⟩) HS0.out.ne _, Blk.set_ HV2.out.2 3 _⟩
          have HX2 : Hid (∃ u, B2[3]? = some u) := by rw [hB2, hB1, hB0]; exact ⟨_, rfl⟩
          have HE3 := Lib.hid hV3
          have HBE : Hid (B3 = ckArr { d0 with bg := c.bg, en := c.en, lo := c.lo } (xg.v d0.gaps.length) (xd.v d0.dups.length) (xs.v d0.skips.length) (xp.v d0.ps.length) (xb.v d0.body.length)) := by rw [hB3, hB2, hB1, hB0]; rfl
          have HVE : Hid (∀ q : Addr, q.block ≠ g1 → V3.cell? q = W0.cell? q) := fun q hq => by rw [hV3, hV2, hV1, hV0]; exact ((World.cell?_setCell_other ((W0.drew.setCell ⟨g1, 1, none⟩ (.bool c.bg)).setCell ⟨g1, 2, none⟩ (.bool c.en)) ⟨g1, 3, none⟩ q _ (fun e => hq (by rw [← e]))).trans (World.cell?_setCell_other (W0.drew.setCell ⟨g1, 1, none⟩ (.bool c.bg)) ⟨g1, 2, none⟩ q _ (fun e => hq (by rw [← e])))).trans (World.cell?_setCell_other W0.drew ⟨g1, 1, none⟩ q _ (fun e => hq (by rw [← e])))
          have HBL : Hid (Below w.heap.size w V3) := by rw [hV3, hV2, hV1, hV0]; exact (((((((Below.drew HS0.out.below)).setCell (p := ⟨g1, 1, none⟩) HS0.out.lo (.bool c.bg))).setCell (p := ⟨g1, 2, none⟩) HS0.out.lo (.bool c.en))).setCell (p := ⟨g1, 3, none⟩) HS0.out.lo (.bool c.lo))
          have HB2 : Hid (CkBlk V3 g2 zeroA) := by rw [hV3, hV2, hV1, hV0]; exact (Blk.far (Blk.far (Blk.far (Blk.drew HS0.out.b2) (p := ⟨g1, 1, none⟩) HS0.out.ne2 (.bool c.bg)) (p := ⟨g1, 2, none⟩) HS0.out.ne2 (.bool c.en)) (p := ⟨g1, 3, none⟩) HS0.out.ne2 (.bool c.lo))
          have HSZV : Hid (V3.heap.size = W0.heap.size) := by rw [hV3, hV2, hV1, hV0]; exact (show _ = _ by rw [setCell_size, setCell_size, setCell_size]; rfl)
          clear hb1 ok1 ll1 sk1 hB0 hV0 hB1 hV1 hB2 hV2 hB3 hV3
          go_upto_region 4 with fail
          refine wp_region_stage (fun _ _ => True) (fun m V => Hid (CkBlk V g0 cs ∧ CkBlk V g1 ([B0, B1, B2, B3].getD m B0) ∧ V = ([V0, V1, V2, V3].getD m V0))) [(false, .exact (.pointer (some ⟨g0, 1, none⟩))),
              (false, .exact (.bool c.bg)),
              (false, .exact (.pointer (some ⟨g0, 2, none⟩))),
              (false, .exact (.bool c.en)),
              (false, .exact (.pointer (some ⟨g0, 3, none⟩))),
              (false, .exact (.bool c.lo)),
              (false, .exact (.pointer (some ⟨g1, 1, none⟩))),
              (true, .exact (undef)),
              (false, .exact (.pointer (some ⟨g1, 2, none⟩))),
              (true, .exact (undef)),
              (false, .exact (.pointer (some ⟨g1, 3, none⟩))),
              (true, .exact (undef))] (by kernel_rfl) (by kernel_rfl) (by kernel_rfl) rfl ?lasts ?start ?walk
          case lasts => exact trivial
          case start => exact (by rw [← HVW.out]; exact ⟨HV0.out.1, HV0.out.2, rfl⟩)
          case walk =>
            refine stage_pure rfl (fun V => trivial) (fun V m hS hl => by go_simp) ?_
            simp only [Act.put, List.setIfInBounds_toArray, List.set_cons_zero, List.set_cons_succ, List.cons_append, List.nil_append]
            refine stage_pure rfl (fun V => trivial) (fun V m hS hl => by
                have hc : V.cell? ⟨g0, 1, none⟩ = some (.bool c.bg) := CkBlk.at hS.out.1 HCC.out.c1
                go_simp) ?_
            simp only [Act.put, List.setIfInBounds_toArray, List.set_cons_zero, List.set_cons_succ, List.cons_append, List.nil_append]
            refine stage_pure rfl (fun V => trivial) (fun V m hS hl => by go_simp) ?_
            simp only [Act.put, List.setIfInBounds_toArray, List.set_cons_zero, List.set_cons_succ, List.cons_append, List.nil_append]
            refine stage_pure rfl (fun V => trivial) (fun V m hS hl => by
                have hc : V.cell? ⟨g0, 2, none⟩ = some (.bool c.en) := CkBlk.at hS.out.1 HCC.out.c2
                go_simp) ?_
            simp only [Act.put, List.setIfInBounds_toArray, List.set_cons_zero, List.set_cons_succ, List.cons_append, List.nil_append]
            refine stage_pure rfl (fun V => trivial) (fun V m hS hl => by go_simp) ?_
            simp only [Act.put, List.setIfInBounds_toArray, List.set_cons_zero, List.set_cons_succ, List.cons_append, List.nil_append]
            refine stage_pure rfl (fun V => trivial) (fun V m hS hl => by
                have hc : V.cell? ⟨g0, 3, none⟩ = some (.bool c.lo) := CkBlk.at hS.out.1 HCC.out.c3
                go_simp) ?_
            simp only [Act.put, List.setIfInBounds_toArray, List.set_cons_zero, List.set_cons_succ, List.cons_append, List.nil_append]
            refine stage_pure rfl (fun V => trivial) (fun V m hS hl => by go_simp) ?_
            simp only [Act.put, List.setIfInBounds_toArray, List.set_cons_zero, List.set_cons_succ, List.cons_append, List.nil_append]
            refine stage_move rfl (fun V hS hl => by
                obtain ⟨ux, hux⟩ := HX0.out
                obtain ⟨_, h2, hv⟩ := hS.out
                have hv : V = V0 := hv
                have h2 : CkBlk V g1 B0 := h2
                rw [hv] at h2 ⊢
                have hc : V0.cell? ⟨g1, 1, none⟩ = some ux := CkBlk.at h2 hux
                have hz := Blk.frozen h2 1
                clear hv h2 hS hl hux
                go_simp
                rw [← HE1.out]
                exact ⟨rfl, HV1.out.1, HV1.out.2, rfl⟩) ?_
            simp only [Act.put, List.setIfInBounds_toArray, List.set_cons_zero, List.set_cons_succ, List.cons_append, List.nil_append]
            refine stage_pure rfl (fun V => trivial) (fun V m hS hl => by go_simp) ?_
            simp only [Act.put, List.setIfInBounds_toArray, List.set_cons_zero, List.set_cons_succ, List.cons_append, List.nil_append]
            refine stage_move rfl (fun V hS hl => by
                obtain ⟨ux, hux⟩ := HX1.out
                obtain ⟨_, h2, hv⟩ := hS.out
                have hv : V = V1 := hv
                have h2 : CkBlk V g1 B1 := h2
                rw [hv] at h2 ⊢
                have hc : V1.cell? ⟨g1, 2, none⟩ = some ux := CkBlk.at h2 hux
                have hz := Blk.frozen h2 2
                clear hv h2 hS hl hux
                go_simp
                rw [← HE2.out]
                exact ⟨rfl, HV2.out.1, HV2.out.2, rfl⟩) ?_
            simp only [Act.put, List.setIfInBounds_toArray, List.set_cons_zero, List.set_cons_succ, List.cons_append, List.nil_append]
            refine stage_pure rfl (fun V => trivial) (fun V m hS hl => by go_simp) ?_
            simp only [Act.put, List.setIfInBounds_toArray, List.set_cons_zero, List.set_cons_succ, List.cons_append, List.nil_append]
            refine stage_move rfl (fun V hS hl => by
                obtain ⟨ux, hux⟩ := HX2.out
                obtain ⟨_, h2, hv⟩ := hS.out
                have hv : V = V2 := hv
                have h2 : CkBlk V g1 B2 := h2
                rw [hv] at h2 ⊢
                have hc : V2.cell? ⟨g1, 3, none⟩ = some ux := CkBlk.at h2 hux
                have hz := Blk.frozen h2 3
                clear hv h2 hS hl hux
                go_simp
                rw [← HE3.out]
                exact ⟨rfl, HV3.out.1, HV3.out.2, rfl⟩) ?_
            simp only [Act.put, List.setIfInBounds_toArray, List.set_cons_zero, List.set_cons_succ, List.cons_append, List.nil_append]
            refine stage_nil (fun V hS hF => ?_)
            have hv : V = V3 := hS.out.2.2
            rw [hv]
            clear hS hF hv
            obtain ⟨W1, hW⟩ : ∃ W, W = V3 := ⟨_, rfl⟩
            rw [← hW]
            obtain ⟨d1, hd⟩ : ∃ d, d = { d0 with bg := c.bg, en := c.en, lo := c.lo } := ⟨_, rfl⟩
            have HD1 := Lib.hid hd
            have k4 := HOK1.out
            have ko := HCOK.out
            have hok : d1.ok := by rw [hd]; exact ⟨k4.kind, k4.tsn, k4.st, k4.mid, k4.pp, k4.fr, k4.tag, k4.win, k4.out, k4.inn, k4.gaps, k4.dups, k4.skips, k4.ps⟩
            have HS1 : Hid (StS true w W1 g0 g1 g2 cs d1) := by
              rw [hW]
              refine ⟨HV3.out.1, ⟨xg, xd, xs, xp, xb, by rw [hd]; have := HV3.out.2; rw [HBE.out] at this; exact this, hok, ?_, fun h => by first | exact HSK.out h | exact HSK.out trivial | cases h⟩, HBL.out, HS0.out.ne, HS0.out.lo, HS0.out.lo0, HB2.out, HS0.out.ne2, HS0.out.ne3, HS0.out.lo2⟩
              intro V' hV
              have X := HLL.out V' (fun q hq hq2 => (hV q hq hq2).trans (HVE.out q hq))
              have CC := lists_keep (B' := V3.heap.size) HCL.out (fun q hq => (hV q (fun e => by have := HBW.out; have := HS0.out.lo; omega) (fun e => by have := HBW.out; have := HS0.out.lo2; omega)).trans (HBL.out.cell (Nat.lt_of_lt_of_le hq HBW.out))) (Nat.le_trans HBW.out HBL.out.size)
              rw [hd]
              rw [HSZV.out] at CC ⊢
              exact ⟨X.okg, X.okd, X.oks, X.okp, X.okb, X.gaps, X.dups, X.skips, X.ps, X.body⟩
            clear hW hd k4 ko hok HVW HBE HVE HBL HB2 HSZV HOK1 HLL HSK HV0 HV1 HV2 HV3 HX0 HE1 HX1 HE2 HX2 HE3
            obtain ⟨xg, xd, xs, xp, xb, hb1, ok1, ll1, sk1⟩ := HS1.out.ex
            have HOK1 := Lib.hid ok1
            have HLL := Lib.hid ll1
            have HSK := Lib.hid sk1
            obtain ⟨B0, hB0⟩ : ∃ B, B = ckArr d1 (xg.v d1.gaps.length) (xd.v d1.dups.length) (xs.v d1.skips.length) (xp.v d1.ps.length) (xb.v d1.body.length) := ⟨_, rfl⟩
            rw [← hB0] at hb1
            have HV0 : Hid (CkBlk W1.drew g0 cs ∧ CkBlk W1.drew g1 B0) := ⟨Blk.drew HS1.out.b0, Blk.drew hb1⟩
            obtain ⟨V0, hV0⟩ : ∃ V, V = W1.drew := ⟨_, rfl⟩
            rw [← hV0] at HV0
            have HVW := Lib.hid hV0
            obtain ⟨B1, hB1⟩ : ∃ B, B = B0.setIfInBounds 5 (.int .u32 (c.tsn : Int)) := ⟨_, rfl⟩
            obtain ⟨V1, hV1⟩ : ∃ V, V = V0.setCell ⟨g1, 5, none⟩ (.int .u32 (c.tsn : Int)) := ⟨_, rfl⟩
            have HV1 : Hid (CkBlk V1 g0 cs ∧ CkBlk V1 g1 B1) := by rw [hV1, hB1]; exact ⟨Blk.far HV0.out.1 (p := ⟨g1, 5, none⟩) HS1.out.ne _, Blk.set_ HV0.out.2 5 _⟩
            have HX0 : Hid (∃ u, B0[5]? = some u) := by rw [hB0]; exact ⟨_, rfl⟩
            have HE1 := Lib.hid hV1
            obtain ⟨B2, hB2⟩ : ∃ B, B = B1.setIfInBounds 6 (.int .u16 (c.st : Int)) := ⟨_, rfl⟩
            obtain ⟨V2, hV2⟩ : ∃ V, V = V1.setCell ⟨g1, 6, none⟩ (.int .u16 (c.st : Int)) := ⟨_, rfl⟩
            have HV2 : Hid (CkBlk V2 g0 cs ∧ CkBlk V2 g1 B2) := by rw [hV2, hB2]; exact ⟨Blk.far HV1.out.1 (p := ⟨g1, 6, none⟩) HS1.out.ne _, Blk.set_ HV1.out.2 6 _⟩
            have HX1 : Hid (∃ u, B1[6]? = some u) := by rw [hB1, hB0]; exact ⟨_, rfl⟩
            have HE2 := Lib.hid hV2
            obtain ⟨B3, hB3⟩ : ∃ B, B = B2.setIfInBounds 7 (.int .u32 (c.mid : Int)) := ⟨_, rfl⟩
            obtain ⟨V3, hV3⟩ : ∃ V, V = V2.setCell ⟨g1, 7, none⟩ (.int .u32 (c.mid : Int)) := ⟨_, rfl⟩
            have HV3 : Hid (CkBlk V3 g0 cs ∧ CkBlk V3 g1 B3) := by rw [hV3, hB3]; exact ⟨Blk.far HV2.out.1 (p := ⟨g1, 7, none⟩) HS1.out.ne _, Blk.set_ HV2.out.2 7 _⟩
            have HX2 : Hid (∃ u, B2[7]? = some u) := by rw [hB2, hB1, hB0]; exact ⟨_, rfl⟩
            have HE3 := Lib.hid hV3
            have HBE : Hid (B3 = ckArr { d1 with tsn := c.tsn, st := c.st, mid := c.mid } (xg.v d1.gaps.length) (xd.v d1.dups.length) (xs.v d1.skips.length) (xp.v d1.ps.length) (xb.v d1.body.length)) := by rw [hB3, hB2, hB1, hB0]; rfl
            have HVE : Hid (∀ q : Addr, q.block ≠ g1 → V3.cell? q = W1.cell? q) := fun q hq => by rw [hV3, hV2, hV1, hV0]; exact ((World.cell?_setCell_other ((W1.drew.setCell ⟨g1, 5, none⟩ (.int .u32 (c.tsn : Int))).setCell ⟨g1, 6, none⟩ (.int .u16 (c.st : Int))) ⟨g1, 7, none⟩ q _ (fun e => hq (by rw [← e]))).trans (World.cell?_setCell_other (W1.drew.setCell ⟨g1, 5, none⟩ (.int .u32 (c.tsn : Int))) ⟨g1, 6, none⟩ q _ (fun e => hq (by rw [← e])))).trans (World.cell?_setCell_other W1.drew ⟨g1, 5, none⟩ q _ (fun e => hq (by rw [← e])))
            have HBL : Hid (Below w.heap.size w V3) := by rw [hV3, hV2, hV1, hV0]; exact (((((((Below.drew HS1.out.below)).setCell (p := ⟨g1, 5, none⟩) HS1.out.lo (.int .u32 (c.tsn : Int)))).setCell (p := ⟨g1, 6, none⟩) HS1.out.lo (.int .u16 (c.st : Int)))).setCell (p := ⟨g1, 7, none⟩) HS1.out.lo (.int .u32 (c.mid : Int)))
            have HB2 : Hid (CkBlk V3 g2 zeroA) := by rw [hV3, hV2, hV1, hV0]; exact (Blk.far (Blk.far (Blk.far (Blk.drew HS1.out.b2) (p := ⟨g1, 5, none⟩) HS1.out.ne2 (.int .u32 (c.tsn : Int))) (p := ⟨g1, 6, none⟩) HS1.out.ne2 (.int .u16 (c.st : Int))) (p := ⟨g1, 7, none⟩) HS1.out.ne2 (.int .u32 (c.mid : Int)))
            have HSZV : Hid (V3.heap.size = W1.heap.size) := by rw [hV3, hV2, hV1, hV0]; exact (show _ = _ by rw [setCell_size, setCell_size, setCell_size]; rfl)
            clear hb1 ok1 ll1 sk1 hB0 hV0 hB1 hV1 hB2 hV2 hB3 hV3
            go_upto_region 5 with fail
            refine wp_region_stage (fun _ _ => True) (fun m V => Hid (CkBlk V g0 cs ∧ CkBlk V g1 ([B0, B1, B2, B3].getD m B0) ∧ V = ([V0, V1, V2, V3].getD m V0))) [(false, .exact (.pointer (some ⟨g0, 5, none⟩))),
                (false, .exact (.int .u32 (c.tsn : Int))),
                (false, .exact (.pointer (some ⟨g0, 6, none⟩))),
                (false, .exact (.int .u16 (c.st : Int))),
                (false, .exact (.pointer (some ⟨g0, 7, none⟩))),
                (false, .exact (.int .u32 (c.mid : Int))),
                (false, .exact (.pointer (some ⟨g1, 5, none⟩))),
                (true, .exact (undef)),
                (false, .exact (.pointer (some ⟨g1, 6, none⟩))),
                (true, .exact (undef)),
                (false, .exact (.pointer (some ⟨g1, 7, none⟩))),
                (true, .exact (undef))] (by kernel_rfl) (by kernel_rfl) (by kernel_rfl) rfl ?lasts ?start ?walk
            case lasts => exact trivial
            case start => exact (by rw [← HVW.out]; exact ⟨HV0.out.1, HV0.out.2, rfl⟩)
            case walk =>
              refine stage_pure rfl (fun V => trivial) (fun V m hS hl => by go_simp) ?_
              simp only [Act.put, List.setIfInBounds_toArray, List.set_cons_zero, List.set_cons_succ, List.cons_append, List.nil_append]
              refine stage_pure rfl (fun V => trivial) (fun V m hS hl => by
                  have hc : V.cell? ⟨g0, 5, none⟩ = some (.int .u32 (c.tsn : Int)) := CkBlk.at hS.out.1 HCC.out.c5
                  go_simp) ?_
              simp only [Act.put, List.setIfInBounds_toArray, List.set_cons_zero, List.set_cons_succ, List.cons_append, List.nil_append]
              refine stage_pure rfl (fun V => trivial) (fun V m hS hl => by go_simp) ?_
              simp only [Act.put, List.setIfInBounds_toArray, List.set_cons_zero, List.set_cons_succ, List.cons_append, List.nil_append]
              refine stage_pure rfl (fun V => trivial) (fun V m hS hl => by
                  have hc : V.cell? ⟨g0, 6, none⟩ = some (.int .u16 (c.st : Int)) := CkBlk.at hS.out.1 HCC.out.c6
                  go_simp) ?_
              simp only [Act.put, List.setIfInBounds_toArray, List.set_cons_zero, List.set_cons_succ, List.cons_append, List.nil_append]
              refine stage_pure rfl (fun V => trivial) (fun V m hS hl => by go_simp) ?_
              simp only [Act.put, List.setIfInBounds_toArray, List.set_cons_zero, List.set_cons_succ, List.cons_append, List.nil_append]
              refine stage_pure rfl (fun V => trivial) (fun V m hS hl => by
                  have hc : V.cell? ⟨g0, 7, none⟩ = some (.int .u32 (c.mid : Int)) := CkBlk.at hS.out.1 HCC.out.c7
                  go_simp) ?_
              simp only [Act.put, List.setIfInBounds_toArray, List.set_cons_zero, List.set_cons_succ, List.cons_append, List.nil_append]
              refine stage_pure rfl (fun V => trivial) (fun V m hS hl => by go_simp) ?_
              simp only [Act.put, List.setIfInBounds_toArray, List.set_cons_zero, List.set_cons_succ, List.cons_append, List.nil_append]
              refine stage_move rfl (fun V hS hl => by
                  obtain ⟨ux, hux⟩ := HX0.out
                  obtain ⟨_, h2, hv⟩ := hS.out
                  have hv : V = V0 := hv
                  have h2 : CkBlk V g1 B0 := h2
                  rw [hv] at h2 ⊢
                  have hc : V0.cell? ⟨g1, 5, none⟩ = some ux := CkBlk.at h2 hux
                  have hz := Blk.frozen h2 5
                  clear hv h2 hS hl hux
                  go_simp
                  rw [← HE1.out]
                  exact ⟨rfl, HV1.out.1, HV1.out.2, rfl⟩) ?_
              simp only [Act.put, List.setIfInBounds_toArray, List.set_cons_zero, List.set_cons_succ, List.cons_append, List.nil_append]
              refine stage_pure rfl (fun V => trivial) (fun V m hS hl => by go_simp) ?_
              simp only [Act.put, List.setIfInBounds_toArray, List.set_cons_zero, List.set_cons_succ, List.cons_append, List.nil_append]
              refine stage_move rfl (fun V hS hl => by
                  obtain ⟨ux, hux⟩ := HX1.out
                  obtain ⟨_, h2, hv⟩ := hS.out
                  have hv : V = V1 := hv
                  have h2 : CkBlk V g1 B1 := h2
                  rw [hv] at h2 ⊢
                  have hc : V1.cell? ⟨g1, 6, none⟩ = some ux := CkBlk.at h2 hux
                  have hz := Blk.frozen h2 6
                  clear hv h2 hS hl hux
                  go_simp
                  rw [← HE2.out]
                  exact ⟨rfl, HV2.out.1, HV2.out.2, rfl⟩) ?_
              simp only [Act.put, List.setIfInBounds_toArray, List.set_cons_zero, List.set_cons_succ, List.cons_append, List.nil_append]
              refine stage_pure rfl (fun V => trivial) (fun V m hS hl => by go_simp) ?_
              simp only [Act.put, List.setIfInBounds_toArray, List.set_cons_zero, List.set_cons_succ, List.cons_append, List.nil_append]
              refine stage_move rfl (fun V hS hl => by
                  obtain ⟨ux, hux⟩ := HX2.out
                  obtain ⟨_, h2, hv⟩ := hS.out
                  have hv : V = V2 := hv
                  have h2 : CkBlk V g1 B2 := h2
                  rw [hv] at h2 ⊢
                  have hc : V2.cell? ⟨g1, 7, none⟩ = some ux := CkBlk.at h2 hux
                  have hz := Blk.frozen h2 7
                  clear hv h2 hS hl hux
                  go_simp
                  rw [← HE3.out]
                  exact ⟨rfl, HV3.out.1, HV3.out.2, rfl⟩) ?_
              simp only [Act.put, List.setIfInBounds_toArray, List.set_cons_zero, List.set_cons_succ, List.cons_append, List.nil_append]
              refine stage_nil (fun V hS hF => ?_)
              have hv : V = V3 := hS.out.2.2
              rw [hv]
              clear hS hF hv
              obtain ⟨W2, hW⟩ : ∃ W, W = V3 := ⟨_, rfl⟩
              rw [← hW]
              obtain ⟨d2, hd⟩ : ∃ d, d = { d1 with tsn := c.tsn, st := c.st, mid := c.mid } := ⟨_, rfl⟩
              have HD2 := Lib.hid hd
              have k4 := HOK1.out
              have ko := HCOK.out
              have hok : d2.ok := by rw [hd]; exact ⟨k4.kind, ko.tsn, ko.st, ko.mid, k4.pp, k4.fr, k4.tag, k4.win, k4.out, k4.inn, k4.gaps, k4.dups, k4.skips, k4.ps⟩
              have HS2 : Hid (StS true w W2 g0 g1 g2 cs d2) := by
                rw [hW]
                refine ⟨HV3.out.1, ⟨xg, xd, xs, xp, xb, by rw [hd]; have := HV3.out.2; rw [HBE.out] at this; exact this, hok, ?_, fun h => by first | exact HSK.out h | exact HSK.out trivial | cases h⟩, HBL.out, HS1.out.ne, HS1.out.lo, HS1.out.lo0, HB2.out, HS1.out.ne2, HS1.out.ne3, HS1.out.lo2⟩
                intro V' hV
                have X := HLL.out V' (fun q hq hq2 => (hV q hq hq2).trans (HVE.out q hq))
                have CC := lists_keep (B' := V3.heap.size) HCL.out (fun q hq => (hV q (fun e => by have := HBW.out; have := HS1.out.lo; omega) (fun e => by have := HBW.out; have := HS1.out.lo2; omega)).trans (HBL.out.cell (Nat.lt_of_lt_of_le hq HBW.out))) (Nat.le_trans HBW.out HBL.out.size)
                rw [hd]
                rw [HSZV.out] at CC ⊢
                exact ⟨X.okg, X.okd, X.oks, X.okp, X.okb, X.gaps, X.dups, X.skips, X.ps, X.body⟩
              clear hW hd k4 ko hok HVW HBE HVE HBL HB2 HSZV HOK1 HLL HSK HV0 HV1 HV2 HV3 HX0 HE1 HX1 HE2 HX2 HE3
              by_cases hbg : c.bg = true
              · have HBG := Lib.hid hbg
                have o1 := CkBlk.at HS2.out.b0 HCC.out.c1
                rw [hbg] at o1
                clear hbg
                go_upto_region 10 with fail
                clear o1
                obtain ⟨xg, xd, xs, xp, xb, hb1, ok1, ll1, sk1⟩ := HS2.out.ex
                have HGX := Lib.hid hb1
                have HOK1 := Lib.hid ok1
                have HLL := Lib.hid ll1
                have HSK := Lib.hid sk1
                clear hb1 ok1 ll1 sk1
                have o8 := CkBlk.at HS2.out.b0 HCC.out.c8
                have x8 := CkBlk.at HGX.out (ck_cells _ _ _ _ _ _).c8
                have z8 := Blk.frozen HGX.out 8
                have hne1 : g0 ≠ g1 := HS2.out.ne
                have hne2 : g1 ≠ g0 := fun e => HS2.out.ne e.symm
                go_wp2_with fail
                obtain ⟨W3, hW⟩ : ∃ W, W = (W2.setCell ⟨g1, 8, none⟩ (.int .u32 (c.pp : Int))) := ⟨_, rfl⟩
                rw [← hW]
                obtain ⟨d3, hd⟩ : ∃ d, d = { d2 with pp := c.pp } := ⟨_, rfl⟩
                have HD3 := Lib.hid hd
                have hgx : CkBlk W3 g1 (ckArr d3 (xg.v d2.gaps.length) (xd.v d2.dups.length) (xs.v d2.skips.length) (xp.v d2.ps.length) (xb.v d2.body.length)) := by rw [hW, hd]; exact (Blk.set_ HGX.out 8 (.int .u32 (c.pp : Int)))
                have hcell : ∀ q : Addr, q.block ≠ g1 → W3.cell? q = W2.cell? q := fun q hq => by rw [hW]; exact World.cell?_setCell_other W2 ⟨g1, 8, none⟩ q _ (fun e => hq (by rw [← e]))
                have hbel : Below w.heap.size w W3 := by rw [hW]; exact ((HS2.out.below).setCell (p := ⟨g1, 8, none⟩) HS2.out.lo (.int .u32 (c.pp : Int)))
                have hb0 : CkBlk W3 g0 cs := by rw [hW]; exact (Blk.far HS2.out.b0 (p := ⟨g1, 8, none⟩) HS2.out.ne (.int .u32 (c.pp : Int)))
                have hb2 : CkBlk W3 g2 zeroA := by rw [hW]; exact (Blk.far HS2.out.b2 (p := ⟨g1, 8, none⟩) HS2.out.ne2 (.int .u32 (c.pp : Int)))
                have k4 := HOK1.out
                have ko := HCOK.out
                have hok : d3.ok := by rw [hd]; exact ⟨k4.kind, k4.tsn, k4.st, k4.mid, ko.pp, k4.fr, k4.tag, k4.win, k4.out, k4.inn, k4.gaps, k4.dups, k4.skips, k4.ps⟩
                have hsz : W3.heap.size = W2.heap.size := by rw [hW]; simp [World.setCell]
                have HS3 : Hid (StS true w W3 g0 g1 g2 cs d3) := by
                  refine ⟨hb0, ⟨xg, xd, xs, xp, xb, by rw [hd] at hgx ⊢; exact hgx, hok, ?_, fun h => by first | exact HSK.out h | exact HSK.out trivial | cases h⟩, hbel, HS2.out.ne, HS2.out.lo, HS2.out.lo0, hb2, HS2.out.ne2, HS2.out.ne3, HS2.out.lo2⟩
                  intro V hV
                  have X := HLL.out V (fun q hq hq2 => (hV q hq hq2).trans (hcell q hq))
                  have CC := lists_keep (B' := W3.heap.size) HCL.out (fun q hq => (hV q (fun e => by have := HBW.out; have := HS2.out.lo; omega) (fun e => by have := HBW.out; have := HS2.out.lo2; omega)).trans (hbel.cell (Nat.lt_of_lt_of_le hq HBW.out))) (Nat.le_trans HBW.out hbel.size)
                  rw [hd]
                  rw [hsz] at CC ⊢
                  exact ⟨X.okg, X.okd, X.oks, X.okp, X.okb, X.gaps, X.dups, X.skips, X.ps, X.body⟩
                clear hW hd hgx hcell hbel hb0 hb2 k4 ko hok hsz hne1 hne2 o8 x8 z8  HGX HOK1 HLL HSK
                have HF : Hid (StS true w W3 g0 g1 g2 cs (D1 c)) := by
                  have e : d3 = D1 c := by
                    unfold D1
                    rw [if_pos (by rw [← HKD.out]; exact .inr HC.out), HD3.out, HD2.out, HD1.out, HD0.out, ← HKD.out, HC.out, HBG.out]
                    rfl
                  rw [← e]; exact HS3.out
                go_meet
                exact HF
              · have hbg : c.bg = false := by simpa using hbg
                have HBG := Lib.hid hbg
                have o1 := CkBlk.at HS2.out.b0 HCC.out.c1
                rw [hbg] at o1
                clear hbg
                go_upto_region 9 with fail
                clear o1
                obtain ⟨xg, xd, xs, xp, xb, hb1, ok1, ll1, sk1⟩ := HS2.out.ex
                have HGX := Lib.hid hb1
                have HOK1 := Lib.hid ok1
                have HLL := Lib.hid ll1
                have HSK := Lib.hid sk1
                clear hb1 ok1 ll1 sk1
                have o9 := CkBlk.at HS2.out.b0 HCC.out.c9
                have x9 := CkBlk.at HGX.out (ck_cells _ _ _ _ _ _).c9
                have z9 := Blk.frozen HGX.out 9
                have hne1 : g0 ≠ g1 := HS2.out.ne
                have hne2 : g1 ≠ g0 := fun e => HS2.out.ne e.symm
                go_wp2_with fail
                obtain ⟨W3, hW⟩ : ∃ W, W = (W2.setCell ⟨g1, 9, none⟩ (.int .u32 (c.fr : Int))) := ⟨_, rfl⟩
                rw [← hW]
                obtain ⟨d3, hd⟩ : ∃ d, d = { d2 with fr := c.fr } := ⟨_, rfl⟩
                have HD3 := Lib.hid hd
                have hgx : CkBlk W3 g1 (ckArr d3 (xg.v d2.gaps.length) (xd.v d2.dups.length) (xs.v d2.skips.length) (xp.v d2.ps.length) (xb.v d2.body.length)) := by rw [hW, hd]; exact (Blk.set_ HGX.out 9 (.int .u32 (c.fr : Int)))
                have hcell : ∀ q : Addr, q.block ≠ g1 → W3.cell? q = W2.cell? q := fun q hq => by rw [hW]; exact World.cell?_setCell_other W2 ⟨g1, 9, none⟩ q _ (fun e => hq (by rw [← e]))
                have hbel : Below w.heap.size w W3 := by rw [hW]; exact ((HS2.out.below).setCell (p := ⟨g1, 9, none⟩) HS2.out.lo (.int .u32 (c.fr : Int)))
                have hb0 : CkBlk W3 g0 cs := by rw [hW]; exact (Blk.far HS2.out.b0 (p := ⟨g1, 9, none⟩) HS2.out.ne (.int .u32 (c.fr : Int)))
                have hb2 : CkBlk W3 g2 zeroA := by rw [hW]; exact (Blk.far HS2.out.b2 (p := ⟨g1, 9, none⟩) HS2.out.ne2 (.int .u32 (c.fr : Int)))
                have k4 := HOK1.out
                have ko := HCOK.out
                have hok : d3.ok := by rw [hd]; exact ⟨k4.kind, k4.tsn, k4.st, k4.mid, k4.pp, ko.fr, k4.tag, k4.win, k4.out, k4.inn, k4.gaps, k4.dups, k4.skips, k4.ps⟩
                have hsz : W3.heap.size = W2.heap.size := by rw [hW]; simp [World.setCell]
                have HS3 : Hid (StS true w W3 g0 g1 g2 cs d3) := by
                  refine ⟨hb0, ⟨xg, xd, xs, xp, xb, by rw [hd] at hgx ⊢; exact hgx, hok, ?_, fun h => by first | exact HSK.out h | exact HSK.out trivial | cases h⟩, hbel, HS2.out.ne, HS2.out.lo, HS2.out.lo0, hb2, HS2.out.ne2, HS2.out.ne3, HS2.out.lo2⟩
                  intro V hV
                  have X := HLL.out V (fun q hq hq2 => (hV q hq hq2).trans (hcell q hq))
                  have CC := lists_keep (B' := W3.heap.size) HCL.out (fun q hq => (hV q (fun e => by have := HBW.out; have := HS2.out.lo; omega) (fun e => by have := HBW.out; have := HS2.out.lo2; omega)).trans (hbel.cell (Nat.lt_of_lt_of_le hq HBW.out))) (Nat.le_trans HBW.out hbel.size)
                  rw [hd]
                  rw [hsz] at CC ⊢
                  exact ⟨X.okg, X.okd, X.oks, X.okp, X.okb, X.gaps, X.dups, X.skips, X.ps, X.body⟩
                clear hW hd hgx hcell hbel hb0 hb2 k4 ko hok hsz hne1 hne2 o9 x9 z9  HGX HOK1 HLL HSK
                have HF : Hid (StS true w W3 g0 g1 g2 cs (D1 c)) := by
                  have e : d3 = D1 c := by
                    unfold D1
                    rw [if_pos (by rw [← HKD.out]; exact .inr HC.out), HD3.out, HD2.out, HD1.out, HD0.out, ← HKD.out, HC.out, HBG.out]
                    rfl
                  rw [← e]; exact HS3.out
                go_meet
                exact HF
      · have hc : ¬ (kd = 0 ∨ kd = 64) := of_decide_eq_false HR.out.symm
        have HS1 : Hid (StS true w W0 g0 g1 g2 cs (D1 c)) := by
          have e : D1 c = zeroC kd := by unfold D1; rw [if_neg (by rw [← HKD.out]; exact hc)]; rw [← HKD.out]
          rw [e]; exact HS0.out
        clear hc HR
        go_wp2_with fail
        go_meet
        exact HS1
    case rest =>
      obtain ⟨W0, hW0⟩ : ∃ W, W = wc := ⟨_, rfl⟩
      rw [← hW0] at hcut ⊢
      have HS0 : Hid (StS true w W0 g0 g1 g2 cs (D1 c)) := hcut.out
      clear hW0 hcut
      go_upto_region 11 with fail
      go_cut [61] from 61 to 61 (fun s wx => ∃ r, s = .bool r ∧ Hid (r = decide (kd = 1 ∨ kd = 2)) ∧ wx = W0)
      case first =>
        by_cases h0 : kd = 1
        · have d0b : ((kd : Int) == 1) = true := by rw [h0]; rfl
          have HQ : Hid (kd = 1 ∨ kd = 2) := by first | exact .inl h0 | exact .inr h0 | exact .inr (.inl h0) | exact .inr (.inr h0) | exact .inr (.inr (.inl h0)) | exact .inr (.inr (.inr h0)) | exact .inr (.inr (.inr (.inl h0))) | exact .inr (.inr (.inr (.inr h0)))
          clear h0
          go_wp2_with fail
          go_meet
          exact ⟨_, rfl, (decide_eq_true HQ.out).symm, rfl⟩
        have d0b : ((kd : Int) == 1) = false := beq_no (by omega)
        have HN0 := Lib.hid h0
        clear h0
        by_cases h1 : kd = 2
        · have d1b : ((kd : Int) == 2) = true := by rw [h1]; rfl
          have HQ : Hid (kd = 1 ∨ kd = 2) := by first | exact .inl h1 | exact .inr h1 | exact .inr (.inl h1) | exact .inr (.inr h1) | exact .inr (.inr (.inl h1)) | exact .inr (.inr (.inr h1)) | exact .inr (.inr (.inr (.inl h1))) | exact .inr (.inr (.inr (.inr h1)))
          clear h1
          go_wp2_with fail
          go_meet
          exact ⟨_, rfl, (decide_eq_true HQ.out).symm, rfl⟩
        have d1b : ((kd : Int) == 2) = false := beq_no (by omega)
        have HN1 := Lib.hid h1
        clear h1
        have HQ : Hid (¬ (kd = 1 ∨ kd = 2)) := by
          have := HN0.out
          have := HN1.out
          show ¬ _
          omega
        go_wp2_with fail
        go_meet
        exact ⟨_, rfl, (decide_eq_false HQ.out).symm, rfl⟩
      case rest =>
        obtain ⟨r, rfl, HR, hwc⟩ := hcut
        rw [hwc]
        clear hwc
        go_upto_if 61 with (fail)
        go_cut [] from 61 to 61 (fun wx => Hid (StS true w wx g0 g1 g2 cs (D2 c)))
        case first =>
          cases r
          rotate_left
          · have hc : kd = 1 ∨ kd = 2 := of_decide_eq_true HR.out.symm
            clear HR
            obtain ⟨d0, hd0⟩ : ∃ d, d = D1 c := ⟨_, rfl⟩
            rw [← hd0] at HS0
            have HD0 := Lib.hid hd0
            clear hd0
            have HC := Lib.hid hc
            clear hc
            obtain ⟨xg, xd, xs, xp, xb, hb1, ok1, ll1, sk1⟩ := HS0.out.ex
            have HOK1 := Lib.hid ok1
            have HLL := Lib.hid ll1
            have HSK := Lib.hid sk1
            obtain ⟨B0, hB0⟩ : ∃ B, B = ckArr d0 (xg.v d0.gaps.length) (xd.v d0.dups.length) (xs.v d0.skips.length) (xp.v d0.ps.length) (xb.v d0.body.length) := ⟨_, rfl⟩
            rw [← hB0] at hb1
            have HV0 : Hid (CkBlk W0.drew g0 cs ∧ CkBlk W0.drew g1 B0) := ⟨Blk.drew HS0.out.b0, Blk.drew hb1⟩
            obtain ⟨V0, hV0⟩ : ∃ V, V = W0.drew := ⟨_, rfl⟩
            rw [← hV0] at HV0
            have HVW := Lib.hid hV0
            obtain ⟨B1, hB1⟩ : ∃ B, B = B0.setIfInBounds 10 (.int .u32 (c.tag : Int)) := ⟨_, rfl⟩
            obtain ⟨V1, hV1⟩ : ∃ V, V = V0.setCell ⟨g1, 10, none⟩ (.int .u32 (c.tag : Int)) := ⟨_, rfl⟩
            have HV1 : Hid (CkBlk V1 g0 cs ∧ CkBlk V1 g1 B1) := by rw [hV1, hB1]; exact ⟨Blk.far HV0.out.1 (p := ⟨g1, 10, none⟩) HS0.out.ne _, Blk.set_ HV0.out.2 10 _⟩
            have HX0 : Hid (∃ u, B0[10]? = some u) := by rw [hB0]; exact ⟨_, rfl⟩
            have HE1 := Lib.hid hV1
            obtain ⟨B2, hB2⟩ : ∃ B, B = B1.setIfInBounds 11 (.int .u32 (c.win : Int)) := ⟨_, rfl⟩
            obtain ⟨V2, hV2⟩ : ∃ V, V = V1.setCell ⟨g1, 11, none⟩ (.int .u32 (c.win : Int)) := ⟨_, rfl⟩
            have HV2 : Hid (CkBlk V2 g0 cs ∧ CkBlk V2 g1 B2) := by rw [hV2, hB2]; exact ⟨Blk.far HV1.out.1 (p := ⟨g1, 11, none⟩) HS0.out.ne _, Blk.set_ HV1.out.2 11 _⟩
            have HX1 : Hid (∃ u, B1[11]? = some u) := by rw [hB1, hB0]; exact ⟨_, rfl⟩
            have HE2 := Lib.hid hV2
            obtain ⟨B3, hB3⟩ : ∃ B, B = B2.setIfInBounds 12 (.int .u16 (c.out : Int)) := ⟨_, rfl⟩
            obtain ⟨V3, hV3⟩ : ∃ V, V = V2.setCell ⟨g1, 12, none⟩ (.int .u16 (c.out : Int)) := ⟨_, rfl⟩
            have HV3 : Hid (CkBlk V3 g0 cs ∧ CkBlk V3 g1 B3) := by rw [hV3, hB3]; exact ⟨Blk.far HV2.out.1 (p := ⟨g1, 12, none⟩) HS0.out.ne _, Blk.set_ HV2.out.2 12 _⟩
            have HX2 : Hid (∃ u, B2[12]? = some u) := by rw [hB2, hB1, hB0]; exact ⟨_, rfl⟩
            have HE3 := Lib.hid hV3
            obtain ⟨B4, hB4⟩ : ∃ B, B = B3.setIfInBounds 13 (.int .u16 (c.inn : Int)) := ⟨_, rfl⟩
            obtain ⟨V4, hV4⟩ : ∃ V, V = V3.setCell ⟨g1, 13, none⟩ (.int .u16 (c.inn : Int)) := ⟨_, rfl⟩
            have HV4 : Hid (CkBlk V4 g0 cs ∧ CkBlk V4 g1 B4) := by rw [hV4, hB4]; exact ⟨Blk.far HV3.out.1 (p := ⟨g1, 13, none⟩) HS0.out.ne _, Blk.set_ HV3.out.2 13 _⟩
            have HX3 : Hid (∃ u, B3[13]? = some u) := by rw [hB3, hB2, hB1, hB0]; exact ⟨_, rfl⟩
            have HE4 := Lib.hid hV4
            obtain ⟨B5, hB5⟩ : ∃ B, B = B4.setIfInBounds 5 (.int .u32 (c.tsn : Int)) := ⟨_, rfl⟩
            obtain ⟨V5, hV5⟩ : ∃ V, V = V4.setCell ⟨g1, 5, none⟩ (.int .u32 (c.tsn : Int)) := ⟨_, rfl⟩
            have HV5 : Hid (CkBlk V5 g0 cs ∧ CkBlk V5 g1 B5) := by rw [hV5, hB5]; exact ⟨Blk.far HV4.out.1 (p := ⟨g1, 5, none⟩) HS0.out.ne _, Blk.set_ HV4.out.2 5 _⟩
            have HX4 : Hid (∃ u, B4[5]? = some u) := by rw [hB4, hB3, hB2, hB1, hB0]; exact ⟨_, rfl⟩
            have HE5 := Lib.hid hV5
            have HBE : Hid (B5 = ckArr { d0 with tag := c.tag, win := c.win, out := c.out, inn := c.inn, tsn := c.tsn } (xg.v d0.gaps.length) (xd.v d0.dups.length) (xs.v d0.skips.length) (xp.v d0.ps.length) (xb.v d0.body.length)) := by rw [hB5, hB4, hB3, hB2, hB1, hB0]; rfl
            have HVE : Hid (∀ q : Addr, q.block ≠ g1 → V5.cell? q = W0.cell? q) := fun q hq => by rw [hV5, hV4, hV3, hV2, hV1, hV0]; exact ((((World.cell?_setCell_other ((((W0.drew.setCell ⟨g1, 10, none⟩ (.int .u32 (c.tag : Int))).setCell ⟨g1, 11, none⟩ (.int .u32 (c.win : Int))).setCell ⟨g1, 12, none⟩ (.int .u16 (c.out : Int))).setCell ⟨g1, 13, none⟩ (.int .u16 (c.inn : Int))) ⟨g1, 5, none⟩ q _ (fun e => hq (by rw [← e]))).trans (World.cell?_setCell_other (((W0.drew.setCell ⟨g1, 10, none⟩ (.int .u32 (c.tag : Int))).setCell ⟨g1, 11, none⟩ (.int .u32 (c.win : Int))).setCell ⟨g1, 12, none⟩ (.int .u16 (c.out : Int))) ⟨g1, 13, none⟩ q _ (fun e => hq (by rw [← e])))).trans (World.cell?_setCell_other ((W0.drew.setCell ⟨g1, 10, none⟩ (.int .u32 (c.tag : Int))).setCell ⟨g1, 11, none⟩ (.int .u32 (c.win : Int))) ⟨g1, 12, none⟩ q _ (fun e => hq (by rw [← e])))).trans (World.cell?_setCell_other (W0.drew.setCell ⟨g1, 10, none⟩ (.int .u32 (c.tag : Int))) ⟨g1, 11, none⟩ q _ (fun e => hq (by rw [← e])))).trans (World.cell?_setCell_other W0.drew ⟨g1, 10, none⟩ q _ (fun e => hq (by rw [← e])))
            have HBL : Hid (Below w.heap.size w V5) := by rw [hV5, hV4, hV3, hV2, hV1, hV0]; exact (((((((((((Below.drew HS0.out.below)).setCell (p := ⟨g1, 10, none⟩) HS0.out.lo (.int .u32 (c.tag : Int)))).setCell (p := ⟨g1, 11, none⟩) HS0.out.lo (.int .u32 (c.win : Int)))).setCell (p := ⟨g1, 12, none⟩) HS0.out.lo (.int .u16 (c.out : Int)))).setCell (p := ⟨g1, 13, none⟩) HS0.out.lo (.int .u16 (c.inn : Int)))).setCell (p := ⟨g1, 5, none⟩) HS0.out.lo (.int .u32 (c.tsn : Int)))
            have HB2 : Hid (CkBlk V5 g2 zeroA) := by rw [hV5, hV4, hV3, hV2, hV1, hV0]; exact (Blk.far (Blk.far (Blk.far (Blk.far (Blk.far (Blk.drew HS0.out.b2) (p := ⟨g1, 10, none⟩) HS0.out.ne2 (.int .u32 (c.tag : Int))) (p := ⟨g1, 11, none⟩) HS0.out.ne2 (.int .u32 (c.win : Int))) (p := ⟨g1, 12, none⟩) HS0.out.ne2 (.int .u16 (c.out : Int))) (p := ⟨g1, 13, none⟩) HS0.out.ne2 (.int .u16 (c.inn : Int))) (p := ⟨g1, 5, none⟩) HS0.out.ne2 (.int .u32 (c.tsn : Int)))
            have HSZV : Hid (V5.heap.size = W0.heap.size) := by rw [hV5, hV4, hV3, hV2, hV1, hV0]; exact (show _ = _ by rw [setCell_size, setCell_size, setCell_size, setCell_size, setCell_size]; rfl)
            clear hb1 ok1 ll1 sk1 hB0 hV0 hB1 hV1 hB2 hV2 hB3 hV3 hB4 hV4 hB5 hV5
            go_upto_region 12 with fail
            refine wp_region_stage (fun _ _ => True) (fun m V => Hid (CkBlk V g0 cs ∧ CkBlk V g1 ([B0, B1, B2, B3, B4, B5].getD m B0) ∧ V = ([V0, V1, V2, V3, V4, V5].getD m V0))) [(false, .exact (.pointer (some ⟨g0, 10, none⟩))),
                (false, .exact (.int .u32 (c.tag : Int))),
                (false, .exact (.pointer (some ⟨g0, 11, none⟩))),
                (false, .exact (.int .u32 (c.win : Int))),
                (false, .exact (.pointer (some ⟨g0, 12, none⟩))),
                (false, .exact (.int .u16 (c.out : Int))),
                (false, .exact (.pointer (some ⟨g0, 13, none⟩))),
                (false, .exact (.int .u16 (c.inn : Int))),
                (false, .exact (.pointer (some ⟨g0, 5, none⟩))),
                (false, .exact (.int .u32 (c.tsn : Int))),
                (false, .exact (.pointer (some ⟨g1, 10, none⟩))),
                (true, .exact (undef)),
                (false, .exact (.pointer (some ⟨g1, 11, none⟩))),
                (true, .exact (undef)),
                (false, .exact (.pointer (some ⟨g1, 12, none⟩))),
                (true, .exact (undef)),
                (false, .exact (.pointer (some ⟨g1, 13, none⟩))),
                (true, .exact (undef)),
                (false, .exact (.pointer (some ⟨g1, 5, none⟩))),
                (true, .exact (undef))] (by kernel_rfl) (by kernel_rfl) (by kernel_rfl) rfl ?lasts ?start ?walk
            case lasts => exact trivial
            case start => exact (by rw [← HVW.out]; exact ⟨HV0.out.1, HV0.out.2, rfl⟩)
            case walk =>
              refine stage_pure rfl (fun V => trivial) (fun V m hS hl => by go_simp) ?_
              simp only [Act.put, List.setIfInBounds_toArray, List.set_cons_zero, List.set_cons_succ, List.cons_append, List.nil_append]
              refine stage_pure rfl (fun V => trivial) (fun V m hS hl => by
                  have hc : V.cell? ⟨g0, 10, none⟩ = some (.int .u32 (c.tag : Int)) := CkBlk.at hS.out.1 HCC.out.c10
                  go_simp) ?_
              simp only [Act.put, List.setIfInBounds_toArray, List.set_cons_zero, List.set_cons_succ, List.cons_append, List.nil_append]
              refine stage_pure rfl (fun V => trivial) (fun V m hS hl => by go_simp) ?_
              simp only [Act.put, List.setIfInBounds_toArray, List.set_cons_zero, List.set_cons_succ, List.cons_append, List.nil_append]
              refine stage_pure rfl (fun V => trivial) (fun V m hS hl => by
                  have hc : V.cell? ⟨g0, 11, none⟩ = some (.int .u32 (c.win : Int)) := CkBlk.at hS.out.1 HCC.out.c11
                  go_simp) ?_
              simp only [Act.put, List.setIfInBounds_toArray, List.set_cons_zero, List.set_cons_succ, List.cons_append, List.nil_append]
              refine stage_pure rfl (fun V => trivial) (fun V m hS hl => by go_simp) ?_
              simp only [Act.put, List.setIfInBounds_toArray, List.set_cons_zero, List.set_cons_succ, List.cons_append, List.nil_append]
              refine stage_pure rfl (fun V => trivial) (fun V m hS hl => by
                  have hc : V.cell? ⟨g0, 12, none⟩ = some (.int .u16 (c.out : Int)) := CkBlk.at hS.out.1 HCC.out.c12
                  go_simp) ?_
              simp only [Act.put, List.setIfInBounds_toArray, List.set_cons_zero, List.set_cons_succ, List.cons_append, List.nil_append]
              refine stage_pure rfl (fun V => trivial) (fun V m hS hl => by go_simp) ?_
              simp only [Act.put, List.setIfInBounds_toArray, List.set_cons_zero, List.set_cons_succ, List.cons_append, List.nil_append]
              refine stage_pure rfl (fun V => trivial) (fun V m hS hl => by
                  have hc : V.cell? ⟨g0, 13, none⟩ = some (.int .u16 (c.inn : Int)) := CkBlk.at hS.out.1 HCC.out.c13
                  go_simp) ?_
              simp only [Act.put, List.setIfInBounds_toArray, List.set_cons_zero, List.set_cons_succ, List.cons_append, List.nil_append]
              refine stage_pure rfl (fun V => trivial) (fun V m hS hl => by go_simp) ?_
              simp only [Act.put, List.setIfInBounds_toArray, List.set_cons_zero, List.set_cons_succ, List.cons_append, List.nil_append]
              refine stage_pure rfl (fun V => trivial) (fun V m hS hl => by
                  have hc : V.cell? ⟨g0, 5, none⟩ = some (.int .u32 (c.tsn : Int)) := CkBlk.at hS.out.1 HCC.out.c5
                  go_simp) ?_
              simp only [Act.put, List.setIfInBounds_toArray, List.set_cons_zero, List.set_cons_succ, List.cons_append, List.nil_append]
              refine stage_pure rfl (fun V => trivial) (fun V m hS hl => by go_simp) ?_
              simp only [Act.put, List.setIfInBounds_toArray, List.set_cons_zero, List.set_cons_succ, List.cons_append, List.nil_append]
              refine stage_move rfl (fun V hS hl => by
                  obtain ⟨ux, hux⟩ := HX0.out
                  obtain ⟨_, h2, hv⟩ := hS.out
                  have hv : V = V0 := hv
                  have h2 : CkBlk V g1 B0 := h2
                  rw [hv] at h2 ⊢
                  have hc : V0.cell? ⟨g1, 10, none⟩ = some ux := CkBlk.at h2 hux
                  have hz := Blk.frozen h2 10
                  clear hv h2 hS hl hux
                  go_simp
                  rw [← HE1.out]
                  exact ⟨rfl, HV1.out.1, HV1.out.2, rfl⟩) ?_
              simp only [Act.put, List.setIfInBounds_toArray, List.set_cons_zero, List.set_cons_succ, List.cons_append, List.nil_append]
              refine stage_pure rfl (fun V => trivial) (fun V m hS hl => by go_simp) ?_
              simp only [Act.put, List.setIfInBounds_toArray, List.set_cons_zero, List.set_cons_succ, List.cons_append, List.nil_append]
              refine stage_move rfl (fun V hS hl => by
                  obtain ⟨ux, hux⟩ := HX1.out
                  obtain ⟨_, h2, hv⟩ := hS.out
                  have hv : V = V1 := hv
                  have h2 : CkBlk V g1 B1 := h2
                  rw [hv] at h2 ⊢
                  have hc : V1.cell? ⟨g1, 11, none⟩ = some ux := CkBlk.at h2 hux
                  have hz := Blk.frozen h2 11
                  clear hv h2 hS hl hux
                  go_simp
                  rw [← HE2.out]
                  exact ⟨rfl, HV2.out.1, HV2.out.2, rfl⟩) ?_
              simp only [Act.put, List.setIfInBounds_toArray, List.set_cons_zero, List.set_cons_succ, List.cons_append, List.nil_append]
              refine stage_pure rfl (fun V => trivial) (fun V m hS hl => by go_simp) ?_
              simp only [Act.put, List.setIfInBounds_toArray, List.set_cons_zero, List.set_cons_succ, List.cons_append, List.nil_append]
              refine stage_move rfl (fun V hS hl => by
                  obtain ⟨ux, hux⟩ := HX2.out
                  obtain ⟨_, h2, hv⟩ := hS.out
                  have hv : V = V2 := hv
                  have h2 : CkBlk V g1 B2 := h2
                  rw [hv] at h2 ⊢
                  have hc : V2.cell? ⟨g1, 12, none⟩ = some ux := CkBlk.at h2 hux
                  have hz := Blk.frozen h2 12
                  clear hv h2 hS hl hux
                  go_simp
                  rw [← HE3.out]
                  exact ⟨rfl, HV3.out.1, HV3.out.2, rfl⟩) ?_
              simp only [Act.put, List.setIfInBounds_toArray, List.set_cons_zero, List.set_cons_succ, List.cons_append, List.nil_append]
              refine stage_pure rfl (fun V => trivial) (fun V m hS hl => by go_simp) ?_
              simp only [Act.put, List.setIfInBounds_toArray, List.set_cons_zero, List.set_cons_succ, List.cons_append, List.nil_append]
              refine stage_move rfl (fun V hS hl => by
                  obtain ⟨ux, hux⟩ := HX3.out
                  obtain ⟨_, h2, hv⟩ := hS.out
                  have hv : V = V3 := hv
                  have h2 : CkBlk V g1 B3 := h2
                  rw [hv] at h2 ⊢
                  have hc : V3.cell? ⟨g1, 13, none⟩ = some ux := CkBlk.at h2 hux
                  have hz := Blk.frozen h2 13
                  clear hv h2 hS hl hux
                  go_simp
                  rw [← HE4.out]
                  exact ⟨rfl, HV4.out.1, HV4.out.2, rfl⟩) ?_
              simp only [Act.put, List.setIfInBounds_toArray, List.set_cons_zero, List.set_cons_succ, List.cons_append, List.nil_append]
              refine stage_pure rfl (fun V => trivial) (fun V m hS hl => by go_simp) ?_
              simp only [Act.put, List.setIfInBounds_toArray, List.set_cons_zero, List.set_cons_succ, List.cons_append, List.nil_append]
              refine stage_move rfl (fun V hS hl => by
                  obtain ⟨ux, hux⟩ := HX4.out
                  obtain ⟨_, h2, hv⟩ := hS.out
                  have hv : V = V4 := hv
                  have h2 : CkBlk V g1 B4 := h2
                  rw [hv] at h2 ⊢
                  have hc : V4.cell? ⟨g1, 5, none⟩ = some ux := CkBlk.at h2 hux
                  have hz := Blk.frozen h2 5
                  clear hv h2 hS hl hux
                  go_simp
                  rw [← HE5.out]
                  exact ⟨rfl, HV5.out.1, HV5.out.2, rfl⟩) ?_
              simp only [Act.put, List.setIfInBounds_toArray, List.set_cons_zero, List.set_cons_succ, List.cons_append, List.nil_append]
              refine stage_nil (fun V hS hF => ?_)
              have hv : V = V5 := hS.out.2.2
              rw [hv]
              clear hS hF hv
              obtain ⟨W1, hW⟩ : ∃ W, W = V5 := ⟨_, rfl⟩
              rw [← hW]
              obtain ⟨d1, hd⟩ : ∃ d, d = { d0 with tag := c.tag, win := c.win, out := c.out, inn := c.inn, tsn := c.tsn } := ⟨_, rfl⟩
              have HD1 := Lib.hid hd
              have k4 := HOK1.out
              have ko := HCOK.out
              have hok : d1.ok := by rw [hd]; exact ⟨k4.kind, ko.tsn, k4.st, k4.mid, k4.pp, k4.fr, ko.tag, ko.win, ko.out, ko.inn, k4.gaps, k4.dups, k4.skips, k4.ps⟩
              have HS1 : Hid (StS true w W1 g0 g1 g2 cs d1) := by
                rw [hW]
                refine ⟨HV5.out.1, ⟨xg, xd, xs, xp, xb, by rw [hd]; have := HV5.out.2; rw [HBE.out] at this; exact this, hok, ?_, fun h => by first | exact HSK.out h | exact HSK.out trivial | cases h⟩, HBL.out, HS0.out.ne, HS0.out.lo, HS0.out.lo0, HB2.out, HS0.out.ne2, HS0.out.ne3, HS0.out.lo2⟩
                intro V' hV
                have X := HLL.out V' (fun q hq hq2 => (hV q hq hq2).trans (HVE.out q hq))
                have CC := lists_keep (B' := V5.heap.size) HCL.out (fun q hq => (hV q (fun e => by have := HBW.out; have := HS0.out.lo; omega) (fun e => by have := HBW.out; have := HS0.out.lo2; omega)).trans (HBL.out.cell (Nat.lt_of_lt_of_le hq HBW.out))) (Nat.le_trans HBW.out HBL.out.size)
                rw [hd]
                rw [HSZV.out] at CC ⊢
                exact ⟨X.okg, X.okd, X.oks, X.okp, X.okb, X.gaps, X.dups, X.skips, X.ps, X.body⟩
              clear hW hd k4 ko hok HVW HBE HVE HBL HB2 HSZV HOK1 HLL HSK HV0 HV1 HV2 HV3 HV4 HV5 HX0 HE1 HX1 HE2 HX2 HE3 HX3 HE4 HX4 HE5
              have HF : Hid (StS true w W1 g0 g1 g2 cs (D2 c)) := by
                have e : d1 = D2 c := by
                  unfold D2
                  rw [if_pos (by rw [← HKD.out]; exact HC.out), HD1.out, HD0.out]
                rw [← e]; exact HS1.out
              go_wp2_with fail
              go_meet
              exact HF
          · have hc : ¬ (kd = 1 ∨ kd = 2) := of_decide_eq_false HR.out.symm
            have HS1 : Hid (StS true w W0 g0 g1 g2 cs (D2 c)) := by
              have e : D2 c = D1 c := by unfold D2; rw [if_neg (by rw [← HKD.out]; exact hc)]
              rw [e]; exact HS0.out
            clear hc HR
            go_wp2_with fail
            go_meet
            exact HS1
        case rest =>
          obtain ⟨W0, hW0⟩ : ∃ W, W = wc := ⟨_, rfl⟩
          rw [← hW0] at hcut ⊢
          have HS0 : Hid (StS true w W0 g0 g1 g2 cs (D2 c)) := hcut.out
          clear hW0 hcut
          go_upto_if 78 with (fail)
          go_cut [] from 78 to 78 (fun wx => Hid (StS true w wx g0 g1 g2 cs (D3 c)))
          case first =>
            by_cases hc : kd = 3
            · have dt : ((kd : Int) == 3) = true := by rw [hc]; rfl
              obtain ⟨d0, hd0⟩ : ∃ d, d = D2 c := ⟨_, rfl⟩
              rw [← hd0] at HS0
              have HD0 := Lib.hid hd0
              clear hd0
              have HC := Lib.hid hc
              clear hc
              obtain ⟨xg, xd, xs, xp, xb, hb1, ok1, ll1, sk1⟩ := HS0.out.ex
              have HOK1 := Lib.hid ok1
              have HLL := Lib.hid ll1
              have HSK := Lib.hid sk1
              obtain ⟨B0, hB0⟩ : ∃ B, B = ckArr d0 (xg.v d0.gaps.length) (xd.v d0.dups.length) (xs.v d0.skips.length) (xp.v d0.ps.length) (xb.v d0.body.length) := ⟨_, rfl⟩
              rw [← hB0] at hb1
              have HV0 : Hid (CkBlk W0.drew g0 cs ∧ CkBlk W0.drew g1 B0) := ⟨Blk.drew HS0.out.b0, Blk.drew hb1⟩
              obtain ⟨V0, hV0⟩ : ∃ V, V = W0.drew := ⟨_, rfl⟩
              rw [← hV0] at HV0
              have HVW := Lib.hid hV0
              obtain ⟨B1, hB1⟩ : ∃ B, B = B0.setIfInBounds 5 (.int .u32 (c.tsn : Int)) := ⟨_, rfl⟩
              obtain ⟨V1, hV1⟩ : ∃ V, V = V0.setCell ⟨g1, 5, none⟩ (.int .u32 (c.tsn : Int)) := ⟨_, rfl⟩
              have HV1 : Hid (CkBlk V1 g0 cs ∧ CkBlk V1 g1 B1) := by rw [hV1, hB1]; exact ⟨Blk.far HV0.out.1 (p := ⟨g1, 5, none⟩) HS0.out.ne _, Blk.set_ HV0.out.2 5 _⟩
              have HX0 : Hid (∃ u, B0[5]? = some u) := by rw [hB0]; exact ⟨_, rfl⟩
              have HE1 := Lib.hid hV1
              obtain ⟨B2, hB2⟩ : ∃ B, B = B1.setIfInBounds 11 (.int .u32 (c.win : Int)) := ⟨_, rfl⟩
              obtain ⟨V2, hV2⟩ : ∃ V, V = V1.setCell ⟨g1, 11, none⟩ (.int .u32 (c.win : Int)) := ⟨_, rfl⟩
              have HV2 : Hid (CkBlk V2 g0 cs ∧ CkBlk V2 g1 B2) := by rw [hV2, hB2]; exact ⟨Blk.far HV1.out.1 (p := ⟨g1, 11, none⟩) HS0.out.ne _, Blk.set_ HV1.out.2 11 _⟩
              have HX1 : Hid (∃ u, B1[11]? = some u) := by rw [hB1, hB0]; exact ⟨_, rfl⟩
              have HE2 := Lib.hid hV2
              obtain ⟨B3, hB3⟩ : ∃ B, B = B2.setIfInBounds 14 (.slice cg.A c.gaps.length cg.cap) := ⟨_, rfl⟩
              obtain ⟨V3, hV3⟩ : ∃ V, V = V2.setCell ⟨g1, 14, none⟩ (.slice cg.A c.gaps.length cg.cap) := ⟨_, rfl⟩
              have HV3 : Hid (CkBlk V3 g0 cs ∧ CkBlk V3 g1 B3) := by rw [hV3, hB3]; exact ⟨Blk.far HV2.out.1 (p := ⟨g1, 14, none⟩) HS0.out.ne _, Blk.set_ HV2.out.2 14 _⟩
              have HX2 : Hid (∃ u, B2[14]? = some u) := by rw [hB2, hB1, hB0]; exact ⟨_, rfl⟩
              have HE3 := Lib.hid hV3
              obtain ⟨B4, hB4⟩ : ∃ B, B = B3.setIfInBounds 15 (.slice cd.A c.dups.length cd.cap) := ⟨_, rfl⟩
              obtain ⟨V4, hV4⟩ : ∃ V, V = V3.setCell ⟨g1, 15, none⟩ (.slice cd.A c.dups.length cd.cap) := ⟨_, rfl⟩
              have HV4 : Hid (CkBlk V4 g0 cs ∧ CkBlk V4 g1 B4) := by rw [hV4, hB4]; exact ⟨Blk.far HV3.out.1 (p := ⟨g1, 15, none⟩) HS0.out.ne _, Blk.set_ HV3.out.2 15 _⟩
              have HX3 : Hid (∃ u, B3[15]? = some u) := by rw [hB3, hB2, hB1, hB0]; exact ⟨_, rfl⟩
              have HE4 := Lib.hid hV4
              have HBE : Hid (B4 = ckArr { d0 with tsn := c.tsn, win := c.win, gaps := c.gaps, dups := c.dups } (cg.v c.gaps.length) (cd.v c.dups.length) (xs.v d0.skips.length) (xp.v d0.ps.length) (xb.v d0.body.length)) := by rw [hB4, hB3, hB2, hB1, hB0]; rfl
              have HVE : Hid (∀ q : Addr, q.block ≠ g1 → V4.cell? q = W0.cell? q) := fun q hq => by rw [hV4, hV3, hV2, hV1, hV0]; exact (((World.cell?_setCell_other (((W0.drew.setCell ⟨g1, 5, none⟩ (.int .u32 (c.tsn : Int))).setCell ⟨g1, 11, none⟩ (.int .u32 (c.win : Int))).setCell ⟨g1, 14, none⟩ (.slice cg.A c.gaps.length cg.cap)) ⟨g1, 15, none⟩ q _ (fun e => hq (by rw [← e]))).trans (World.cell?_setCell_other ((W0.drew.setCell ⟨g1, 5, none⟩ (.int .u32 (c.tsn : Int))).setCell ⟨g1, 11, none⟩ (.int .u32 (c.win : Int))) ⟨g1, 14, none⟩ q _ (fun e => hq (by rw [← e])))).trans (World.cell?_setCell_other (W0.drew.setCell ⟨g1, 5, none⟩ (.int .u32 (c.tsn : Int))) ⟨g1, 11, none⟩ q _ (fun e => hq (by rw [← e])))).trans (World.cell?_setCell_other W0.drew ⟨g1, 5, none⟩ q _ (fun e => hq (by rw [← e])))
              have HBL : Hid (Below w.heap.size w V4) := by rw [hV4, hV3, hV2, hV1, hV0]; exact (((((((((Below.drew HS0.out.below)).setCell (p := ⟨g1, 5, none⟩) HS0.out.lo (.int .u32 (c.tsn : Int)))).setCell (p := ⟨g1, 11, none⟩) HS0.out.lo (.int .u32 (c.win : Int)))).setCell (p := ⟨g1, 14, none⟩) HS0.out.lo (.slice cg.A c.gaps.length cg.cap))).setCell (p := ⟨g1, 15, none⟩) HS0.out.lo (.slice cd.A c.dups.length cd.cap))
              have HB2 : Hid (CkBlk V4 g2 zeroA) := by rw [hV4, hV3, hV2, hV1, hV0]; exact (Blk.far (Blk.far (Blk.far (Blk.far (Blk.drew HS0.out.b2) (p := ⟨g1, 5, none⟩) HS0.out.ne2 (.int .u32 (c.tsn : Int))) (p := ⟨g1, 11, none⟩) HS0.out.ne2 (.int .u32 (c.win : Int))) (p := ⟨g1, 14, none⟩) HS0.out.ne2 (.slice cg.A c.gaps.length cg.cap)) (p := ⟨g1, 15, none⟩) HS0.out.ne2 (.slice cd.A c.dups.length cd.cap))
              have HSZV : Hid (V4.heap.size = W0.heap.size) := by rw [hV4, hV3, hV2, hV1, hV0]; exact (show _ = _ by rw [setCell_size, setCell_size, setCell_size, setCell_size]; rfl)
              clear hb1 ok1 ll1 sk1 hB0 hV0 hB1 hV1 hB2 hV2 hB3 hV3 hB4 hV4
              go_upto_region 14 with fail
              refine wp_region_stage (fun _ _ => True) (fun m V => Hid (CkBlk V g0 cs ∧ CkBlk V g1 ([B0, B1, B2, B3, B4].getD m B0) ∧ V = ([V0, V1, V2, V3, V4].getD m V0))) [(false, .exact (.pointer (some ⟨g0, 5, none⟩))),
                  (false, .exact (.int .u32 (c.tsn : Int))),
                  (false, .exact (.pointer (some ⟨g0, 11, none⟩))),
                  (false, .exact (.int .u32 (c.win : Int))),
                  (false, .exact (.pointer (some ⟨g0, 14, none⟩))),
                  (false, .exact (.slice cg.A c.gaps.length cg.cap)),
                  (false, .exact (.pointer (some ⟨g0, 15, none⟩))),
                  (false, .exact (.slice cd.A c.dups.length cd.cap)),
                  (false, .exact (.pointer (some ⟨g1, 5, none⟩))),
                  (true, .exact (undef)),
                  (false, .exact (.pointer (some ⟨g1, 11, none⟩))),
                  (true, .exact (undef)),
                  (false, .exact (.pointer (some ⟨g1, 14, none⟩))),
                  (true, .exact (undef)),
                  (false, .exact (.pointer (some ⟨g1, 15, none⟩))),
                  (true, .exact (undef))] (by kernel_rfl) (by kernel_rfl) (by kernel_rfl) rfl ?lasts ?start ?walk
              case lasts => exact trivial
              case start => exact (by rw [← HVW.out]; exact ⟨HV0.out.1, HV0.out.2, rfl⟩)
              case walk =>
                refine stage_pure rfl (fun V => trivial) (fun V m hS hl => by go_simp) ?_
                simp only [Act.put, List.setIfInBounds_toArray, List.set_cons_zero, List.set_cons_succ, List.cons_append, List.nil_append]
                refine stage_pure rfl (fun V => trivial) (fun V m hS hl => by
                    have hc : V.cell? ⟨g0, 5, none⟩ = some (.int .u32 (c.tsn : Int)) := CkBlk.at hS.out.1 HCC.out.c5
                    go_simp) ?_
                simp only [Act.put, List.setIfInBounds_toArray, List.set_cons_zero, List.set_cons_succ, List.cons_append, List.nil_append]
                refine stage_pure rfl (fun V => trivial) (fun V m hS hl => by go_simp) ?_
                simp only [Act.put, List.setIfInBounds_toArray, List.set_cons_zero, List.set_cons_succ, List.cons_append, List.nil_append]
                refine stage_pure rfl (fun V => trivial) (fun V m hS hl => by
                    have hc : V.cell? ⟨g0, 11, none⟩ = some (.int .u32 (c.win : Int)) := CkBlk.at hS.out.1 HCC.out.c11
                    go_simp) ?_
                simp only [Act.put, List.setIfInBounds_toArray, List.set_cons_zero, List.set_cons_succ, List.cons_append, List.nil_append]
                refine stage_pure rfl (fun V => trivial) (fun V m hS hl => by go_simp) ?_
                simp only [Act.put, List.setIfInBounds_toArray, List.set_cons_zero, List.set_cons_succ, List.cons_append, List.nil_append]
                refine stage_pure rfl (fun V => trivial) (fun V m hS hl => by
                    have hc : V.cell? ⟨g0, 14, none⟩ = some (.slice cg.A c.gaps.length cg.cap) := CkBlk.at hS.out.1 HCC.out.c14
                    go_simp) ?_
                simp only [Act.put, List.setIfInBounds_toArray, List.set_cons_zero, List.set_cons_succ, List.cons_append, List.nil_append]
                refine stage_pure rfl (fun V => trivial) (fun V m hS hl => by go_simp) ?_
                simp only [Act.put, List.setIfInBounds_toArray, List.set_cons_zero, List.set_cons_succ, List.cons_append, List.nil_append]
                refine stage_pure rfl (fun V => trivial) (fun V m hS hl => by
                    have hc : V.cell? ⟨g0, 15, none⟩ = some (.slice cd.A c.dups.length cd.cap) := CkBlk.at hS.out.1 HCC.out.c15
                    go_simp) ?_
                simp only [Act.put, List.setIfInBounds_toArray, List.set_cons_zero, List.set_cons_succ, List.cons_append, List.nil_append]
                refine stage_pure rfl (fun V => trivial) (fun V m hS hl => by go_simp) ?_
                simp only [Act.put, List.setIfInBounds_toArray, List.set_cons_zero, List.set_cons_succ, List.cons_append, List.nil_append]
                refine stage_move rfl (fun V hS hl => by
                    obtain ⟨ux, hux⟩ := HX0.out
                    obtain ⟨_, h2, hv⟩ := hS.out
                    have hv : V = V0 := hv
                    have h2 : CkBlk V g1 B0 := h2
                    rw [hv] at h2 ⊢
                    have hc : V0.cell? ⟨g1, 5, none⟩ = some ux := CkBlk.at h2 hux
                    have hz := Blk.frozen h2 5
                    clear hv h2 hS hl hux
                    go_simp
                    rw [← HE1.out]
                    exact ⟨rfl, HV1.out.1, HV1.out.2, rfl⟩) ?_
                simp only [Act.put, List.setIfInBounds_toArray, List.set_cons_zero, List.set_cons_succ, List.cons_append, List.nil_append]
                refine stage_pure rfl (fun V => trivial) (fun V m hS hl => by go_simp) ?_
                simp only [Act.put, List.setIfInBounds_toArray, List.set_cons_zero, List.set_cons_succ, List.cons_append, List.nil_append]
                refine stage_move rfl (fun V hS hl => by
                    obtain ⟨ux, hux⟩ := HX1.out
                    obtain ⟨_, h2, hv⟩ := hS.out
                    have hv : V = V1 := hv
                    have h2 : CkBlk V g1 B1 := h2
                    rw [hv] at h2 ⊢
                    have hc : V1.cell? ⟨g1, 11, none⟩ = some ux := CkBlk.at h2 hux
                    have hz := Blk.frozen h2 11
                    clear hv h2 hS hl hux
                    go_simp
                    rw [← HE2.out]
                    exact ⟨rfl, HV2.out.1, HV2.out.2, rfl⟩) ?_
                simp only [Act.put, List.setIfInBounds_toArray, List.set_cons_zero, List.set_cons_succ, List.cons_append, List.nil_append]
                refine stage_pure rfl (fun V => trivial) (fun V m hS hl => by go_simp) ?_
                simp only [Act.put, List.setIfInBounds_toArray, List.set_cons_zero, List.set_cons_succ, List.cons_append, List.nil_append]
                refine stage_move rfl (fun V hS hl => by
                    obtain ⟨ux, hux⟩ := HX2.out
                    obtain ⟨_, h2, hv⟩ := hS.out
                    have hv : V = V2 := hv
                    have h2 : CkBlk V g1 B2 := h2
                    rw [hv] at h2 ⊢
                    have hc : V2.cell? ⟨g1, 14, none⟩ = some ux := CkBlk.at h2 hux
                    have hz := Blk.frozen h2 14
                    clear hv h2 hS hl hux
                    go_simp
                    rw [← HE3.out]
                    exact ⟨rfl, HV3.out.1, HV3.out.2, rfl⟩) ?_
                simp only [Act.put, List.setIfInBounds_toArray, List.set_cons_zero, List.set_cons_succ, List.cons_append, List.nil_append]
                refine stage_pure rfl (fun V => trivial) (fun V m hS hl => by go_simp) ?_
                simp only [Act.put, List.setIfInBounds_toArray, List.set_cons_zero, List.set_cons_succ, List.cons_append, List.nil_append]
                refine stage_move rfl (fun V hS hl => by
                    obtain ⟨ux, hux⟩ := HX3.out
                    obtain ⟨_, h2, hv⟩ := hS.out
                    have hv : V = V3 := hv
                    have h2 : CkBlk V g1 B3 := h2
                    rw [hv] at h2 ⊢
                    have hc : V3.cell? ⟨g1, 15, none⟩ = some ux := CkBlk.at h2 hux
                    have hz := Blk.frozen h2 15
                    clear hv h2 hS hl hux
                    go_simp
                    rw [← HE4.out]
                    exact ⟨rfl, HV4.out.1, HV4.out.2, rfl⟩) ?_
                simp only [Act.put, List.setIfInBounds_toArray, List.set_cons_zero, List.set_cons_succ, List.cons_append, List.nil_append]
                refine stage_nil (fun V hS hF => ?_)
                have hv : V = V4 := hS.out.2.2
                rw [hv]
                clear hS hF hv
                obtain ⟨W1, hW⟩ : ∃ W, W = V4 := ⟨_, rfl⟩
                rw [← hW]
                obtain ⟨d1, hd⟩ : ∃ d, d = { d0 with tsn := c.tsn, win := c.win, gaps := c.gaps, dups := c.dups } := ⟨_, rfl⟩
                have HD1 := Lib.hid hd
                have k4 := HOK1.out
                have ko := HCOK.out
                have hok : d1.ok := by rw [hd]; exact ⟨k4.kind, ko.tsn, k4.st, k4.mid, k4.pp, k4.fr, k4.tag, ko.win, k4.out, k4.inn, ko.gaps, ko.dups, k4.skips, k4.ps⟩
                have HS1 : Hid (StS true w W1 g0 g1 g2 cs d1) := by
                  rw [hW]
                  refine ⟨HV4.out.1, ⟨cg, cd, xs, xp, xb, by rw [hd]; have := HV4.out.2; rw [HBE.out] at this; exact this, hok, ?_, fun h => by first | exact HSK.out h | exact HSK.out trivial | cases h⟩, HBL.out, HS0.out.ne, HS0.out.lo, HS0.out.lo0, HB2.out, HS0.out.ne2, HS0.out.ne3, HS0.out.lo2⟩
                  intro V' hV
                  have X := HLL.out V' (fun q hq hq2 => (hV q hq hq2).trans (HVE.out q hq))
                  have CC := lists_keep (B' := V4.heap.size) HCL.out (fun q hq => (hV q (fun e => by have := HBW.out; have := HS0.out.lo; omega) (fun e => by have := HBW.out; have := HS0.out.lo2; omega)).trans (HBL.out.cell (Nat.lt_of_lt_of_le hq HBW.out))) (Nat.le_trans HBW.out HBL.out.size)
                  rw [hd]
                  rw [HSZV.out] at CC ⊢
                  exact ⟨CC.okg, CC.okd, X.oks, X.okp, X.okb, CC.gaps, CC.dups, X.skips, X.ps, X.body⟩
                clear hW hd k4 ko hok HVW HBE HVE HBL HB2 HSZV HOK1 HLL HSK HV0 HV1 HV2 HV3 HV4 HX0 HE1 HX1 HE2 HX2 HE3 HX3 HE4
                have HF : Hid (StS true w W1 g0 g1 g2 cs (D3 c)) := by
                  have e : d1 = D3 c := by
                    unfold D3
                    rw [if_pos (by rw [← HKD.out]; exact HC.out), HD1.out, HD0.out]
                  rw [← e]; exact HS1.out
                go_wp2_with fail
                go_meet
                exact HF
            · have dt : ((kd : Int) == 3) = false := beq_no (by omega)
              have HS1 : Hid (StS true w W0 g0 g1 g2 cs (D3 c)) := by
                have e : D3 c = D2 c := by unfold D3; rw [if_neg (by rw [← HKD.out]; exact hc)]
                rw [e]; exact HS0.out
              clear hc
              go_wp2_with fail
              go_meet
              exact HS1
          case rest =>
            obtain ⟨W0, hW0⟩ : ∃ W, W = wc := ⟨_, rfl⟩
            rw [← hW0] at hcut ⊢
            have HS0 : Hid (StS true w W0 g0 g1 g2 cs (D3 c)) := hcut.out
            clear hW0 hcut
            go_upto_region 15 with fail
            go_cut [96] from 96 to 96 (fun s wx => ∃ r, s = .bool r ∧ Hid (r = decide (kd = 6 ∨ kd = 14)) ∧ wx = W0)
            case first =>
              by_cases h0 : kd = 6
              · have d0b : ((kd : Int) == 6) = true := by rw [h0]; rfl
                have HQ : Hid (kd = 6 ∨ kd = 14) := by first | exact .inl h0 | exact .inr h0 | exact .inr (.inl h0) | exact .inr (.inr h0) | exact .inr (.inr (.inl h0)) | exact .inr (.inr (.inr h0)) | exact .inr (.inr (.inr (.inl h0))) | exact .inr (.inr (.inr (.inr h0)))
                clear h0
                go_wp2_with fail
                go_meet
                exact ⟨_, rfl, (decide_eq_true HQ.out).symm, rfl⟩
              have d0b : ((kd : Int) == 6) = false := beq_no (by omega)
              have HN0 := Lib.hid h0
              clear h0
              by_cases h1 : kd = 14
              · have d1b : ((kd : Int) == 14) = true := by rw [h1]; rfl
                have HQ : Hid (kd = 6 ∨ kd = 14) := by first | exact .inl h1 | exact .inr h1 | exact .inr (.inl h1) | exact .inr (.inr h1) | exact .inr (.inr (.inl h1)) | exact .inr (.inr (.inr h1)) | exact .inr (.inr (.inr (.inl h1))) | exact .inr (.inr (.inr (.inr h1)))
                clear h1
                go_wp2_with fail
                go_meet
                exact ⟨_, rfl, (decide_eq_true HQ.out).symm, rfl⟩
              have d1b : ((kd : Int) == 14) = false := beq_no (by omega)
              have HN1 := Lib.hid h1
              clear h1
              have HQ : Hid (¬ (kd = 6 ∨ kd = 14)) := by
                have := HN0.out
                have := HN1.out
                show ¬ _
                omega
              go_wp2_with fail
              go_meet
              exact ⟨_, rfl, (decide_eq_false HQ.out).symm, rfl⟩
            case rest =>
              obtain ⟨r, rfl, HR, hwc⟩ := hcut
              rw [hwc]
              clear hwc
              go_upto_if 96 with (fail)
              go_cut [] from 96 to 96 (fun wx => Hid (StS true w wx g0 g1 g2 cs (D4 c)))
              case first =>
                cases r
                rotate_left
                · have hc : kd = 6 ∨ kd = 14 := of_decide_eq_true HR.out.symm
                  clear HR
                  obtain ⟨d0, hd0⟩ : ∃ d, d = D3 c := ⟨_, rfl⟩
                  rw [← hd0] at HS0
                  have HD0 := Lib.hid hd0
                  clear hd0
                  have HC := Lib.hid hc
                  clear hc
                  obtain ⟨xg, xd, xs, xp, xb, hb1, ok1, ll1, sk1⟩ := HS0.out.ex
                  have HGX := Lib.hid hb1
                  have HOK1 := Lib.hid ok1
                  have HLL := Lib.hid ll1
                  have HSK := Lib.hid sk1
                  clear hb1 ok1 ll1 sk1
                  have o4 := CkBlk.at HS0.out.b0 HCC.out.c4
                  have x4 := CkBlk.at HGX.out (ck_cells _ _ _ _ _ _).c4
                  have z4 := Blk.frozen HGX.out 4
                  have hne1 : g0 ≠ g1 := HS0.out.ne
                  have hne2 : g1 ≠ g0 := fun e => HS0.out.ne e.symm
                  go_wp2_with fail
                  obtain ⟨W1, hW⟩ : ∃ W, W = (W0.setCell ⟨g1, 4, none⟩ (.bool c.ba)) := ⟨_, rfl⟩
                  rw [← hW]
                  obtain ⟨d1, hd⟩ : ∃ d, d = { d0 with ba := c.ba } := ⟨_, rfl⟩
                  have HD1 := Lib.hid hd
                  have hgx : CkBlk W1 g1 (ckArr d1 (xg.v d0.gaps.length) (xd.v d0.dups.length) (xs.v d0.skips.length) (xp.v d0.ps.length) (xb.v d0.body.length)) := by rw [hW, hd]; exact (Blk.set_ HGX.out 4 (.bool c.ba))
                  have hcell : ∀ q : Addr, q.block ≠ g1 → W1.cell? q = W0.cell? q := fun q hq => by rw [hW]; exact World.cell?_setCell_other W0 ⟨g1, 4, none⟩ q _ (fun e => hq (by rw [← e]))
                  have hbel : Below w.heap.size w W1 := by rw [hW]; exact ((HS0.out.below).setCell (p := ⟨g1, 4, none⟩) HS0.out.lo (.bool c.ba))
                  have hb0 : CkBlk W1 g0 cs := by rw [hW]; exact (Blk.far HS0.out.b0 (p := ⟨g1, 4, none⟩) HS0.out.ne (.bool c.ba))
                  have hb2 : CkBlk W1 g2 zeroA := by rw [hW]; exact (Blk.far HS0.out.b2 (p := ⟨g1, 4, none⟩) HS0.out.ne2 (.bool c.ba))
                  have k4 := HOK1.out
                  have ko := HCOK.out
                  have hok : d1.ok := by rw [hd]; exact ⟨k4.kind, k4.tsn, k4.st, k4.mid, k4.pp, k4.fr, k4.tag, k4.win, k4.out, k4.inn, k4.gaps, k4.dups, k4.skips, k4.ps⟩
                  have hsz : W1.heap.size = W0.heap.size := by rw [hW]; simp [World.setCell]
                  have HS1 : Hid (StS true w W1 g0 g1 g2 cs d1) := by
                    refine ⟨hb0, ⟨xg, xd, xs, xp, xb, by rw [hd] at hgx ⊢; exact hgx, hok, ?_, fun h => by first | exact HSK.out h | exact HSK.out trivial | cases h⟩, hbel, HS0.out.ne, HS0.out.lo, HS0.out.lo0, hb2, HS0.out.ne2, HS0.out.ne3, HS0.out.lo2⟩
                    intro V hV
                    have X := HLL.out V (fun q hq hq2 => (hV q hq hq2).trans (hcell q hq))
                    have CC := lists_keep (B' := W1.heap.size) HCL.out (fun q hq => (hV q (fun e => by have := HBW.out; have := HS0.out.lo; omega) (fun e => by have := HBW.out; have := HS0.out.lo2; omega)).trans (hbel.cell (Nat.lt_of_lt_of_le hq HBW.out))) (Nat.le_trans HBW.out hbel.size)
                    rw [hd]
                    rw [hsz] at CC ⊢
                    exact ⟨X.okg, X.okd, X.oks, X.okp, X.okb, X.gaps, X.dups, X.skips, X.ps, X.body⟩
                  clear hW hd hgx hcell hbel hb0 hb2 k4 ko hok hsz hne1 hne2 o4 x4 z4  HGX HOK1 HLL HSK
                  have HF : Hid (StS true w W1 g0 g1 g2 cs (D4 c)) := by
                    have e : d1 = D4 c := by
                      unfold D4
                      rw [if_pos (by rw [← HKD.out]; exact HC.out), HD1.out, HD0.out]
                    rw [← e]; exact HS1.out
                  go_meet
                  exact HF
                · have hc : ¬ (kd = 6 ∨ kd = 14) := of_decide_eq_false HR.out.symm
                  have HS1 : Hid (StS true w W0 g0 g1 g2 cs (D4 c)) := by
                    have e : D4 c = D3 c := by unfold D4; rw [if_neg (by rw [← HKD.out]; exact hc)]
                    rw [e]; exact HS0.out
                  clear hc HR
                  go_wp2_with fail
                  go_meet
                  exact HS1
              case rest =>
                obtain ⟨W0, hW0⟩ : ∃ W, W = wc := ⟨_, rfl⟩
                rw [← hW0] at hcut ⊢
                have HS0 : Hid (StS true w W0 g0 g1 g2 cs (D4 c)) := hcut.out
                clear hW0 hcut
                go_upto_region 17 with fail
                go_cut [109] from 109 to 109 (fun s wx => ∃ r, s = .bool r ∧ Hid (r = decide (kd = 7 ∨ kd = 192 ∨ kd = 194)) ∧ wx = W0)
                case first =>
                  by_cases h0 : kd = 7
                  · have d0b : ((kd : Int) == 7) = true := by rw [h0]; rfl
                    have HQ : Hid (kd = 7 ∨ kd = 192 ∨ kd = 194) := by first | exact .inl h0 | exact .inr h0 | exact .inr (.inl h0) | exact .inr (.inr h0) | exact .inr (.inr (.inl h0)) | exact .inr (.inr (.inr h0)) | exact .inr (.inr (.inr (.inl h0))) | exact .inr (.inr (.inr (.inr h0)))
                    clear h0
                    go_wp2_with fail
                    go_meet
                    exact ⟨_, rfl, (decide_eq_true HQ.out).symm, rfl⟩
                  have d0b : ((kd : Int) == 7) = false := beq_no (by omega)
                  have HN0 := Lib.hid h0
                  clear h0
                  by_cases h1 : kd = 192
                  · have d1b : ((kd : Int) == 192) = true := by rw [h1]; rfl
                    have HQ : Hid (kd = 7 ∨ kd = 192 ∨ kd = 194) := by first | exact .inl h1 | exact .inr h1 | exact .inr (.inl h1) | exact .inr (.inr h1) | exact .inr (.inr (.inl h1)) | exact .inr (.inr (.inr h1)) | exact .inr (.inr (.inr (.inl h1))) | exact .inr (.inr (.inr (.inr h1)))
                    clear h1
                    go_wp2_with fail
                    go_meet
                    exact ⟨_, rfl, (decide_eq_true HQ.out).symm, rfl⟩
                  have d1b : ((kd : Int) == 192) = false := beq_no (by omega)
                  have HN1 := Lib.hid h1
                  clear h1
                  by_cases h2 : kd = 194
                  · have d2b : ((kd : Int) == 194) = true := by rw [h2]; rfl
                    have HQ : Hid (kd = 7 ∨ kd = 192 ∨ kd = 194) := by first | exact .inl h2 | exact .inr h2 | exact .inr (.inl h2) | exact .inr (.inr h2) | exact .inr (.inr (.inl h2)) | exact .inr (.inr (.inr h2)) | exact .inr (.inr (.inr (.inl h2))) | exact .inr (.inr (.inr (.inr h2)))
                    clear h2
                    go_wp2_with fail
                    go_meet
                    exact ⟨_, rfl, (decide_eq_true HQ.out).symm, rfl⟩
                  have d2b : ((kd : Int) == 194) = false := beq_no (by omega)
                  have HN2 := Lib.hid h2
                  clear h2
                  have HQ : Hid (¬ (kd = 7 ∨ kd = 192 ∨ kd = 194)) := by
                    have := HN0.out
                    have := HN1.out
                    have := HN2.out
                    show ¬ _
                    omega
                  go_wp2_with fail
                  go_meet
                  exact ⟨_, rfl, (decide_eq_false HQ.out).symm, rfl⟩
                case rest =>
                  obtain ⟨r, rfl, HR, hwc⟩ := hcut
                  rw [hwc]
                  clear hwc
                  go_upto_if 109 with (fail)
                  go_cut [] from 109 to 109 (fun wx => Hid (StS true w wx g0 g1 g2 cs (D5 c)))
                  case first =>
                    cases r
                    rotate_left
                    · have hc : kd = 7 ∨ kd = 192 ∨ kd = 194 := of_decide_eq_true HR.out.symm
                      clear HR
                      obtain ⟨d0, hd0⟩ : ∃ d, d = D4 c := ⟨_, rfl⟩
                      rw [← hd0] at HS0
                      have HD0 := Lib.hid hd0
                      clear hd0
                      have HC := Lib.hid hc
                      clear hc
                      obtain ⟨xg, xd, xs, xp, xb, hb1, ok1, ll1, sk1⟩ := HS0.out.ex
                      have HGX := Lib.hid hb1
                      have HOK1 := Lib.hid ok1
                      have HLL := Lib.hid ll1
                      have HSK := Lib.hid sk1
                      clear hb1 ok1 ll1 sk1
                      have o5 := CkBlk.at HS0.out.b0 HCC.out.c5
                      have x5 := CkBlk.at HGX.out (ck_cells _ _ _ _ _ _).c5
                      have z5 := Blk.frozen HGX.out 5
                      have hne1 : g0 ≠ g1 := HS0.out.ne
                      have hne2 : g1 ≠ g0 := fun e => HS0.out.ne e.symm
                      go_wp2_with fail
                      obtain ⟨W1, hW⟩ : ∃ W, W = (W0.setCell ⟨g1, 5, none⟩ (.int .u32 (c.tsn : Int))) := ⟨_, rfl⟩
                      rw [← hW]
                      obtain ⟨d1, hd⟩ : ∃ d, d = { d0 with tsn := c.tsn } := ⟨_, rfl⟩
                      have HD1 := Lib.hid hd
                      have hgx : CkBlk W1 g1 (ckArr d1 (xg.v d0.gaps.length) (xd.v d0.dups.length) (xs.v d0.skips.length) (xp.v d0.ps.length) (xb.v d0.body.length)) := by rw [hW, hd]; exact (Blk.set_ HGX.out 5 (.int .u32 (c.tsn : Int)))
                      have hcell : ∀ q : Addr, q.block ≠ g1 → W1.cell? q = W0.cell? q := fun q hq => by rw [hW]; exact World.cell?_setCell_other W0 ⟨g1, 5, none⟩ q _ (fun e => hq (by rw [← e]))
                      have hbel : Below w.heap.size w W1 := by rw [hW]; exact ((HS0.out.below).setCell (p := ⟨g1, 5, none⟩) HS0.out.lo (.int .u32 (c.tsn : Int)))
                      have hb0 : CkBlk W1 g0 cs := by rw [hW]; exact (Blk.far HS0.out.b0 (p := ⟨g1, 5, none⟩) HS0.out.ne (.int .u32 (c.tsn : Int)))
                      have hb2 : CkBlk W1 g2 zeroA := by rw [hW]; exact (Blk.far HS0.out.b2 (p := ⟨g1, 5, none⟩) HS0.out.ne2 (.int .u32 (c.tsn : Int)))
                      have k4 := HOK1.out
                      have ko := HCOK.out
                      have hok : d1.ok := by rw [hd]; exact ⟨k4.kind, ko.tsn, k4.st, k4.mid, k4.pp, k4.fr, k4.tag, k4.win, k4.out, k4.inn, k4.gaps, k4.dups, k4.skips, k4.ps⟩
                      have hsz : W1.heap.size = W0.heap.size := by rw [hW]; simp [World.setCell]
                      have HS1 : Hid (StS true w W1 g0 g1 g2 cs d1) := by
                        refine ⟨hb0, ⟨xg, xd, xs, xp, xb, by rw [hd] at hgx ⊢; exact hgx, hok, ?_, fun h => by first | exact HSK.out h | exact HSK.out trivial | cases h⟩, hbel, HS0.out.ne, HS0.out.lo, HS0.out.lo0, hb2, HS0.out.ne2, HS0.out.ne3, HS0.out.lo2⟩
                        intro V hV
                        have X := HLL.out V (fun q hq hq2 => (hV q hq hq2).trans (hcell q hq))
                        have CC := lists_keep (B' := W1.heap.size) HCL.out (fun q hq => (hV q (fun e => by have := HBW.out; have := HS0.out.lo; omega) (fun e => by have := HBW.out; have := HS0.out.lo2; omega)).trans (hbel.cell (Nat.lt_of_lt_of_le hq HBW.out))) (Nat.le_trans HBW.out hbel.size)
                        rw [hd]
                        rw [hsz] at CC ⊢
                        exact ⟨X.okg, X.okd, X.oks, X.okp, X.okb, X.gaps, X.dups, X.skips, X.ps, X.body⟩
                      clear hW hd hgx hcell hbel hb0 hb2 k4 ko hok hsz hne1 hne2 o5 x5 z5  HGX HOK1 HLL HSK
                      have HF : Hid (StS true w W1 g0 g1 g2 cs (D5 c)) := by
                        have e : d1 = D5 c := by
                          unfold D5
                          rw [if_pos (by rw [← HKD.out]; exact HC.out), HD1.out, HD0.out]
                        rw [← e]; exact HS1.out
                      go_meet
                      exact HF
                    · have hc : ¬ (kd = 7 ∨ kd = 192 ∨ kd = 194) := of_decide_eq_false HR.out.symm
                      have HS1 : Hid (StS true w W0 g0 g1 g2 cs (D5 c)) := by
                        have e : D5 c = D4 c := by unfold D5; rw [if_neg (by rw [← HKD.out]; exact hc)]
                        rw [e]; exact HS0.out
                      clear hc HR
                      go_wp2_with fail
                      go_meet
                      exact HS1
                  case rest =>
                    obtain ⟨W0, hW0⟩ : ∃ W, W = wc := ⟨_, rfl⟩
                    rw [← hW0] at hcut ⊢
                    have HS0 : Hid (StS true w W0 g0 g1 g2 cs (D5 c)) := hcut.out
                    clear hW0 hcut
                    go_upto_region 19 with fail
                    go_cut [118] from 118 to 118 (fun s wx => ∃ r, s = .bool r ∧ Hid (r = decide (kd = 192 ∨ kd = 194)) ∧ wx = W0)
                    case first =>
                      by_cases h0 : kd = 192
                      · have d0b : ((kd : Int) == 192) = true := by rw [h0]; rfl
                        have HQ : Hid (kd = 192 ∨ kd = 194) := by first | exact .inl h0 | exact .inr h0 | exact .inr (.inl h0) | exact .inr (.inr h0) | exact .inr (.inr (.inl h0)) | exact .inr (.inr (.inr h0)) | exact .inr (.inr (.inr (.inl h0))) | exact .inr (.inr (.inr (.inr h0)))
                        clear h0
                        go_wp2_with fail
                        go_meet
                        exact ⟨_, rfl, (decide_eq_true HQ.out).symm, rfl⟩
                      have d0b : ((kd : Int) == 192) = false := beq_no (by omega)
                      have HN0 := Lib.hid h0
                      clear h0
                      by_cases h1 : kd = 194
                      · have d1b : ((kd : Int) == 194) = true := by rw [h1]; rfl
                        have HQ : Hid (kd = 192 ∨ kd = 194) := by first | exact .inl h1 | exact .inr h1 | exact .inr (.inl h1) | exact .inr (.inr h1) | exact .inr (.inr (.inl h1)) | exact .inr (.inr (.inr h1)) | exact .inr (.inr (.inr (.inl h1))) | exact .inr (.inr (.inr (.inr h1)))
                        clear h1
                        go_wp2_with fail
                        go_meet
                        exact ⟨_, rfl, (decide_eq_true HQ.out).symm, rfl⟩
                      have d1b : ((kd : Int) == 194) = false := beq_no (by omega)
                      have HN1 := Lib.hid h1
                      clear h1
                      have HQ : Hid (¬ (kd = 192 ∨ kd = 194)) := by
                        have := HN0.out
                        have := HN1.out
                        show ¬ _
                        omega
                      go_wp2_with fail
                      go_meet
                      exact ⟨_, rfl, (decide_eq_false HQ.out).symm, rfl⟩
                    case rest =>
                      obtain ⟨r, rfl, HR, hwc⟩ := hcut
                      rw [hwc]
                      clear hwc
                      go_upto_if 118 with (fail)
                      go_cut [] from 118 to 118 (fun wx => Hid (StS false w wx g0 g1 g2 cs (D6 c)))
                      case first =>
                        cases r
                        rotate_left
                        · have hc : kd = 192 ∨ kd = 194 := of_decide_eq_true HR.out.symm
                          clear HR
                          obtain ⟨d0, hd0⟩ : ∃ d, d = D5 c := ⟨_, rfl⟩
                          rw [← hd0] at HS0
                          have hd5 : d0 = { zeroC kd with tsn := c.tsn } := by rw [hd0, D5_skip (by rw [← HKD.out]; exact hc), ← HKD.out]
                          have HC := Lib.hid hc
                          clear hc hd0
                          subst hd5
                          obtain ⟨xg, xd, xs, xp, xb, hb1, hok5, ll1, sk1⟩ := HS0.out.ex
                          obtain rfl := sk1 rfl
                          have l5 := ll1 W0 (fun _ _ _ => rfl)
                          have HARR : Hid (∃ a b d e : Value, CkBlk W0 g1 (ckArr { zeroC kd with tsn := c.tsn } a b nilV d e)) := ⟨_, _, _, _, hb1⟩
                          obtain ⟨vg, hvg⟩ : ∃ v, v = xg.v 0 := ⟨_, rfl⟩
                          obtain ⟨vd, hvd⟩ : ∃ v, v = xd.v 0 := ⟨_, rfl⟩
                          obtain ⟨vp, hvp⟩ : ∃ v, v = xp.v 0 := ⟨_, rfl⟩
                          obtain ⟨vb, hvb⟩ : ∃ v, v = xb.v 0 := ⟨_, rfl⟩
                          have HKS : Hid (SkS w W0 g0 g1 g2 cs kd c.tsn vg vd vp vb none 0 0 (skD kd (c.skips.take 0))) := by
                            rw [List.take_zero, show skD kd [] = [] by unfold skD; split <;> rfl]
                            exact ⟨HS0.out.b0, by rw [hvg, hvd, hvp, hvb]; exact hb1, World.ownsRow_nil _ _ _ _, rfl, HS0.out.below, HS0.out.b2⟩
                          have HL5 := Lib.hid l5
                          have HOK5 := Lib.hid hok5
                          have HLL := Lib.hid ll1
                          have HVG := Lib.hid hvg
                          have HVD := Lib.hid hvd
                          have HVP := Lib.hid hvp
                          have HVB := Lib.hid hvb
                          have hne : g0 ≠ g1 := HS0.out.ne
                          have hne2 : g2 ≠ g1 := HS0.out.ne2
                          have hlo := HS0.out.lo
                          have hlo0 := HS0.out.lo0
                          have hlo2 := HS0.out.lo2
                          have hne3 := HS0.out.ne3
                          clear hb1 hok5 ll1 sk1 l5 HARR hvg hvd hvp hvb HS0
                          have o16 := CkBlk.at HKS.out.b0 HCC.out.c16
                          obtain ⟨ns, hns⟩ : ∃ n, n = c.skips.length := ⟨_, rfl⟩
                          rw [← hns] at o16
                          have HNS := Lib.hid hns
                          have hnsl : ns ≤ 500000 := by rw [hns]; exact HSL.out
                          have HSKR : Hid (∀ V, Below w.heap.size w V → Reads V B 3 csk.A ns (skC c.skips)) := fun V hb => by rw [hns]; exact HCL.out.skips.keep (fun q hq => hb.cell (Nat.lt_of_lt_of_le hq HBW.out))
                          obtain ⟨j0, hj0, hjz0, hjz1, hjz2⟩ := info_parts3 skip_info
                          clear hns
                          go_wp2_with fail
                          go_loopw [6, 122] (fun _ i wr => ∃ (k n cp : Nat) (A : Option Addr), k ≤ ns ∧ i = .int .i64 k ∧ n = k ∧ n ≤ cp ∧ cp ≤ 9223372036854775807 ∧ Hid (SkS w wr g0 g1 g2 cs kd c.tsn vg vd vp vb A n cp (skD kd (c.skips.take k)))) (fun _ i _ => ns - (intOf i).toNat)
                          case atStart => exact ⟨0, 0, 0, none, by omega, rfl, rfl, by omega, by omega, HKS⟩
                          case round =>
                            obtain ⟨k, n, cp, A, hk, rfl, rfl, hncp, hcpm, HK⟩ := hrel
                            by_cases hlt : n < ns
                            · obtain ⟨ad, s, hA, hblk, hs, hc0, hc1, hc2⟩ := sk_cells (HSKR.out wr HK.out.below) HNS.out hlt
                              have HSS := Lib.hid hs
                              have HA := Lib.hid hA
                              have hsok := HCOK.out.skips s (List.mem_of_getElem? hs)
                              obtain ⟨m2, hm2⟩ : ∃ m, m = s.2.2 := ⟨_, rfl⟩
                              obtain ⟨lo2, hlo2v⟩ : ∃ m, m = s.2.1 := ⟨_, rfl⟩
                              obtain ⟨st2, hst2⟩ : ∃ m, m = s.1 := ⟨_, rfl⟩
                              rw [← hst2] at hc0
                              rw [← hlo2v] at hc1
                              rw [← hm2] at hc2
                              rcases HcA : csk.A with _ | ad2
                              · rw [HcA] at hA; cases hA
                              rw [HcA] at hA
                              injection hA with hA
                              subst hA
                              have HS2 : Hid (s = (st2, lo2, m2)) := by rw [hst2, hlo2v, hm2]; rfl
                              have hmb : m2 < 4294967296 := by rw [hm2]; exact hsok.2
                              clear hs hblk hsok hm2 hlo2v hst2 HA
                              have HT : Hid (c.skips.take (n + 1) = c.skips.take n ++ [s]) := by have hl := (List.getElem?_eq_some_iff.1 HSS.out); obtain ⟨hl1, hl2⟩ := hl; rw [List.take_succ_eq_append_getElem hl1, hl2]; rfl
                              have HG6 : Hid (Blk (wr.alloc (.cells #[.int .u16 (st2 : Int), .bool lo2, .int .u32 (m2 : Int)] 87)) wr.heap.size 87 #[.int .u16 (st2 : Int), .bool lo2, .int .u32 (m2 : Int)]) := Blk.new _ _ _
                              by_cases h192 : kd = 192
                              · have d192 : ((kd : Int) == 192) = true := by rw [h192]; rfl
                                have H192 := Lib.hid h192
                                clear h192
                                go_upto_region 26 with fail
                                obtain ⟨W2, hW2⟩ : ∃ W, W = wr.alloc (.cells #[.int .u16 (st2 : Int), .bool false, .int .u32 ((m2 : Int) % 65536)] 87) := ⟨_, rfl⟩
                                have hb2 : Blk W2 wr.heap.size 87 #[.int .u16 (st2 : Int), .bool false, .int .u32 ((m2 : Int) % 65536)] := by rw [hW2]; exact Blk.new _ _ _
                                obtain ⟨g6, hg6⟩ : ∃ g, g = wr.heap.size := ⟨_, rfl⟩
                                rw [← hg6] at hb2
                                have HK2 := Lib.hid (HK.out.grows (show Below wr.heap.size wr W2 by rw [hW2]; exact (Below.refl _ wr).alloc (Nat.le_refl _) _))
                                rw [← hW2, ← hg6]
                                have c0 : W2.cell? ⟨g6, 0, none⟩ = some (.int .u16 (st2 : Int)) := hb2.cell 0
                                have c1 : W2.cell? ⟨g6, 1, none⟩ = some (.bool false) := hb2.cell 1
                                have c2 : W2.cell? ⟨g6, 2, none⟩ = some (.int .u32 ((m2 : Int) % 65536)) := hb2.cell 2
                                have f16 : W2.cell? ⟨g1, 16, none⟩ = some (.slice A n cp) := CkBlk.at HK2.out.b1 rfl
                                have HSD : Hid (skD kd (c.skips.take (n + 1)) = skD kd (c.skips.take n) ++ [(st2, false, (m2 % 65536))]) := by
                                  rw [HT.out, skD_snoc, HS2.out]
                                  unfold skD
                                  rw [if_pos H192.out]; rw [if_pos H192.out]; rfl
                                have hsz2 := HK2.out.below.size
                                clear hW2 hg6 hb2 HK HT HS2
                                go_wp2_with (at_builtin; refine wpList_append_any _ rfl (.tmp 134) (.tmp 136) _ rfl w.heap.size 87 j0 _ 3 8 Try.underlying29 hj0 hjz0 hjz1 hjz2 rfl (by omega) (.slice A n cp) n (skC (skD kd (c.skips.take n))) rfl (HK2.out.own.alloc _) (W2.heap.size + 1) (some ⟨W2.heap.size, 0, none⟩) 1 1 [.int .u16 (st2 : Int), .bool false, .int .u32 ((m2 : Int) % 65536)] rfl (three_reads W2 _ _ _ _) (fun u hu => by simp only [List.mem_cons, List.not_mem_nil, or_false] at hu; rcases hu with rfl | rfl | rfl <;> rfl) (by simp only [maxLen]; omega) (by omega) (Nat.le_trans hsz2 (by simp)) ?_; intro v7 w7 hown7 hg7 hat7; obtain ⟨A7, c7, rfl, h7a, h7b⟩ := own_slice hown7; have HK3 := Lib.hid (HK2.out.grows ((Below.refl _ W2).alloc (Nat.le_refl _) (.cells #[.int .u16 (st2 : Int), .bool false, .int .u32 ((m2 : Int) % 65536)] 87))); have HK4 := Lib.hid (HK3.out.more (s := (st2, false, (m2 % 65536))) hown7 rfl hg7 hne hne2 hlo); have fb := Blk.grown HK3.out.b1 hg7 (own_blk_ne HK3.out.own HK3.out.b1 (by decide)).symm; have f16b : w7.cell? ⟨g1, 16, none⟩ = some (.slice A n cp) := CkBlk.at fb rfl; have z16 := Blk.frozen fb 16; clear hown7 hg7 hat7 fb)
                                go_roundw
                                case rel => exact ⟨n + 1, n + 1, c7, A7, by omega, by go_num, rfl, h7a, h7b, by rw [HSD.out]; exact HK4⟩
                                case measure => simp [intOf]; omega
                              · have d192 : ((kd : Int) == 192) = false := beq_no (by omega)
                                have H192 := Lib.hid h192
                                clear h192
                                go_upto_region 26 with fail
                                obtain ⟨W2, hW2⟩ : ∃ W, W = wr.alloc (.cells #[.int .u16 (st2 : Int), .bool lo2, .int .u32 ((m2 : Int))] 87) := ⟨_, rfl⟩
                                have hb2 : Blk W2 wr.heap.size 87 #[.int .u16 (st2 : Int), .bool lo2, .int .u32 ((m2 : Int))] := by rw [hW2]; exact Blk.new _ _ _
                                obtain ⟨g6, hg6⟩ : ∃ g, g = wr.heap.size := ⟨_, rfl⟩
                                rw [← hg6] at hb2
                                have HK2 := Lib.hid (HK.out.grows (show Below wr.heap.size wr W2 by rw [hW2]; exact (Below.refl _ wr).alloc (Nat.le_refl _) _))
                                rw [← hW2, ← hg6]
                                have c0 : W2.cell? ⟨g6, 0, none⟩ = some (.int .u16 (st2 : Int)) := hb2.cell 0
                                have c1 : W2.cell? ⟨g6, 1, none⟩ = some (.bool lo2) := hb2.cell 1
                                have c2 : W2.cell? ⟨g6, 2, none⟩ = some (.int .u32 ((m2 : Int))) := hb2.cell 2
                                have f16 : W2.cell? ⟨g1, 16, none⟩ = some (.slice A n cp) := CkBlk.at HK2.out.b1 rfl
                                have HSD : Hid (skD kd (c.skips.take (n + 1)) = skD kd (c.skips.take n) ++ [(st2, lo2, m2)]) := by
                                  rw [HT.out, skD_snoc, HS2.out]
                                  unfold skD
                                  rw [if_neg H192.out, if_neg H192.out]; rfl
                                have hsz2 := HK2.out.below.size
                                clear hW2 hg6 hb2 HK HT HS2
                                go_wp2_with (at_builtin; refine wpList_append_any _ rfl (.tmp 134) (.tmp 136) _ rfl w.heap.size 87 j0 _ 3 8 Try.underlying29 hj0 hjz0 hjz1 hjz2 rfl (by omega) (.slice A n cp) n (skC (skD kd (c.skips.take n))) rfl (HK2.out.own.alloc _) (W2.heap.size + 1) (some ⟨W2.heap.size, 0, none⟩) 1 1 [.int .u16 (st2 : Int), .bool lo2, .int .u32 ((m2 : Int))] rfl (three_reads W2 _ _ _ _) (fun u hu => by simp only [List.mem_cons, List.not_mem_nil, or_false] at hu; rcases hu with rfl | rfl | rfl <;> rfl) (by simp only [maxLen]; omega) (by omega) (Nat.le_trans hsz2 (by simp)) ?_; intro v7 w7 hown7 hg7 hat7; obtain ⟨A7, c7, rfl, h7a, h7b⟩ := own_slice hown7; have HK3 := Lib.hid (HK2.out.grows ((Below.refl _ W2).alloc (Nat.le_refl _) (.cells #[.int .u16 (st2 : Int), .bool lo2, .int .u32 ((m2 : Int))] 87))); have HK4 := Lib.hid (HK3.out.more (s := (st2, lo2, m2)) hown7 rfl hg7 hne hne2 hlo); have fb := Blk.grown HK3.out.b1 hg7 (own_blk_ne HK3.out.own HK3.out.b1 (by decide)).symm; have f16b : w7.cell? ⟨g1, 16, none⟩ = some (.slice A n cp) := CkBlk.at fb rfl; have z16 := Blk.frozen fb 16; clear hown7 hg7 hat7 fb)
                                go_roundw
                                case rel => exact ⟨n + 1, n + 1, c7, A7, by omega, by go_num, rfl, h7a, h7b, by rw [HSD.out]; exact HK4⟩
                                case measure => simp [intOf]; omega
                            · obtain rfl : n = ns := by omega
                              go_wp2_with fail
                              have HTK : Hid (c.skips.take n = c.skips) := List.take_of_length_le (by rw [HNS.out]; exact Nat.le_refl _)
                              have HF : Hid (StS false w wr g0 g1 g2 cs (D6 c)) := by
                                have k := HK.out
                                rw [HTK.out] at k
                                have e : D6 c = { zeroC kd with tsn := c.tsn, skips := skD kd c.skips } := by
                                  unfold D6
                                  rw [if_pos (by rw [← HKD.out]; exact HC.out), D5_skip (by rw [← HKD.out]; exact HC.out), ← HKD.out]
                                have z := HOK5.out
                                rw [e]
                                refine ⟨k.b0, ⟨xg, xd, ⟨A, cp⟩, xp, xb, ?_, ⟨z.kind, z.tsn, z.st, z.mid, z.pp, z.fr, z.tag, z.win, z.out, z.inn, z.gaps, z.dups, skD_ok HCOK.out.skips, z.ps⟩, fun V hV => ?_, fun h => by cases h⟩, k.below, hne, hlo, hlo0, k.b2, hne2, hne3, hlo2⟩
                                · have := k.b1
                                  rw [HVG.out, HVD.out, HVP.out, HVB.out] at this
                                  have hl := k.len
                                  show CkBlk wr g1 (ckArr _ (xg.v 0) (xd.v 0) (Value.slice A (skD kd c.skips).length cp) (xp.v 0) (xb.v 0))
                                  rw [← hl]
                                  exact this
                                · have hl := k.len
                                  have hr := reads_apart k.own k.b1 k.b2 (by decide) V hV
                                  refine ⟨HL5.out.okg, HL5.out.okd, ⟨by rw [← hl]; exact hncp, hcpm⟩, HL5.out.okp, HL5.out.okb, ?_, ?_, by show Reads _ _ 3 A (skD kd c.skips).length _; rw [← hl]; exact hr, ?_, ?_⟩
                                  · exact Reads.none_
                                  · exact Reads.none_
                                  · exact Ps.nil _ _ _
                                  · unfold Byt; exact Reads.none_
                              go_meet
                              exact HF
                        · have hc : ¬ (kd = 192 ∨ kd = 194) := of_decide_eq_false HR.out.symm
                          have HS1 : Hid (StS false w W0 g0 g1 g2 cs (D6 c)) := by
                            have e : D6 c = D5 c := by unfold D6; rw [if_neg (by rw [← HKD.out]; exact hc)]
                            rw [e]; obtain ⟨a1, ⟨g, dd, s, p, b, x1, x2, x3, _⟩, a3, a4, a5, a6, a7, a8, a9, a10⟩ := HS0.out; exact ⟨a1, ⟨g, dd, s, p, b, x1, x2, x3, fun h => by cases h⟩, a3, a4, a5, a6, a7, a8, a9, a10⟩
                          clear hc HR
                          go_wp2_with fail
                          go_meet
                          exact HS1
                      case rest =>
                        obtain ⟨W0, hW0⟩ : ∃ W, W = wc := ⟨_, rfl⟩
                        rw [← hW0] at hcut ⊢
                        have HS0 : Hid (StS false w W0 g0 g1 g2 cs (D6 c)) := hcut.out
                        clear hW0 hcut
                        go_upto_region 28 with fail
                        go_cut [157] from 157 to 157 (fun s wx => ∃ r, s = .bool r ∧ Hid (r = decide (kd = 1 ∨ kd = 2 ∨ kd = 6 ∨ kd = 9 ∨ kd = 130)) ∧ wx = W0)
                        case first =>
                          by_cases h0 : kd = 1
                          · have d0b : ((kd : Int) == 1) = true := by rw [h0]; rfl
                            have HQ : Hid (kd = 1 ∨ kd = 2 ∨ kd = 6 ∨ kd = 9 ∨ kd = 130) := by first | exact .inl h0 | exact .inr h0 | exact .inr (.inl h0) | exact .inr (.inr h0) | exact .inr (.inr (.inl h0)) | exact .inr (.inr (.inr h0)) | exact .inr (.inr (.inr (.inl h0))) | exact .inr (.inr (.inr (.inr h0)))
                            clear h0
                            go_wp2_with fail
                            go_meet
                            exact ⟨_, rfl, (decide_eq_true HQ.out).symm, rfl⟩
                          have d0b : ((kd : Int) == 1) = false := beq_no (by omega)
                          have HN0 := Lib.hid h0
                          clear h0
                          by_cases h1 : kd = 2
                          · have d1b : ((kd : Int) == 2) = true := by rw [h1]; rfl
                            have HQ : Hid (kd = 1 ∨ kd = 2 ∨ kd = 6 ∨ kd = 9 ∨ kd = 130) := by first | exact .inl h1 | exact .inr h1 | exact .inr (.inl h1) | exact .inr (.inr h1) | exact .inr (.inr (.inl h1)) | exact .inr (.inr (.inr h1)) | exact .inr (.inr (.inr (.inl h1))) | exact .inr (.inr (.inr (.inr h1)))
                            clear h1
                            go_wp2_with fail
                            go_meet
                            exact ⟨_, rfl, (decide_eq_true HQ.out).symm, rfl⟩
                          have d1b : ((kd : Int) == 2) = false := beq_no (by omega)
                          have HN1 := Lib.hid h1
                          clear h1
                          by_cases h2 : kd = 6
                          · have d2b : ((kd : Int) == 6) = true := by rw [h2]; rfl
                            have HQ : Hid (kd = 1 ∨ kd = 2 ∨ kd = 6 ∨ kd = 9 ∨ kd = 130) := by first | exact .inl h2 | exact .inr h2 | exact .inr (.inl h2) | exact .inr (.inr h2) | exact .inr (.inr (.inl h2)) | exact .inr (.inr (.inr h2)) | exact .inr (.inr (.inr (.inl h2))) | exact .inr (.inr (.inr (.inr h2)))
                            clear h2
                            go_wp2_with fail
                            go_meet
                            exact ⟨_, rfl, (decide_eq_true HQ.out).symm, rfl⟩
                          have d2b : ((kd : Int) == 6) = false := beq_no (by omega)
                          have HN2 := Lib.hid h2
                          clear h2
                          by_cases h3 : kd = 9
                          · have d3b : ((kd : Int) == 9) = true := by rw [h3]; rfl
                            have HQ : Hid (kd = 1 ∨ kd = 2 ∨ kd = 6 ∨ kd = 9 ∨ kd = 130) := by first | exact .inl h3 | exact .inr h3 | exact .inr (.inl h3) | exact .inr (.inr h3) | exact .inr (.inr (.inl h3)) | exact .inr (.inr (.inr h3)) | exact .inr (.inr (.inr (.inl h3))) | exact .inr (.inr (.inr (.inr h3)))
                            clear h3
                            go_wp2_with fail
                            go_meet
                            exact ⟨_, rfl, (decide_eq_true HQ.out).symm, rfl⟩
                          have d3b : ((kd : Int) == 9) = false := beq_no (by omega)
                          have HN3 := Lib.hid h3
                          clear h3
                          by_cases h4 : kd = 130
                          · have d4b : ((kd : Int) == 130) = true := by rw [h4]; rfl
                            have HQ : Hid (kd = 1 ∨ kd = 2 ∨ kd = 6 ∨ kd = 9 ∨ kd = 130) := by first | exact .inl h4 | exact .inr h4 | exact .inr (.inl h4) | exact .inr (.inr h4) | exact .inr (.inr (.inl h4)) | exact .inr (.inr (.inr h4)) | exact .inr (.inr (.inr (.inl h4))) | exact .inr (.inr (.inr (.inr h4)))
                            clear h4
                            go_wp2_with fail
                            go_meet
                            exact ⟨_, rfl, (decide_eq_true HQ.out).symm, rfl⟩
                          have d4b : ((kd : Int) == 130) = false := beq_no (by omega)
                          have HN4 := Lib.hid h4
                          clear h4
                          have HQ : Hid (¬ (kd = 1 ∨ kd = 2 ∨ kd = 6 ∨ kd = 9 ∨ kd = 130)) := by
                            have := HN0.out
                            have := HN1.out
                            have := HN2.out
                            have := HN3.out
                            have := HN4.out
                            show ¬ _
                            omega
                          go_wp2_with fail
                          go_meet
                          exact ⟨_, rfl, (decide_eq_false HQ.out).symm, rfl⟩
                        case rest =>
                          obtain ⟨r, rfl, HR, hwc⟩ := hcut
                          rw [hwc]
                          clear hwc
                          go_upto_if 157 with (fail)
                          go_cut [] from 157 to 157 (fun wx => Hid (StS false w wx g0 g1 g2 cs (D7 c)))
                          case first =>
                            cases r
                            rotate_left
                            · have hc : kd = 1 ∨ kd = 2 ∨ kd = 6 ∨ kd = 9 ∨ kd = 130 := of_decide_eq_true HR.out.symm
                              clear HR
                              obtain ⟨d0, hd0⟩ : ∃ d, d = D6 c := ⟨_, rfl⟩
                              rw [← hd0] at HS0
                              have HD0 := Lib.hid hd0
                              clear hd0
                              have HC := Lib.hid hc
                              clear hc
                              obtain ⟨xg, xd, xs, xp, xb, hb1, ok1, ll1, sk1⟩ := HS0.out.ex
                              have HGX := Lib.hid hb1
                              have HOK1 := Lib.hid ok1
                              have HLL := Lib.hid ll1
                              have HSK := Lib.hid sk1
                              clear hb1 ok1 ll1 sk1
                              have o17 := CkBlk.at HS0.out.b0 HCC.out.c17
                              have x17 := CkBlk.at HGX.out (ck_cells _ _ _ _ _ _).c17
                              have z17 := Blk.frozen HGX.out 17
                              have hne1 : g0 ≠ g1 := HS0.out.ne
                              have hne2 : g1 ≠ g0 := fun e => HS0.out.ne e.symm
                              go_wp2_with fail
                              obtain ⟨W1, hW⟩ : ∃ W, W = (W0.setCell ⟨g1, 17, none⟩ (.slice cp.A c.ps.length cp.cap)) := ⟨_, rfl⟩
                              rw [← hW]
                              obtain ⟨d1, hd⟩ : ∃ d, d = { d0 with ps := c.ps } := ⟨_, rfl⟩
                              have HD1 := Lib.hid hd
                              have hgx : CkBlk W1 g1 (ckArr d1 (xg.v d0.gaps.length) (xd.v d0.dups.length) (xs.v d0.skips.length) (cp.v c.ps.length) (xb.v d0.body.length)) := by rw [hW, hd]; exact (Blk.set_ HGX.out 17 (.slice cp.A c.ps.length cp.cap))
                              have hcell : ∀ q : Addr, q.block ≠ g1 → W1.cell? q = W0.cell? q := fun q hq => by rw [hW]; exact World.cell?_setCell_other W0 ⟨g1, 17, none⟩ q _ (fun e => hq (by rw [← e]))
                              have hbel : Below w.heap.size w W1 := by rw [hW]; exact ((HS0.out.below).setCell (p := ⟨g1, 17, none⟩) HS0.out.lo (.slice cp.A c.ps.length cp.cap))
                              have hb0 : CkBlk W1 g0 cs := by rw [hW]; exact (Blk.far HS0.out.b0 (p := ⟨g1, 17, none⟩) HS0.out.ne (.slice cp.A c.ps.length cp.cap))
                              have hb2 : CkBlk W1 g2 zeroA := by rw [hW]; exact (Blk.far HS0.out.b2 (p := ⟨g1, 17, none⟩) HS0.out.ne2 (.slice cp.A c.ps.length cp.cap))
                              have k4 := HOK1.out
                              have ko := HCOK.out
                              have hok : d1.ok := by rw [hd]; exact ⟨k4.kind, k4.tsn, k4.st, k4.mid, k4.pp, k4.fr, k4.tag, k4.win, k4.out, k4.inn, k4.gaps, k4.dups, k4.skips, ko.ps⟩
                              have hsz : W1.heap.size = W0.heap.size := by rw [hW]; simp [World.setCell]
                              have HS1 : Hid (StS false w W1 g0 g1 g2 cs d1) := by
                                refine ⟨hb0, ⟨xg, xd, xs, cp, xb, by rw [hd] at hgx ⊢; exact hgx, hok, ?_, fun h => by first | exact HSK.out h | exact HSK.out trivial | cases h⟩, hbel, HS0.out.ne, HS0.out.lo, HS0.out.lo0, hb2, HS0.out.ne2, HS0.out.ne3, HS0.out.lo2⟩
                                intro V hV
                                have X := HLL.out V (fun q hq hq2 => (hV q hq hq2).trans (hcell q hq))
                                have CC := lists_keep (B' := W1.heap.size) HCL.out (fun q hq => (hV q (fun e => by have := HBW.out; have := HS0.out.lo; omega) (fun e => by have := HBW.out; have := HS0.out.lo2; omega)).trans (hbel.cell (Nat.lt_of_lt_of_le hq HBW.out))) (Nat.le_trans HBW.out hbel.size)
                                rw [hd]
                                rw [hsz] at CC ⊢
                                exact ⟨X.okg, X.okd, X.oks, CC.okp, X.okb, X.gaps, X.dups, X.skips, CC.ps, X.body⟩
                              clear hW hd hgx hcell hbel hb0 hb2 k4 ko hok hsz hne1 hne2 o17 x17 z17  HGX HOK1 HLL HSK
                              have HF : Hid (StS false w W1 g0 g1 g2 cs (D7 c)) := by
                                have e : d1 = D7 c := by
                                  unfold D7
                                  rw [if_pos (by rw [← HKD.out]; exact HC.out), HD1.out, HD0.out]
                                rw [← e]; exact HS1.out
                              go_meet
                              exact HF
                            · have hc : ¬ (kd = 1 ∨ kd = 2 ∨ kd = 6 ∨ kd = 9 ∨ kd = 130) := of_decide_eq_false HR.out.symm
                              have HS1 : Hid (StS false w W0 g0 g1 g2 cs (D7 c)) := by
                                have e : D7 c = D6 c := by unfold D7; rw [if_neg (by rw [← HKD.out]; exact hc)]
                                rw [e]; exact HS0.out
                              clear hc HR
                              go_wp2_with fail
                              go_meet
                              exact HS1
                          case rest =>
                            obtain ⟨W0, hW0⟩ : ∃ W, W = wc := ⟨_, rfl⟩
                            rw [← hW0] at hcut ⊢
                            have HS0 : Hid (StS false w W0 g0 g1 g2 cs (D7 c)) := hcut.out
                            clear hW0 hcut
                            go_upto_region 30 with fail
                            go_cut [178] from 178 to 178 (fun s wx => ∃ r, s = .bool r ∧ Hid (r = decide (kd = 0 ∨ kd = 64 ∨ kd = 4 ∨ kd = 5 ∨ kd = 10)) ∧ wx = W0)
                            case first =>
                              by_cases h0 : kd = 0
                              · have d0b : ((kd : Int) == 0) = true := by rw [h0]; rfl
                                have HQ : Hid (kd = 0 ∨ kd = 64 ∨ kd = 4 ∨ kd = 5 ∨ kd = 10) := by first | exact .inl h0 | exact .inr h0 | exact .inr (.inl h0) | exact .inr (.inr h0) | exact .inr (.inr (.inl h0)) | exact .inr (.inr (.inr h0)) | exact .inr (.inr (.inr (.inl h0))) | exact .inr (.inr (.inr (.inr h0)))
                                clear h0
                                go_wp2_with fail
                                go_meet
                                exact ⟨_, rfl, (decide_eq_true HQ.out).symm, rfl⟩
                              have d0b : ((kd : Int) == 0) = false := beq_no (by omega)
                              have HN0 := Lib.hid h0
                              clear h0
                              by_cases h1 : kd = 64
                              · have d1b : ((kd : Int) == 64) = true := by rw [h1]; rfl
                                have HQ : Hid (kd = 0 ∨ kd = 64 ∨ kd = 4 ∨ kd = 5 ∨ kd = 10) := by first | exact .inl h1 | exact .inr h1 | exact .inr (.inl h1) | exact .inr (.inr h1) | exact .inr (.inr (.inl h1)) | exact .inr (.inr (.inr h1)) | exact .inr (.inr (.inr (.inl h1))) | exact .inr (.inr (.inr (.inr h1)))
                                clear h1
                                go_wp2_with fail
                                go_meet
                                exact ⟨_, rfl, (decide_eq_true HQ.out).symm, rfl⟩
                              have d1b : ((kd : Int) == 64) = false := beq_no (by omega)
                              have HN1 := Lib.hid h1
                              clear h1
                              by_cases h2 : kd = 4
                              · have d2b : ((kd : Int) == 4) = true := by rw [h2]; rfl
                                have HQ : Hid (kd = 0 ∨ kd = 64 ∨ kd = 4 ∨ kd = 5 ∨ kd = 10) := by first | exact .inl h2 | exact .inr h2 | exact .inr (.inl h2) | exact .inr (.inr h2) | exact .inr (.inr (.inl h2)) | exact .inr (.inr (.inr h2)) | exact .inr (.inr (.inr (.inl h2))) | exact .inr (.inr (.inr (.inr h2)))
                                clear h2
                                go_wp2_with fail
                                go_meet
                                exact ⟨_, rfl, (decide_eq_true HQ.out).symm, rfl⟩
                              have d2b : ((kd : Int) == 4) = false := beq_no (by omega)
                              have HN2 := Lib.hid h2
                              clear h2
                              by_cases h3 : kd = 5
                              · have d3b : ((kd : Int) == 5) = true := by rw [h3]; rfl
                                have HQ : Hid (kd = 0 ∨ kd = 64 ∨ kd = 4 ∨ kd = 5 ∨ kd = 10) := by first | exact .inl h3 | exact .inr h3 | exact .inr (.inl h3) | exact .inr (.inr h3) | exact .inr (.inr (.inl h3)) | exact .inr (.inr (.inr h3)) | exact .inr (.inr (.inr (.inl h3))) | exact .inr (.inr (.inr (.inr h3)))
                                clear h3
                                go_wp2_with fail
                                go_meet
                                exact ⟨_, rfl, (decide_eq_true HQ.out).symm, rfl⟩
                              have d3b : ((kd : Int) == 5) = false := beq_no (by omega)
                              have HN3 := Lib.hid h3
                              clear h3
                              by_cases h4 : kd = 10
                              · have d4b : ((kd : Int) == 10) = true := by rw [h4]; rfl
                                have HQ : Hid (kd = 0 ∨ kd = 64 ∨ kd = 4 ∨ kd = 5 ∨ kd = 10) := by first | exact .inl h4 | exact .inr h4 | exact .inr (.inl h4) | exact .inr (.inr h4) | exact .inr (.inr (.inl h4)) | exact .inr (.inr (.inr h4)) | exact .inr (.inr (.inr (.inl h4))) | exact .inr (.inr (.inr (.inr h4)))
                                clear h4
                                go_wp2_with fail
                                go_meet
                                exact ⟨_, rfl, (decide_eq_true HQ.out).symm, rfl⟩
                              have d4b : ((kd : Int) == 10) = false := beq_no (by omega)
                              have HN4 := Lib.hid h4
                              clear h4
                              have HQ : Hid (¬ (kd = 0 ∨ kd = 64 ∨ kd = 4 ∨ kd = 5 ∨ kd = 10)) := by
                                have := HN0.out
                                have := HN1.out
                                have := HN2.out
                                have := HN3.out
                                have := HN4.out
                                show ¬ _
                                omega
                              go_wp2_with fail
                              go_meet
                              exact ⟨_, rfl, (decide_eq_false HQ.out).symm, rfl⟩
                            case rest =>
                              obtain ⟨r, rfl, HR, hwc⟩ := hcut
                              rw [hwc]
                              clear hwc
                              go_upto_if 178 with (fail)
                              go_cut [] from 178 to 178 (fun wx => Hid (StS false w wx g0 g1 g2 cs (D8 c)))
                              case first =>
                                cases r
                                rotate_left
                                · have hc : kd = 0 ∨ kd = 64 ∨ kd = 4 ∨ kd = 5 ∨ kd = 10 := of_decide_eq_true HR.out.symm
                                  clear HR
                                  obtain ⟨d0, hd0⟩ : ∃ d, d = D7 c := ⟨_, rfl⟩
                                  rw [← hd0] at HS0
                                  have HD0 := Lib.hid hd0
                                  clear hd0
                                  have HC := Lib.hid hc
                                  clear hc
                                  obtain ⟨xg, xd, xs, xp, xb, hb1, ok1, ll1, sk1⟩ := HS0.out.ex
                                  have HGX := Lib.hid hb1
                                  have HOK1 := Lib.hid ok1
                                  have HLL := Lib.hid ll1
                                  have HSK := Lib.hid sk1
                                  clear hb1 ok1 ll1 sk1
                                  have o18 := CkBlk.at HS0.out.b0 HCC.out.c18
                                  have x18 := CkBlk.at HGX.out (ck_cells _ _ _ _ _ _).c18
                                  have z18 := Blk.frozen HGX.out 18
                                  have hne1 : g0 ≠ g1 := HS0.out.ne
                                  have hne2 : g1 ≠ g0 := fun e => HS0.out.ne e.symm
                                  go_wp2_with fail
                                  obtain ⟨W1, hW⟩ : ∃ W, W = (W0.setCell ⟨g1, 18, none⟩ (.slice cb.A c.body.length cb.cap)) := ⟨_, rfl⟩
                                  rw [← hW]
                                  obtain ⟨d1, hd⟩ : ∃ d, d = { d0 with body := c.body } := ⟨_, rfl⟩
                                  have HD1 := Lib.hid hd
                                  have hgx : CkBlk W1 g1 (ckArr d1 (xg.v d0.gaps.length) (xd.v d0.dups.length) (xs.v d0.skips.length) (xp.v d0.ps.length) (cb.v c.body.length)) := by rw [hW, hd]; exact (Blk.set_ HGX.out 18 (.slice cb.A c.body.length cb.cap))
                                  have hcell : ∀ q : Addr, q.block ≠ g1 → W1.cell? q = W0.cell? q := fun q hq => by rw [hW]; exact World.cell?_setCell_other W0 ⟨g1, 18, none⟩ q _ (fun e => hq (by rw [← e]))
                                  have hbel : Below w.heap.size w W1 := by rw [hW]; exact ((HS0.out.below).setCell (p := ⟨g1, 18, none⟩) HS0.out.lo (.slice cb.A c.body.length cb.cap))
                                  have hb0 : CkBlk W1 g0 cs := by rw [hW]; exact (Blk.far HS0.out.b0 (p := ⟨g1, 18, none⟩) HS0.out.ne (.slice cb.A c.body.length cb.cap))
                                  have hb2 : CkBlk W1 g2 zeroA := by rw [hW]; exact (Blk.far HS0.out.b2 (p := ⟨g1, 18, none⟩) HS0.out.ne2 (.slice cb.A c.body.length cb.cap))
                                  have k4 := HOK1.out
                                  have ko := HCOK.out
                                  have hok : d1.ok := by rw [hd]; exact ⟨k4.kind, k4.tsn, k4.st, k4.mid, k4.pp, k4.fr, k4.tag, k4.win, k4.out, k4.inn, k4.gaps, k4.dups, k4.skips, k4.ps⟩
                                  have hsz : W1.heap.size = W0.heap.size := by rw [hW]; simp [World.setCell]
                                  have HS1 : Hid (StS false w W1 g0 g1 g2 cs d1) := by
                                    refine ⟨hb0, ⟨xg, xd, xs, xp, cb, by rw [hd] at hgx ⊢; exact hgx, hok, ?_, fun h => by first | exact HSK.out h | exact HSK.out trivial | cases h⟩, hbel, HS0.out.ne, HS0.out.lo, HS0.out.lo0, hb2, HS0.out.ne2, HS0.out.ne3, HS0.out.lo2⟩
                                    intro V hV
                                    have X := HLL.out V (fun q hq hq2 => (hV q hq hq2).trans (hcell q hq))
                                    have CC := lists_keep (B' := W1.heap.size) HCL.out (fun q hq => (hV q (fun e => by have := HBW.out; have := HS0.out.lo; omega) (fun e => by have := HBW.out; have := HS0.out.lo2; omega)).trans (hbel.cell (Nat.lt_of_lt_of_le hq HBW.out))) (Nat.le_trans HBW.out hbel.size)
                                    rw [hd]
                                    rw [hsz] at CC ⊢
                                    exact ⟨X.okg, X.okd, X.oks, X.okp, CC.okb, X.gaps, X.dups, X.skips, X.ps, CC.body⟩
                                  clear hW hd hgx hcell hbel hb0 hb2 k4 ko hok hsz hne1 hne2 o18 x18 z18  HGX HOK1 HLL HSK
                                  have HF : Hid (StS false w W1 g0 g1 g2 cs (D8 c)) := by
                                    have e : d1 = D8 c := by
                                      unfold D8
                                      rw [if_pos (by rw [← HKD.out]; exact HC.out), HD1.out, HD0.out]
                                    rw [← e]; exact HS1.out
                                  go_meet
                                  exact HF
                                · have hc : ¬ (kd = 0 ∨ kd = 64 ∨ kd = 4 ∨ kd = 5 ∨ kd = 10) := of_decide_eq_false HR.out.symm
                                  have HS1 : Hid (StS false w W0 g0 g1 g2 cs (D8 c)) := by
                                    have e : D8 c = D7 c := by unfold D8; rw [if_neg (by rw [← HKD.out]; exact hc)]
                                    rw [e]; exact HS0.out
                                  clear hc HR
                                  go_wp2_with fail
                                  go_meet
                                  exact HS1
                              case rest =>
                                obtain ⟨W0, hW0⟩ : ∃ W, W = wc := ⟨_, rfl⟩
                                rw [← hW0] at hcut ⊢
                                have HS0 : Hid (StS false w W0 g0 g1 g2 cs (D8 c)) := hcut.out
                                clear hW0 hcut
                                obtain ⟨xg, xd, xs, xp, xb, hb1, hok, hll, _⟩ := HS0.out.ex
                                have HAT : Hid (CkAt W0 W0.heap.size (ckArr (D8 c) (xg.v (D8 c).gaps.length) (xd.v (D8 c).dups.length) (xs.v (D8 c).skips.length) (xp.v (D8 c).ps.length) (xb.v (D8 c).body.length)) (D8 c)) := ckAt_of hok rfl (hll W0 (fun _ _ _ => rfl))
                                have HLV : Hid (∀ V' : World, (∀ q : Addr, q.block ≠ g1 → q.block ≠ g2 → V'.cell? q = W0.cell? q) → CkAt V' W0.heap.size (ckArr (D8 c) (xg.v (D8 c).gaps.length) (xd.v (D8 c).dups.length) (xs.v (D8 c).skips.length) (xp.v (D8 c).ps.length) (xb.v (D8 c).body.length)) (D8 c)) := fun V' h => ckAt_of hok rfl (hll V' h)
                                obtain ⟨cs1, hcs1⟩ : ∃ a, a = ckArr (D8 c) (xg.v (D8 c).gaps.length) (xd.v (D8 c).dups.length) (xs.v (D8 c).skips.length) (xp.v (D8 c).ps.length) (xb.v (D8 c).body.length) := ⟨_, rfl⟩
                                rw [← hcs1] at hb1 HAT HLV
                                have HGX := Lib.hid hb1
                                have HG2 := Lib.hid HS0.out.b2
                                have HSZ1 := Lib.hid HAT.out.size
                                have HBE := Lib.hid HS0.out.below
                                have hlo2 := HS0.out.lo2
                                clear hb1 hok hll hcs1 HS0
                                go_wp2_with (first | refine wpList_load_row rfl 32 _ rfl g1 rfl 32 cs1 (0, 0) _ HGX.out Try.underlying32 rfl (by rw [HSZ1.out]; exact chunk_info) ?_ | refine wpList_store_row rfl 32 _ _ rfl g2 cs1 rfl rfl 32 _ HG2.out (by rw [HSZ1.out]; exact chunk_info) (by rw [HSZ1.out]; rfl) HAT.out.one ?_)
                                (try simp only [Exit.inBlock, Exit.then])
                                refine bodyPost_ret (results_cell_row rfl _ _ g2 32 cs1 (0, 0) _ rfl (setRow_blk HG2.out) Try.underlying32 rfl (by rw [HSZ1.out]; exact chunk_info)) rfl ?_
                                refine ⟨⟨cs1, rfl, ?_⟩, below_fr HBE.out (setRow_fr W0 g2 cs1) (Nat.le_refl _) (fun i e => by have e' : i = g2 := e; omega)⟩
                                rw [← D8_strip HKN.out]
                                exact (HLV.out _ (fun q _ hq => World.cell?_of_block (setRow_other W0 g2 _ cs1 hq))).more (by simp)
end Go.Proofs.Ytpgklhecmafnbaa.Chk
