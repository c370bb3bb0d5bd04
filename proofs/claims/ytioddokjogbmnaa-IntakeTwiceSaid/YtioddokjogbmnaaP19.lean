/-
  Of the texts In4, In5, In6, MapX: what the laws reach.
-/
import Derived.Test.YtioddokjogbmnaaP18
import Derived.Laws.ResultCell
import Derived.Test.YtioddokjogbmnaaP10
import Derived.Test.YtioddokjogbmnaaP4
import Derived.Maps.Range
import Derived.Maps.OwnSet

set_option linter.unusedVariables false
set_option linter.unusedSimpArgs false
set_option maxRecDepth 20000
namespace Go.Proofs.Ytioddokjogbmnaa.In
open Go.ChangeShapes Go.WideShapes Go.ChangeAt Go.RowKit Go.Deep Go.Proofs.Ytioddokjogbmnaa.Words Go.Proofs.Ytioddokjogbmnaa.Oct Go.Proofs.Ytioddokjogbmnaa.Par Go.Proofs.Ytioddokjogbmnaa.Chk
section
variable {JR : World → (Nat → Prop) → Nat → Bool → Jo.JS → Prop} {w w' : World} {G G' Gj Gj' S : Nat → Prop} {p q pj g : Nat} {v v' d d' : Value} {inter : Bool} {s : IS}
def ForwDone (JR : World → (Nat → Prop) → Nat → Bool → Jo.JS → Prop) (w : World) (G : Nat → Prop) (p : Nat) (s : IS) (t : Int) (e : Ending) (w' : World) : Prop :=
  ∃ (b : Bool) (s' : IS) (G' : Nat → Prop), e = .returned (.bool b) ∧ InR JR w' G' p true s' ∧ ForwR s t b s' ∧ (∀ i, G' i → G i ∨ w.heap.size ≤ i) ∧ Fr G w w'
theorem InA.forw {V : World} {G0 : Nat → Prop} {s0 : IS} {t : Int} {b : Bool} (h : InA JR w G0 V Gj p q pj v d true s) (hd : ForwR s0 t b s) : ForwDone JR w G0 p s0 t (.returned (.bool b)) V :=
  ⟨b, s, _, rfl, InR.of h.inp, hd, h.sub, h.fr⟩
set_option maxHeartbeats 4000000 in
theorem iforw_any (J : JoinI JR) (P : PassI JR) (k : InP JR w Gj p q pj v d true s) {cs : Array Value} {c : Ck} (hk : c.kind = 194) (hsk : c.skips = []) (hc : CkAt w w.heap.size cs c) :
    Calls Try.prog 27 #[jptr p, .agg cs] w (ForwDone JR w (InG Gj p q v d) p s (c.tsn : Int)) := by
  obtain ⟨Hg, Hd', Hs, Hp, Hb, hcells, hlists⟩ := hc.parts
  have ht := hc.ok.tsn
  have e0 := hcells.c0
  have e5 := hcells.c5
  have e16 := hcells.c16
  rw [hk] at e0
  rw [hsk] at e16
  have HB := Lib.hid (below_one w (.cells cs 41))
  have HBL := Lib.hid (Blk.new w 41 cs)
  obtain ⟨T, hT⟩ : ∃ T : Nat, T = c.tsn := ⟨_, rfl⟩
  rw [← hT] at e5 ht ⊢
  have HTT : Hid (0 ≤ (T : Int) ∧ (T : Int) ≤ 4294967295) := by unfold Hid; omega
  have HE5 := Lib.hid e5
  clear hc hcells hlists hT hk hsk
  obtain ⟨W1, hW1⟩ : ∃ W1, W1 = w.alloc (.cells cs 41) := ⟨_, rfl⟩
  obtain ⟨gc, hgc⟩ : ∃ gc, gc = w.heap.size := ⟨_, rfl⟩
  rw [← hW1] at HBL HB
  rw [← hgc] at HBL
  have HGC : Hid (gc = w.heap.size) := hgc
  have HK := Lib.hid k
  have HA1 := Lib.hid (InA.start J k HB.out)
  have HNG : Hid (¬ InG Gj p q v d gc) := fun hx => by have := HK.out.lt J gc hx; omega
  have f0 : W1.cell? ⟨gc, 0, none⟩ = some (.int .u8 194) := (HBL.out.cell 0).trans e0
  have f5 : W1.cell? ⟨gc, 5, none⟩ = some (.int .u32 (T : Int)) := (HBL.out.cell 5).trans e5
  have f16 : W1.cell? ⟨gc, 16, none⟩ = some (.slice Hs.A 0 Hs.cap) := (HBL.out.cell 16).trans e16
  have b1 : W1.cell? ⟨p, 1, none⟩ = some (.int .u8 194) := HA1.out.inp.blk.cell 1
  have b2 : W1.cell? ⟨p, 2, none⟩ = some (Span.ptr q) := HA1.out.inp.blk.cell 2
  have b3 : W1.cell? ⟨p, 3, none⟩ = some (jptr pj) := HA1.out.inp.blk.cell 3
  have hm : ∀ n, Calls Try.prog 52 #[Span.ptr q] (W1.drewN n) fun e w' => e = .returned (.int .u32 s.mark) ∧ W1.drewN n = w' := fun n => Span.mark_any (HA1.out.inp.set.drewN n)
  have hl : ∀ n, Calls Try.prog 54 #[.int .u32 s.mark, .int .u32 (T : Int)] (W1.drewN n) fun e w' => e = .returned (.bool (Span.okB (Span.dN s.mark (T : Int)))) ∧ W1.drewN n = w' := fun n => by
    have := Ser.less_any s.mark (T : Int) (W1.drewN n)
    rwa [less_dN] at this
  obtain ⟨ok, hok⟩ : ∃ ok, ok = Span.okB (Span.dN s.mark (T : Int)) := ⟨_, rfl⟩
  rw [← hok] at hl
  have HOK := Lib.hid hok
  generalize hMM : s.mark = M at hm hl
  have HMM := Lib.hid hMM
  clear hMM hok e0 e5 e16 k
  go_enter Try.func27, Try.ntmps27
  go_upto_region 1 with (fail)
  rw [← hW1, ← hgc]
  clear hW1 hgc
  cases ok
  · go_quiet (first | (go_at_call 52; exact quiet_left (hm _)) | (go_at_call 54; exact quiet_left (hl _)))
    have HA2 : Hid (InA JR w (InG Gj p q v d) (W1.drewN nq) Gj p q pj v d true s) := HA1.out.grows J (below_drewN (Below.refl _ _) nq)
    go_wp2_with fail
    go_ret
    exact HA2.out.forw (.inl ⟨HOK.out.symm, rfl, rfl⟩)
  · go_quiet (first | (go_at_call 52; exact quiet_left (hm _)) | (go_at_call 54; exact quiet_left (hl _)))
    obtain ⟨W2, hW2⟩ : ∃ W2, W2 = W1.drewN nq := ⟨_, rfl⟩
    have HA2 : Hid (InA JR w (InG Gj p q v d) W2 Gj p q pj v d true s) := by rw [hW2]; exact HA1.out.grows J (below_drewN (Below.refl _ _) nq)
    have HC2 : Hid (CkBlk W2 gc cs) := by rw [hW2]; exact HBL.out
    have g16 : W2.cell? ⟨gc, 16, none⟩ = some (.slice Hs.A 0 Hs.cap) := by rw [hW2]; exact f16
    rw [← hW2]
    clear hW2 f0 f5 f16 b1 b2 b3 hm hl HA1
    go_wp2_with fail
    obtain ⟨wo, rfl⟩ : ∃ wo : World, wo = W2 := ⟨_, rfl⟩
    go_loopw [28] (fun v28 wr => v28 = .int .i64 0 ∧ wo = wr) (fun _ _ => 0)
    case atStart => exact ⟨rfl, rfl⟩
    case round =>
      obtain ⟨rfl, rfl⟩ := hrel
      go_upto_region 8 with (fail)
      have g5 : wo.cell? ⟨gc, 5, none⟩ = some (.int .u32 (T : Int)) := (HC2.out.cell 5).trans HE5.out
      have c3 : wo.cell? ⟨p, 3, none⟩ = some (jptr pj) := HA2.out.inp.blk.cell 3
      go_still_tail 6, (by kernel_rfl)
      change wpList _ _ _ _ _ wo.drew
      obtain ⟨V3, hV3⟩ : ∃ V3, V3 = wo.drew := ⟨_, rfl⟩
      have HA3 : Hid (InA JR w (InG Gj p q v d) V3 Gj p q pj v d true s) := by rw [hV3]; exact HA2.out.grows J (Below.drew (Below.refl _ _))
      have HC3 : Hid (CkBlk V3 gc cs) := by rw [hV3]; exact HC2.out
      rw [← hV3]
      clear hV3 g5 c3 g16 HA2 HC2
      go_wp2_with fail
      refine (P (T : Int) HA3.out.inp.js).mono ?_
      rintro e V4 ⟨rfl, hb4⟩
      have HA4 := Lib.hid (HA3.out.grows J hb4)
      have HC4 : Hid (CkBlk V4 gc cs) := blk_below HC3.out hb4 HC3.out.lt
      clear hb4 HA3 HC3
      have g5 : V4.cell? ⟨gc, 5, none⟩ = some (.int .u32 (T : Int)) := (HC4.out.cell 5).trans HE5.out
      have c2 : V4.cell? ⟨p, 2, none⟩ = some (Span.ptr q) := HA4.out.inp.blk.cell 2
      go_upto_region 9 with (fail)
      go_still_tail 6, (by kernel_rfl)
      change wpList _ _ _ _ _ V4.drew
      obtain ⟨V5, hV5⟩ : ∃ V5, V5 = V4.drew := ⟨_, rfl⟩
      have HA5 : Hid (InA JR w (InG Gj p q v d) V5 Gj p q pj v d true s) := by rw [hV5]; exact HA4.out.grows J (Below.drew (Below.refl _ _))
      rw [← hV5]
      clear hV5 g5 c2 HA4 HC4
      go_wp2_with fail
      refine (Span.skip_t HA5.out.inp.set HA5.out.inp.gp HTT.out).mono ?_
      rintro e V6 ⟨v6, k6, rs6, rfl, hs6, hg6, ha6, hk6, T6⟩
      have HA6 := Lib.hid (HA5.out.next (HA5.out.inp.set_ J hs6 hg6 T6))
      have HAD := Lib.hid ha6
      have HG6 := Lib.hid hg6
      have hok : Span.okB (Span.dN s.mark (T : Int)) = true := HOK.out.symm
      rw [hok]
      clear hs6 hg6 ha6 hk6 T6 HA5
      go_wp2_with fail
      go_ret
      exact HA6.out.forw (.inr ⟨hok, rfl, rfl, k6, rfl, HAD.out, HG6.out⟩)
set_option maxHeartbeats 2000000 in
theorem iother_any (J : JoinI JR) (k : InP JR w Gj p q pj v d inter s) {cs : Array Value} {c : Ck} (hk : c.kind ≠ (if inter = true then 194 else 192)) (hc : CkAt w w.heap.size cs c) :
    Calls Try.prog 27 #[jptr p, .agg cs] w fun e w' => e = .returned (.bool false) ∧ Below w.heap.size w w' := by
  obtain ⟨Hg, Hd', Hs, Hp, Hb, hcells, hlists⟩ := hc.parts
  have e0 := hcells.c0
  have HB := Lib.hid (below_one w (.cells cs 41))
  have HBL := Lib.hid (Blk.new w 41 cs)
  have hk' : c.kind ≠ kdF inter := hk
  obtain ⟨kd, hkd⟩ : ∃ kd, kd = c.kind := ⟨_, rfl⟩
  obtain ⟨kf, hkf⟩ : ∃ kf, kf = kdF inter := ⟨_, rfl⟩
  rw [← hkd] at e0 hk'
  rw [← hkf] at hk'
  obtain ⟨W1, hW1⟩ : ∃ W1, W1 = w.alloc (.cells cs 41) := ⟨_, rfl⟩
  obtain ⟨gc, hgc⟩ : ∃ gc, gc = w.heap.size := ⟨_, rfl⟩
  rw [← hW1] at HBL HB
  rw [← hgc] at HBL
  have f0 : W1.cell? ⟨gc, 0, none⟩ = some (.int .u8 (kd : Int)) := (HBL.out.cell 0).trans e0
  have b1 : W1.cell? ⟨p, 1, none⟩ = some (.int .u8 (kf : Int)) := by rw [hkf]; exact (k.below J HB.out).blk.cell 1
  have hne : ¬ ((kd : Int) = (kf : Int)) := by omega
  clear hc hcells hlists hk hk' hkd hkf e0 k HBL
  go_enter Try.func27, Try.ntmps27
  go_upto_region 1 with (fail)
  rw [← hW1, ← hgc]
  clear hW1 hgc
  go_quiet (fail)
  go_wp2_with fail
  go_ret
  exact ⟨rfl, below_drewN HB.out _⟩
theorem res_mg {fn : Func} {p u : Tmp} (h : fn.results = #[.cell p 43, .tmp u]) (tmps : Array Value) (w : World) (g : Nat) (cs : Array Value) (hc : cs.size = 5) (hp : tmps.getD p undef = .pointer (some ⟨g, 0, none⟩)) (hb : Words.Blk w g 43 cs) :
    (results fn tmps).run Try.prog w = .ok (.tuple #[.agg cs, tmps.getD u undef]) w := by
  rw [results_cell_tmp h, hp]
  have := run_loadVar_row (P := Try.prog) w g 43 43 cs (0, 0) _ hb Try.underlying43 rfl (by rw [hc]; kernel_rfl)
  simp [asAddr, Result.andThen, this]
/-- A body that is not empty lies in no block whose cells are no bytes. -/
theorem byt_away {V : World} {A : Option Addr} {l : List UInt8} {g : Nat} {t : TypeId} {cs : Array Value} (hy : Byt V V.heap.size A l) (hl : l ≠ []) (hb : Blk V g t cs) (hcs : ∀ (i : Nat) (x : Int), cs[i]? ≠ some (.int .u8 x)) (ad : Addr) (h : A = some ad) : ad.block ≠ g := by
  intro e
  have hp : 0 < l.length := List.length_pos_iff.2 hl
  obtain ⟨ad', e', _, hc⟩ := hy.2 hp
  rw [h] at e'
  injection e' with e'
  subst e'
  have h0 := hc 0 (.int .u8 ((l[0]'hp).toNat : Int)) (by rw [u8s_get, List.getElem?_eq_getElem hp]; rfl)
  have hb' : V.heap[ad.block]? = some (.cells cs t (0, 0)) := by rw [e]; exact hb
  unfold World.cell? at h0
  have ea : (ad.add 0).block = ad.block := block_of_add _ _
  rw [ea, hb'] at h0
  simp only at h0
  split at h0
  · cases h0
  · exact hcs _ _ h0
theorem zmsg_no (i : Nat) (x : Int) : (#[.int .u16 0, .bool false, .int .u32 0, .int .u32 0, .slice none 0 0] : Array Value)[i]? ≠ some (.int .u8 x) := by
  rcases i with _ | _ | _ | _ | _ | i <;> simp
theorem fr_setRow {V : World} (g : Nat) (cs : Array Value) : Fr (fun i => i = g) V (V.setRow g cs) := ⟨rfl, rfl, rfl, by simp, fun i _ h => setRow_other V g i cs h⟩
def ITakeDone (JR : World → (Nat → Prop) → Nat → Bool → Jo.JS → Prop) (w : World) (G : Nat → Prop) (p : Nat) (inter : Bool) (s : IS) (e : Ending) (w' : World) : Prop :=
  ∃ (m : Msg) (A : Option Addr) (n cp : Nat) (t : Bool) (j : Jo.JS) (G' : Nat → Prop), e = .returned (.tuple #[.agg (mCells m (.slice A n cp)), .bool t]) ∧ InR JR w' G' p inter { s with js := j } ∧ TakeJ s.js m t j ∧ n = m.body.length ∧ n ≤ cp ∧ cp ≤ 9223372036854775807 ∧ Byt w' w'.heap.size A m.body ∧ (m.body = [120] → ∀ ad, A = some ad → ad.block ≠ p) ∧ (∀ i, G' i → G i ∨ w.heap.size ≤ i) ∧ Fr G w w'
set_option maxHeartbeats 2000000 in
theorem itake_any (J : JoinI JR) (k : InP JR w Gj p q pj v d inter s) : Calls Try.prog 24 #[jptr p] w (ITakeDone JR w (InG Gj p q v d) p inter s) := by
  obtain ⟨W1, hW1⟩ : ∃ W1, W1 = w.alloc (.cells #[.int .u16 0, .bool false, .int .u32 0, .int .u32 0, .slice none 0 0] 43) := ⟨_, rfl⟩
  obtain ⟨gr, hgr⟩ : ∃ gr, gr = w.heap.size := ⟨_, rfl⟩
  have HB1 : Hid (Below w.heap.size w W1) := by rw [hW1]; exact below_one w _
  have HR1 : Hid (Blk W1 gr 43 #[.int .u16 0, .bool false, .int .u32 0, .int .u32 0, .slice none 0 0]) := by rw [hW1, hgr]; exact Blk.new _ _ _
  have HGR : Hid (gr = w.heap.size) := hgr
  have HA1 := Lib.hid (InA.start J k HB1.out)
  have HNG : Hid (¬ InG Gj p q v d gr) := fun hx => by have := k.lt J gr hx; omega
  have b3 : W1.cell? ⟨p, 3, none⟩ = some (jptr pj) := HA1.out.inp.blk.cell 3
  clear k
  go_enter Try.func24, Try.ntmps24
  go_upto_region 1 with (fail)
  rw [← hW1, ← hgr]
  clear hW1 hgr
  go_wp2_with fail
  refine (J.take HA1.out.inp.js).mono ?_
  rintro e W2 ⟨m, A, n, cp, t, j, Gj2, rfl, hj, ht, hn, hn1, hn2, hy, hg2, hf2⟩
  have HR2 : Hid (Blk W2 gr 43 #[.int .u16 0, .bool false, .int .u32 0, .int .u32 0, .slice none 0 0]) := hf2.blk HR1.out (fun hx => HNG.out (.inr (.inr (.inr (.inr hx)))))
  have HA2 := Lib.hid (HA1.out.next (HA1.out.inp.js_ J hj hg2 hf2))
  have HNG2 : Hid (¬ InG Gj2 p q v d gr) := fun hx => by
    rcases (HA1.out.inp.js_ J hj hg2 hf2).2.1 gr hx with e | e
    · exact HNG.out e
    · have := HR1.out.lt; omega
  have HT := Lib.hid ht
  have HN := Lib.hid hn
  have HY := Lib.hid hy
  have HN1 := Lib.hid hn1
  have HN2 := Lib.hid hn2
  clear hj ht hn hn1 hn2 hy hg2 hf2 b3 HA1 HR1
  have hcs : (mCells m (.slice A n cp)).size = 5 := rfl
  obtain ⟨mc, hmc⟩ : ∃ mc, mc = mCells m (.slice A n cp) := ⟨_, rfl⟩
  have HMC := Lib.hid hmc
  have h5 : Hid (mc.size = 5) := by rw [hmc]; exact hcs
  have hone0 : mc.all (·.oneCell') = true := by rw [hmc]; simp [mCells, Value.oneCell']
  have hone := Lib.hid hone0
  clear hone0
  rw [← hmc]
  clear hmc hcs
  go_wp2_with (refine wpList_store_row rfl 43 _ _ rfl gr mc rfl rfl 43 _ HR2.out (by rw [h5.out]; kernel_rfl) (by rw [h5.out]; rfl) hone.out ?_)
  obtain ⟨W3, hW3⟩ : ∃ W3, W3 = W2.setRow gr mc := ⟨_, rfl⟩
  rw [← hW3]
  have hb3 : Blk W3 gr 43 mc := by rw [hW3]; exact setRow_heap _ _ _ _ _ _ HR2.out
  (try simp only [Exit.inBlock, Exit.then])
  refine bodyPost_ret (res_mg rfl _ _ gr _ h5.out rfl hb3) rfl ?_
  have hf3 : Fr (fun i => i = gr) W2 W3 := by rw [hW3]; exact fr_setRow gr _
  have hA3 : InA JR w (InG Gj p q v d) W3 Gj2 p q pj v d inter { s with js := j } := ⟨HA2.out.inp.fr J hf3 (fun i h1 h2 h3 => HNG2.out (h1 ▸ h3)), HA2.out.sub, HA2.out.fr.trans hf3 (fun i h1 h2 => by have := HGR.out; omega)⟩
  have hy3 : Byt W3 W3.heap.size A m.body := by
    by_cases hb : m.body = []
    · rw [hb]
      exact Reads.none_
    · exact (hf3.byt HY.out (Nat.le_refl _) (fun x hx => byt_away HY.out hb HR2.out zmsg_no x hx)).more hf3.size
  show ITakeDone JR w (InG Gj p q v d) p inter s _ W3
  rw [HMC.out]
  exact ⟨m, A, n, cp, t, j, _, rfl, InR.of hA3.inp, HT.out, HN.out, HN1.out, HN2.out, hy3, fun hb => hA3.inp.away (by rw [← hb]; exact hy3), hA3.sub, hA3.fr⟩
theorem either_any (b : Bool) (x y : Int) (V : World) : Calls Try.prog 48 #[.bool b, .int .u8 x, .int .u8 y] V fun e w' => e = .returned (.int .u8 (if b = true then x else y)) ∧ V = w' := by
  cases b
  · go_enter Try.func48, Try.ntmps48
    go_wp2_with fail
    go_ret
    exact ⟨rfl, rfl⟩
  · go_enter Try.func48, Try.ntmps48
    go_wp2_with fail
    go_ret
    exact ⟨rfl, rfl⟩
theorem intake_built (inter : Bool) (q pj : Nat) : Try.prog.built 117 [(0, .int .u8 (kdD inter : Int)), (1, .int .u8 (kdF inter : Int)), (2, Span.ptr q), (3, jptr pj)] = some (inArr inter q pj (.slice none 0 0)) := by kernel_rfl
set_option maxHeartbeats 2000000 in
theorem inew_any (J : JoinI JR) (w : World) (M : Int) (inter : Bool) (hM : 0 ≤ M ∧ M ≤ 4294967295) :
    Calls Try.prog 22 #[.int .u32 M, .bool inter] w fun e w' => ∃ G p, e = .returned (jptr p) ∧ InR JR w' G p inter ⟨M, [], js0, []⟩ ∧ (∀ i, G i → w.heap.size ≤ i) ∧ Hid (Below w.heap.size w w') := by
  have e1 := either_any inter 64 0
  have e2 := either_any inter 194 192
  have h1 : (if inter = true then (64 : Int) else 0) = (kdD inter : Int) := by cases inter <;> rfl
  have h2 : (if inter = true then (194 : Int) else 192) = (kdF inter : Int) := by cases inter <;> rfl
  rw [h1] at e1
  rw [h2] at e2
  obtain ⟨k1, hk1⟩ : ∃ k1, k1 = kdD inter := ⟨_, rfl⟩
  obtain ⟨k2, hk2⟩ : ∃ k2, k2 = kdF inter := ⟨_, rfl⟩
  have hbd : k1 < 256 ∧ k2 < 256 := by cases inter <;> simp [hk1, hk2, kdD, kdF]
  rw [← hk1] at e1
  rw [← hk2] at e2
  have HK1 := Lib.hid hk1
  have HK2 := Lib.hid hk2
  clear h1 h2 hk1 hk2
  go_enter Try.func22, Try.ntmps22
  go_wp2_with fail
  refine (e1 _).mono ?_
  rintro e w' ⟨rfl, rfl⟩
  go_wp2_with fail
  refine (e2 _).mono ?_
  rintro e w' ⟨rfl, rfl⟩
  go_wp2_with fail
  refine (Span.new_any M hM 0 w (Nat.zero_le _)).mono ?_
  rintro e W1 ⟨rfl, hs, hb1⟩
  obtain ⟨q, hq⟩ : ∃ q, q = w.heap.size := ⟨_, rfl⟩
  rw [← hq] at hs ⊢
  have HS := Lib.hid hs
  have HB1 := Lib.hid hb1
  have HQ := Lib.hid hq
  clear hs hb1 hq e1 e2
  go_wp2_with fail
  refine (J.new W1 inter).mono ?_
  rintro e W2 ⟨Gj, pj, rfl, hj, hg, hb2⟩
  have HJ := Lib.hid hj
  have HG := Lib.hid hg
  have HB2 := Lib.hid hb2.out
  clear hj hg hb2
  have hbuilt : Try.prog.built 117 [(0, .int .u8 (k1 : Int)), (1, .int .u8 (k2 : Int)), (2, Span.ptr q), (3, jptr pj)] = some (inArr inter q pj (.slice none 0 0)) := by rw [HK1.out, HK2.out]; exact intake_built inter q pj
  go_wp2_with (refine wpList_build_as rfl 117 _ rfl _ hbuilt ?_)
  go_ret
  have hkk1 := HK1.out
  have hkk2 := HK2.out
  subst hkk1 hkk2
  have hq := HQ.out
  have hs1 := HB1.out.size
  have hs2 := HB2.out.size
  have hq1 : q < W1.heap.size := set_lt HS.out
  have hb3 := below_one W2 (.cells (inArr inter q pj (.slice none 0 0)) 117)
  refine ⟨InG Gj W2.heap.size q (.slice none 0 0) (.slice none 0 0), W2.heap.size, rfl, InR.of ⟨Blk.new W2 _ _, (HS.out.below HB2.out).below hb3, Span.gp_nil 2, J.fr HJ.out (Fr.of_below hb3) (fun i h1 h2 h3 => by have e' : W2.heap.size ≤ i := h1; omega), World.ownsRow_nil _ _ _ _, by simp, (fun t h => by simp at h), fun h => ?_, fun h => ?_, (fun g h => by simp [Value.ownBlock] at h), (fun g h => by simp [Value.ownBlock] at h)⟩, fun i hi => ?_, HB1.out.trans ((HB2.out.trans (hb3.mono hs2)).mono hs1)⟩
  · have := J.lt HJ.out _ h; omega
  · have := HG.out _ h; omega
  · rcases hi with h | h | h | h | h
    · omega
    · omega
    · simp [Value.ownBlock] at h
    · simp [Value.ownBlock] at h
    · have := HG.out _ h; omega
end
end Go.Proofs.Ytioddokjogbmnaa.In

set_option linter.unusedVariables false
set_option linter.unusedSimpArgs false
set_option maxRecDepth 20000
namespace Go.Proofs.Ytioddokjogbmnaa.In
open Go.ChangeShapes Go.WideShapes Go.ChangeAt Go.RowKit Go.Deep Go.Proofs.Ytioddokjogbmnaa.Words Go.Proofs.Ytioddokjogbmnaa.Oct Go.Proofs.Ytioddokjogbmnaa.Par Go.Proofs.Ytioddokjogbmnaa.Chk
section
variable {JR : World → (Nat → Prop) → Nat → Bool → Jo.JS → Prop} {w w' : World} {G G' Gj Gj' S : Nat → Prop} {p q pj g : Nat} {v v' d d' : Value} {inter : Bool} {s : IS}
theorem gapC_gcells : ∀ l : List (Nat × Nat), gapC l = Span.gcells l
  | [] => rfl
  | a :: t => by
    have ih := gapC_gcells t
    unfold gapC at ih ⊢
    simp [Span.gcells, ih]
theorem told_take (rs : List (Nat × Nat)) : rs.take (Span.told rs 32) = rs.take 32 := by
  unfold Span.told
  rcases Nat.le_total rs.length 32 with h | h
  · rw [show min rs.length (32 : Int).toNat = rs.length by have : (32 : Int).toNat = 32 := rfl; omega, List.take_length, List.take_of_length_le h]
  · rw [show min rs.length (32 : Int).toNat = 32 by have : (32 : Int).toNat = 32 := rfl; omega]
theorem told_len (rs : List (Nat × Nat)) : Span.told rs 32 = (rs.take 32).length := by
  unfold Span.told
  rw [List.length_take]
  have : (32 : Int).toNat = 32 := rfl
  omega
def natsOf (l : List Int) : List Nat := l.map Int.toNat
theorem natsOf_map (l : List Int) (h : ∀ t ∈ l, 0 ≤ t ∧ t ≤ 4294967295) : (natsOf l).map (fun n : Nat => (n : Int)) = l := by
  unfold natsOf
  rw [List.map_map]
  conv => rhs; rw [← List.map_id l]
  exact List.map_congr_left (fun t ht => by
    have := h t ht
    show ((t.toNat : Nat) : Int) = t
    omega)
theorem dupC_natsOf (l : List Int) (h : ∀ t ∈ l, 0 ≤ t ∧ t ≤ 4294967295) : dupC (natsOf l) = dupV l := by
  unfold dupC dupV
  conv => rhs; rw [← natsOf_map l h]
  rw [List.map_map]
  rfl
def sackC (s : IS) : Ck := { zeroC 3 with tsn := s.mark.toNat, win := 131072 - Jo.held s.js, gaps := s.rs.take 32, dups := natsOf s.dups }
theorem sack_ok (hM : 0 ≤ s.mark ∧ s.mark ≤ 4294967295) (hg : Span.Gp 2 s.rs) (hd : ∀ t ∈ s.dups, 0 ≤ t ∧ t ≤ 4294967295) : (sackC s).ok := by
  refine ⟨(by decide : 3 < 256), ?_, (by decide : 0 < 65536), (by decide : 0 < 4294967296), (by decide : 0 < 4294967296), (by decide : 0 < 4294967296), (by decide : 0 < 4294967296), ?_, (by decide : 0 < 65536), (by decide : 0 < 65536), fun g hg' => ?_, fun n hn => ?_, fun _ h => by simp [sackC, zeroC] at h, fun _ h => by simp [sackC, zeroC] at h⟩
  · show s.mark.toNat < 4294967296
    omega
  · show 131072 - Jo.held s.js < 4294967296
    omega
  · have := hg.2 g (List.mem_of_mem_take hg')
    omega
  · obtain ⟨t, ht, rfl⟩ := List.mem_map.1 hn
    have := hd t ht
    omega
theorem exec_build5c {P : Program} {ρ : Operand → Value} {o : Oper} {w : World} (t : TypeId) {x0 x5 x11 x14 x15 : Operand} (ho : o.op = .build t #[(0, x0), (5, x5), (11, x11), (14, x14), (15, x15)]) (v0 v5 v11 v14 v15 : Value)
    (h0 : ρ x0 = v0) (h5 : ρ x5 = v5) (h11 : ρ x11 = v11) (h14 : ρ x14 = v14) (h15 : ρ x15 = v15) (cells : Array Value) (hf : P.built t [(0, v0), (5, v5), (11, v11), (14, v14), (15, v15)] = some cells) :
    (execOp ρ o).run P w = .ok (.value (.agg cells)) w := by
  subst h0 h5 h11 h14 h15
  exact exec_build ho (by simpa using hf)
theorem built_sack (m wn : Nat) (gl : List Gp) (dl : List Nat) (A A' : Option Addr) (n c n' c' : Nat) : Try.prog.built 41 [(0, .int .u8 3), (5, .int .u32 (m : Int)), (11, .int .u32 (wn : Int)), (14, .slice A n c), (15, .slice A' n' c')] = some (ckArr { zeroC 3 with tsn := m, win := wn, gaps := gl, dups := dl } (.slice A n c) (.slice A' n' c') nilV nilV nilV) := by kernel_rfl
def OwnGap (B : Nat) (l : List (Nat × Nat)) (v : Value) (V : World) : Prop := V.ownsRow B 136 2 v l.length (Span.gcells l)
/-- A Sack that was built. -/
def BldS (B mn wn : Nat) (l : List (Nat × Nat)) (dl : List Nat) (dv : Value) (v : Value) (V : World) : Prop := ∃ vg, OwnGap B l vg V ∧ v = .agg (ckArr { zeroC 3 with tsn := mn, win := wn, gaps := l, dups := dl } vg dv nilV nilV nilV)
theorem OwnGap.grows {B : Nat} {l : List (Nat × Nat)} {v : Value} {V V' : World} (h : OwnGap B l v V) (k : Below V.heap.size V V') : OwnGap B l v V' := (Fr.of_below k).own h (fun g hg hx => by have e' : V.heap.size ≤ g := hx; have := (World.ownsRow.lt h g hg).2; omega)
/-- How much a joiner holds is bounded. -/
def SmallI (JR : World → (Nat → Prop) → Nat → Bool → Jo.JS → Prop) : Prop := ∀ {w : World} {G : Nat → Prop} {p : Nat} {inter : Bool} {s : Jo.JS}, JR w G p inter s → Jo.held s ≤ 2000000000
def SackDone (JR : World → (Nat → Prop) → Nat → Bool → Jo.JS → Prop) (w : World) (G : Nat → Prop) (p : Nat) (inter : Bool) (s : IS) (e : Ending) (w' : World) : Prop :=
  ∃ (cs : Array Value) (c : Ck) (G' : Nat → Prop), e = .returned (.agg cs) ∧ CkAt w' w'.heap.size cs c ∧ c.kind = 3 ∧ (c.tsn : Int) = s.mark ∧ c.win = 131072 - Jo.held s.js ∧ c.gaps = s.rs.take 32 ∧ (c.dups.map fun d : Nat => (d : Int)) = s.dups ∧ InR JR w' G' p inter { s with dups := [] } ∧ (∀ i, G' i → G i ∨ w.heap.size ≤ i) ∧ Fr (fun i => i = p) w w'
set_option maxHeartbeats 4000000 in
theorem isack_any (J : JoinI JR) (H : SmallI JR) (k : InP JR w Gj p q pj v d inter s) : Calls Try.prog 25 #[jptr p] w (SackDone JR w (InG Gj p q v d) p inter s) := by
  obtain ⟨W1, hW1⟩ : ∃ W1, W1 = w.alloc (.cells (ckArr (zeroC 0) nilV nilV nilV nilV nilV) 41) := ⟨_, rfl⟩
  obtain ⟨gr, hgr⟩ : ∃ gr, gr = w.heap.size := ⟨_, rfl⟩
  have HB1 : Hid (Below w.heap.size w W1) := by rw [hW1]; exact below_one w _
  have HR1 : Hid (CkBlk W1 gr (ckArr (zeroC 0) nilV nilV nilV nilV nilV)) := by rw [hW1, hgr]; exact Blk.new _ _ _
  have HGR : Hid (gr = w.heap.size) := hgr
  have HK := Lib.hid k
  have HNG : Hid (¬ InG Gj p q v d gr) := fun hx => by have := HK.out.lt J gr hx; omega
  have HP1 : Hid (InP JR W1 Gj p q pj v d inter s) := k.below J HB1.out
  have HW1S : Hid (w.heap.size ≤ W1.heap.size) := HB1.out.size
  obtain ⟨Ad, cd, hd1, hd2, hd3⟩ := own_slice k.dup
  obtain ⟨l, hl⟩ : ∃ l, l = s.dups.length := ⟨_, rfl⟩
  rw [← hl] at hd1 hd2
  have b4 : W1.cell? ⟨p, 4, none⟩ = some (.slice Ad l cd) := by rw [← hd1]; exact HP1.out.blk.cell 4
  have z4 := HP1.out.blk.frozen 4
  have HD1 := Lib.hid hd1
  have HL := Lib.hid hl
  have HD2 := Lib.hid hd2
  have HD3 := Lib.hid hd3
  clear k hd1 hl
  go_enter Try.func25, Try.ntmps25
  go_upto_region 1 with (with_reducible refine wpList_alloc_run _ rfl 41 rfl (alloc_zk _) ?_)
  simp only [Act.put, List.setIfInBounds_toArray, List.set_cons_zero, List.set_cons_succ]
  rw [← hW1, ← hgr]
  clear hW1 hgr
  go_upto_region 3 with (fail)
  obtain ⟨W2, hW2⟩ : ∃ W2, W2 = W1.setCell ⟨p, 4, none⟩ (.slice none 0 0) := ⟨_, rfl⟩
  rw [← hW2]
  have hf2 : Fr (fun i => i = p) W1 W2 := by rw [hW2]; exact (Fr.refl (fun i => i = p) W1).setCell (p := ⟨p, 4, none⟩) (.inl rfl) _
  have hb2 : Blk W2 p 117 (inArr inter q pj (.slice none 0 0)) := by rw [hW2]; exact HP1.out.blk.set_ 4 _
  have hpn : ∀ g, (Value.slice none 0 0).ownBlock = some g → False := fun g h => by simp [Value.ownBlock] at h
  have hp2 := HP1.out.dup_ J (l := []) hb2 (World.ownsRow_nil _ _ _ _) (by simp) (fun t h => by simp at h) (hf2.mono (fun i _ h => .inl h)) (.inr (.inl (by simp [Value.ownBlock])))
  have HP2 := Lib.hid hp2.1
  have HSUB := Lib.hid hp2.2.1
  have HF2 : Hid (Fr (fun i => i = p) w W2) := ((Fr.of_below HB1.out).mono (T := fun i => i = p) (fun i h1 h2 => by have e' : w.heap.size ≤ i := h2; omega)).same hf2
  have hgp : gr ≠ p := fun e => HNG.out (.inl e)
  have HR2 : Hid (CkBlk W2 gr (ckArr (zeroC 0) nilV nilV nilV nilV nilV)) := hf2.blk HR1.out hgp
  have HDU : Hid (W2.ownsRow 0 33 1 (.slice Ad l cd) s.dups.length (dupV s.dups)) := by
    rw [← HD1.out]
    exact hf2.own HP1.out.dup (fun g h e => HP1.out.pd h e)
  clear hW2 hf2 hb2 hpn hp2 hgp b4 z4 HP1 HR1 HB1
  obtain ⟨mn, hmn⟩ : ∃ mn, mn = s.mark.toNat := ⟨_, rfl⟩
  obtain ⟨hd, hhd⟩ : ∃ hd, hd = Jo.held s.js := ⟨_, rfl⟩
  obtain ⟨wn, hwn⟩ : ∃ wn, wn = 131072 - hd := ⟨_, rfl⟩
  have hM := HK.out.set.hM
  have HMN : Hid (s.mark = (mn : Int)) := by show _ = _; omega
  have HMT := Lib.hid hmn
  have HHD := Lib.hid hhd
  have HWN : Hid (wn = 131072 - hd) := hwn
  have hwb : wn ≤ 131072 := by omega
  have hwmax : max (0 : Int) (131072 - (hd : Int)) = (wn : Int) := by omega
  have HWM := Lib.hid hwmax
  have HCK : Hid (∀ V, Below W2.heap.size W2.drew V → InP JR V Gj p q pj v (.slice none 0 0) inter { s with dups := [] }) := fun V hb => HP2.out.below J ((Below.drew (Below.refl _ _)).trans hb)
  have HB2 : Hid (∀ V, Below W2.heap.size W2.drew V → V.cell? ⟨p, 2, none⟩ = some (Span.ptr q) ∧ V.cell? ⟨p, 3, none⟩ = some (jptr pj)) := fun V hb => ⟨(HCK.out V hb).blk.cell 2, (HCK.out V hb).blk.cell 3⟩
  have HHC : Hid (∀ V, Below W2.heap.size W2.drew V → Calls Try.prog 17 #[jptr pj] V fun e w' => e = .returned (.int .i64 (hd : Int)) ∧ Below V.heap.size V w') := fun V hb => by
    rw [hhd]; exact J.held (HCK.out V hb).js
  have HMC : Hid (∀ V, Below W2.heap.size W2.drew V → Calls Try.prog 52 #[Span.ptr q] V fun e w' => e = .returned (.int .u32 (mn : Int)) ∧ V = w') := fun V hb => by
    rw [← HMN.out]; exact Span.mark_any (HCK.out V hb).set
  have hhb : hd ≤ 2000000000 := by rw [hhd]; exact H HK.out.js
  clear hmn hhd hwn hM hwmax
  refine wp_region_stage_tail 20 (fun _ V V' => Below V.heap.size V V') (fun _ V => Hid (Below W2.heap.size W2.drew V)) [(false, .exact (jptr p)),
      (false, .exact (jptr p)),
      (false, .exact (.pointer (some ⟨p, 2, none⟩))),
      (false, .exact (Span.ptr q)),
      (false, .exact (.int .u32 (mn : Int))),
      (false, .exact (jptr p)),
      (false, .exact (jptr p)),
      (false, .exact (.pointer (some ⟨p, 3, none⟩))),
      (false, .exact (jptr pj)),
      (false, .exact (.int .i64 (hd : Int))),
      (false, .exact (.int .i64 (131072 - (hd : Int)))),
      (false, .exact (.int .i64 (wn : Int))),
      (false, .exact (.int .u32 (wn : Int))),
      (false, .exact (jptr p)),
      (false, .exact (jptr p)),
      (false, .exact (.pointer (some ⟨p, 2, none⟩))),
      (false, .exact (Span.ptr q)),
      (false, .grows (OwnGap W2.heap.size (s.rs.take 32))),
      (false, .exact (.slice Ad l cd)),
      (false, .grows (BldS W2.heap.size mn wn (s.rs.take 32) (natsOf s.dups) (.slice Ad l cd)))] (by kernel_rfl) (by kernel_rfl) (by kernel_rfl) rfl (of_decide_eq_true (by kernel_rfl)) (by kernel_rfl) (by kernel_rfl) ?lasts ?start ?walk
  case lasts => exact ⟨fun mu v V V' _ h k => OwnGap.grows h k, fun mu v V V' _ ⟨vg, h, e⟩ k => ⟨vg, OwnGap.grows h k, e⟩, trivial⟩
  case start => exact Below.refl _ _
  case walk =>
    simp only [List.take_succ_cons, List.take_zero, List.drop_succ_cons, List.drop_zero]
    refine stageT_pure rfl (fun _ V => Below.refl _ V) (fun V m hS hl => by go_simp) ?_
    simp only [Act.put, List.setIfInBounds_toArray, List.set_cons_zero, List.set_cons_succ, List.cons_append, List.nil_append]
    refine stageT_pure rfl (fun _ V => Below.refl _ V) (fun V m hS hl => by go_simp) ?_
    simp only [Act.put, List.setIfInBounds_toArray, List.set_cons_zero, List.set_cons_succ, List.cons_append, List.nil_append]
    refine stageT_pure rfl (fun _ V => Below.refl _ V) (fun V m hS hl => by go_simp) ?_
    simp only [Act.put, List.setIfInBounds_toArray, List.set_cons_zero, List.set_cons_succ, List.cons_append, List.nil_append]
    refine stageT_pure rfl (fun _ V => Below.refl _ V) (fun V m hS hl => by
        have hc := (HB2.out V hS.out).1
        go_simp) ?_
    simp only [Act.put, List.setIfInBounds_toArray, List.set_cons_zero, List.set_cons_succ, List.cons_append, List.nil_append]
    refine stageT_exact rfl (fun V m hS hl => by
        go_simp
        refine Calls.mono (HMC.out V hS.out) ?_
        rintro e V' ⟨rfl, rfl⟩
        exact ⟨_, rfl, Below.refl _ _, rfl, hS⟩) ?_
    simp only [Act.put, List.setIfInBounds_toArray, List.set_cons_zero, List.set_cons_succ, List.cons_append, List.nil_append]
    refine stageT_pure rfl (fun _ V => Below.refl _ V) (fun V m hS hl => by go_simp) ?_
    simp only [Act.put, List.setIfInBounds_toArray, List.set_cons_zero, List.set_cons_succ, List.cons_append, List.nil_append]
    refine stageT_pure rfl (fun _ V => Below.refl _ V) (fun V m hS hl => by go_simp) ?_
    simp only [Act.put, List.setIfInBounds_toArray, List.set_cons_zero, List.set_cons_succ, List.cons_append, List.nil_append]
    refine stageT_pure rfl (fun _ V => Below.refl _ V) (fun V m hS hl => by go_simp) ?_
    simp only [Act.put, List.setIfInBounds_toArray, List.set_cons_zero, List.set_cons_succ, List.cons_append, List.nil_append]
    refine stageT_pure rfl (fun _ V => Below.refl _ V) (fun V m hS hl => by
        have hc := (HB2.out V hS.out).2
        go_simp) ?_
    simp only [Act.put, List.setIfInBounds_toArray, List.set_cons_zero, List.set_cons_succ, List.cons_append, List.nil_append]
    refine stageT_exact rfl (fun V m hS hl => by
        go_simp
        refine Calls.mono (HHC.out V hS.out) ?_
        rintro e V' ⟨rfl, hb⟩
        exact ⟨_, rfl, hb, rfl, hS.out.trans (hb.mono hS.out.size)⟩) ?_
    simp only [Act.put, List.setIfInBounds_toArray, List.set_cons_zero, List.set_cons_succ, List.cons_append, List.nil_append]
    refine stageT_pure rfl (fun _ V => Below.refl _ V) (fun V m hS hl => by
        go_simp
        exact IntWalk.i64_in _ (by omega)) ?_
    simp only [Act.put, List.setIfInBounds_toArray, List.set_cons_zero, List.set_cons_succ, List.cons_append, List.nil_append]
    refine stageT_pure rfl (fun _ V => Below.refl _ V) (fun V m hS hl => by
        go_simp
        have h1 : wn = 131072 - hd := HWN.out
        split <;> omega) ?_
    simp only [Act.put, List.setIfInBounds_toArray, List.set_cons_zero, List.set_cons_succ, List.cons_append, List.nil_append]
    refine stageT_pure rfl (fun _ V => Below.refl _ V) (fun V m hS hl => by
        go_simp
        rw [IntKind.wrap_u32]
        omega) ?_
    simp only [Act.put, List.setIfInBounds_toArray, List.set_cons_zero, List.set_cons_succ, List.cons_append, List.nil_append]
    refine stageT_pure rfl (fun _ V => Below.refl _ V) (fun V m hS hl => by go_simp) ?_
    simp only [Act.put, List.setIfInBounds_toArray, List.set_cons_zero, List.set_cons_succ, List.cons_append, List.nil_append]
    refine stageT_pure rfl (fun _ V => Below.refl _ V) (fun V m hS hl => by go_simp) ?_
    simp only [Act.put, List.setIfInBounds_toArray, List.set_cons_zero, List.set_cons_succ, List.cons_append, List.nil_append]
    refine stageT_pure rfl (fun _ V => Below.refl _ V) (fun V m hS hl => by go_simp) ?_
    simp only [Act.put, List.setIfInBounds_toArray, List.set_cons_zero, List.set_cons_succ, List.cons_append, List.nil_append]
    refine stageT_pure rfl (fun _ V => Below.refl _ V) (fun V m hS hl => by
        have hc := (HB2.out V hS.out).1
        go_simp) ?_
    simp only [Act.put, List.setIfInBounds_toArray, List.set_cons_zero, List.set_cons_succ, List.cons_append, List.nil_append]
    refine stageT_grows rfl (fun V m hS hl => by
        go_simp
        refine Calls.mono (Span.gaps_any (HCK.out V hS.out).set (HCK.out V hS.out).gp 32 (by omega)) ?_
        rintro e V' ⟨vg, rfl, ho, hb⟩
        rw [told_take, told_len] at ho
        exact ⟨_, rfl, hb, own_mono ho hS.out.size, hS.out.trans (hb.mono hS.out.size)⟩) (fun v28 => ?_)
    simp only [Act.put, List.setIfInBounds_toArray, List.set_cons_zero, List.set_cons_succ, List.cons_append, List.nil_append]
    refine stageT_pure rfl (fun _ V => Below.refl _ V) (fun V m hS hl => by go_simp) ?_
    simp only [Act.put, List.setIfInBounds_toArray, List.set_cons_zero, List.set_cons_succ, List.cons_append, List.nil_append]
    refine stageT_grows rfl (fun V m hS hl => by
        have ho : OwnGap W2.heap.size (s.rs.take 32) v28 V := (hl.1 (by kernel_rfl))
        obtain ⟨A9, c9, rfl, h9a, h9b⟩ := own_slice ho
        show Words.Leaves _ _ _
        rw [exec_build5c 41 rfl (.int .u8 3) (.int .u32 (mn : Int)) (.int .u32 (wn : Int)) (.slice A9 (s.rs.take 32).length c9) (.slice Ad l cd) rfl rfl rfl rfl rfl _ (built_sack mn wn (s.rs.take 32) (natsOf s.dups) _ _ _ _ _ _)]
        exact ⟨Below.refl _ _, ⟨_, ho, rfl⟩, hS⟩) (fun v30 => ?_)
    simp only [Act.put, List.setIfInBounds_toArray, List.set_cons_zero, List.set_cons_succ, List.cons_append, List.nil_append]
    refine stageT_nil (fun V3 hS hF => ?_)
    have hF2 : OwnGap W2.heap.size (s.rs.take 32) v28 V3 ∧ BldS W2.heap.size mn wn (s.rs.take 32) (natsOf s.dups) (.slice Ad l cd) v30 V3 ∧ True := hF
    obtain ⟨vg, hog, rfl⟩ := hF2.2.1
    have HOG := Lib.hid hog
    have HS3 : Hid (Below W2.heap.size W2 V3) := (Below.drew (Below.refl _ _)).trans hS.out
    have HR3 : Hid (CkBlk V3 gr (ckArr (zeroC 0) nilV nilV nilV nilV nilV)) := blk_below HR2.out HS3.out HR2.out.lt
    have HP3 := Lib.hid (HCK.out V3 hS.out)
    clear hF hF2 hog hS
    obtain ⟨cs, hcs⟩ : ∃ cs, cs = ckArr { zeroC 3 with tsn := mn, win := wn, gaps := s.rs.take 32, dups := natsOf s.dups } vg (.slice Ad l cd) nilV nilV nilV := ⟨_, rfl⟩
    have hsz : cs.size = 19 := by rw [hcs]; rfl
    obtain ⟨A9, c9, hvg, h9a, h9b⟩ := own_slice HOG.out
    have hone : cs.all (·.oneCell') = true := by rw [hcs, hvg]; simp [ckArr, Value.oneCell']
    rw [← hcs]
    have HCS := Lib.hid hcs
    have HSZ := Lib.hid hsz
    have HONE := Lib.hid hone
    have HVG := Lib.hid hvg
    clear hcs hsz hone hvg
    go_wp2_with (refine wpList_store_row rfl 41 _ _ rfl gr cs rfl rfl 41 _ HR3.out (by rw [HSZ.out]; exact chunk_info) (by rw [HSZ.out]; rfl) HONE.out ?_)
    obtain ⟨W4, hW4⟩ : ∃ W4, W4 = V3.setRow gr cs := ⟨_, rfl⟩
    rw [← hW4]
    have hb4 : CkBlk W4 gr cs := by rw [hW4]; exact setRow_heap _ _ _ _ _ _ HR3.out
    have hf4 : Fr (fun i => i = gr) V3 W4 := by rw [hW4]; exact fr_setRow gr _
    (try simp only [Exit.inBlock, Exit.then])
    refine bodyPost_ret (results_cell_row rfl _ _ gr 41 cs (0, 0) _ rfl hb4 Try.underlying41 rfl (by rw [HSZ.out]; exact chunk_info)) rfl ?_
    have hng2 : ¬ InG Gj p q v (.slice none 0 0) gr := fun hx => by
      rcases hx with h | h | h | h | h
      · exact HNG.out (.inl h)
      · exact HNG.out (.inr (.inl h))
      · exact HNG.out (.inr (.inr (.inl h)))
      · simp [Value.ownBlock] at h
      · exact HNG.out (.inr (.inr (.inr (.inr h))))
    have hp4 : InP JR W4 Gj p q pj v (.slice none 0 0) inter { s with dups := [] } := HP3.out.fr J hf4 (fun i h1 h2 h3 => hng2 (h1 ▸ h3))
    have hf24 : Fr (fun i => i = gr) W2 W4 := ((Fr.of_below HS3.out).mono (T := fun i => i = gr) (fun i h1 h2 => by have e' : W2.heap.size ≤ i := h2; omega)).same hf4
    have hdu : W4.ownsRow 0 33 1 (.slice Ad l cd) s.dups.length (dupV s.dups) := hf24.own HDU.out (fun g hg e => by
      have h1 := (HK.out.dup.lt g (by rw [HD1.out]; exact hg)).2
      have h2 := HGR.out
      omega)
    have hga : OwnGap W2.heap.size (s.rs.take 32) vg W4 := hf4.own HOG.out (fun g hg e => by
      have h1 := (World.ownsRow.lt HOG.out g hg).1
      have h2 := HR2.out.lt
      omega)
    have hrg : Reads W4 W4.heap.size 2 A9 (s.rs.take 32).length (gapC (s.rs.take 32)) := by
      rw [gapC_gcells]
      have h1 : W4.ownsRow W2.heap.size 136 2 vg (s.rs.take 32).length (Span.gcells (s.rs.take 32)) := hga
      rw [HVG.out] at h1
      exact Reads.of_own h1
    have hll : (natsOf s.dups).length = l := by rw [HL.out]; exact List.length_map _
    have hrd : Reads W4 W4.heap.size 1 Ad (natsOf s.dups).length (dupC (natsOf s.dups)) := by
      rw [dupC_natsOf _ HK.out.dbd, hll]
      have h1 := hdu
      rw [← HL.out] at h1
      exact Reads.of_own h1
    have hck : CkAt W4 W4.heap.size cs (sackC s) := by
      refine ⟨sack_ok HK.out.set.hM HK.out.gp HK.out.dbd, ⟨A9, c9⟩, ⟨Ad, cd⟩, ⟨none, 0⟩, ⟨none, 0⟩, ⟨none, 0⟩, ?_, ⟨h9a, h9b⟩, ⟨?_, HD3.out⟩, ⟨Nat.le_refl _, by simp⟩, ⟨Nat.le_refl _, by simp⟩, ⟨Nat.le_refl _, by simp⟩, hrg, hrd, Reads.none_, Ps.nil _ _ _, Reads.none_⟩
      · rw [HCS.out, HVG.out]
        have e1 : (sackC s).tsn = mn := HMT.out.symm
        have e2 : (sackC s).win = wn := by rw [HWN.out, HHD.out]; rfl
        have e3 : (sackC s).dups.length = l := hll
        show ckArr _ _ (.slice Ad l cd) _ _ _ = ckArr (sackC s) (.slice A9 (s.rs.take 32).length c9) (.slice Ad (sackC s).dups.length cd) nilV nilV nilV
        rw [e3, ← e1, ← e2]
        rfl
      · show (natsOf s.dups).length ≤ cd
        rw [hll]; exact HD2.out
    refine ⟨cs, sackC s, _, rfl, hck, rfl, ?_, rfl, rfl, natsOf_map _ HK.out.dbd, InR.of hp4, fun i hi => ?_, ?_⟩
    · show ((s.mark.toNat : Nat) : Int) = s.mark
      have := HK.out.set.hM
      omega
    · rcases HSUB.out i hi with h | h
      · exact .inl h
      · exact .inr (Nat.le_trans HW1S.out h)
    · exact HF2.out.trans hf24 (fun i h1 h2 => by have := HGR.out; omega)
end
end Go.Proofs.Ytioddokjogbmnaa.In

set_option linter.unusedVariables false
set_option linter.unusedSimpArgs false
namespace Go.Proofs.Ytioddokjogbmnaa.In
open Go.ChangeShapes Go.WideShapes Go.ChangeAt Go.RowKit Go.Deep Go.Proofs.Ytioddokjogbmnaa.Words Go.Proofs.Ytioddokjogbmnaa.Oct Go.Proofs.Ytioddokjogbmnaa.Par Go.Proofs.Ytioddokjogbmnaa.Chk
theorem inI_of {JR : World → (Nat → Prop) → Nat → Bool → Jo.JS → Prop} (J : JoinI JR) (P : PassI JR) (H : SmallI JR) : InI (InR JR) where
  fr := fun k hf hS => k.fr J hf hS
  lt := fun k i hi => k.lt J i hi
  bd := fun k => k.bd
  new := fun w M inter hM => inew_any J w M inter hM
  data := fun {w G p inter s cs c} k hk hb hbr hz hc hA => by
    obtain ⟨Gj, q, pj, v, d, hG, k⟩ := k
    refine (idata_any J k hk hb hbr hz hc (fun ad n cp e hx => hA ad n cp e ((hG _).2 hx))).mono ?_
    rintro e w' ⟨n, s', G', rfl, h1, h2, h3, h4⟩
    exact ⟨n, s', G', rfl, h1, h2, fun i hi => (h3 i hi).imp (fun h => (hG i).2 h) id, h4.mono (fun i _ h => (hG i).2 h)⟩
  forw := fun {w G p s cs c} k hk hs hc => by
    obtain ⟨Gj, q, pj, v, d, hG, k⟩ := k
    refine (iforw_any J P k hk hs hc).mono ?_
    rintro e w' ⟨b, s', G', rfl, h1, h2, h3, h4⟩
    exact ⟨b, s', G', rfl, h1, h2, fun i hi => (h3 i hi).imp (fun h => (hG i).2 h) id, h4.mono (fun i _ h => (hG i).2 h)⟩
  other := fun {w G p inter s cs c} k hk hc => by
    obtain ⟨Gj, q, pj, v, d, hG, k⟩ := k
    exact iother_any J k hk hc
  take := fun {w G p inter s} k => by
    obtain ⟨Gj, q, pj, v, d, hG, k⟩ := k
    refine (itake_any J k).mono ?_
    rintro e w' ⟨m, A, n, cp, t, j, G', rfl, h1, h2, h3, h4, h5, h6, h7, h8, h9⟩
    exact ⟨m, A, n, cp, t, j, G', rfl, h1, h2, h3, h4, h5, h6, h7, fun i hi => (h8 i hi).imp (fun h => (hG i).2 h) id, h9.mono (fun i _ h => (hG i).2 h)⟩
  sack := fun {w G p inter s} k => by
    obtain ⟨Gj, q, pj, v, d, hG, k⟩ := k
    refine (isack_any J H k).mono ?_
    rintro e w' ⟨cs, c, G', rfl, h1, h2, h3, h4, h5, h6, h7, h8, h9⟩
    exact ⟨cs, c, G', rfl, h1, h2, h3, h4, h5, h6, h7, fun i hi => (h8 i hi).imp (fun h => (hG i).2 h) id, h9⟩
  self := fun k => k.self
  mark := fun {w G p inter s} k => by
    obtain ⟨Gj, q, pj, v, d, hG, k⟩ := k
    refine (imark_any k).mono ?_
    rintro e w' ⟨rfl, rfl⟩
    exact ⟨rfl, Below.refl _ _⟩
end Go.Proofs.Ytioddokjogbmnaa.In

set_option linter.unusedVariables false
set_option linter.unusedSimpArgs false
namespace Go.Proofs.Ytioddokjogbmnaa.Mx
open Go.ChangeShapes Go.WideShapes Go.ChangeAt Go.RowKit Go.Maps Go.Proofs.Ytioddokjogbmnaa.Words
open Go.ChangeMaps (notKey putKey delKey setBlock)
open Go.MapKept (stamped_iff)
open Go.WideElems (Fit rd rg pl rd_key rd_val rg_of)
def anyE (v : Value) : Option (DataW Value × List MemPlace) := some (.held v, [])
def tok : DataW Value → Option Value
  | .held v => some v
  | _ => none
def look (D : DataW Value) (kl : Lit) : Option Value := tok (D.atKey kl .nil)
/-- The keys of a type, named by the things of another one. -/
structure KX (P : Program) (k : TypeId) (κ : Type) where
  enc : κ → Value
  lit : κ → Lit
  dom : κ → Prop
  key : ∀ x, dom x → keyOf P k (enc x) = some (lit x)
  inj : ∀ x y, dom x → dom y → lit x = lit y → x = y
  sur : ∀ v l, keyOf P k v = some l → ∃ x, dom x ∧ v = enc x ∧ l = lit x
  law : Keyed P k
  few : ∀ l : List κ, l.Nodup → (∀ x ∈ l, dom x) → l.length ≤ 1125899906842624
section
variable {P : Program} {k : TypeId} {κ : Type} {X : KX P k κ} {w w' : World} {b r n : Nat} {D : DataW Value} {f : κ → Option Value}
theorem keys_list (X : KX P k κ) : ∀ (es : List MapEntry), (∀ e ∈ es, ∃ l, keyOf P k e.key = some l) → ∃ xs : List κ, xs.map X.enc = es.map (·.key) ∧ ∀ x ∈ xs, X.dom x
  | [], _ => ⟨[], rfl, by simp⟩
  | e :: es, h => by
    obtain ⟨xs, h1, h2⟩ := keys_list X es (fun e' he => h e' (List.mem_cons_of_mem _ he))
    obtain ⟨l, hl⟩ := h e List.mem_cons_self
    obtain ⟨x, hx, e1, _⟩ := X.sur _ _ hl
    exact ⟨x :: xs, by simp [h1, e1], fun y hy => by
      rcases List.mem_cons.1 hy with rfl | hy
      · exact hx
      · exact h2 y hy⟩
theorem fit_few (X : KX P k κ) {R : Value → Option (DataW Value × List MemPlace)} {es : Array MapEntry} {clock : Nat} (F : Fit P k R es clock) : es.size ≤ 1125899906842624 := by
  obtain ⟨xs, h1, h2⟩ := keys_list X es.toList F.keys
  have hn : es.toList.Pairwise (fun x y => x.key ≠ y.key) := ((stamped_iff es clock).1 F.stamped).2.2
  have hnd : xs.Nodup := by
    have h3 : (es.toList.map (·.key)).Pairwise (· ≠ ·) := List.pairwise_map.2 hn
    rw [← h1] at h3
    have h4 := List.pairwise_map.1 h3
    exact h4.imp (fun {a b} hab e => hab (by rw [e]))
  have h5 := X.few xs hnd h2
  have h6 : xs.length = es.toList.length := by have := congrArg List.length h1; simpa using this
  rw [h6] at h5
  simpa using h5
theorem own_few (X : KX P k κ) (h : w.ownsMap P k anyE b n D) : w.ownsMap P k anyE b 1125899906842624 D := by
  obtain ⟨es, clock, hb, F, hs, hD⟩ := h
  exact ⟨es, clock, hb, F, fit_few X F, hD⟩
structure MapX (X : KX P k κ) (w : World) (b : Nat) (f : κ → Option Value) : Prop where
  ex : ∃ D, w.ownsMap P k anyE b 1125899906842624 D ∧ ∀ x, X.dom x → f x = look D (X.lit x)
  out : ∀ x, ¬ X.dom x → f x = none
def putF [DecidableEq κ] (f : κ → Option Value) (x : κ) (v : Value) : κ → Option Value := fun y => if y = x then some v else f y
def delF [DecidableEq κ] (f : κ → Option Value) (x : κ) : κ → Option Value := fun y => if y = x then none else f y
theorem MapX.new (X : KX P k κ) (w : World) : MapX X (w.alloc (.map #[] 0)) w.heap.size (fun _ => none) :=
  ⟨⟨.map [], (World.ownsMap_made w P k anyE).mono (Nat.zero_le _), fun x _ => rfl⟩, fun _ _ => rfl⟩
theorem MapX.lt (h : MapX X w b f) : b < w.heap.size := by obtain ⟨D, h1, _⟩ := h.ex; exact h1.lt
theorem MapX.same (h : MapX X w b f) (e : w'.heap[b]? = w.heap[b]?) : MapX X w' b f := by
  obtain ⟨D, ⟨es, clock, hb, F, hs, hD⟩, h2⟩ := h.ex
  exact ⟨⟨D, ⟨es, clock, e.trans hb, F, hs, hD⟩, h2⟩, h.out⟩
theorem MapX.fr {S : Nat → Prop} (h : MapX X w b f) (hf : Fr S w w') (hb : ¬ S b) : MapX X w' b f := h.same (hf.block b h.lt hb)
theorem MapX.as_ {g : κ → Option Value} (h : MapX X w b f) (e : ∀ x, f x = g x) : MapX X w b g := by rw [← funext e]; exact h
theorem MapX.drewN (h : MapX X w b f) (n : Nat) : MapX X (w.drewN n) b f := h.same rfl
theorem MapX.drew (h : MapX X w b f) : MapX X w.drew b f := h.same rfl
theorem MapX.some_dom (h : MapX X w b f) {x : κ} {v : Value} (hx : f x = some v) : X.dom x := by
  rcases Classical.em (X.dom x) with h1 | h1
  · exact h1
  · rw [h.out x h1] at hx; cases hx
theorem MapX.look_run (h : MapX X w b f) {t e : TypeId} (ht : P.underlying t = some (.map k e)) {z : Value} (hz : (zeroValue e).run P w = .ok z w) (c : Bool) {x : κ} (hx : X.dom x) :
    (Instr.lookup t (.map (some b)) (X.enc x) c).run P w = .ok (if c then .tuple #[(f x).getD z, .bool (f x).isSome] else (f x).getD z) w := by
  obtain ⟨D, ⟨es, clock, hb, F, _, rfl⟩, h2⟩ := h.ex
  have h3 := h2 x hx
  rcases Maps.fit_look c X.law ht hz hb F (X.key x hx) with ⟨hrun, _, hat⟩ | ⟨e0, y, _, _, hrun, hRv, hat, _⟩
  · unfold look at h3
    rw [hat .nil] at h3
    rw [h3, hrun]
    rfl
  · unfold look at h3
    rw [hat .nil] at h3
    have e1 : y.1 = .held e0.val := by unfold anyE at hRv; injection hRv with hRv; rw [← hRv]
    rw [e1] at h3
    have h4 : f x = some e0.val := h3
    rw [h4, hrun]
    rfl
theorem MapX.look (h : MapX X w b f) {t e : TypeId} (ht : P.underlying t = some (.map k e)) {z : Value} (hz : (zeroValue e).run P w = .ok z w) {x : κ} (hx : X.dom x) :
    (Instr.lookup t (.map (some b)) (X.enc x) false).run P w = .ok ((f x).getD z) w := h.look_run ht hz false hx
theorem MapX.look_ok (h : MapX X w b f) {t e : TypeId} (ht : P.underlying t = some (.map k e)) {z : Value} (hz : (zeroValue e).run P w = .ok z w) {x : κ} (hx : X.dom x) :
    (Instr.lookup t (.map (some b)) (X.enc x) true).run P w = .ok (.tuple #[(f x).getD z, .bool (f x).isSome]) w := h.look_run ht hz true hx
theorem MapX.put [DecidableEq κ] (h : MapX X w b f) {t e : TypeId} (ht : P.underlying t = some (.map k e)) {x : κ} (hx : X.dom x) (v : Value) :
    ∃ w1, (Instr.mapUpdate t (.map (some b)) (X.enc x) v).run P w = .ok () w1 ∧ MapX X w1 b (putF f x v) ∧ w.mapTurned w1 b := by
  obtain ⟨D, hown, h2⟩ := h.ex
  obtain ⟨w1, hrun, hown1, hturn⟩ := hown.store X.law ht (by unfold maxLen; omega) (X.key x hx) (show anyE v = some (.held v, []) from rfl)
  refine ⟨w1, hrun, ⟨⟨_, own_few X hown1, fun y hy => ?_⟩, fun y hy => ?_⟩, hturn⟩
  · unfold putF Mx.look
    by_cases e : y = x
    · subst e
      rw [if_pos rfl, atKey_put_same hown.isMap (X.law.key (X.key y hy))]
      rfl
    · rw [if_neg e, atKey_put_other (fun e' => e (X.inj _ _ hy hx e')), h2 y hy]
      rfl
  · unfold putF
    rw [if_neg (fun e => hy (by rw [e]; exact hx))]
    exact h.out y hy
theorem MapX.del [DecidableEq κ] (h : MapX X w b f) {t e : TypeId} (ht : P.underlying t = some (.map k e)) {x : κ} (hx : X.dom x) (ty : TypeId) :
    ∃ w1, (Builtin.delete_ #[t, k] ty #[.map (some b), X.enc x]).run P w = .ok (.tuple #[]) w1 ∧ MapX X w1 b (delF f x) ∧ w.mapTurned w1 b := by
  obtain ⟨D, hown, h2⟩ := h.ex
  obtain ⟨w1, hrun, hown1, hturn⟩ := hown.drop X.law ht (X.key x hx) ty
  refine ⟨w1, hrun, ⟨⟨_, hown1, fun y hy => ?_⟩, fun y hy => ?_⟩, hturn⟩
  · unfold delF Mx.look
    by_cases e : y = x
    · subst e
      rw [if_pos rfl, atKey_del_same]
      rfl
    · rw [if_neg e, atKey_del_other (fun e' => e (X.inj _ _ hy hx e')), h2 y hy]
      rfl
  · unfold delF
    split
    · rfl
    · exact h.out y hy
theorem MapX.len (h : MapX X w b f) {t e : TypeId} (ht : P.underlying t = some (.map k e)) (ty : TypeId) :
    ∃ n : Nat, (Builtin.len_ #[t] ty #[.map (some b)]).run P w = .ok (.int .i64 (n : Int)) w ∧ n ≤ 1125899906842624 ∧ (n = 0 ↔ ∀ x, f x = none) := by
  obtain ⟨D, hown, h2⟩ := h.ex
  refine ⟨Maps.size D, hown.len ht ty, hown.size_le, ?_⟩
  obtain ⟨es, clock, hb, F, hs, rfl⟩ := hown
  have hsz : Maps.size (DataW.map ((es.toList.map (rg P k anyE)).foldr DataW.insert [])) = es.size := by simp [Maps.size, length_sorted]
  rw [hsz]
  constructor
  · intro h0 x
    rcases Classical.em (X.dom x) with hx | hx
    · rw [h2 x hx]
      have : es = #[] := Array.eq_empty_of_size_eq_zero h0
      subst this
      rfl
    · exact h.out x hx
  · intro hall
    rcases Nat.eq_zero_or_pos es.size with h0 | h0
    · exact h0
    · exfalso
      have hmem : es[0] ∈ es.toList := by simp
      obtain ⟨l, hl⟩ := F.keys _ hmem
      obtain ⟨x, hx, e1, e2⟩ := X.sur _ _ hl
      have h3 := h2 x hx
      rw [hall x] at h3
      obtain ⟨y, hy⟩ := F.reads _ hmem
      obtain ⟨z, hz, hzd⟩ := rd_val hy
      have hkey := rd_key hy
      rw [hl] at hkey
      injection hkey with hkey
      have hat := (atKey_sorted (es.toList.map (rg P k anyE)) (Maps.fit_rising X.law F) l (X.law.key hl)).2 (rg P k anyE es[0]) (List.mem_map.2 ⟨_, hmem, rfl⟩) (by rw [rg_of hy]; exact hkey.symm) .nil
      unfold Mx.look at h3
      rw [← e2, hat, rg_of hy] at h3
      unfold anyE at hz
      injection hz with hz
      have e4 : y.2 = .held es[0].val := by rw [hzd, ← hz]
      rw [e4] at h3
      cases h3
structure RangeX (X : KX P k κ) (w : World) (b r : Nat) (f : κ → Option Value) (left : κ → Bool) (cnt : Nat) : Prop where
  ex : ∃ D lf, w.ranges P k anyE b r 1125899906842624 D lf cnt ∧ (∀ x, X.dom x → f x = look D (X.lit x)) ∧ ∀ x, X.dom x → left x = lf (X.lit x)
  out : ∀ x, ¬ X.dom x → f x = none ∧ left x = false
variable {left : κ → Bool} {cnt : Nat}
theorem RangeX.map (h : RangeX X w b r f left cnt) : MapX X w b f := by
  obtain ⟨D, lf, h1, h2, h3⟩ := h.ex
  exact ⟨⟨D, h1.owns, h2⟩, fun x hx => (h.out x hx).1⟩
theorem RangeX.ne (h : RangeX X w b r f left cnt) : r ≠ b := by obtain ⟨D, lf, h1, _⟩ := h.ex; exact h1.ne
theorem RangeX.lt (h : RangeX X w b r f left cnt) : r < w.heap.size := by obtain ⟨D, lf, h1, _⟩ := h.ex; exact h1.lt
theorem RangeX.fr {S : Nat → Prop} (h : RangeX X w b r f left cnt) (hf : Fr S w w') (hb : ¬ S b) (hr : ¬ S r) : RangeX X w' b r f left cnt := by
  have l1 := h.map.lt
  have l2 := h.lt
  obtain ⟨D, lf, ⟨es, clock, since, seen, c0, h1, F, hs, hD, h4, rest⟩, h2, h3⟩ := h.ex
  exact ⟨⟨D, lf, ⟨es, clock, since, seen, c0, (hf.block b l1 hb).trans h1, F, hs, hD, (hf.block r l2 hr).trans h4, rest⟩, h2, h3⟩, h.out⟩
theorem RangeX.as_ {left' : κ → Bool} (h : RangeX X w b r f left cnt) (e : ∀ x, left x = left' x) : RangeX X w b r f left' cnt := by rw [← funext e]; exact h
theorem RangeX.left_eq (h : RangeX X w b r f left cnt) : w.rangeLeft b r = cnt := by obtain ⟨D, lf, h1, _⟩ := h.ex; exact h1.left_eq
theorem MapX.range (h : MapX X w b f) {t e : TypeId} (ht : P.underlying t = some (.map k e)) :
    ∃ w1 cnt, (Instr.range t (.map (some b))).run P w = .ok (.pointer (some ⟨w.heap.size, 0, none⟩)) w1 ∧ RangeX X w1 b w.heap.size f (fun x => (f x).isSome) cnt ∧ w.grownBy w1 none ∧ w1.heap.size = w.heap.size + 1 := by
  obtain ⟨D, hown, h2⟩ := h.ex
  obtain ⟨w1, hrun, hrg, hg, hs⟩ := hown.range X.law ht
  refine ⟨w1, _, hrun, ⟨⟨D, _, hrg, h2, fun x hx => ?_⟩, fun x hx => ⟨h.out x hx, by rw [h.out x hx]; rfl⟩⟩, hg, hs⟩
  rw [h2 x hx]
  obtain ⟨es, clock, hb, F, _, rfl⟩ := hown
  obtain ⟨hrun2, hh⟩ := (show (∃ z : World, z = w) ∧ True from ⟨⟨w, rfl⟩, trivial⟩)
  rcases Classical.em (∃ e ∈ es.toList, keyOf P k e.key = some (X.lit x)) with ⟨e0, hmem, hl⟩ | hno
  · obtain ⟨y, hy⟩ := F.reads _ hmem
    obtain ⟨z, hz, hzd⟩ := rd_val hy
    have hkey := rd_key hy
    rw [hl] at hkey
    injection hkey with hkey
    have hat := fun zd => (atKey_sorted (es.toList.map (rg P k anyE)) (Maps.fit_rising X.law F) (X.lit x) (X.law.key hl)).2 (rg P k anyE e0) (List.mem_map.2 ⟨_, hmem, rfl⟩) (by rw [rg_of hy]; exact hkey.symm) zd
    have e4 : y.2 = .held e0.val := by
      unfold anyE at hz
      injection hz with hz
      rw [hzd, ← hz]
    rw [rg_of hy, e4] at hat
    unfold Mx.look
    rw [hat .nil, Maps.has_true_of_atKey hat]
    rfl
  · have hhas : Maps.has (DataW.map ((es.toList.map (rg P k anyE)).foldr DataW.insert [])) (X.lit x) = false := by
      cases hc : Maps.has (DataW.map ((es.toList.map (rg P k anyE)).foldr DataW.insert [])) (X.lit x)
      · rfl
      · exfalso
        obtain ⟨p, hp, hpk⟩ := List.any_eq_true.1 hc
        obtain ⟨e0, hm, rfl⟩ := List.mem_map.1 (mem_sorted.1 hp)
        obtain ⟨y, hy⟩ := F.reads _ hm
        rw [rg_of hy] at hpk
        exact hno ⟨e0, hm, by rw [rd_key hy, WideAt.sameKey_eq hpk]⟩
    rw [hhas]
    unfold Mx.look
    rw [atKey_of_not_has hhas]
    rfl
theorem RangeX.next [DecidableEq κ] (h : RangeX X w b r f left cnt) (ty : TypeId) :
    ((∀ x, left x = false) ∧ (Instr.next (.pointer (some ⟨r, 0, none⟩)) false ty).run P w = .ok (.tuple #[.bool false]) w) ∨
    ∃ x v w1 cnt1, X.dom x ∧ left x = true ∧ f x = some v ∧ (Instr.next (.pointer (some ⟨r, 0, none⟩)) false ty).run P w = .ok (.tuple #[.bool true, X.enc x, v]) w1 ∧
      RangeX X w1 b r f (fun y => left y && !decide (y = x)) cnt1 ∧ cnt1 < cnt ∧ w.grownBy w1 (some r) ∧ w1.heap.size = w.heap.size ∧ (Instr.entry (.pointer (some ⟨r, 0, none⟩))).run P w1 = .ok (.tuple #[X.enc x, v]) w1 := by
  obtain ⟨D, lf, h1, h2, h3⟩ := h.ex
  rcases h1.next X.law ty with ⟨h0, hl, hrun⟩ | ⟨key, v, kl, y, w1, cnt1, hkey, hlk, hv, hat, hrun, hrg, hlt, hgr, hsz, hen⟩
  · refine .inl ⟨fun x => ?_, hrun⟩
    rcases Classical.em (X.dom x) with hx | hx
    · rw [h3 x hx]; exact hl _
    · exact (h.out x hx).2
  · obtain ⟨x, hx, rfl, rfl⟩ := X.sur _ _ hkey
    refine .inr ⟨x, v, w1, cnt1, hx, by rw [h3 x hx]; exact hlk, ?_, hrun, ⟨⟨D, _, hrg, h2, fun z hz => ?_⟩, fun z hz => ⟨(h.out z hz).1, by rw [(h.out z hz).2]; rfl⟩⟩, hlt, hgr, hsz, hen⟩
    · rw [h2 x hx]
      unfold Mx.look
      rw [hat .nil]
      unfold anyE at hv
      injection hv with hv
      rw [← hv]
      rfl
    · show (left z && !decide (z = x)) = _
      rw [h3 z hz]
      congr 2
      by_cases e : z = x
      · subst e
        rw [decide_eq_true rfl, WideAt.sameKey_self (X.law.key hkey)]
      · rw [decide_eq_false e, sameKey_ne (fun e' => e (X.inj _ _ hz hx e'))]
theorem RangeX.del [DecidableEq κ] (h : RangeX X w b r f left cnt) {t e : TypeId} (ht : P.underlying t = some (.map k e)) {x : κ} (hx : X.dom x) (ty : TypeId) :
    ∃ w1 cnt1, (Builtin.delete_ #[t, k] ty #[.map (some b), X.enc x]).run P w = .ok (.tuple #[]) w1 ∧ RangeX X w1 b r (delF f x) (fun y => left y && !decide (y = x)) cnt1 ∧ cnt1 ≤ cnt ∧ w.mapTurned w1 b := by
  obtain ⟨D, lf, h1, h2, h3⟩ := h.ex
  obtain ⟨w1, cnt1, hrun, hrg, hle, hturn⟩ := h1.drop X.law ht (X.key x hx) ty
  refine ⟨w1, cnt1, hrun, ⟨⟨_, _, hrg, fun y hy => ?_, fun z hz => ?_⟩, fun z hz => ⟨?_, by rw [(h.out z hz).2]; rfl⟩⟩, hle, hturn⟩
  · unfold delF Mx.look
    by_cases e : y = x
    · subst e
      rw [if_pos rfl, atKey_del_same]
      rfl
    · rw [if_neg e, atKey_del_other (fun e' => e (X.inj _ _ hy hx e')), h2 y hy]
      rfl
  · show (left z && !decide (z = x)) = _
    rw [h3 z hz]
    congr 2
    by_cases e : z = x
    · subst e
      rw [decide_eq_true rfl, WideAt.sameKey_self (X.law.key (X.key z hx))]
    · rw [decide_eq_false e, sameKey_ne (fun e' => e (X.inj _ _ hz hx e'))]
  · unfold delF
    split
    · rfl
    · exact (h.out z hz).1
end
theorem nodup_lt : ∀ (l : List Nat) (N : Nat), l.Nodup → (∀ x ∈ l, x < N) → l.length ≤ N := by
  intro l N hn hl
  have h1 : l.Perm ((List.range N).filter fun x => decide (x ∈ l)) := (List.perm_ext_iff_of_nodup hn (List.nodup_range.filter _)).2 (fun x => by
    simp only [List.mem_filter, List.mem_range, decide_eq_true_eq]
    exact ⟨fun hx => ⟨hl x hx, hx⟩, fun hx => hx.2⟩)
  have h2 := h1.length_eq
  have h3 := List.length_filter_le (fun x => decide (x ∈ l)) (List.range N)
  rw [List.length_range] at h3
  omega
def intKX (P : Program) (t : TypeId) (q : IntKind) (B : Nat) (ht : P.underlying t = some (.int q)) (hB : B ≤ 1125899906842624) (hwf : ∀ a : Int, (Lit.int q a).wf = true ↔ 0 ≤ a ∧ a < (B : Int)) : KX P t Nat where
  enc x := .int q (x : Int)
  lit x := .int q (x : Int)
  dom x := x < B
  key x hx := keyOf_int_mk ht ((hwf _).2 (by omega))
  inj x y _ _ h := by injection h with _ h; omega
  sur v l h := by
    cases v <;> simp [keyOf, ht, mapKey] at h
    obtain ⟨⟨rfl, hw⟩, rfl⟩ := h
    rename_i a
    have := (hwf a).1 hw
    exact ⟨a.toNat, by omega, by rw [Int.toNat_of_nonneg this.1], by rw [Int.toNat_of_nonneg this.1]⟩
  law := int_keyed ht
  few l hn hl := Nat.le_trans (nodup_lt l B hn hl) hB
end Go.Proofs.Ytioddokjogbmnaa.Mx
