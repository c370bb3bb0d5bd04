/-
  Of the texts Fl17, Fl18, Fl19, Fl20: what the laws reach.
-/
import Derived.Test.YtfgfiiknbkakaaaFC13

set_option linter.unusedVariables false
set_option linter.unusedSimpArgs false
set_option maxRecDepth 20000
namespace Go.Proofs.Ytfgfiiknbkakaaa.Fl
open Go.ChangeShapes Go.WideShapes Go.ChangeAt Go.RowKit Go.Deep Go.Maps Go.Proofs.Ytfgfiiknbkakaaa.Words Go.Proofs.Ytfgfiiknbkakaaa.Oct Go.Proofs.Ytfgfiiknbkakaaa.Par Go.Proofs.Ytfgfiiknbkakaaa.Chk Go.Proofs.Ytfgfiiknbkakaaa.Mx
section
variable {w w' w'' V : World} {p i gf gn ga gw now n : Nat} {a : Ad} {m m' m'' : FM} {s s' : FS} {q : Pt} {x : AS}
theorem AkS.step (h : AkS w p a m gf gn ga gw now x) (hs : FlS w' p a m' s') (ht : Stp w w' p a m a m') : AkS w' p a m' gf gn ga gw now { x with s := s' } :=
  ⟨hs, ⟨(ht.blk h.bx.f h.nf).1, (ht.blk h.bx.n h.nn).1, (ht.blk h.bx.a h.na).1, (ht.blk h.bx.w h.nw).1⟩, (ht.blk h.bx.f h.nf).2, (ht.blk h.bx.n h.nn).2, (ht.blk h.bx.a h.na).2, (ht.blk h.bx.w h.nw).2⟩
theorem AkT.reads {B size : Nat} {A : Option Addr} {xs : List Value} (h : AkT w w' p a m m' gn ga) (k : Reads w B size A n xs) (hB : B ≤ w.heap.size) (h1 : B ≤ gn) (h2 : B ≤ ga) (hA : ∀ x, A = some x → ¬ FG p a m x.block) : Reads w' B size A n xs :=
  ⟨k.1, fun hn => by
    obtain ⟨ad, e, hb, hc⟩ := k.2 hn
    refine ⟨ad, e, hb, fun j u hu => (World.cell?_of_block (h.fr.block _ (by rw [block_of_add]; omega) (by
      rw [block_of_add]
      rintro (h3 | h3 | h3)
      · exact hA ad e h3
      · omega
      · omega))).trans (hc j u hu)⟩⟩
theorem AkT.blk {g : Nat} {t : TypeId} {cs : Array Value} (h : AkT w w' p a m m' gn ga) (k : Blk w g t cs) (h0 : ¬ FG p a m g) (h1 : g ≠ gn) (h2 : g ≠ ga) : Blk w' g t cs := h.fr.blk k (by
  rintro (h3 | h3 | h3)
  · exact h0 h3
  · exact h1 h3
  · exact h2 h3)
/-- boxes -/
def akA (y : Nat) (on lo : Bool) (r : Int) (bad : Bool) : Array Value := #[.int .i64 (y : Int), .bool on, .bool lo, .int .i64 r, .bool bad]
theorem Stp.ak (h : Stp w w' p a m a m') (k : AkT w' w'' p a m' m'' gn ga) (h1 : w.heap.size ≤ gn) (h2 : w.heap.size ≤ ga) : Stp w w'' p a m a m'' :=
  ⟨h.fr.trans k.fr (fun x hx e => by
    rcases e with e | e | e
    · exact (h.sub x e).elim id (fun e => by omega)
    · omega
    · omega), fun i e => (k.sub i e).elim (fun e => h.sub i e) (fun e => .inr (Nat.le_trans h.fr.size e))⟩
theorem Stp.far {a' : Ad} {g : Nat} (h : Stp w w' p a m a' m') (k : Fr (fun i => i = g) w' w'') (h1 : w.heap.size ≤ g) : Stp w w'' p a m a' m' :=
  ⟨h.fr.trans k (fun x hx e => by have e1 : x = g := e; omega), h.sub⟩
structure Off (p : Nat) (a : Ad) (m : FM) (g gn ga : Nat) : Prop where
  f : ¬ FG p a m g
  n : g ≠ gn
  a : g ≠ ga
theorem place_eq {on kk pl x j : Nat} (h1 : 1 ≤ x) (h2 : kk = x + j) (h : pl = on + kk - 1) : (on : Int) + ((x : Int) + (j : Int)) - 1 = (pl : Int) := by omega
theorem place_lt {on kk pl x y j N : Nat} (h1 : 1 ≤ x) (h2 : kk = x + j) (h4 : on + y ≤ N) (h6 : kk ≤ y) (h : pl = on + kk - 1) : pl < N := by omega
theorem ak_info : (Try.prog.info? 44).map (·.size) = some 5 := by kernel_rfl
theorem ak_one (y : Nat) (on lo : Bool) (r : Int) (bad : Bool) : (akA y on lo r bad).all (·.oneCell') = true := by simp [akA, Value.oneCell']
theorem built_bad : Try.prog.built 44 [(3, .int .i64 (-1)), (4, .bool true)] = some (akA 0 false false (-1) true) := by kernel_rfl
theorem built_a : Try.prog.built 44 [(3, .int .i64 (-1))] = some (akA 0 false false (-1) false) := by kernel_rfl
theorem setRow_blkT {w : World} {g : Nat} {t : TypeId} {cs cs' : Array Value} (h : Blk w g t cs) : Blk (w.setRow g cs') g t cs' := setRow_heap w g cs cs' _ (0, 0) h
structure Box4 (w W : World) (t1 t2 t3 t4 : TypeId) (c1 c2 c3 c4 : Array Value) : Prop where
  bel : Below w.heap.size w W
  b1 : Blk W w.heap.size t1 c1
  b2 : Blk W (w.heap.size + 1) t2 c2
  b3 : Blk W (w.heap.size + 1 + 1) t3 c3
  b4 : Blk W (w.heap.size + 1 + 1 + 1) t4 c4
theorem blk_newAt (w : World) (g : Nat) (hg : g = w.heap.size) (t : TypeId) (cs : Array Value) : Blk (w.alloc (.cells cs t)) g t cs := by subst hg; exact Blk.new w t cs
theorem box4 (w : World) (t1 t2 t3 t4 : TypeId) (c1 c2 c3 c4 : Array Value) : Box4 w ((((w.alloc (.cells c1 t1)).alloc (.cells c2 t2)).alloc (.cells c3 t3)).alloc (.cells c4 t4)) t1 t2 t3 t4 c1 c2 c3 c4 := by
  refine ⟨((((Below.refl _ w).alloc (Nat.le_refl _) _).alloc (by simp) _).alloc (by simp; omega) _).alloc (by simp; omega) _, (((Blk.new w t1 c1).alloc _).alloc _).alloc _, ?_, ?_, ?_⟩
  · exact ((blk_newAt _ _ (by simp) t2 c2).alloc _).alloc _
  · exact (blk_newAt _ _ (by simp) t3 c3).alloc _
  · exact blk_newAt _ _ (by simp) t4 c4
def AckDone (w : World) (p : Nat) (a : Ad) (m : FM) (s : FS) (c : Ck) (now : Nat) (e : Ending) (w' : World) : Prop := ∃ (a' : Ad) (m' : FM), e = .returned (akV (ackF now s c).2) ∧ FlS w' p a' m' (ackF now s c).1 ∧ MiOk (ackF now s c).1 ∧ Stp w w' p a m a' m'
set_option maxHeartbeats 8000000 in
theorem ack_s (h : FlS w p a m s) (hmi : MiOk s) {cs : Array Value} {c : Ck} (hnow : now < 4294967296) (hc : CkAt w w.heap.size cs c) (hng : ∀ (ad : Addr) (n cp : Nat), cs[14]? = some (.slice (some ad) n cp) → ¬ FG p a m ad.block) :
    Calls Try.prog 12 #[fptr p, .agg cs, .int .u32 (now : Int)] w (AckDone w p a m s c now) := by
  have ok := hc.ok
  obtain ⟨Hg, Hd', Hs, Hp, Hb, hcells, hlists⟩ := hc.parts
  have HE5 : Hid (cs[5]? = some (.int .u32 (c.tsn : Int))) := hcells.c5
  have HE14 : Hid (cs[14]? = some (.slice Hg.A c.gaps.length Hg.cap)) := hcells.c14
  have HAD : Hid (∀ x, Hg.A = some x → ¬ FG p a m x.block) := fun x e => hng x c.gaps.length Hg.cap (by rw [← e]; exact hcells.c14)
  have HRD := Lib.hid hlists.gaps
  have HCK := Lib.hid hc
  have H := Lib.hid h
  have HMI := Lib.hid hmi
  have HOK := Lib.hid ok
  have hnb : c.gaps.length ≤ Hg.cap ∧ Hg.cap ≤ 9223372036854775807 := hlists.okg
  -- the boxes
  obtain ⟨W4, hW4⟩ : ∃ W4, W4 = ((((w.alloc (.cells #[fptr p] 26)).alloc (.cells cs 35)).alloc (.cells #[.int .u32 (now : Int)] 22)).alloc (.cells #[.int .i64 0, .bool false, .bool false, .int .i64 0, .bool false] 44)) := ⟨_, rfl⟩
  clear h hmi hc hng ok hcells hlists
  go_enter Try.func12, Try.ntmps12
  go_upto_region 1 with (fail)
  rw [show (#[Value.int .i64 0, .bool false, .bool false, .int .i64 0, .bool false] : Array Value) = akA 0 false false 0 false from rfl]
  have hbox := box4 w 26 35 22 44 #[fptr p] cs #[.int .u32 (now : Int)] (akA 0 false false 0 false)
  obtain ⟨W1, hW1⟩ : ∃ W1, W1 = ((((w.alloc (.cells #[fptr p] 26)).alloc (.cells cs 35)).alloc (.cells #[.int .u32 (now : Int)] 22)).alloc (.cells (akA 0 false false 0 false) 44)) := ⟨_, rfl⟩
  rw [← hW1] at hbox ⊢
  clear hW1 hW4 W4
  obtain ⟨b0, hb0⟩ : ∃ b0, b0 = w.heap.size := ⟨_, rfl⟩
  obtain ⟨hbel, k1, k2, k3, k4⟩ := hbox
  rw [← hb0] at k1 k2 k3 k4 hbel ⊢
  obtain ⟨g4, hg4⟩ : ∃ g, g = b0 + 1 := ⟨_, rfl⟩
  rw [← hg4] at k2 k3 k4 ⊢
  obtain ⟨g5, hg5⟩ : ∃ g, g = g4 + 1 := ⟨_, rfl⟩
  rw [← hg5] at k3 k4 ⊢
  obtain ⟨g6, hg6⟩ : ∃ g, g = g5 + 1 := ⟨_, rfl⟩
  rw [← hg6] at k4 ⊢
  have hle1 : g6 < W1.heap.size := k4.lt
  have HB1 : Hid (Below w.heap.size w W1) := by rw [← hb0]; exact hbel
  have HS1 := Lib.hid (H.out.below HB1.out)
  have HC1 : Hid (CkAt W1 W1.heap.size cs c) := (HCK.out.below HB1.out).more HB1.out.size
  have HK3 := Lib.hid k1
  have HK4 := Lib.hid k2
  have HK5 := Lib.hid k3
  have HK6 := Lib.hid k4
  have HCI : Hid ((Try.prog.info? 35).map (·.size) = some cs.size) := by rw [HCK.out.size]; exact chunk_info
  have f3 : W1.cell? ⟨b0, 0, none⟩ = some (fptr p) := k1.cell 0
  have HG0 := Lib.hid hb0
  have HGS : Hid (b0 < g4 ∧ g4 < g5 ∧ g5 < g6) := by show _ ∧ _ ∧ _; omega
  clear hb0 hg4 hg5 hg6 hbel k1 k2 k3 k4
  go_wp2_with (first | refine wpList_load_row rfl 35 _ rfl g4 rfl 35 cs (0, 0) _ HK4.out Try.underlying35 rfl HCI.out ?_)
  refine (sound_s HS1.out HC1.out).mono ?_
  rintro e W2 ⟨rfl, hb2⟩
  have HS2 := Lib.hid (HS1.out.below hb2)
  have HB2 : Hid (Below w.heap.size w W2) := HB1.out.trans (hb2.mono HB1.out.size)
  have HL3 := Lib.hid (blk_below HK3.out hb2)
  have HL4 := Lib.hid (blk_below HK4.out hb2)
  have HL5 := Lib.hid (blk_below HK5.out hb2)
  have HL6 := Lib.hid (blk_below HK6.out hb2)
  have hle2 : g6 < W2.heap.size := Nat.lt_of_lt_of_le hle1 hb2.size
  clear hb2 HK3 HK4 HK5 HK6 HS1 HC1 HB1 f3 hle1
  by_cases hsd : sound s c = true
  · rw [hsd]
    have HSD := Lib.hid hsd
    obtain ⟨hon, hgaps⟩ := sound_far (H.out.inv.mark) HOK.out.tsn (H.out.inv.lt) hsd
    have HGA := Lib.hid hgaps
    clear hsd hgaps
    go_upto_region 4 with (first
      | refine wpList_build_as rfl 44 _ rfl (akA 0 false false (-1) false) built_a ?_
      | refine wpList_store_row rfl 44 _ _ rfl W2.heap.size (akA 0 false false (-1) false) rfl rfl 44 _ (Blk.new W2 _ _) ak_info rfl (ak_one _ _ _ _ _) ?_)
    rw [show (#[Value.int .i64 0, .bool false, .bool false, .int .i64 0, .bool false] : Array Value) = akA 0 false false 0 false from rfl]
    obtain ⟨ga, hga⟩ : ∃ g, g = W2.heap.size := ⟨_, rfl⟩
    rw [← hga]
    have hba : Below W2.heap.size W2 ((W2.alloc (.cells (akA 0 false false 0 false) 44)).setRow ga (akA 0 false false (-1) false)) := below_setRow (below_one W2 _) (by omega) _
    have hka : Blk ((W2.alloc (.cells (akA 0 false false 0 false) 44)).setRow ga (akA 0 false false (-1) false)) ga 44 (akA 0 false false (-1) false) := setRow_blkT (blk_newAt W2 ga hga _ (akA 0 false false 0 false))
    obtain ⟨W3, hW3⟩ : ∃ W3, W3 = (W2.alloc (.cells (akA 0 false false 0 false) 44)).setRow ga (akA 0 false false (-1) false) := ⟨_, rfl⟩
    rw [← hW3] at hba hka ⊢
    clear hW3
    go_upto_region 6 with (fail)
    obtain ⟨gn, hgn⟩ : ∃ g, g = W3.heap.size := ⟨_, rfl⟩
    rw [← hgn]
    have hbn := below_one W3 (.cells #[.int .i64 0] 3)
    have hkn := blk_newAt W3 gn hgn 3 #[.int .i64 0]
    have hka' := hka.alloc (.cells #[.int .i64 0] 3)
    obtain ⟨W5, hW5⟩ : ∃ W5, W5 = W3.alloc (.cells #[.int .i64 0] 3) := ⟨_, rfl⟩
    rw [← hW5] at hbn hkn hka' ⊢
    have hb5 : Below W2.heap.size W2 W5 := hba.trans (hbn.mono hba.size)
    have HS5 := Lib.hid (HS2.out.below hb5)
    have HB5 : Hid (Below w.heap.size w W5) := HB2.out.trans (hb5.mono HB2.out.size)
    have HL3' := Lib.hid (blk_below HL3.out hb5)
    have HL4' := Lib.hid (blk_below HL4.out hb5)
    have HL5' := Lib.hid (blk_below HL5.out hb5)
    have HL6' := Lib.hid (blk_below HL6.out hb5)
    have hags : ga < W3.heap.size := hka.lt
    have HGS2 : Hid (g6 < ga ∧ ga < gn) := by show _ ∧ _; omega
    have HLA := Lib.hid hka'
    have HLN := Lib.hid hkn
    have HGAE := Lib.hid hga
    clear hW5 hgn hga hba hka hbn hkn hka' hb5 HS2 HB2 HL3 HL4 HL5 HL6 hle2 hags
    have f3 : W5.cell? ⟨b0, 0, none⟩ = some (fptr p) := HL3'.out.cell 0
    have f0 : W5.cell? ⟨p, 0, none⟩ = some (.int .u32 (s.mark : Int)) := by have := HS5.out.mem.blk.cell 0; rw [HS5.out.inv.mk_] at this; exact this
    have f5 : W5.cell? ⟨g4, 5, none⟩ = some (.int .u32 (c.tsn : Int)) := (HL4'.out.cell 5).trans HE5.out
    obtain ⟨mk, hmk⟩ : ∃ x, x = s.mark := ⟨_, rfl⟩
    obtain ⟨tsn, htsn⟩ : ∃ x, x = c.tsn := ⟨_, rfl⟩
    have hmb : mk < 4294967296 := by rw [hmk]; exact H.out.inv.mark
    have htb : tsn < 4294967296 := by rw [htsn]; exact HOK.out.tsn
    rw [← hmk] at f0
    rw [← htsn] at f5
    rw [← hmk, ← htsn] at hon
    have hdist := fun V => Ser.dist_any (mk : Int) (tsn : Int) V
    obtain ⟨on, hone⟩ : ∃ x, x = distN mk tsn := ⟨_, rfl⟩
    rw [dist_nat hmb htb, ← hone] at hdist
    rw [← hone] at hon
    have HON : Hid (on = distN s.mark c.tsn) := by rw [← hmk, ← htsn]; exact hone
    have hlt := H.out.inv.lt
    have hwo : IntKind.i64.wrap (on : Int) = (on : Int) := IntWalk.i64_in _ ⟨by omega, by omega⟩
    obtain ⟨N, hN⟩ : ∃ x, x = s.ps.length := ⟨_, rfl⟩
    rw [← hN] at hon hlt
    have HN := Lib.hid hN
    clear hmk htsn hmb htb hone hN
    go_quiet ((go_at_call 35; exact quiet_left (hdist _)))
    obtain ⟨W6, hW6⟩ : ∃ W6, W6 = W5.drewN nq := ⟨_, rfl⟩
    have hb6 : Below W5.heap.size W5 W6 := by rw [hW6]; exact below_drewN (Below.refl _ _) nq
    rw [← hW6]
    have hno : ∀ k, b0 ≤ k → ¬ FG p a m k := fun k e hx => by
      have h1 := H.out.mem.lt hx
      have h2 := HG0.out
      omega
    obtain ⟨x0, hx0⟩ : ∃ x0 : AS, x0 = ⟨s, 0, 0, -1⟩ := ⟨_, rfl⟩
    have HX0 := Lib.hid hx0
    have hord := HGS.out
    have hord2 := HGS2.out
    have HA6 : Hid (AkS W6 p a m b0 gn ga g5 now x0) := by
      rw [hx0]
      exact ⟨HS5.out.below hb6, ⟨blk_below HL3'.out hb6, blk_below HLN.out hb6, blk_below HLA.out hb6, blk_below HL5'.out hb6⟩, hno _ (Nat.le_refl _), hno _ (by omega), hno _ (by omega), hno _ (by omega)⟩
    have HBY6 : Hid (ByOk x0) := by rw [hx0]; exact Nat.zero_le _
    have HB6 : Hid (Below w.heap.size w W6) := HB5.out.trans (hb6.mono HB5.out.size)
    have HL4 := Lib.hid (blk_below HL4'.out hb6)
    have HL6 := Lib.hid (blk_below HL6'.out hb6)
    have HN4 : Hid (Off p a m g4 gn ga) := ⟨hno _ (by omega), by omega, by omega⟩
    have HN6 : Hid (Off p a m g6 gn ga) := ⟨hno _ (by omega), by omega, by omega⟩
    have HRD6 : Hid (Reads W6 w.heap.size 2 Hg.A c.gaps.length (gapC c.gaps)) := HRD.out.below HB6.out
    have HBS : Hid (w.heap.size ≤ gn ∧ w.heap.size ≤ ga ∧ w.heap.size ≤ W6.heap.size) := by have h1 := HG0.out; have h2 := HB6.out.size; show _ ∧ _ ∧ _; omega
    have HLX : Hid (x0.s.ps.length = N) := by rw [hx0]; exact HN.out.symm
    have HMX : Hid (MiOk x0.s) := by rw [hx0]; exact HMI.out
    clear hW6 hb6 hno hx0 hord hord2 f3 f0 f5 hdist HS5 HB5 HL3' HL4' HL5' HL6' HLA HLN HCK HCI
    rw [← HGAE.out]
    go_upto_region 8 with (fail)
    have HT6 : Hid (AkT W6 W6 p a m m gn ga) := AkT.refl _ _ _ _ _ _
    obtain ⟨F, hF⟩ : ∃ F : Nat → AS, ∀ i, F i = (List.range i).foldl (arriveF now) x0 := ⟨_, fun _ => rfl⟩
    have HF := Lib.hid hF
    have HF1 : Hid (∀ i, F (i + 1) = arriveF now (F i) i) := fun i => by rw [hF, fold_id, ← hF]
    have HFO : Hid (∀ i, ArOk x0 (F i)) := fun i => by rw [hF]; exact fold_ok _ _ _
    have HA6 : Hid (AkS W6 p a m b0 gn ga g5 now (F 0)) := by rw [hF]; exact HA6.out
    have HBY6 : Hid (ByOk (F 0)) := by rw [hF]; exact HBY6.out
    clear hF
    obtain ⟨wo, hwo⟩ : ∃ wo : World, wo = W6 := ⟨_, rfl⟩
    clear hwo
    go_loopw [31] (fun v31 wr => ∃ (i : Nat) (m1 : FM), v31 = .int .i64 (i : Int) ∧ i ≤ on ∧ Hid (AkS wr p a m1 b0 gn ga g5 now (F i)) ∧ Hid (ByOk (F i)) ∧ Hid (AkT W6 wr p a m m1 gn ga)) (fun v31 _ => on - (intOf v31).toNat)
    case atStart => exact ⟨0, m, rfl, by omega, HA6, HBY6, HT6⟩
    case round =>
      clear HA6 HBY6 HT6
      obtain ⟨i, m1, rfl, hi, HA, HBY, HT⟩ := hrel
      by_cases hlt2 : i < on
      · have hi2 : (i : Int) < (on : Int) := by omega
        have har := arrive_s HA.out HBY.out (i := i) (by rw [(HFO.out i).len, HLX.out]; omega)
        go_wp2_with fail
        refine har.mono ?_
        rintro e W7 ⟨rfl, m7, H7, B7, T7⟩
        have HA7 : Hid (AkS W7 p a m7 b0 gn ga g5 now (F (i + 1))) := by rw [HF1.out]; exact H7
        have HBY7 : Hid (ByOk (F (i + 1))) := by rw [HF1.out]; exact B7
        have HT7 : Hid (AkT W6 W7 p a m m7 gn ga) := HT.out.trans T7
        clear har H7 B7 T7
        go_wp2_with fail
        go_roundw
        case rel => exact ⟨i + 1, m7, by go_num, by omega, HA7, HBY7, HT7⟩
        case measure => simp [intOf]; omega
      · have hin : on = i := by omega
        subst hin
        have hlt3 : ¬ (on : Int) < (on : Int) := by omega
        have h4 : Blk wr g4 35 cs := HT.out.blk HL4.out HN4.out.f HN4.out.n HN4.out.a
        have f14 : wr.cell? ⟨g4, 14, none⟩ = some (.slice Hg.A c.gaps.length Hg.cap) := (h4.cell 14).trans HE14.out
        obtain ⟨gs, hgs⟩ : ∃ gs, gs = c.gaps := ⟨_, rfl⟩
        have HGE := Lib.hid hgs
        obtain ⟨n, hn⟩ : ∃ n, n = gs.length := ⟨_, rfl⟩
        have HNE := Lib.hid hn
        rw [← hgs, ← hn] at f14 hnb
        have HRD7 : Hid (Reads W6 w.heap.size 2 Hg.A n (gapC gs)) := by rw [hn, hgs]; exact HRD6.out
        obtain ⟨E, hE⟩ : ∃ E : Nat → AS, ∀ k, E k = (gs.take k).foldl (fun y g => (gapPl on g).foldl (arriveF now) y) (F on) := ⟨_, fun _ => rfl⟩
        have HE0 := Lib.hid hE
        have HE1 : Hid (∀ (k : Nat) g, gs[k]? = some g → E (k + 1) = (gapPl on g).foldl (arriveF now) (E k)) := fun k g hg => by
          rw [hE, hE, List.take_add_one, hg, Option.toList, List.foldl_append]; rfl
        have HEO : Hid (∀ k, k ≤ n → ArOk (F on) (E k)) := fun k => by
          induction k with
          | zero => intro _; rw [hE]; exact ArOk.refl _
          | succ k ih =>
            intro hk
            rw [HE1.out k _ (List.getElem?_eq_getElem (by omega))]
            exact (ih (by omega)).trans (fold_ok _ _ _)
        have HA7 : Hid (AkS wr p a m1 b0 gn ga g5 now (E 0)) := by rw [hE]; exact HA.out
        have HBY7 : Hid (ByOk (E 0)) := by rw [hE]; exact HBY.out
        clear hE hgs hn h4 HA HBY
        go_upto_region 13 with (fail)
        have HT7 := HT
        clear f14 HT
        go_loopw [41] (fun v41 wr => ∃ (k : Nat) (m2 : FM), v41 = .int .i64 (k : Int) ∧ k ≤ n ∧ Hid (AkS wr p a m2 b0 gn ga g5 now (E k)) ∧ Hid (ByOk (E k)) ∧ Hid (AkT W6 wr p a m m2 gn ga)) (fun v41 _ => n - (intOf v41).toNat)
        case atStart => exact ⟨0, m1, rfl, by omega, HA7, HBY7, HT7⟩
        case round =>
          clear HA7 HBY7 HT7
          obtain ⟨k, m2, rfl, hk, HA8, HBY8, HT8⟩ := hrel
          by_cases hlt4 : k < n
          · obtain ⟨ad, g, hA, hab, hg, ga1, gb1⟩ := gap_cells (HT8.out.reads HRD7.out HBS.out.2.2 HBS.out.1 HBS.out.2.1 HAD.out) HNE.out hlt4
            rw [hA]
            have hgb := HGA.out g (by rw [← HGE.out]; exact List.mem_of_getElem? hg)
            have HE2 := Lib.hid (HE1.out k g hg)
            obtain ⟨x, y⟩ := g
            have hx1 : 1 ≤ x := hgb.1
            have hxy : x ≤ y := hgb.2.1
            have hyn : on + y ≤ N := by rw [HN.out, HON.out]; exact hgb.2.2
            have hk2 : (k : Int) < (n : Int) := by omega
            have ga2 : wr.cell? (ad.add (k * 2)) = some (.int .u16 (x : Int)) := ga1
            have gb2 : wr.cell? ⟨(ad.add (k * 2)).block, (ad.add (k * 2)).off + 1, none⟩ = some (.int .u16 (y : Int)) := gb1
            have hbv := below_one wr (.cells #[.int .u16 (x : Int), .int .u16 (y : Int)] 42)
            obtain ⟨W9, hW9⟩ : ∃ W9, W9 = wr.alloc (.cells #[.int .u16 (x : Int), .int .u16 (y : Int)] 42) := ⟨_, rfl⟩
            obtain ⟨g13, hg13⟩ : ∃ g13, g13 = wr.heap.size := ⟨_, rfl⟩
            have hkv := blk_newAt wr g13 hg13 42 #[.int .u16 (x : Int), .int .u16 (y : Int)]
            clear hA hab hg ga1 gb1 hgb
            go_upto_region 15 with (fail)
            rw [← hW9, ← hg13]
            rw [← hW9] at hbv hkv
            have k0 : W9.cell? ⟨g13, 0, none⟩ = some (.int .u16 (x : Int)) := hkv.cell 0
            have HA9 := Lib.hid (HA8.out.drew hbv)
            have HT9 := Lib.hid (HT8.out.grows hbv)
            have HK9 := Lib.hid hkv
            have HN13 : Hid (Off p a m2 g13 gn ga) := by
              have h1 := HA8.out.bx.n.lt
              have h2 := HA8.out.bx.a.lt
              refine ⟨fun e => ?_, by omega, by omega⟩
              have h3 := HA8.out.fl.mem.lt e
              omega
            have w1 : IntKind.i64.wrap (x : Int) = (x : Int) := IntWalk.i64_in _ ⟨by omega, by omega⟩
            have w2 : IntKind.i64.wrap (y : Int) = (y : Int) := IntWalk.i64_in _ ⟨by omega, by omega⟩
            clear hW9 hg13 hbv hkv ga2 gb2 HT8 HA8
            go_upto_region 16 with (fail)
            obtain ⟨P, hP⟩ : ∃ P : Nat → Nat, ∀ j, P j = on + (x + j) - 1 := ⟨_, fun _ => rfl⟩
            obtain ⟨G, hG⟩ : ∃ G : Nat → AS, ∀ j, G j = ((List.range j).map P).foldl (arriveF now) (E k) := ⟨_, fun _ => rfl⟩
            have HP := Lib.hid hP
            have HG1 : Hid (∀ j, G (j + 1) = arriveF now (G j) (P j)) := fun j => by rw [hG, fold_step, ← hG]
            have HGO : Hid (∀ j, ArOk (E k) (G j)) := fun j => by rw [hG]; exact fold_ok _ _ _
            have HGE2 : Hid (G (y + 1 - x) = E (k + 1)) := by
              rw [hG, HE2.out, show P = fun j => on + (x + j) - 1 from funext hP]
              simp only [gapPl]
              exact Lib.hid trivial
            have HA10 : Hid (AkS W9 p a m2 b0 gn ga g5 now (G 0)) := by rw [hG]; exact HA9.out
            have HBY10 : Hid (ByOk (G 0)) := by rw [hG]; exact HBY8.out
            have HT10 : Hid (AkT W9 W9 p a m2 m2 gn ga) := AkT.refl _ _ _ _ _ _
            clear hP hG k0 w1
            obtain ⟨Y, hY⟩ : ∃ Y, Y = y + 1 := ⟨_, rfl⟩
            have hxY : x ≤ Y := by omega
            go_loopw [14] (fun v14 wr => ∃ (kk j : Nat) (m3 : FM), v14 = .int .i64 (kk : Int) ∧ kk = x + j ∧ kk ≤ Y ∧ Hid (AkS wr p a m3 b0 gn ga g5 now (G j)) ∧ Hid (ByOk (G j)) ∧ Hid (AkT W9 wr p a m2 m3 gn ga)) (fun v14 _ => Y - (intOf v14).toNat)
            case atStart => exact ⟨x, 0, m2, rfl, (Nat.add_zero x).symm, hxY, HA10, HBY10, HT10⟩
            case round =>
              clear HA10 HBY10 HT10 HA9 HBY8
              obtain ⟨kk, j, m3, rfl, hkk, hky, HA11, HBY11, HT11⟩ := hrel
              have hk13 : Blk wr g13 42 #[.int .u16 (x : Int), .int .u16 (y : Int)] := HT11.out.blk HK9.out HN13.out.f HN13.out.n HN13.out.a
              have k1 : wr.cell? ⟨g13, 1, none⟩ = some (.int .u16 (y : Int)) := hk13.cell 1
              clear hk13
              by_cases hlt5 : kk ≤ y
              · have hkz : (kk : Int) ≤ (y : Int) := by omega
                have hpl : P j = on + kk - 1 := by rw [HP.out, hkk]
                obtain ⟨pl, hple⟩ : ∃ pl, pl = P j := ⟨_, rfl⟩
                rw [← hple] at hpl
                have HPL := Lib.hid hple
                have HEQ : Hid ((on : Int) + ((x : Int) + (j : Int)) - 1 = (pl : Int)) := place_eq hx1 hkk hpl
                have hpn : pl < N := place_lt hx1 hkk hyn hlt5 hpl
                clear hpl
                have har := arrive_s HA11.out HBY11.out (i := pl) (by rw [(HGO.out j).len, (HEO.out k hk).len, (HFO.out on).len, HLX.out]; exact hpn)
                clear hple
                go_wp2_with fail
                rw [HEQ.out]
                refine har.mono ?_
                rintro e W12 ⟨rfl, m4, H12, B12, T12⟩
                have HA12 : Hid (AkS W12 p a m4 b0 gn ga g5 now (G (j + 1))) := by rw [HG1.out, ← HPL.out]; exact H12
                have HBY12 : Hid (ByOk (G (j + 1))) := by rw [HG1.out, ← HPL.out]; exact B12
                have HT12 : Hid (AkT W9 W12 p a m2 m4 gn ga) := HT11.out.trans T12
                clear har H12 B12 T12
                go_wp2_with fail
                go_roundw
                case rel => exact ⟨kk + 1, j + 1, m4, by go_num, by rw [hkk, Nat.add_assoc], by rw [hY]; exact Nat.succ_le_succ hlt5, HA12, HBY12, HT12⟩
                case measure => simp [intOf]; omega
              · have hkz : ¬ (kk : Int) ≤ (y : Int) := by omega
                have hj : j = y + 1 - x := by omega
                have HA12 : Hid (AkS wr p a m3 b0 gn ga g5 now (E (k + 1))) := by rw [← HGE2.out, ← hj]; exact HA11.out
                have HBY12 : Hid (ByOk (E (k + 1))) := by rw [← HGE2.out, ← hj]; exact HBY11.out
                have HT12 : Hid (AkT W6 wr p a m m3 gn ga) := HT9.out.trans HT11.out
                clear hj HA11 HBY11 HT11
                go_wp2_with fail
                go_roundw
                case rel => exact ⟨k + 1, m3, by go_num, by omega, HA12, HBY12, HT12⟩
                case measure => simp [intOf]; omega
          · have hin : n = k := by omega
            subst hin
            have hlt5 : ¬ (n : Int) < (n : Int) := by omega
            have HACK : Hid (ackF now s c = (((E n).s.miss (E n).newest).forget on, ⟨(E n).bytes, decide (0 < on), ((E n).s.ps.take (E n).newest).any lostP, (E n).rtt, false⟩)) := by
              have e : ackA now s c = E n := by
                unfold ackA hits
                rw [← HON.out, List.foldl_append, fold_gaps, ← HGE.out, HE0.out, HNE.out, List.take_length, HF.out, HX0.out]
              show _ = _
              unfold ackF
              rw [if_pos HSD.out]
              simp only [e, ← HON.out]
            have hEO := (HFO.out on).trans (HEO.out n (Nat.le_refl n))
            have hmi : MiOk (E n).s := hEO.mi HMX.out
            have hnw : (E n).newest ≤ (E n).s.ps.length := by rw [hEO.len]; exact hEO.nw (by rw [HX0.out]; exact Nat.zero_le _)
            have HD2 : Hid (∀ (i : Nat) q, i < on → ((E n).s.miss (E n).newest).ps[i]? = some q → q.st = 2) := fun i q hi hq => by
              obtain ⟨q1, h1, h2⟩ := fold_hit now (List.range on) x0 (fun j hj => by have := List.mem_range.1 hj; rw [HLX.out]; omega) i (List.mem_range.2 hi)
              rw [← HF.out] at h1
              obtain ⟨q2, h3, h4⟩ := (HEO.out n (Nat.le_refl n)).two i q1 h1 h2
              obtain ⟨q3, h5, h6⟩ := miss_two (n := (E n).newest) h3 h4
              rw [hq] at h5
              injection h5 with h5
              rw [h5]; exact h6
            have HLE2 : Hid (on ≤ ((E n).s.miss (E n).newest).ps.length) := by
              show _ ≤ _
              rw [miss_len, hEO.len, HLX.out]; exact hon
            have HMI2 : Hid (MiOk (((E n).s.miss (E n).newest).forget on)) := forget_mi (miss_mi hmi _) _
            have hms := miss_s HA8.out.fl hmi hnw
            have hm3 : wr.cell? ⟨b0, 0, none⟩ = some (fptr p) := HA8.out.bx.f.cell 0
            have hm8 : wr.cell? ⟨gn, 0, none⟩ = some (.int .i64 ((E n).newest : Int)) := HA8.out.bx.n.cell 0
            obtain ⟨nw, hnwe⟩ : ∃ nw, nw = (E n).newest := ⟨_, rfl⟩
            rw [← hnwe] at hms hm8 HD2 HLE2 HMI2 HACK
            have hob : decide ((0 : Int) < (on : Int)) = decide (0 < on) := by rw [Bool.eq_iff_iff]; simp
            obtain ⟨ob, hobe⟩ : ∃ ob, ob = decide (0 < on) := ⟨_, rfl⟩
            rw [← hobe] at hob HACK
            obtain ⟨lb, hlb⟩ : ∃ lb, lb = ((E n).s.ps.take nw).any lostP := ⟨_, rfl⟩
            rw [← hlb] at HACK
            have HOBE := Lib.hid hobe
            clear hEO hmi hnw hnwe hobe hob
            go_upto_region 20 with (fail)
            go_wp2_with fail
            refine hms.mono ?_
            rintro e W13 ⟨m3, rfl, hS13, hT13, _⟩
            rw [← hlb]
            have hA13 := HA8.out.step hS13 hT13
            have HT13 : Hid (Stp w W13 p a m a m3) := (((Stp.refl w p a m).grows HB6.out).ak HT8.out HBS.out.1 HBS.out.2.1).trans hT13
            have HA13 := Lib.hid hA13
            have hbk : Blk W13 ga 44 (akA (E n).bytes false false (E n).rtt false) := hA13.bx.a
            have z1 := hbk.frozen 1
            have z2 := hbk.frozen 2
            have y1 : W13.cell? ⟨ga, 1, none⟩ = some (.bool false) := hbk.cell 1
            have y2 : W13.cell? ⟨ga, 2, none⟩ = some (.bool false) := hbk.cell 2
            have HBK := Lib.hid hbk
            have hT13k := Lib.hid hT13
            clear hms hS13 hT13 hA13 hlb hm3 hm8 hbk
            go_upto_region 21 with (fail)
            rw [← HOBE.out]
            obtain ⟨W14, hW14⟩ : ∃ W14, W14 = (W13.setCell ⟨ga, 1, none⟩ (.bool ob)).setCell ⟨ga, 2, none⟩ (.bool lb) := ⟨_, rfl⟩
            have hbk : Blk W14 ga 44 (akA (E n).bytes ob lb (E n).rtt false) := by rw [hW14]; exact (HBK.out.set_ 1 _).set_ 2 _
            have hfr : Fr (fun k => k = ga) W13 W14 := by rw [hW14]; exact (fr_set _).same (fr_set _)
            rw [← hW14]
            have HBK14 := Lib.hid hbk
            have HS14 : Hid (FlS W14 p a m3 ((E n).s.miss nw)) := ⟨HA13.out.fl.mem.fr hfr (fun k e _ hx => HA13.out.na (by rw [← show k = ga from e]; exact hx)), HA13.out.fl.inv⟩
            have HT14 : Hid (Stp w W14 p a m a m3) := HT13.out.far hfr HBS.out.2.1
            have hag : ga ≠ b0 := by have h1 := HGS.out; have h2 := HGS2.out; omega
            have hm3 : W14.cell? ⟨b0, 0, none⟩ = some (fptr p) := (hfr.blk HA13.out.bx.f (fun e => hag e.symm)).cell 0
            have HN6' : Hid (¬ FG p a m3 ga) := HA13.out.na
            have HL6W : Hid (Blk W14 g6 44 (akA 0 false false 0 false) ∧ ¬ FG p a m3 g6) := by
              have h1 := HT8.out.blk HL6.out HN6.out.f HN6.out.n HN6.out.a
              have h2 : ¬ FG p a m2 g6 := fun e => (HT8.out.sub g6 e).elim HN6.out.f (fun e => by have h3 := HL6.out.lt; omega)
              have h4 := hT13k.out.blk h1 h2
              exact ⟨hfr.blk h4.1 HN6.out.a, h4.2⟩
            have hfg := forget_s HS14.out HLE2.out HD2.out
            clear hW14 hbk hfr z1 z2 y1 y2 hag
            go_wp2_with fail
            refine hfg.mono ?_
            rintro e W15 ⟨a5, m5, rfl, hS15, hT15⟩
            have HS15 := Lib.hid hS15
            have HT15 : Hid (Stp w W15 p a m a5 m5) := HT14.out.trans hT15
            have HGA15 := Lib.hid (hT15.blk HBK14.out HN6'.out)
            have HG615 := Lib.hid (hT15.blk HL6W.out.1 HL6W.out.2)
            clear hfg hS15 hT15 hm3
            go_wp2_with (first
              | refine wpList_load_row rfl 44 _ rfl ga rfl 44 (akA (E n).bytes ob lb (E n).rtt false) (0, 0) _ HGA15.out.1 Try.underlying44 rfl ak_info ?_
              | refine wpList_store_row rfl 44 _ _ rfl g6 (akA (E n).bytes ob lb (E n).rtt false) rfl rfl 44 _ HG615.out.1 ak_info rfl (ak_one _ _ _ _ _) ?_)
            (try simp only [Exit.inBlock, Exit.then])
            refine bodyPost_ret (results_cell_row rfl _ _ g6 44 (akA (E n).bytes ob lb (E n).rtt false) (0, 0) _ rfl (setRow_blkT HG615.out.1) Try.underlying44 rfl ak_info) rfl ?_
            have hf := setRow_fr W15 g6 (akA (E n).bytes ob lb (E n).rtt false)
            refine ⟨a5, m5, ?_, ?_, ?_, HT15.out.far hf (by have h2 := HG0.out; have h3 := HGS.out; omega)⟩
            · rw [HACK.out]; rfl
            · rw [HACK.out]
              exact ⟨HS15.out.mem.fr hf (fun k e _ hx => HG615.out.2 (by rw [← show k = g6 from e]; exact hx)), HS15.out.inv⟩
            · rw [HACK.out]; exact HMI2.out
  · have hsd2 : sound s c = false := by simpa using hsd
    rw [hsd2]
    have HE : Hid (ackF now s c = (s, badAk)) := by show _ = _; unfold ackF; rw [if_neg hsd]
    go_wp2_with (first
      | refine wpList_build_as rfl 44 _ rfl (akA 0 false false (-1) true) built_bad ?_
      | refine wpList_store_row rfl 44 _ _ rfl g6 (akA 0 false false (-1) true) rfl rfl 44 _ HL6.out ak_info rfl (ak_one _ _ _ _ _) ?_)
    (try simp only [Exit.inBlock, Exit.then])
    refine bodyPost_ret (results_cell_row rfl _ _ g6 44 (akA 0 false false (-1) true) (0, 0) _ rfl (setRow_blkT HL6.out) Try.underlying44 rfl ak_info) rfl ?_
    have hng : ∀ k, k = g6 → ¬ FG p a m k := fun k e hx => by
      have h1 := H.out.mem.lt hx
      have h2 := HG0.out
      have h3 := HGS.out
      omega
    have hf := setRow_fr W2 g6 (akA 0 false false (-1) true)
    refine ⟨a, m, ?_, ?_, ?_, ⟨((Fr.of_below HB2.out).trans hf (fun k h1 e => by
      have h2 := HG0.out
      have h3 := HGS.out
      have h4 : k = g6 := e
      omega)).mono (fun k h1 h2 => absurd h1 (by have h3 : w.heap.size ≤ k := h2; omega)), fun i e => .inl e⟩⟩
    · rw [HE.out]; rfl
    · rw [HE.out]
      exact ⟨HS2.out.mem.fr hf (fun k e _ => hng k e), HS2.out.inv⟩
    · rw [HE.out]; exact HMI.out
end
end Go.Proofs.Ytfgfiiknbkakaaa.Fl

set_option linter.unusedVariables false
set_option linter.unusedSimpArgs false
set_option maxRecDepth 20000
namespace Go.Proofs.Ytfgfiiknbkakaaa.Fl
open Go.ChangeShapes Go.WideShapes Go.ChangeAt Go.RowKit Go.Deep Go.Maps Go.Proofs.Ytfgfiiknbkakaaa.Words Go.Proofs.Ytfgfiiknbkakaaa.Oct Go.Proofs.Ytfgfiiknbkakaaa.Par Go.Proofs.Ytfgfiiknbkakaaa.Chk Go.Proofs.Ytfgfiiknbkakaaa.Mx
section
variable {w w' w'' V : World} {p i n : Nat} {a : Ad} {m m' m'' : FM} {s s' : FS} {q : Pt}
theorem tw_take {α : Type} (f : α → Bool) (l : List α) (k : Nat) (h0 : k ≤ l.length) (h1 : ∀ (j : Nat) x, j < k → l[j]? = some x → f x = true) (h2 : ∀ x, l[k]? = some x → f x = false) : l.takeWhile f = l.take k := by
  induction l generalizing k with
  | nil => simp
  | cons a l ih =>
    cases k with
    | zero =>
      have := h2 a rfl
      simp [List.takeWhile_cons, this]
    | succ k =>
      have := h1 0 a (by omega) rfl
      rw [List.takeWhile_cons, if_pos this, List.take_succ_cons, ih k (by simpa using h0) (fun j x hj hx => h1 (j + 1) x (by omega) hx) (fun x hx => h2 x hx)]
theorem row_take (h : IvM m s) (hx : ∀ x, s.ps[m.rl]? = some x → x.st ≠ 3) : s.row = s.ps.take m.rl :=
  tw_take _ _ _ h.rl.1 (fun j x hj hx => by simpa using h.rl.2.1 j x hj hx) (fun x h1 => by simpa using hx x h1)
theorem IvM.extend (h : IvM m s) (hq : s.ps[m.rl]? = some q) (h3 : q.st = 3) : IvM { m with rl := m.rl + 1, lf := latF m.lf q } s := by
  refine ⟨h.mk_, h.ps, h.nb, h.nl, h.no, h.fl, ⟨(List.getElem?_eq_some_iff.1 hq).1, fun j x hj hx => ?_, ?_⟩, h.gone, h.nums, h.df, h.fresh, h.ms, h.mark, h.len, h.ok, h.pm⟩
  · change j < m.rl + 1 at hj
    by_cases e : j = m.rl
    · rw [e, hq] at hx
      injection hx with hx
      rw [← hx]; exact h3
    · exact h.rl.2.1 j x (by omega) hx
  · show latF m.lf q = (s.ps.take (m.rl + 1)).foldl latF _
    rw [List.take_add_one, hq, Option.toList, List.foldl_append, ← h.rl.2.2]
    rfl
/-- The map of the row's lines: a line is looked up, and set. -/
theorem zero_u32 (w : World) : (zeroValue 22).run Try.prog w = .ok (.int .u32 0) w := by kernel_rfl
theorem lat_look (h : MapX lnX w a.la (lfF m.lf)) {st : Nat} {lo : Bool} (hn : st < 65536) : ∀ k, (Instr.lookup 84 (.map (some a.la)) (.agg #[.int .u16 (st : Int), .bool lo]) true).run Try.prog (w.drewN k) = .ok (.tuple #[.int .u32 (((m.lf (st, lo)).getD 0 : Nat) : Int), .bool (m.lf (st, lo)).isSome]) (w.drewN k) := fun k => by
  have h1 := MapX.look_ok (h.drewN k) (t := 84) Try.underlying84 (zero_u32 _) (x := (st, lo)) hn
  have e : (lfF m.lf (st, lo)).getD (.int .u32 0) = .int .u32 (((m.lf (st, lo)).getD 0 : Nat) : Int) := by
    unfold lfF
    cases m.lf (st, lo) <;> rfl
  have e2 : (lfF m.lf (st, lo)).isSome = (m.lf (st, lo)).isSome := by unfold lfF; cases m.lf (st, lo) <;> rfl
  rw [e, e2] at h1
  exact h1
theorem lat_put (h : FlM w p a m) {st : Nat} {lo : Bool} (hn : st < 65536) (y : Nat) : ∃ w1, (Instr.mapUpdate 84 (.map (some a.la)) (.agg #[.int .u16 (st : Int), .bool lo]) (.int .u32 (y : Int))).run Try.prog w = .ok () w1 ∧ Fr (fun i => i = a.la) w w1 ∧
    FlM w1 p a { m with lf := fun k => if k = (st, lo) then some y else m.lf k } := by
  obtain ⟨w1, h1, h2, h3⟩ := h.lat.put (t := 84) Try.underlying84 (x := (st, lo)) hn (.int .u32 (y : Int))
  have hf : Fr (fun i => i = a.la) w w1 := (Fr.of_grown h3.grown).mono (fun i _ e => by injection e)
  refine ⟨w1, h1, hf, h.lats hf ?_⟩
  have e : putF (lfF m.lf) (st, lo) (.int .u32 (y : Int)) = lfF (fun k => if k = (st, lo) then some y else m.lf k) := funext fun k => by
    unfold putF lfF
    by_cases e : k = (st, lo)
    · simp [e]
    · simp [e]
  rw [← e]
  exact h2
def ExtendDone (w : World) (p : Nat) (a : Ad) (m : FM) (s : FS) (e : Ending) (w' : World) : Prop := ∃ (m' : FM), e = .returned (.tuple #[]) ∧ FlS w' p a m' s ∧ Stp w w' p a m a m' ∧ m'.rl = s.row.length ∧ m'.lf = s.lat
set_option maxHeartbeats 8000000 in
theorem extend_s (h : FlS w p a m s) : Calls Try.prog 41 #[.pointer (some ⟨p, 9, none⟩), a.v] w (ExtendDone w p a m s) := by
  obtain ⟨B, cap, hv, hlc, hbc, hB⟩ := h.list
  have hlt := h.inv.lt
  have HS0 : Hid (FlS w p a m s) := h
  have HT0 : Hid (Stp w w p a m a m) := Stp.refl _ _ _ _
  have HV := Lib.hid hv
  have HB := Lib.hid hB
  obtain ⟨N, hN⟩ : ∃ N, N = s.ps.length := ⟨_, rfl⟩
  have HN := Lib.hid hN
  rw [hv]
  rw [← hN] at hlc hlt ⊢
  clear h hv hB hN
  go_enter Try.func41, Try.ntmps41
  obtain ⟨wo, hwo⟩ : ∃ wo : World, wo = w := ⟨_, rfl⟩
  clear hwo
  go_upto_region 0 with (fail)
  go_loopw [4] (fun v4 wr => ∃ (m1 : FM), v4 = v4 ∧ Hid (FlS wr p a m1 s) ∧ Hid (Stp w wr p a m a m1)) (fun _ wr => N - (intOf ((wr.cell? ⟨p, 9, none⟩).getD undef)).toNat)
  case atStart => exact ⟨m, rfl, HS0, HT0⟩
  case round =>
    clear HS0 HT0
    obtain ⟨m1, _, HS, HT⟩ := hrel
    have c9 : wr.cell? ⟨p, 9, none⟩ = some (.int .i64 (m1.rl : Int)) := HS.out.mem.blk.cell 9
    obtain ⟨rl, hrl⟩ : ∃ rl, rl = m1.rl := ⟨_, rfl⟩
    rw [← hrl] at c9
    have HC9 := Lib.hid c9
    have HRL := Lib.hid hrl
    have hrn : rl ≤ N := by rw [hrl, HN.out]; exact HS.out.inv.rl.1
    clear hrl
    by_cases hlt2 : rl < N
    · have hlz : (rl : Int) < (N : Int) := by omega
      obtain ⟨g, off, hBe, hgp⟩ := HB.out (by rw [← HN.out]; omega)
      subst hBe
      obtain ⟨q, hq⟩ : ∃ q, s.ps[rl]? = some q := ⟨_, List.getElem?_eq_getElem (by rw [← HN.out]; omega)⟩
      obtain ⟨b, hx, hfr⟩ := HS.out.frag HV.out hq
      have c6 : wr.cell? ⟨g, off + rl * 26 + 6, none⟩ = some (.int .i64 (q.st : Int)) := hfr.c 6 (by omega)
      obtain ⟨st, hst⟩ : ∃ st, st = q.st := ⟨_, rfl⟩
      rw [← hst] at c6
      have HST := Lib.hid hst
      have HQ := Lib.hid hq
      have HFR := Lib.hid hfr
      have HOK : Hid (PtOk q) := HS.out.inv.ok q (List.mem_of_getElem? hq)
      clear hst hq hfr hx
      by_cases h3 : st = 3
      · subst h3
        have c13 : wr.cell? ⟨g, off + rl * 26 + 7 + 6, none⟩ = some (.int .u16 (q.c.st : Int)) := HFR.out.c 13 (by omega)
        have c10 : wr.cell? ⟨g, off + rl * 26 + 7 + 3, none⟩ = some (.bool q.c.lo) := HFR.out.c 10 (by omega)
        obtain ⟨sn, hsn⟩ : ∃ x, x = q.c.st := ⟨_, rfl⟩
        obtain ⟨lo, hlo⟩ : ∃ x, x = q.c.lo := ⟨_, rfl⟩
        rw [← hsn] at c13
        rw [← hlo] at c10
        have HSN := Lib.hid hsn
        have HLO := Lib.hid hlo
        clear hsn hlo
        have hba := below_one wr (.cells #[.int .u16 0, .bool false] 132)
        have hgl : g < wr.heap.size := kd_lt HFR.out.k
        have d13 : (wr.alloc (.cells #[.int .u16 0, .bool false] 132)).cell? ⟨g, off + rl * 26 + 7 + 6, none⟩ = some (.int .u16 (sn : Int)) := (hba.cell hgl).trans c13
        have d10 : (wr.alloc (.cells #[.int .u16 0, .bool false] 132)).cell? ⟨g, off + rl * 26 + 7 + 3, none⟩ = some (.bool lo) := (hba.cell hgl).trans c10
        clear hba hgl
        go_upto_region 2 with (fail)
        go_region
        obtain ⟨g5, hg5⟩ : ∃ g5, g5 = wr.heap.size := ⟨_, rfl⟩
        rw [← hg5]
        have hb2 : Below wr.heap.size wr (wr.alloc (.cells #[.int .u16 (sn : Int), .bool lo] 132)).drew := Below.drew (below_one wr _)
        have hk5 : Blk (wr.alloc (.cells #[.int .u16 (sn : Int), .bool lo] 132)).drew g5 132 #[.int .u16 (sn : Int), .bool lo] := (blk_newAt wr g5 hg5 _ _).drew
        obtain ⟨W2, hW2⟩ : ∃ W2, W2 = (wr.alloc (.cells #[.int .u16 (sn : Int), .bool lo] 132)).drew := ⟨_, rfl⟩
        rw [← hW2] at hb2 hk5 ⊢
        have HS2 := Lib.hid (HS.out.below hb2)
        have HT2 := Lib.hid (HT.out.grows hb2)
        have HN5 : Hid (¬ FG p a m1 g5) := fun e => by have := HS.out.mem.lt e; omega
        have HF2 : Hid (FrAt W2 g (off + rl * 26) q b) := HFR.out.fr (Fr.of_below hb2) (fun e => by have := kd_lt HFR.out.k; have e : wr.heap.size ≤ g := e; omega)
        have e9 : W2.cell? ⟨p, 9, none⟩ = some (.int .i64 (rl : Int)) := by have := HS2.out.mem.blk.cell 9; rw [← HRL.out] at this; exact this
        have e10 : W2.cell? ⟨p, 9 + 1, none⟩ = some (.map (some a.la)) := HS2.out.mem.blk.cell 10
        have k0 : W2.cell? ⟨g5, 0, none⟩ = some (.int .u16 (sn : Int)) := hk5.cell 0
        have k1 : W2.cell? ⟨g5, 1, none⟩ = some (.bool lo) := hk5.cell 1
        have hsb : sn < 65536 := by rw [HSN.out]; exact HOK.out.ok.st
        have hlk := lat_look HS2.out.mem.lat (st := sn) (lo := lo) hsb
        have HK5 := Lib.hid hk5
        obtain ⟨o, ho⟩ : ∃ o, o = m1.lf (sn, lo) := ⟨_, rfl⟩
        rw [← ho] at hlk
        have HO := Lib.hid ho
        clear hW2 hg5 hb2 hk5 ho c13 c10 d13 d10 c6 c9 HS HT HFR
        cases o with
        | none =>
          simp only [Option.getD_none, Option.isSome_none] at hlk
          go_upto_region 3 with (fail)
          go_quiet (fail)
          obtain ⟨mid, hmid⟩ : ∃ x, x = q.c.mid := ⟨_, rfl⟩
          have c14 : (W2.drewN nq).cell? ⟨g, off + rl * 26 + 7 + 7, none⟩ = some (.int .u32 (mid : Int)) := by rw [hmid]; exact HF2.out.c 14 (by omega)
          have HMID := Lib.hid hmid
          obtain ⟨lt, hlt3⟩ : ∃ x, x = mid := ⟨_, rfl⟩
          have HLT : Hid (lt = (m1.lf (sn, lo)).getD mid) := by show _ = _; rw [← HO.out, hlt3]; rfl
          clear hmid
          go_upto_region 6 with (fail)
          rw [← hlt3]
          clear hlt3
          have hb3 : Below W2.heap.size W2 (W2.drewN nq) := below_drewN (Below.refl _ _) nq
          obtain ⟨W3, hW3⟩ : ∃ W3, W3 = W2.drewN nq := ⟨_, rfl⟩
          rw [← hW3] at hb3 ⊢
          have HS3 := Lib.hid (HS2.out.below hb3)
          have HT3 := Lib.hid (HT2.out.grows hb3)
          have HF3 : Hid (FrAt W3 g (off + rl * 26) q b) := HF2.out.fr (Fr.of_below hb3) (fun e => by have := kd_lt HF2.out.k; have e : W2.heap.size ≤ g := e; omega)
          have HK53 := Lib.hid (blk_below HK5.out hb3)
          have e10' : W3.cell? ⟨p, 9 + 1, none⟩ = some (.map (some a.la)) := HS3.out.mem.blk.cell 10
          have k0' : W3.cell? ⟨g5, 0, none⟩ = some (.int .u16 (sn : Int)) := HK53.out.cell 0
          have k1' : W3.cell? ⟨g5, 1, none⟩ = some (.bool lo) := HK53.out.cell 1
          have c14' : W3.cell? ⟨g, off + rl * 26 + 7 + 7, none⟩ = some (.int .u32 (mid : Int)) := by rw [HMID.out]; exact HF3.out.c 14 (by omega)
          obtain ⟨y, hy⟩ : ∃ y, y = laterN lt mid := ⟨_, rfl⟩
          have hly : Ser.laterI (lt : Int) (mid : Int) = (y : Int) := by rw [hy]; unfold Ser.laterI laterN; split <;> rfl
          have hl := fun V => Ser.later_any (lt : Int) (mid : Int) V
          rw [hly] at hl
          have HY := Lib.hid hy
          clear hW3 hb3 hy hly e9 e10 k0 k1 hlk HS2 HT2 HF2 HK5
          go_still_tail 11, (by kernel_rfl)
          still_call ((hl _).mono (fun e w1 h => ⟨h.1, h.2.symm⟩))
          repeat still_step
          refine wpStill_nil ?_
          change wpList _ _ _ _ _ W3.drew
          obtain ⟨V3, hV3⟩ : ∃ V3, V3 = W3.drew := ⟨_, rfl⟩
          have hbd : Below W3.heap.size W3 V3 := by rw [hV3]; exact Below.drew (Below.refl _ _)
          rw [← hV3]
          obtain ⟨W4, hmu, hf4, hm4⟩ := lat_put (HS3.out.mem.below hbd) (st := sn) (lo := lo) hsb y
          have HF34 : Hid (Fr (fun i => i = a.la) W3 W4) := ((Fr.refl _ W3).grows hbd).same hf4
          have HM4 := Lib.hid hm4
          have j9 : W4.cell? ⟨p, 9, none⟩ = some (.int .i64 (rl : Int)) := by have := hm4.blk.cell 9; rw [HRL.out]; exact this
          have x9 := hm4.blk.frozen 9
          clear hV3 hbd hf4 hm4 e10' k0' k1' c14'
          go_wp2_with fail
          obtain ⟨W5, hW5⟩ : ∃ W5, W5 = W4.setCell ⟨p, 9, none⟩ (.int .i64 ((rl : Int) + 1)) := ⟨_, rfl⟩
          have hm5 := HM4.out.set_rl (rl + 1)
          rw [show ((rl + 1 : Nat) : Int) = (rl : Int) + 1 from rfl, ← hW5] at hm5
          have hf5 : Fr (fun k => k = p) W4 W5 := by rw [hW5]; exact fr_set _
          have hel : (fun k => if k = (sn, lo) then some y else m1.lf k) = latF m1.lf q := funext fun k => by
            unfold latF
            rw [← HSN.out, ← HLO.out, ← HMID.out]
            by_cases e : k = (sn, lo)
            · rw [if_pos e, if_pos e, e, HY.out, HLT.out]
            · rw [if_neg e, if_neg e]
          have HS5 : Hid (FlS W5 p a { m1 with rl := m1.rl + 1, lf := latF m1.lf q } s) := ⟨by rw [← hel, ← HRL.out]; exact hm5, HS3.out.inv.extend (by rw [← HRL.out]; exact HQ.out) HST.out.symm⟩
          have HT5 : Hid (Stp w W5 p a m a { m1 with rl := m1.rl + 1, lf := latF m1.lf q }) := HT3.out.trans (Stp.of (S := fun i => i = a.la ∨ i = p) ((HF34.out.mono fun i _ e => .inl e).same (hf5.mono fun i _ e => .inr e)) (fun i e => e.elim (fun e => .inr (.inr (.inr (.inr (.inr (.inl e)))))) (fun e => .inl e)) (fun i e => e))
          have HC5 : Hid (W5.cell? ⟨p, 9, none⟩ = some (.int .i64 ((rl : Int) + 1))) := hm5.blk.cell 9
          rw [← hW5]
          clear hm5 hf5 hel j9 x9 hmu hl hW5
          go_roundw
          case rel => exact ⟨{ m1 with rl := m1.rl + 1, lf := latF m1.lf q }, trivial, HS5, HT5⟩
          case measure =>
            rw [HC5.out, HC9.out]
            simp only [Option.getD_some, intOf, Int.toNat_natCast]
            omega
        | some x =>
          simp only [Option.getD_some, Option.isSome_some] at hlk
          go_upto_region 3 with (fail)
          go_quiet (fail)
          obtain ⟨mid, hmid⟩ : ∃ x, x = q.c.mid := ⟨_, rfl⟩
          have HMID := Lib.hid hmid
          obtain ⟨lt, hlt3⟩ : ∃ y, y = x := ⟨_, rfl⟩
          have HLT : Hid (lt = (m1.lf (sn, lo)).getD mid) := by show _ = _; rw [← HO.out, hlt3]; rfl
          clear hmid
          go_upto_region 6 with (fail)
          rw [← hlt3]
          clear hlt3
          have hb3 : Below W2.heap.size W2 (W2.drewN nq) := below_drewN (Below.refl _ _) nq
          obtain ⟨W3, hW3⟩ : ∃ W3, W3 = W2.drewN nq := ⟨_, rfl⟩
          rw [← hW3] at hb3 ⊢
          have HS3 := Lib.hid (HS2.out.below hb3)
          have HT3 := Lib.hid (HT2.out.grows hb3)
          have HF3 : Hid (FrAt W3 g (off + rl * 26) q b) := HF2.out.fr (Fr.of_below hb3) (fun e => by have := kd_lt HF2.out.k; have e : W2.heap.size ≤ g := e; omega)
          have HK53 := Lib.hid (blk_below HK5.out hb3)
          have e10' : W3.cell? ⟨p, 9 + 1, none⟩ = some (.map (some a.la)) := HS3.out.mem.blk.cell 10
          have k0' : W3.cell? ⟨g5, 0, none⟩ = some (.int .u16 (sn : Int)) := HK53.out.cell 0
          have k1' : W3.cell? ⟨g5, 1, none⟩ = some (.bool lo) := HK53.out.cell 1
          have c14' : W3.cell? ⟨g, off + rl * 26 + 7 + 7, none⟩ = some (.int .u32 (mid : Int)) := by rw [HMID.out]; exact HF3.out.c 14 (by omega)
          obtain ⟨y, hy⟩ : ∃ y, y = laterN lt mid := ⟨_, rfl⟩
          have hly : Ser.laterI (lt : Int) (mid : Int) = (y : Int) := by rw [hy]; unfold Ser.laterI laterN; split <;> rfl
          have hl := fun V => Ser.later_any (lt : Int) (mid : Int) V
          rw [hly] at hl
          have HY := Lib.hid hy
          clear hW3 hb3 hy hly e9 e10 k0 k1 hlk HS2 HT2 HF2 HK5
          go_still_tail 11, (by kernel_rfl)
          still_call ((hl _).mono (fun e w1 h => ⟨h.1, h.2.symm⟩))
          repeat still_step
          refine wpStill_nil ?_
          change wpList _ _ _ _ _ W3.drew
          obtain ⟨V3, hV3⟩ : ∃ V3, V3 = W3.drew := ⟨_, rfl⟩
          have hbd : Below W3.heap.size W3 V3 := by rw [hV3]; exact Below.drew (Below.refl _ _)
          rw [← hV3]
          obtain ⟨W4, hmu, hf4, hm4⟩ := lat_put (HS3.out.mem.below hbd) (st := sn) (lo := lo) hsb y
          have HF34 : Hid (Fr (fun i => i = a.la) W3 W4) := ((Fr.refl _ W3).grows hbd).same hf4
          have HM4 := Lib.hid hm4
          have j9 : W4.cell? ⟨p, 9, none⟩ = some (.int .i64 (rl : Int)) := by have := hm4.blk.cell 9; rw [HRL.out]; exact this
          have x9 := hm4.blk.frozen 9
          clear hV3 hbd hf4 hm4 e10' k0' k1' c14'
          go_wp2_with fail
          obtain ⟨W5, hW5⟩ : ∃ W5, W5 = W4.setCell ⟨p, 9, none⟩ (.int .i64 ((rl : Int) + 1)) := ⟨_, rfl⟩
          have hm5 := HM4.out.set_rl (rl + 1)
          rw [show ((rl + 1 : Nat) : Int) = (rl : Int) + 1 from rfl, ← hW5] at hm5
          have hf5 : Fr (fun k => k = p) W4 W5 := by rw [hW5]; exact fr_set _
          have hel : (fun k => if k = (sn, lo) then some y else m1.lf k) = latF m1.lf q := funext fun k => by
            unfold latF
            rw [← HSN.out, ← HLO.out, ← HMID.out]
            by_cases e : k = (sn, lo)
            · rw [if_pos e, if_pos e, e, HY.out, HLT.out]
            · rw [if_neg e, if_neg e]
          have HS5 : Hid (FlS W5 p a { m1 with rl := m1.rl + 1, lf := latF m1.lf q } s) := ⟨by rw [← hel, ← HRL.out]; exact hm5, HS3.out.inv.extend (by rw [← HRL.out]; exact HQ.out) HST.out.symm⟩
          have HT5 : Hid (Stp w W5 p a m a { m1 with rl := m1.rl + 1, lf := latF m1.lf q }) := HT3.out.trans (Stp.of (S := fun i => i = a.la ∨ i = p) ((HF34.out.mono fun i _ e => .inl e).same (hf5.mono fun i _ e => .inr e)) (fun i e => e.elim (fun e => .inr (.inr (.inr (.inr (.inr (.inl e)))))) (fun e => .inl e)) (fun i e => e))
          have HC5 : Hid (W5.cell? ⟨p, 9, none⟩ = some (.int .i64 ((rl : Int) + 1))) := hm5.blk.cell 9
          rw [← hW5]
          clear hm5 hf5 hel j9 x9 hmu hl hW5
          go_roundw
          case rel => exact ⟨{ m1 with rl := m1.rl + 1, lf := latF m1.lf q }, trivial, HS5, HT5⟩
          case measure =>
            rw [HC5.out, HC9.out]
            simp only [Option.getD_some, intOf, Int.toNat_natCast]
            omega
      · have hb3 : ((st : Int) == 3) = false := beq_no (by omega)
        have hb3' : ¬ (st : Int) = 3 := by omega
        go_wp2_with fail
        go_end0
        have hr := row_take HS.out.inv (fun x hx => by
          rw [← HRL.out, HQ.out] at hx
          injection hx with hx
          rw [← hx, ← HST.out]; exact h3)
        refine ⟨m1, rfl, HS.out, HT.out, ?_, ?_⟩
        · rw [hr, List.length_take, Nat.min_eq_left HS.out.inv.rl.1]
        · unfold FS.lat; rw [hr]; exact HS.out.inv.rl.2.2
    · have hin : rl = N := by omega
      have hlz : ¬ (rl : Int) < (N : Int) := by omega
      go_wp2_with fail
      go_end0
      have hr := row_take HS.out.inv (fun x hx => by
        have := (List.getElem?_eq_some_iff.1 hx).1
        rw [← HRL.out, ← HN.out] at this
        omega)
      refine ⟨m1, rfl, HS.out, HT.out, ?_, ?_⟩
      · rw [hr, List.length_take, Nat.min_eq_left HS.out.inv.rl.1]
      · unfold FS.lat; rw [hr]; exact HS.out.inv.rl.2.2
end
end Go.Proofs.Ytfgfiiknbkakaaa.Fl

set_option linter.unusedVariables false
set_option linter.unusedSimpArgs false
set_option maxRecDepth 20000
namespace Go.Proofs.Ytfgfiiknbkakaaa.Fl
open Go.ChangeShapes Go.WideShapes Go.ChangeAt Go.RowKit Go.Deep Go.Maps Go.Proofs.Ytfgfiiknbkakaaa.Words Go.Proofs.Ytfgfiiknbkakaaa.Oct Go.Proofs.Ytfgfiiknbkakaaa.Par Go.Proofs.Ytfgfiiknbkakaaa.Chk Go.Proofs.Ytfgfiiknbkakaaa.Mx
section
variable {w w' : World} {p now : Nat} {a : Ad} {m : FM} {s : FS}
theorem grown_below {w w1 w2 : World} {B : Nat} {row : Option Nat} (h : Below B w w1) (k : w1.grownBy w2 row) (hB : B ≤ w.heap.size) (hr : ∀ g, row = some g → B ≤ g) : Below B w w2 :=
  h.trans ⟨k.os, k.tape, k.output, k.size, fun x hx => k.block x (by have := h.size; omega) (fun e => by have := hr x e.symm; omega)⟩
def DueDone (w : World) (m : FM) (now : Nat) (e : Ending) (w' : World) : Prop := ∃ r : Bool, e = .returned (.bool r) ∧ Below w.heap.size w w' ∧ (r = false → ∀ n, n < 4294967296 → m.df n ≠ 0 → Ser.lessB (n : Int) (now : Int) = false)
set_option maxHeartbeats 8000000 in
theorem due_s (h : FlM w p a m) : Calls Try.prog 43 #[fptr p, .int .u32 (now : Int)] w (DueDone w m now) := by
  have c8 : w.cell? ⟨p, 8, none⟩ = some (.map (some a.de)) := h.blk.cell 8
  obtain ⟨w1, cnt, hrun, hrg, hgr, hsz⟩ := MapX.range h.dea (t := 83) Try.underlying83
  obtain ⟨q, hq⟩ : ∃ q, q = w.heap.size := ⟨_, rfl⟩
  rw [← hq] at hrg hrun
  have HRG : Hid (RangeX u32X w1 a.de q (dfF m.df) (fun x => (dfF m.df x).isSome) cnt) := hrg
  have HB1 : Hid (Below w.heap.size w w1) := grown_below (Below.refl _ _) hgr (Nat.le_refl _) (fun g hg => by cases hg)
  have HQ : Hid (w.heap.size ≤ q) := Nat.le_of_eq hq.symm
  have HDE : Hid (a.de < w.heap.size) := h.dea.lt
  have HD0 : Hid (∀ n, n < 4294967296 → m.df n ≠ 0 → (dfF m.df n).isSome = false → Ser.lessB (n : Int) (now : Int) = false) := fun n _ h1 h2 => by
    unfold dfF at h2
    rw [if_neg h1] at h2
    cases h2
  clear hrg hgr hsz hq h
  go_enter Try.func43, Try.ntmps43
  go_upto_region 2 with (fail)
  go_loopw [5] (fun _ wr => ∃ (left : Nat → Bool) (cnt : Nat), Hid (RangeX u32X wr a.de q (dfF m.df) left cnt) ∧ Hid (Below w.heap.size w wr) ∧ Hid (∀ n, n < 4294967296 → m.df n ≠ 0 → left n = false → Ser.lessB (n : Int) (now : Int) = false)) (fun _ wr => wr.rangeLeft a.de q)
  case atStart => exact ⟨_, _, HRG, HB1, HD0⟩
  case round =>
    clear HRG HB1 HD0 hrun c8
    obtain ⟨left, cnt, HG, HB, HD⟩ := hrel
    rcases HG.out.next 0 with ⟨hall, hrun2⟩ | ⟨g, v, w2, cnt2, hdom, hlg, hfg, hrun2, hrg2, hlt2, hgr2, hsz2, hen⟩
    · go_wp2_with fail
      go_ret
      exact ⟨false, rfl, HB.out, fun _ n h1 h2 => HD.out n h1 h2 (hall n)⟩
    · have hrun3 : (Instr.next (.pointer (some ⟨q, 0, none⟩)) false 0).run Try.prog wr = .ok (.tuple #[.bool true, .int .u32 (g : Int), v]) w2 := hrun2
      have hen3 : (Instr.entry (.pointer (some ⟨q, 0, none⟩))).run Try.prog w2 = .ok (.tuple #[.int .u32 (g : Int), v]) w2 := hen
      have HG2 := Lib.hid hrg2
      have HB2 : Hid (Below w.heap.size w w2) := grown_below HB.out hgr2 (Nat.le_refl _) (fun x hx => by injection hx with hx; rw [← hx]; exact HQ.out)
      have HC : Hid (wr.rangeLeft a.de q = cnt) := HG.out.left_eq
      have HLT := Lib.hid hlt2
      have hl := fun V => Ser.less_any (g : Int) (now : Int) V
      obtain ⟨lb, hlb⟩ : ∃ lb, lb = Ser.lessB (g : Int) (now : Int) := ⟨_, rfl⟩
      simp only [← hlb] at hl
      have HLB := Lib.hid hlb
      clear hlb hrun2 hen hrg2 hgr2 hlg hfg hdom hsz2 hlt2
      cases lb
      · have HD2 : Hid (∀ n, n < 4294967296 → m.df n ≠ 0 → (left n && !decide (n = g)) = false → Ser.lessB (n : Int) (now : Int) = false) := fun n h1 h2 h3 => by
          by_cases e : n = g
          · rw [e]; exact HLB.out.symm
          · exact HD.out n h1 h2 (by simpa [e] using h3)
        go_wp2_with (first | (go_at_call 65; refine (hl _).mono ?_; rintro e w5 ⟨rfl, rfl⟩))
        go_roundw
        case rel => exact ⟨_, cnt2, HG2, HB2, HD2⟩
        case measure => rw [HG2.out.left_eq, HC.out]; exact HLT.out
      · go_wp2_with (first | (go_at_call 65; refine (hl _).mono ?_; rintro e w5 ⟨rfl, rfl⟩))
        go_ret
        exact ⟨true, rfl, HB2.out, fun e => by cases e⟩
end
end Go.Proofs.Ytfgfiiknbkakaaa.Fl

set_option linter.unusedVariables false
set_option linter.unusedSimpArgs false
set_option maxRecDepth 20000
namespace Go.Proofs.Ytfgfiiknbkakaaa.Fl
open Go.ChangeShapes Go.WideShapes Go.ChangeAt Go.RowKit Go.Deep Go.Maps Go.Proofs.Ytfgfiiknbkakaaa.Words Go.Proofs.Ytfgfiiknbkakaaa.Oct Go.Proofs.Ytfgfiiknbkakaaa.Par Go.Proofs.Ytfgfiiknbkakaaa.Chk Go.Proofs.Ytfgfiiknbkakaaa.Mx
section
variable {now k : Nat} {s : FS} {q : Pt}
def deadK (now : Nat) (l : List Pt) (k : Nat) (m : Int) : Bool := deadB now (l.take k) m
def exP (now : Nat) (l : List Pt) (k : Nat) (p : Pt) : Pt := if p.left = true ∧ deadK now l k p.m = true then p.turn 3 else p
def FS.expK (s : FS) (now k : Nat) : FS := { s with ps := s.ps.map (exP now s.ps k), gone := fun x => s.gone x || deadK now s.ps k x }
theorem deadK_zero (now : Nat) (l : List Pt) (m : Int) : deadK now l 0 m = false := by unfold deadK deadB; rw [List.take_zero]; rfl
theorem deadK_step {l : List Pt} (hq : l[k]? = some q) (m : Int) : deadK now l (k + 1) m = (deadK now l k m || (decide (q.m = m) && (q.left && q.late now))) := by
  unfold deadK deadB
  rw [List.take_add_one, hq]
  simp
theorem expK_zero (s : FS) (now : Nat) : s.expK now 0 = s := by
  unfold FS.expK
  have e1 : (exP now s.ps 0) = id := funext fun p => by unfold exP; rw [deadK_zero]; simp
  have e2 : (fun x => s.gone x || deadK now s.ps 0 x) = s.gone := funext fun x => by rw [deadK_zero]; simp
  rw [e1, e2, List.map_id]
theorem expK_all (s : FS) (now : Nat) : s.expK now s.ps.length = s.expire now := by
  unfold FS.expK FS.expire exP deadK
  rw [List.take_length]
theorem turn3_left (p : Pt) : (p.turn 3).left = false := rfl
theorem exP_m (now : Nat) (l : List Pt) (k : Nat) (p : Pt) : (exP now l k p).m = p.m := by unfold exP; split <;> rfl
theorem exP_late (now : Nat) (l : List Pt) (k : Nat) (p : Pt) : (exP now l k p).late now = p.late now := by unfold exP; split <;> rfl
theorem exP_left (now : Nat) (l : List Pt) (k : Nat) (p : Pt) : (exP now l k p).left = (p.left && !deadK now l k p.m) := by
  unfold exP
  cases h1 : p.left <;> cases h2 : deadK now l k p.m <;> simp [h1, turn3_left]
theorem expK_get (hq : s.ps[k]? = some q) (j : Nat) : (s.expK now j).ps[k]? = some (exP now s.ps j q) := by
  show (s.ps.map _)[k]? = _
  rw [List.getElem?_map, hq]; rfl
theorem expK_stay (hq : s.ps[k]? = some q) (h : ((exP now s.ps k q).left && (exP now s.ps k q).late now) = false) : s.expK now (k + 1) = s.expK now k := by
  rw [exP_left, exP_late] at h
  have e : deadK now s.ps (k + 1) = deadK now s.ps k := funext fun x => by
    rw [deadK_step hq]
    by_cases hx : q.m = x
    · subst hx
      cases h1 : q.left <;> cases h2 : q.late now <;> cases h3 : deadK now s.ps k q.m <;> simp [h1, h2, h3] at h ⊢
    · simp [hx]
  unfold FS.expK exP
  rw [e]
theorem expK_go (hq : s.ps[k]? = some q) (h : ((exP now s.ps k q).left && (exP now s.ps k q).late now) = true) : s.expK now (k + 1) = (s.expK now k).abandon q.m := by
  rw [exP_left, exP_late] at h
  simp only [Bool.and_eq_true, Bool.not_eq_true'] at h
  obtain ⟨⟨h1, h2⟩, h3⟩ := h
  have e : ∀ x, deadK now s.ps (k + 1) x = (deadK now s.ps k x || decide (q.m = x)) := fun x => by
    rw [deadK_step hq, h1, h3]
    simp
  unfold FS.expK FS.abandon
  simp only [List.map_map]
  congr 1
  · refine List.map_congr_left (fun p hp => ?_)
    show exP now s.ps (k + 1) p = (if (exP now s.ps k p).m = q.m ∧ (exP now s.ps k p).left = true then (exP now s.ps k p).turn 3 else exP now s.ps k p)
    rw [exP_m, exP_left]
    unfold exP
    rw [e, show decide (q.m = p.m) = decide (p.m = q.m) from decide_eq_decide.2 ⟨Eq.symm, Eq.symm⟩]
    cases h4 : p.left <;> cases h5 : deadK now s.ps k p.m <;> by_cases h6 : p.m = q.m <;> simp [h4, h5, h6]
  · funext x
    rw [e]
    by_cases h6 : q.m = x
    · subst h6; simp
    · have h7 : ¬ x = q.m := fun e => h6 e.symm
      simp [h6, h7]
theorem expK_mi (h : MiOk s) (now k : Nat) : MiOk (s.expK now k) := by
  intro p hp h0
  obtain ⟨x, hx, rfl⟩ := List.mem_map.1 hp
  unfold exP at h0 ⊢
  split at h0
  · exact absurd h0 (by show ¬ (3 : Nat) = 0; omega)
  · rename_i h1
    rw [if_neg h1]
    exact h x hx h0
/-- Where no deadline is passed Expire finds nothing. -/
theorem expire_none (h : ∀ p ∈ s.ps, p.left = true → p.late now = false) : s.expire now = s := by
  have hd : ∀ m, deadB now s.ps m = false := fun m => by
    unfold deadB
    rw [List.any_eq_false]
    intro p hp
    cases h1 : p.left with
    | false => simp
    | true => simp [h p hp h1]
  unfold FS.expire
  have e1 : (fun p : Pt => if p.left = true ∧ deadB now s.ps p.m = true then p.turn 3 else p) = id := funext fun p => by rw [hd]; simp
  have e2 : (fun x => s.gone x || deadB now s.ps x) = s.gone := funext fun x => by rw [hd]; simp
  rw [e1, e2, List.map_id]
end
end Go.Proofs.Ytfgfiiknbkakaaa.Fl
