/-
  Packets: the document's Get (flumeref07).
-/
import Derived.Test.YtpgklhecmafnbaaPkA
import Derived.Test.YtpgklhecmafnbaaChRf6
set_option linter.unusedVariables false
set_option linter.unusedSimpArgs false
namespace Go.Proofs.Ytpgklhecmafnbaa.Chk
open Go.ChangeShapes Go.WideShapes Go.ChangeAt Go.RowKit Go.Deep Go.Proofs.Ytpgklhecmafnbaa.Words Go.Proofs.Ytpgklhecmafnbaa.Oct Go.Proofs.Ytpgklhecmafnbaa.Par
open Go.Proofs.Ytpgklhecmafnbaa.Crc (sealL)

/-- Where the document's Get stands in its loop: the packet's variable, the result's, the row. -/
structure RGt (w V : World) (B g2 g4 : Nat) (f t g : Nat) (b : List UInt8) (j : Nat) (v : Value) (acc : List Ck) : Prop where
  own : OwnCks V B v acc
  eq : chunksP (b.drop 12) = consP acc (chunksP (b.drop j))
  pk : Blk V g4 44 (pkV f t g v)
  b2 : Blk V g2 44 zeroP
  below : Below w.heap.size w V
  lo : w.heap.size ≤ g2
  ne : g2 < g4
  gB : g4 < B
  size : B ≤ V.heap.size
section
variable {w V V' : World} {B g2 g4 f t g j j' n : Nat} {b : List UInt8} {v v' : Value} {acc l : List Ck} {c : Ck} {cs : Array Value} {xs : List Value}
theorem RGt.grows (h : RGt w V B g2 g4 f t g b j v acc) (k : Below V.heap.size V V') : RGt w V' B g2 g4 f t g b j v acc :=
  ⟨h.own.grows k, h.eq, h.pk.below k h.pk.lt, h.b2.below k h.b2.lt, h.below.trans (k.mono h.below.size), h.lo, h.ne, h.gB, Nat.le_trans h.size k.size⟩
theorem RGt.at_ (h : RGt w V B g2 g4 f t g b j v acc) (e : chunksP (b.drop 12) = consP acc (chunksP (b.drop j'))) : RGt w V B g2 g4 f t g b j' v acc :=
  ⟨h.own, e, h.pk, h.b2, h.below, h.lo, h.ne, h.gB, h.size⟩
theorem RGt.more (h : RGt w V B g2 g4 f t g b j v acc) (hx : V.ownsRow B 32 19 v acc.length xs) (hxs : ∀ k c, acc[k]? = some c → c.ok ∧ ∃ cs : Array Value, (∀ j u, cs[j]? = some u → xs[k * 19 + j]? = some u) ∧ CkOwn V B cs c)
    (hg : V.grownBy V' v.ownBlock) (ho : V'.ownsRow B 32 19 v' n (xs ++ cs.toList)) (hn : n = acc.length + 1) (hc : CkOwn V B cs c) (ok : c.ok) (e : chunksP (b.drop 12) = consP (acc ++ [c]) (chunksP (b.drop j'))) :
    RGt w (V'.setCell ⟨g4, 3, none⟩ v') B g2 g4 f t g b j' v' (acc ++ [c]) := by
  have a1 := h.lo
  have a2 := h.ne
  have a3 := h.gB
  have hp := h.pk.grown hg (fun e => by have := (hx.lt g4 e.symm).1; omega)
  have h2 := h.b2.grown hg (fun e => by have := (hx.lt g2 e.symm).1; omega)
  have hb := h.below.grown hg h.below.size (fun b hb => by have := (hx.lt b hb).1; omega)
  refine ⟨(OwnCks.snoc hx hxs hg ho hn hc ok).fr ((Fr.refl (fun k => k = g4) V').setCell (p := ⟨g4, 3, none⟩) (.inl rfl) v') (fun i hi _ => by have e' : i = g4 := hi; omega), e, ?_, Blk.far h2 (p := ⟨g4, 3, none⟩) (by show g2 ≠ g4; omega) _, hb.setCell (p := ⟨g4, 3, none⟩) (by show _ ≤ g4; omega) _, a1, a2, a3, ?_⟩
  · have := Blk.set_ hp 3 v'
    exact this
  · have := h.size; have := hg.size; simp [World.setCell]; omega
end
theorem tape_pk {V : World} {p : Nat} {A : Option Addr} {ct : Nat} {x : List UInt8} {j : Nat} (h : TapeAt V p A ct x j false) {g f : Nat} {u : Value} (hg : p ≠ g) (hp : p < V.heap.size) (hb : ∀ i, i < p + 1 → i ≠ g) : TapeAt (V.setCell ⟨g, f, none⟩ u) p A ct x j false :=
  h.keep (fun b hb' => Below.heap_setCell V ⟨g, f, none⟩ u b (by show b ≠ g; exact hb b hb'))
theorem num2_16 (x : List UInt8) (j : Nat) : num ((x.drop j).take 2) < 65536 := take2 x j
/-- A row that reads as these bytes. -/
def RowB (y : List UInt8) (v : Value) (V : World) : Prop := ∃ A c, v = .slice A y.length c ∧ Byt V V.heap.size A y
/-- Where it stands while the head is read. -/
structure RHt (w V : World) (g2 g4 p : Nat) (f t g : Nat) (A : Option Addr) (ct : Nat) (x : List UInt8) (j : Nat) : Prop where
  tp : TapeAt V p A ct x j false
  pk : Blk V g4 44 (pkV f t g (.slice none 0 0))
  b2 : Blk V g2 44 zeroP
  below : Below w.heap.size w V
  lo : w.heap.size ≤ g2
  ne : g2 < g4
  ne2 : g4 < p
section
variable {w V V' : World} {g2 g4 p f t g f' t' g' ct j m : Nat} {A : Option Addr} {x : List UInt8} {e : Ending} {u : Value}
theorem RHt.num_ (h : RHt w V g2 g4 p f t g A ct x j) (k : Numbered V p A ct x j m e V') : e = .returned (.int .u64 ((num ((x.drop j).take m) : Nat) : Int)) ∧ RHt w V' g2 g4 p f t g A ct x (j + m) := by
  obtain ⟨he, ht, hg⟩ := k
  have a1 := h.lo
  have a2 := h.ne
  have a3 := h.ne2
  exact ⟨he, ⟨ht, h.pk.grown hg (fun e => by injection e with e; omega), h.b2.grown hg (fun e => by injection e with e; omega), h.below.grown hg h.below.size (fun b e => by injection e with e; omega), a1, a2, a3⟩⟩
theorem RHt.store (h : RHt w V g2 g4 p f t g A ct x j) {i : Nat} (hs : (pkV f t g (.slice none 0 0)).setIfInBounds i u = pkV f' t' g' (.slice none 0 0)) (hy : ∀ V', Below w.heap.size w V' → Byt V' w.heap.size A x) : RHt w (V.setCell ⟨g4, i, none⟩ u) g2 g4 p f' t' g' A ct x j := by
  have a1 := h.lo
  have a2 := h.ne
  have a3 := h.ne2
  have hb := h.below.setCell (p := ⟨g4, i, none⟩) (by show _ ≤ g4; omega) u
  refine ⟨⟨Blk.far h.tp.blk (p := ⟨g4, i, none⟩) (by show p ≠ g4; omega) _, (hy _ hb).more (by omega), h.tp.le, h.tp.cap, h.tp.max⟩, by rw [← hs]; exact Blk.set_ h.pk i u, Blk.far h.b2 (p := ⟨g4, i, none⟩) (by show g2 ≠ g4; omega) _, hb, a1, a2, a3⟩
end
set_option maxHeartbeats 8000000 in
set_option maxRecDepth 100000 in
theorem rget_p {w : World} {A : Option Addr} {b : List UInt8} {n cap : Nat} (hn : n = b.length) (hnc : n ≤ cap) (hcm : cap ≤ 9223372036854775807) (hy : Byt w w.heap.size A b) :
    Calls Try.prog 22 #[.slice A n cap] w (GetPk w b) := by
  obtain ⟨j0, hj0, hjz0, hjz1, hjz2⟩ := info_parts3 chunk_info3
  have HN := Lib.hid hn
  have HY := Lib.hid hy
  clear hn hy
  go_enter Try.func22, Try.ntmps22
  go_upto_region 2 with (fail)
  obtain ⟨g2, hg2⟩ : ∃ g2, g2 = w.heap.size := ⟨_, rfl⟩
  obtain ⟨g4, hg4⟩ : ∃ g4, g4 = w.heap.size + 1 := ⟨_, rfl⟩
  have hg4' : g4 = (w.alloc (.cells #[.int .u16 0, .int .u16 0, .int .u32 0, .slice none 0 0] 44)).heap.size := by rw [hg4]; simp
  obtain ⟨W1, hW1⟩ : ∃ W1, W1 = (w.alloc (.cells #[.int .u16 0, .int .u16 0, .int .u32 0, .slice none 0 0] 44)).alloc (.cells #[.int .u16 0, .int .u16 0, .int .u32 0, .slice none 0 0] 44) := ⟨_, rfl⟩
  have hb0 := (Below.refl w.heap.size w).alloc (Nat.le_refl _) (.cells #[.int .u16 0, .int .u16 0, .int .u32 0, .slice none 0 0] 44)
  have hb1 := (Below.refl (w.alloc (.cells #[.int .u16 0, .int .u16 0, .int .u32 0, .slice none 0 0] 44)).heap.size (w.alloc (.cells #[.int .u16 0, .int .u16 0, .int .u32 0, .slice none 0 0] 44))).alloc (Nat.le_refl _) (.cells #[.int .u16 0, .int .u16 0, .int .u32 0, .slice none 0 0] 44)
  have HG1 : Hid (Blk W1 g2 44 zeroP) := by
    have h0 : Blk (w.alloc (.cells #[.int .u16 0, .int .u16 0, .int .u32 0, .slice none 0 0] 44)) w.heap.size 44 zeroP := Blk.new _ _ _
    rw [hg2, hW1]
    exact h0.below hb1 h0.lt
  have HP1 : Hid (Blk W1 g4 44 zeroP) := by rw [hg4', hW1]; exact Blk.new _ _ _
  have HB1 : Hid (Below w.heap.size w W1) := by rw [hW1]; exact hb0.trans (hb1.mono hb0.size)
  have hne : g2 < g4 := by omega
  have hlo : w.heap.size ≤ g2 := by omega
  rw [← hW1, ← hg4, ← hg2]
  clear hg4 hg4'
  clear hb0 hb1 hW1 hg2
  have ERR : Hid (∀ (V : World) (k : Nat), Below w.heap.size w V → Blk V g2 44 zeroP → getP b = .error k → Blk (V.setRow g2 zeroP) g2 44 zeroP ∧ GetPk w b (.returned (.tuple #[.agg zeroP, .int .i64 (k : Int)])) (V.setRow g2 zeroP)) :=
    fun V k hb h2 he => ⟨setRow_any h2, below_fr hb (setRow_fr V g2 zeroP) (Nat.le_refl _) (fun i e => by have e' : i = g2 := e; omega), .inr ⟨k, he, rfl⟩⟩
  by_cases h12 : (n : Int) < 12
  · have HE : Hid (getP b = .error 40) := getP_short (by rw [← HN.out]; omega)
    have HZ := Lib.hid (ERR.out W1 40 HB1.out HG1.out HE.out)
    go_wp2_with (first | refine wpList_load_row rfl 44 _ rfl g4 rfl 44 zeroP (0, 0) _ HP1.out Try.underlying44 rfl pk_info ?_ | refine wpList_store_row rfl 44 _ _ rfl g2 zeroP rfl rfl 44 _ HG1.out pk_info rfl (pk_one _ _ _ _ rfl) ?_)
    (try simp only [Exit.inBlock, Exit.then])
    refine bodyPost_ret (res_pk rfl _ _ g2 _ rfl HZ.out.1 rfl) rfl ?_
    exact HZ.out.2
  by_cases hbig : (1200 : Int) < (n : Int)
  · have HE : Hid (getP b = .error 43) := getP_long (by rw [← HN.out]; omega)
    have HZ := Lib.hid (ERR.out W1 43 HB1.out HG1.out HE.out)
    go_wp2_with (first | refine wpList_load_row rfl 44 _ rfl g4 rfl 44 zeroP (0, 0) _ HP1.out Try.underlying44 rfl pk_info ?_ | refine wpList_store_row rfl 44 _ _ rfl g2 zeroP rfl rfl 44 _ HG1.out pk_info rfl (pk_one _ _ _ _ rfl) ?_)
    (try simp only [Exit.inBlock, Exit.then])
    refine bodyPost_ret (res_pk rfl _ _ g2 _ rfl HZ.out.1 rfl) rfl ?_
    exact HZ.out.2
  have hn12 : 12 ≤ n := by omega
  have hn20 : n ≤ 1200 := by omega
  go_upto_region 6 with fail
  obtain ⟨sl, hsl⟩ : ∃ s : Bool, s = (sealL b 8 == b) := ⟨_, rfl⟩
  have HSL : Hid (sl = true ↔ sealL b 8 = b) := by rw [hsl]; exact beq_iff_eq
  have hsl2 : (sealL b 8 == b) = sl := hsl.symm
  clear hsl
  have HSTT : Hid (Below W1.heap.size W1 W1.drew) := Below.drew (Below.refl _ _)
  have HSEAL := Lib.hid (fun (V : World) (hb : Below W1.heap.size W1 V) => Crc.rseal_any A b cap 8 V (by rw [← HN.out]; exact hnc) hcm (by rw [← HN.out]; omega) (((HY.out.below HB1.out).below (hb.mono HB1.out.size)).more (Nat.le_trans HB1.out.size hb.size)) (by rw [← HN.out]; omega))
  rw [← HN.out] at HSEAL
  go_cut [23] from 18 to 23 (fun s wx => s = .bool (!sl) ∧ Hid (Below W1.heap.size W1 wx))
  case first =>
    refine wp_region_stage (fun V V' => Below V.heap.size V V') (fun m V => Hid (Below W1.heap.size W1 V)) [(false, .exact (.slice A n cap)),
        (false, .grows (RowB (sealL b 8))),
        (false, .exact (.string ⟨(sealL b 8).toArray⟩)),
        (false, .exact (.slice A n cap)),
        (false, .exact (.string ⟨b.toArray⟩)),
        (false, .exact (.bool (!sl)))] (by kernel_rfl) (by kernel_rfl) (by kernel_rfl) rfl ?lasts ?start ?walk
    case lasts => exact ⟨fun v V V' h k => by obtain ⟨A3, c3, rfl, h⟩ := h; exact ⟨A3, c3, rfl, (h.below k).more k.size⟩, trivial⟩
    case start => exact HSTT
    case walk =>
      refine stage_pure rfl (fun V => Below.refl _ V) (fun V m hS hl => by go_simp) ?_
      simp only [Act.put, List.setIfInBounds_toArray, List.set_cons_zero, List.set_cons_succ, List.cons_append, List.nil_append]
      refine stage_grows rfl (fun V m hS hl => by
          go_simp
          refine (HSEAL.out V hS.out).mono ?_
          rintro e V' ⟨v, rfl, ho, hb⟩
          obtain ⟨A3, c3, rfl, _, _, hy3⟩ := own_as (n := (sealL b 8).length) ho rfl
          exact ⟨_, rfl, hb, ⟨A3, c3, rfl, hy3.out⟩, hS.out.trans (hb.mono hS.out.size)⟩) (fun v19 => ?_)
      simp only [Act.put, List.setIfInBounds_toArray, List.set_cons_zero, List.set_cons_succ, List.cons_append, List.nil_append]
      refine stage_pure rfl (fun V => Below.refl _ V) (fun V m hS hl => by
          obtain ⟨A3, c3, rfl, h⟩ := (hl.1 (by kernel_rfl))
          have hcv := run_str (P := Try.prog) h 22 9 5 Try.underlying22 Try.underlying5 Try.underlying9 (sealL b 8).length c3 rfl
          go_simp) ?_
      simp only [Act.put, List.setIfInBounds_toArray, List.set_cons_zero, List.set_cons_succ, List.cons_append, List.nil_append]
      refine stage_pure rfl (fun V => Below.refl _ V) (fun V m hS hl => by go_simp) ?_
      simp only [Act.put, List.setIfInBounds_toArray, List.set_cons_zero, List.set_cons_succ, List.cons_append, List.nil_append]
      refine stage_pure rfl (fun V => Below.refl _ V) (fun V m hS hl => by
          have hcv := run_str (P := Try.prog) ((HY.out.below HB1.out).below (hS.out.mono HB1.out.size)) 22 9 5 Try.underlying22 Try.underlying5 Try.underlying9 n cap HN.out
          go_simp) ?_
      simp only [Act.put, List.setIfInBounds_toArray, List.set_cons_zero, List.set_cons_succ, List.cons_append, List.nil_append]
      refine stage_pure rfl (fun V => Below.refl _ V) (fun V m hS hl => by go_simp) ?_
      simp only [Act.put, List.setIfInBounds_toArray, List.set_cons_zero, List.set_cons_succ, List.cons_append, List.nil_append]
      refine stage_nil (fun V2 hS hF => ?_)
      have HQ := Lib.hid hS.out
      clear hS hF
      go_wp2_with fail
      go_meet
      exact ⟨rfl, HQ⟩
  case rest =>
  obtain ⟨rfl, HB12⟩ := hcut
  obtain ⟨W2, hW2⟩ : ∃ W, W = wc := ⟨_, rfl⟩
  rw [← hW2] at HB12 ⊢
  have HB2 : Hid (Below w.heap.size w W2) := HB1.out.trans (HB12.out.mono HB1.out.size)
  have HG2 : Hid (Blk W2 g2 44 zeroP) := HG1.out.below HB12.out HG1.out.lt
  have HP2 : Hid (Blk W2 g4 44 zeroP) := HP1.out.below HB12.out HP1.out.lt
  clear hW2 HB12 HG1 HP1 HB1 HSEAL HSTT hsl2
  cases sl
  · have HE : Hid (getP b = .error 70) := getP_sum (by rw [← HN.out]; exact hn12) (by rw [← HN.out]; exact hn20) (fun h => by have := HSL.out.2 h; cases this)
    have HZ := Lib.hid (ERR.out W2 70 HB2.out HG2.out HE.out)
    go_wp2_with (first | refine wpList_load_row rfl 44 _ rfl g4 rfl 44 zeroP (0, 0) _ HP2.out Try.underlying44 rfl pk_info ?_ | refine wpList_store_row rfl 44 _ _ rfl g2 zeroP rfl rfl 44 _ HG2.out pk_info rfl (pk_one _ _ _ _ rfl) ?_)
    (try simp only [Exit.inBlock, Exit.then])
    refine bodyPost_ret (res_pk rfl _ _ g2 _ rfl HZ.out.1 rfl) rfl ?_
    exact HZ.out.2
  have HREST := Lib.hid (getP_rest (by rw [← HN.out]; exact hn12) (by rw [← HN.out]; exact hn20) (HSL.out.1 rfl))
  have HYV : Hid (∀ V', Below w.heap.size w V' → Byt V' w.heap.size A b) := fun V' hb => HY.out.below hb
  go_upto_region 9 with fail
  obtain ⟨p, hp⟩ : ∃ p, p = W2.heap.size := ⟨_, rfl⟩
  obtain ⟨W3, hW3⟩ : ∃ W, W = W2.alloc (.cells #[.slice A n cap, .int .i64 0, .bool false] 81) := ⟨_, rfl⟩
  have HS3 : Hid (RHt w W3 g2 g4 p 0 0 0 A cap b 0) := by
    have hb := (Below.refl W2.heap.size W2).alloc (Nat.le_refl _) (.cells #[.slice A n cap, .int .i64 0, .bool false] 81)
    rw [← hW3] at hb
    refine ⟨⟨by rw [hW3, hp, HN.out]; exact Blk.new _ _ _, (HYV.out W3 (HB2.out.trans (hb.mono HB2.out.size))).more (by rw [hp]; exact HB2.out.size), Nat.zero_le _, by rw [← HN.out]; exact hnc, hcm⟩, HP2.out.below hb HP2.out.lt, HG2.out.below hb HG2.out.lt, HB2.out.trans (hb.mono HB2.out.size), hlo, hne, by rw [hp]; exact HP2.out.lt⟩
  rw [← hW3, ← hp]
  clear hW3 hp HP2 HG2 HB2 HSL
  go_wp2_with fail
  refine (num_yes (n := 2) HS3.out.tp (by rw [← HN.out]; omega) (by omega)).mono ?_
  rintro e V4 hd
  obtain ⟨rfl, h4⟩ := HS3.out.num_ hd
  have H4 := Lib.hid h4
  obtain ⟨f, hf⟩ : ∃ f, f = num (b.take 2) := ⟨_, rfl⟩
  have HF := Lib.hid hf
  have hfb : f < 65536 := by rw [hf]; exact num2_lt _ (by rw [List.length_take]; omega)
  rw [List.drop_zero, ← hf]
  have wf : IntKind.u16.wrap (f : Int) = (f : Int) := by simp [IntKind.wrap, IntKind.bits, IntKind.signed]; omega
  have x0 : V4.cell? ⟨g4, 0, none⟩ = some (.int .u16 0) := H4.out.pk.cell 0
  have z0 := Blk.frozen H4.out.pk 0
  clear hd h4 hf HS3
  go_upto_region 10 with fail
  obtain ⟨W4, hW4⟩ : ∃ W, W = V4.setCell ⟨g4, 0, none⟩ (.int .u16 (f : Int)) := ⟨_, rfl⟩
  have HS4 : Hid (RHt w W4 g2 g4 p f 0 0 A cap b 2) := by rw [hW4]; exact H4.out.store (i := 0) rfl HYV.out
  rw [← hW4]
  clear hW4 x0 z0 wf H4
  go_wp2_with fail
  refine (num_yes (n := 2) HS4.out.tp (by rw [← HN.out]; omega) (by omega)).mono ?_
  rintro e V5 hd
  obtain ⟨rfl, h5⟩ := HS4.out.num_ hd
  have H5 := Lib.hid h5
  obtain ⟨t, ht⟩ : ∃ f, f = num ((b.drop 2).take 2) := ⟨_, rfl⟩
  have HT := Lib.hid ht
  have htb : t < 65536 := by rw [ht]; exact take2 b 2
  rw [← ht]
  have wf : IntKind.u16.wrap (t : Int) = (t : Int) := by simp [IntKind.wrap, IntKind.bits, IntKind.signed]; omega
  have x0 : V5.cell? ⟨g4, 1, none⟩ = some (.int .u16 0) := H5.out.pk.cell 1
  have z0 := Blk.frozen H5.out.pk 1
  clear hd h5 ht HS4
  go_upto_region 11 with fail
  obtain ⟨W5, hW5⟩ : ∃ W, W = V5.setCell ⟨g4, 1, none⟩ (.int .u16 (t : Int)) := ⟨_, rfl⟩
  have HS5 : Hid (RHt w W5 g2 g4 p f t 0 A cap b 4) := by rw [hW5]; exact H5.out.store (i := 1) rfl HYV.out
  rw [← hW5]
  clear hW5 x0 z0 wf H5
  go_wp2_with fail
  refine (num_yes (n := 4) HS5.out.tp (by rw [← HN.out]; omega) (by omega)).mono ?_
  rintro e V6 hd
  obtain ⟨rfl, h6⟩ := HS5.out.num_ hd
  have H6 := Lib.hid h6
  obtain ⟨g, hg⟩ : ∃ f, f = num ((b.drop 4).take 4) := ⟨_, rfl⟩
  have HG := Lib.hid hg
  have hgb : g < 4294967296 := by rw [hg]; exact take4 b 4
  rw [← hg]
  have wf : IntKind.u32.wrap (g : Int) = (g : Int) := by simp [IntKind.wrap, IntKind.bits, IntKind.signed]; omega
  have x0 : V6.cell? ⟨g4, 2, none⟩ = some (.int .u32 0) := H6.out.pk.cell 2
  have z0 := Blk.frozen H6.out.pk 2
  clear hd h6 hg HS5
  go_upto_region 12 with fail
  obtain ⟨W6, hW6⟩ : ∃ W, W = V6.setCell ⟨g4, 2, none⟩ (.int .u32 (g : Int)) := ⟨_, rfl⟩
  have HS6 : Hid (RHt w W6 g2 g4 p f t g A cap b 8) := by rw [hW6]; exact H6.out.store (i := 2) rfl HYV.out
  rw [← hW6]
  clear hW6 x0 z0 wf H6
  obtain ⟨B0, hB0⟩ : ∃ B, B = W6.heap.size := ⟨_, rfl⟩
  have HS7 : Hid (RGt w W6 B0 g2 g4 f t g b 12 (.slice none 0 0) []) := ⟨OwnCks.nil _ _, by rw [consP_nil], HS6.out.pk, HS6.out.b2, HS6.out.below, hlo, hne, by rw [hB0]; exact HS6.out.pk.lt, by rw [hB0]; exact Nat.le_refl _⟩
  have HBW : Hid (w.heap.size ≤ B0) := by rw [hB0]; exact HS6.out.below.size
  obtain ⟨ad, rfl, _, _⟩ := HY.out.at_byte (show 0 < b.length by rw [← HN.out]; omega)
  clear hB0 HS6 HYV h12 hbig
  have HFTG : Hid (f = num (b.take 2) ∧ t = num ((b.drop 2).take 2) ∧ g = num ((b.drop 4).take 4)) := ⟨HF.out, HT.out, HG.out⟩
  clear HF HT HG
  go_wp2_with fail
  go_loopw [3, 6, 7, 8, 9] (fun _ s6 _ _ _ wr => ∃ (j k cp : Nat) (As : Option Addr) (acc : List Ck), s6 = .int .i64 (j : Int) ∧ j ≤ n ∧ 4 * k + 12 ≤ j ∧ k ≤ cp ∧ cp ≤ 9223372036854775807 ∧ Hid (k = acc.length) ∧ Hid (RGt w wr B0 g2 g4 f t g b j (.slice As k cp) acc)) (fun _ s6 _ _ _ _ => n - (intOf s6).toNat)
  case atStart => exact ⟨12, 0, 0, none, [], rfl, by omega, by omega, by omega, by omega, rfl, HS7⟩
  case round =>
    obtain ⟨j, k, cp, As, acc, rfl, hjn, hkj, hkc, hcm1, HK, HS⟩ := hrel
    by_cases hlt : j < n
    rotate_left
    · obtain rfl : j = n := by omega
      have HR : Hid (b.drop j = []) := List.eq_nil_of_length_eq_zero (by rw [List.length_drop, ← HN.out]; omega)
      have HCH : Hid (chunksP (b.drop 12) = .ok acc) := by have := HS.out.eq; rw [HR.out, chunksP_nil] at this; rw [this]; show consP acc (.ok []) = _; simp [consP]
      have x3 : wr.cell? ⟨g4, 3, none⟩ = some (.slice As k cp) := HS.out.pk.cell 3
      obtain ⟨F, hF⟩ : ∃ F, F = fitsL acc := ⟨_, rfl⟩
      have HF := Lib.hid hF
      have hcall := rfits_k (n := k) (c := cp) HS.out.own.cks (Nat.le_refl _) HK.out (by omega)
      rw [← hF] at hcall
      have HCALL := Lib.hid hcall
      clear hF hcall
      go_wp2_with fail
      refine HCALL.out.mono ?_
      rintro e W4 ⟨rfl, hb4⟩
      have HS4 := Lib.hid (HS.out.grows hb4)
      clear hb4 HS HCALL x3
      cases F
      · have HE : Hid (getP b = .error 42) := by rw [HREST.out, HCH.out]; show (if fitsL acc = true then _ else _) = _; rw [← HF.out]; rfl
        have HZ := Lib.hid (ERR.out W4 42 HS4.out.below HS4.out.b2 HE.out)
        go_wp2_with (first | refine wpList_build_none rfl 44 rfl _ pk_none ?_ | refine wpList_store_row rfl 44 _ _ rfl g2 zeroP rfl rfl 44 _ HS4.out.b2 pk_info rfl (pk_one _ _ _ _ rfl) ?_)
        (try simp only [Exit.inBlock, Exit.then])
        refine bodyPost_ret (res_pk rfl _ _ g2 _ rfl HZ.out.1 rfl) rfl ?_
        exact HZ.out.2
      have HOK : Hid (getP b = .ok (f, t, g, acc)) := by rw [HREST.out, HCH.out, HFTG.out.1, HFTG.out.2.1, HFTG.out.2.2]; show (if fitsL acc = true then _ else _) = _; rw [← HF.out]; rfl
      go_wp2_with (first
        | refine wpList_load_row rfl 44 _ rfl g4 rfl 44 (pkV f t g (.slice As k cp)) (0, 0) _ HS4.out.pk Try.underlying44 rfl pk_info ?_
        | refine wpList_store_row rfl 44 _ _ rfl g2 (pkV f t g (.slice As k cp)) rfl rfl 44 _ HS4.out.b2 pk_info rfl (pk_one _ _ _ _ rfl) ?_)
      (try simp only [Exit.inBlock, Exit.then])
      refine bodyPost_ret (res_pk rfl _ _ g2 _ rfl (setRow_any HS4.out.b2) rfl) rfl ?_
      refine ⟨below_fr HS4.out.below (setRow_fr W4 g2 _) (Nat.le_refl _) (fun i e => by have e' : i = g2 := e; omega), .inl ⟨f, t, g, _, acc, HOK.out, rfl, ?_, hfb, htb, hgb⟩⟩
      exact (HS4.out.own.fr (setRow_fr W4 g2 _) (fun i e _ => by have e' : i = g2 := e; have := HS4.out.gB; have := HS4.out.ne; omega)).mono HBW.out
    obtain ⟨r, hr⟩ : ∃ r, r = b.drop j := ⟨_, rfl⟩
    obtain ⟨m, hm⟩ : ∃ m, m = n - j := ⟨_, rfl⟩
    obtain ⟨c0, hc0⟩ : ∃ c, c = cap - j := ⟨_, rfl⟩
    have HM : Hid (m = r.length) := by rw [hr, List.length_drop, ← HN.out]; exact hm
    have hm1 : (n : Int) - (j : Int) = (m : Int) := by omega
    have hm2 : n - j = m := hm.symm
    have hm3 : cap - j = c0 := hc0.symm
    have hm4 : (j : Int) ≤ (n : Int) := by omega
    have hm5 : (n : Int) ≤ (cap : Int) := by omega
    have hm6 : ¬ cap = j := by omega
    have hmc : m ≤ c0 := by omega
    have hcm0 : c0 ≤ 9223372036854775807 := by omega
    have hm20 : m ≤ 200000 := by omega
    have hrl : 0 < r.length := by rw [← HM.out]; omega
    have HRN : Hid (r ≠ []) := by intro h; rw [h] at hrl; simp at hrl
    have HYR : Hid (Byt w w.heap.size (some (ad.add j)) r) := by rw [hr]; exact HY.out.cut_map (k := j) (by rw [← HN.out]; exact hjn)
    have HEQ0 : Hid (chunksP (b.drop 12) = consP acc (chunksP r)) := by rw [hr]; exact HS.out.eq
    have HRD : Hid (∀ i, r.drop i = b.drop (j + i)) := fun i => by rw [hr, List.drop_drop]
    have bget : ∀ i, j + i < n → ∃ y : UInt8, (b.drop j)[i]? = some y ∧ w.cell? (ad.add (j + i)) = some (.int .u8 (y.toNat : Int)) := fun i hi => by
      obtain ⟨ad', e, _, hc⟩ := HY.out.at_byte (k := j + i) (by rw [← HN.out]; exact hi)
      injection e with e
      subst e
      exact ⟨_, by rw [List.getElem?_drop, List.getElem?_eq_getElem (by rw [← HN.out]; exact hi)], hc⟩
    have HBG := Lib.hid bget
    have HRE := Lib.hid hr
    obtain ⟨kd, hkd⟩ : ∃ kd, kd = (r[0]).toNat := ⟨_, rfl⟩
    have hkb : kd < 256 := by rw [hkd]; exact (r[0]).toNat_lt
    have HKD : Hid (kd = num (r.take 1)) := by rw [first_byte hrl]; exact hkd
    have HC0 : Hid (w.cell? (ad.add j) = some (.int .u8 (kd : Int))) := by
      obtain ⟨y, h1, h2⟩ := bget 0 (by omega)
      rw [← hr, List.getElem?_eq_getElem hrl] at h1
      injection h1 with h1
      rw [hkd, h1]
      exact h2
    have had : (ad.add j).block < w.heap.size := World.block_lt_of_cell? w _ HC0.out
    have HGET := Lib.hid (rget_k HM.out hm20 hmc hcm0 ((HYR.out.below HS.out.below).more HS.out.below.size))
    clear hr hm hc0 hkd bget
    go_wp2_with fail
    refine HGET.out.mono ?_
    rintro e W3 hd
    obtain ⟨kk, nn, cs, c, rfl, hb3, ho3, ok3, hn3, hn65, hw3⟩ := get_norm hd
    have HW := Lib.hid hw3
    have HO := Lib.hid ho3
    have HOK := Lib.hid ok3
    have HSZ := Lib.hid ho3.size
    have HONE := Lib.hid (ho3.at_ ok3).one
    have HARR := Lib.hid ho3.arr
    have HSX := Lib.hid (HS.out.grows hb3)
    have HLB : Hid (B0 ≤ wr.heap.size) := HS.out.size
    have hkk : kk ≤ 100 := by
      rcases hw3 with ⟨rfl, _⟩ | ⟨_, h2, _⟩
      · omega
      · exact (getC_err h2).2
    have hnm : nn ≤ m := by rw [HM.out]; exact hn3
    clear hd hw3 ho3 ok3 hb3 HGET hn3 HS hm2 hm3 hm6
    go_upto_region 15 with (refine wpList_store_row rfl 32 _ _ rfl W3.heap.size cs rfl rfl 32 _ (Blk.new W3 32 _) (by rw [HSZ.out]; exact chunk_info) (by rw [HSZ.out]; rfl) HONE.out ?_)
    obtain ⟨W4, hW4, HC4, HB4⟩ := kept_var W3 cs
    obtain ⟨g7, hg7⟩ : ∃ g7, g7 = W3.heap.size := ⟨_, rfl⟩
    rw [← hg7] at HC4
    rw [← hW4, ← hg7]
    have HG7 := Lib.hid HC4
    have HS4 := Lib.hid (HSX.out.grows HB4)
    have HO4 : Hid (CkOwn W4 B0 cs c) := (HO.out.grows HB4).mono HLB.out
    have f0 : W4.cell? (ad.add j) = some (.int .u8 (kd : Int)) := (HS4.out.below.cell had).trans HC0.out
    clear hW4 hg7 HC4 HB4 HSX HO HC0
    by_cases hk0 : kk = 0
    · subst hk0
      have HGC : Hid (getC r = .ok (c, nn)) := by
        rcases HW.out with ⟨_, h⟩ | ⟨h, _⟩
        · exact h
        · exact absurd rfl h
      have hp := stepP_pos (step_ok HGC.out)
      have HEQ := Lib.hid (chunks_on HEQ0.out HRN.out (step_ok HGC.out))
      rw [HRD.out] at HEQ
      obtain ⟨xs, hx1, hx2⟩ := id HS4.out.own
      have HX0 := Lib.hid hx1
      have HX1 : Hid (W4.ownsRow B0 32 19 (.slice As k cp) k xs) := by have := hx1; rw [← HK.out] at this; exact this
      have HX2 := Lib.hid hx2
      have hBs := HS4.out.size
      have hp4 : 4 ≤ nn := hp.1
      have hjn2 : j + nn ≤ n := by omega
      have hkj2 : 4 * (k + 1) + 12 ≤ j + nn := by omega
      have x3 : W4.cell? ⟨g4, 3, none⟩ = some (.slice As k cp) := HS4.out.pk.cell 3
      clear hx1 hx2 hp HGC HW f0 hm1 hm4 hm5
      go_wp2_with (first
        | (refine wpList_load_row rfl 32 _ rfl g7 rfl 32 cs (0, 0) _ HG7.out Try.underlying32 rfl (by rw [HSZ.out]; exact chunk_info) ?_)
        | (refine wpList_slice_ck rfl _ rfl cs rfl HARR.out ?_)
        | (at_builtin; refine wpList_append_any _ rfl (.tmp 85) (.tmp 87) _ rfl B0 32 j0 _ 19 160 Try.underlying42 hj0 hjz0 hjz1 hjz2 rfl (by omega) (.slice As k cp) k xs rfl (HX1.out.alloc _) (W4.heap.size + 1) (some ⟨W4.heap.size, 0, none⟩) 1 1 cs.toList rfl (blk_reads (Blk.new W4 32 cs) (by simpa using HSZ.out)) (ck_cells1 HARR.out HONE.out) (by simp only [maxLen]; omega) (by omega) (Nat.le_trans hBs (by simp)) ?_; intro v7 w7 hown7 hg7 hat7; have HB8 := Lib.hid ((Below.refl W4.heap.size W4).alloc (Nat.le_refl _) (.cells cs 32)); have HSA := Lib.hid (HS4.out.grows HB8.out); have HNEW := Lib.hid (HSA.out.more (n := k + 1) (HX0.out.alloc _) (fun i c' hc' => by obtain ⟨h3, cs', h4, h5⟩ := HX2.out i c' hc'; exact ⟨h3, cs', h4, h5.grows HB8.out⟩) hg7 hown7 (by rw [← HK.out]) (HO4.out.grows HB8.out) HOK.out HEQ.out); obtain ⟨A7, c7, rfl, h7a, h7b⟩ := own_slice hown7; have hpk := HSA.out.pk.grown hg7 (fun e => by have := ((HX0.out.alloc (.cells cs 32)).lt g4 e.symm).1; have := HSA.out.gB; omega); have y3 : w7.cell? ⟨g4, 3, none⟩ = some (.slice As k cp) := hpk.cell 3; have z3 := Blk.frozen hpk 3; clear hown7 hg7 hat7 hpk))
      go_roundw
      case rel => exact ⟨j + nn, k + 1, c7, A7, acc ++ [c], by go_num, hjn2, hkj2, h7a, h7b, by rw [List.length_append, ← HK.out]; rfl, HNEW⟩
      case measure => simp [intOf]; omega
    have HGE : Hid (getC r = .error kk) := by
      rcases HW.out with ⟨h, _⟩ | ⟨_, h, _⟩
      · exact absurd h hk0
      · exact h
    have hne0 : ((kk : Int) != 0) = true := by simp; omega
    have hji : (j : Int) < (n : Int) := by omega
    by_cases h60 : kk = 60
    · by_cases h8 : 128 ≤ kd
      · subst h60
        have h8i : decide ((kd : Int) ≥ 128) = true := by simp; omega
        have h8j : (128 : Int) ≤ (kd : Int) := by omega
        have hsk := step_skip HGE.out (by rw [← HKD.out]; exact h8)
        have hp := stepP_pos hsk
        obtain ⟨g60a, _, _, _⟩ := getC_60 HGE.out
        obtain ⟨ml, hml⟩ : ∃ ml, ml = num ((r.drop 2).take 2) := ⟨_, rfl⟩
        rw [← hml] at hsk hp
        obtain ⟨nk, hnk⟩ : ∃ nk, nk = (ml + 3) / 4 * 4 := ⟨_, rfl⟩
        rw [← hnk] at hsk hp
        have HEQ := Lib.hid (chunks_on HEQ0.out HRN.out hsk)
        rw [HRD.out, List.append_nil] at HEQ
        have hrm : r.length = m := HM.out.symm
        obtain ⟨y2, hy2, hc2⟩ := HBG.out 2 (by omega)
        obtain ⟨y3, hy3, hc3⟩ := HBG.out 3 (by omega)
        obtain ⟨b2, hb2⟩ : ∃ v, v = y2.toNat := ⟨_, rfl⟩
        obtain ⟨b3, hb3⟩ : ∃ v, v = y3.toNat := ⟨_, rfl⟩
        have hb2' : b2 < 256 := by rw [hb2]; exact y2.toNat_lt
        have hb3' : b3 < 256 := by rw [hb3]; exact y3.toNat_lt
        have hml2 : ml = 256 * b2 + b3 := by
          rw [hml, num_two _ (by rw [List.length_drop]; omega), hb2, hb3]
          have e2 : (r.drop 2)[0]'(by rw [List.length_drop]; omega) = y2 := by
            rw [← HRE.out] at hy2
            rw [List.getElem_drop]
            have := List.getElem?_eq_getElem (l := r) (i := 2) (by omega)
            rw [hy2] at this; injection this with this; exact this.symm
          have e3 : (r.drop 2)[1]'(by rw [List.length_drop]; omega) = y3 := by
            rw [← HRE.out] at hy3
            rw [List.getElem_drop]
            have := List.getElem?_eq_getElem (l := r) (i := 3) (by omega)
            rw [hy3] at this; injection this with this; exact this.symm
          rw [e2, e3]
        rw [← hb2] at hc2
        rw [← hb3] at hc3
        have hd2 : (ad.add (j + 2)).block < w.heap.size := World.block_lt_of_cell? w _ hc2
        have hd3 : (ad.add (j + 3)).block < w.heap.size := World.block_lt_of_cell? w _ hc3
        have f2 : W4.cell? (ad.add (j + 2)) = some (.int .u8 (b2 : Int)) := (HS4.out.below.cell hd2).trans hc2
        have f3 : W4.cell? (ad.add (j + 3)) = some (.int .u8 (b3 : Int)) := (HS4.out.below.cell hd3).trans hc3
        obtain ⟨j2, hj2⟩ : ∃ j2, j2 = j + 2 := ⟨_, rfl⟩
        obtain ⟨j3, hj3⟩ : ∃ j3, j3 = j + 3 := ⟨_, rfl⟩
        rw [← hj2] at f2
        rw [← hj3] at f3
        have i2 : (j : Int) + 2 = (j2 : Int) := by omega
        have i3 : (j : Int) + 3 = (j3 : Int) := by omega
        have l2 : (j2 : Int) < (n : Int) := by omega
        have l3 : (j3 : Int) < (n : Int) := by omega
        have w2 : IntKind.i64.wrap (b2 : Int) = (b2 : Int) := IntWalk.i64_in _ (by omega)
        have w3 : IntKind.i64.wrap (b3 : Int) = (b3 : Int) := IntWalk.i64_in _ (by omega)
        have w5 : 256 * (b2 : Int) + (b3 : Int) = (ml : Int) := by omega
        have w6 : ((ml : Int) + 3) / 4 * 4 = (nk : Int) := by omega
        have w7 : (((ml : Int) + 3).tdiv 4) * 4 = (nk : Int) := by
          rw [show (ml : Int) + 3 = ((ml + 3 : Nat) : Int) by omega, show (((ml + 3 : Nat) : Int).tdiv 4) = (((ml + 3) / 4 : Nat) : Int) from (Int.ofNat_tdiv _ _).symm]
          omega
        have hjn2 : j + nk ≤ n := by omega
        have hkj2 : 4 * k + 12 ≤ j + nk := by omega
        have hp4 : 4 ≤ nk := hp.1
        have hml6 : ml < 65536 := by omega
        clear hsk hp hnk hml HW HGE h8 hy2 hy3 hc2 hc3 hb2 hb3 hd2 hd3 hj2 hj3 hml2 hm1 hm4 hm5 hrm g60a
        go_upto_region 16 with fail
        go_quiet (fail)
        obtain ⟨W5, hW5⟩ : ∃ W, W = W4.drewN nq := ⟨_, rfl⟩
        have HSN : Hid (RGt w W5 B0 g2 g4 f t g b (j + nk) (.slice As k cp) acc) := by rw [hW5]; exact (HS4.out.grows (below_drewN (Below.refl _ _) nq)).at_ HEQ.out
        rw [← hW5]
        clear hW5
        go_wp2_with fail
        go_roundw
        case rel => exact ⟨j + nk, k, cp, As, acc, by go_num, hjn2, hkj2, hkc, hcm1, HK, HSN⟩
        case measure => simp [intOf]; omega
      · subst h60
        have h8i : decide ((kd : Int) ≥ 128) = false := by simp; omega
        have h8j : ¬ (128 : Int) ≤ (kd : Int) := by omega
        have HCE := Lib.hid (chunks_end HEQ0.out HRN.out (step_err HGE.out (by rw [← HKD.out]; exact fun h => h8 h.2)))
        have HE : Hid (getP b = .error 60) := by rw [HREST.out, HCE.out]; rfl
        have HZ := Lib.hid (ERR.out W4 60 HS4.out.below HS4.out.b2 HE.out)
        clear h8 hm1 hm4 hm5
        go_wp2_with (first | refine wpList_build_none rfl 44 rfl _ pk_none ?_ | refine wpList_store_row rfl 44 _ _ rfl g2 zeroP rfl rfl 44 _ HS4.out.b2 pk_info rfl (pk_one _ _ _ _ rfl) ?_)
        (try simp only [Exit.inBlock, Exit.then])
        refine bodyPost_ret (res_pk rfl _ _ g2 _ rfl HZ.out.1 rfl) rfl ?_
        exact HZ.out.2
    · have hn60 : ((kk : Int) == 60) = false := by simp; omega
      have HCE := Lib.hid (chunks_end HEQ0.out HRN.out (step_err HGE.out (fun h => h60 h.1)))
      have HE : Hid (getP b = .error kk) := by rw [HREST.out, HCE.out]; rfl
      have HZ := Lib.hid (ERR.out W4 kk HS4.out.below HS4.out.b2 HE.out)
      clear h60 hk0 hm1 hm4 hm5
      go_wp2_with (first | refine wpList_build_none rfl 44 rfl _ pk_none ?_ | refine wpList_store_row rfl 44 _ _ rfl g2 zeroP rfl rfl 44 _ HS4.out.b2 pk_info rfl (pk_one _ _ _ _ rfl) ?_)
      (try simp only [Exit.inBlock, Exit.then])
      refine bodyPost_ret (res_pk rfl _ _ g2 _ rfl HZ.out.1 rfl) rfl ?_
      exact HZ.out.2
end Go.Proofs.Ytpgklhecmafnbaa.Chk
