/-
  Packets: packet.Put.
-/
import Derived.Test.YtabkjgklmibagaaPk2
import Derived.Test.YtabkjgklmibagaaCrcSeal
set_option linter.unusedVariables false
set_option linter.unusedSimpArgs false
namespace Go.Proofs.Ytabkjgklmibagaa.Chk
open Go.ChangeShapes Go.WideShapes Go.ChangeAt Go.RowKit Go.Deep Go.Proofs.Ytabkjgklmibagaa.Words Go.Proofs.Ytabkjgklmibagaa.Oct Go.Proofs.Ytabkjgklmibagaa.Par
open Go.Proofs.Ytabkjgklmibagaa.Crc (sealL)

/-! ### how long -/
theorem fragE_le (c : Ck) : (fragE c).length ≤ 16 := by
  unfold fragE
  repeat' split
  all_goals (simp only [List.length_append, be_length]; omega)
theorem cont_le (c : Ck) : (cont c).length ≤ 2 * sizeC c + 20 := by
  have h0 := fragE_le c
  have hp := encL_le c.ps
  unfold cont sizeC
  repeat' split
  all_goals (try unfold greetE)
  all_goals (try unfold sackE)
  all_goals (try simp only [List.length_append, be_length, gapsE_length, dupsE_length, sksE_length, sksW_length, List.length_nil])
  all_goals omega
theorem bytesC_le (c : Ck) : (bytesC c).length ≤ 2 * sizeC c + 40 := by
  unfold bytesC
  rw [frame_len]
  have := cont_le c
  have h3 : padC (cont c).length ≤ 3 := by unfold padC; omega
  omega
theorem bodyB_le (ls : List Ck) : (bodyB ls).length ≤ 2 * sumC ls + 40 * ls.length := by
  induction ls with
  | nil => simp [bodyB]
  | cons c r ih =>
    rw [bodyB_cons, List.length_append, sumC_cons, List.length_cons]
    have := bytesC_le c
    omega
theorem sumC_take (ls : List Ck) (k : Nat) : sumC (ls.take k) ≤ sumC ls := by
  have h : sumC ls = sumC (ls.take k) + sumC (ls.drop k) := by
    unfold sumC
    rw [← List.sum_append, ← List.map_append, List.take_append_drop]
  omega
theorem bodyB_take (ls : List Ck) (k : Nat) : (bodyB (ls.take k)).length ≤ 2 * sumC ls + 40 * ls.length := by
  have h1 := bodyB_le (ls.take k)
  have h2 := sumC_take ls k
  have h3 : (ls.take k).length ≤ ls.length := by rw [List.length_take]; omega
  omega
/-- The packet's variable. -/
def pkV (f t g : Nat) (v : Value) : Array Value := #[.int .u16 (f : Int), .int .u16 (t : Int), .int .u32 (g : Int), v]
/-- Where Put stands: the packet's variable, the writer. -/
structure PPt (w V : World) (bp p : Nat) (pv v : Value) (f t g : Nat) (l : List UInt8) : Prop where
  wr : Wr V p w.heap.size v l
  pk : Blk V bp 47 (pkV f t g pv)
  below : Below w.heap.size w V
  bpp : bp < p
  lo : w.heap.size ≤ bp
section
variable {w V V' : World} {bp p : Nat} {pv v : Value} {f t g : Nat} {l l' : List UInt8} {e : Ending}
theorem PPt.step (h : PPt w V bp p pv v f t g l) (k : Wrote V p w.heap.size v l' e V') : ∃ v', e = .returned (.tuple #[]) ∧ Hid (PPt w V' bp p pv v' f t g l') := by
  obtain ⟨v', rfl, hw, hf, _⟩ := k
  refine ⟨v', rfl, hw, hf.blk h.pk ?_, below_fr h.below hf (Nat.le_refl _) ?_, h.bpp, h.lo⟩
  · rintro (e | e)
    · exact absurd e (by have := h.bpp; omega)
    · exact own_blk_ne h.wr.own h.pk (by decide) e.symm
  · rintro x (rfl | e)
    · have := h.bpp; have := h.lo; omega
    · exact (h.wr.own.lt x e.symm).1
theorem PPt.grows (h : PPt w V bp p pv v f t g l) (k : Below V.heap.size V V') : PPt w V' bp p pv v f t g l :=
  ⟨h.wr.grows k, h.pk.below k h.pk.lt, h.below.trans (k.mono h.below.size), h.bpp, h.lo⟩
theorem PPt.drew (h : PPt w V bp p pv v f t g l) : PPt w V.drew bp p pv v f t g l := h.grows (Below.drew (Below.refl _ _))
end
/-- What Put leaves. -/
def PutPk (w : World) (hd : List UInt8) (ls : List Ck) (e : Ending) (w' : World) : Prop :=
  (∃ (kk : Nat) (v : Value) (l : List UInt8), e = .returned (.tuple #[v, .int .i64 (kk : Int)]) ∧ kk ≤ 100 ∧ Own w' w.heap.size v l ∧ PutP hd ls kk l) ∧ Below w.heap.size w w'
theorem own_nil_ (w : World) (B : Nat) : Own w B (.slice none 0 0) [] := World.ownsRow_nil _ _ _ _
theorem allPuts_snoc {ls : List Ck} {k : Nat} (hk : k < ls.length) (h : AllPuts (ls.take k)) (hp : Puts ls[k]) : AllPuts (ls.take (k + 1)) := by
  rw [List.take_succ_eq_append_getElem hk]
  intro c hc
  rcases List.mem_append.1 hc with hc | hc
  · exact h c hc
  · simp only [List.mem_singleton] at hc
    rw [hc]; exact hp
theorem bad_at {ls : List Ck} {k e : Nat} (hk : k < ls.length) (h : AllPuts (ls.take k)) (he : PutErr ls[k] e) : BadL ls e :=
  ⟨ls.take k, ls[k], ls.drop (k + 1), by rw [← List.drop_eq_getElem_cons hk, List.take_append_drop], h, he⟩
set_option maxHeartbeats 8000000 in
set_option maxRecDepth 100000 in
theorem put_p {w : World} {n c f t g : Nat} {A : Option Addr} {ls : List Ck} (h : Cks w w.heap.size A ls) (hn : n = ls.length) (hs : sumC ls ≤ 300000) (hf : f < 65536) (ht : t < 65536) (hg : g < 4294967296) :
    Calls Try.prog 13 #[.agg (pkV f t g (.slice A n c))] w (PutPk w (headB f t g) ls) := by
  have HC := Lib.hid h
  have HN := Lib.hid hn
  have HSC := Lib.hid hs
  have hn6 : n ≤ 75000 := by have := sumC_len ls; omega
  obtain ⟨F, hF⟩ : ∃ F, F = fitsL ls := ⟨_, rfl⟩
  have HF := Lib.hid hF
  have HBL := Lib.hid (Blk.new w 47 (pkV f t g (.slice A n c)))
  have HB := Lib.hid ((Below.refl w.heap.size w).alloc (Nat.le_refl _) (.cells (pkV f t g (.slice A n c)) 47))
  clear h hn hs
  unfold pkV
  go_enter Try.func13, Try.ntmps13
  go_upto_region 1 with (fail)
  obtain ⟨W1, hW1⟩ : ∃ W1, W1 = w.alloc (.cells #[.int .u16 (f : Int), .int .u16 (t : Int), .int .u32 (g : Int), .slice A n c] 47) := ⟨_, rfl⟩
  have hW1' : W1 = w.alloc (.cells (pkV f t g (.slice A n c)) 47) := hW1
  rw [← hW1'] at HBL HB
  rw [← hW1]
  obtain ⟨bp, hbp⟩ : ∃ b, b = w.heap.size := ⟨_, rfl⟩
  have HG1 : Hid (Blk W1 bp 47 (pkV f t g (.slice A n c))) := by rw [hbp]; exact HBL
  have hlo : w.heap.size ≤ bp := by omega
  rw [← hbp]
  have c3 : W1.cell? ⟨bp, 3, none⟩ = some (.slice A n c) := HG1.out.cell 3
  clear hW1 hW1' HBL hbp
  go_wp2_with fail
  refine (formed_k (HC.out.below HB.out) HB.out.size HN.out (by omega)).mono ?_
  rintro e W2 ⟨rfl, hb2⟩
  have HB2 := Lib.hid (HB.out.trans (hb2.mono HB.out.size))
  have HG2 : Hid (Blk W2 bp 47 (pkV f t g (.slice A n c))) := HG1.out.below hb2 HG1.out.lt
  rw [← hF]
  clear c3 hb2 HG1 HB hF
  cases F
  · go_wp2_with fail
    go_ret2
    exact ⟨⟨42, _, [], rfl, by omega, own_nil_ _ _, .inl ⟨HF.out.symm, rfl, rfl⟩⟩, HB2.out⟩
  have HFI : Hid (1 ≤ n ∧ n ≤ 64) := by have := fitsL_iff.1 HF.out.symm; rw [← HN.out] at this; exact ⟨this.1, this.2.1⟩
  have HLE : Hid (∀ k, (bodyB (ls.take k)).length ≤ 602560) := fun k => by have h1 := bodyB_take ls k; have h2 := HSC.out; have h3 := HFI.out; rw [← HN.out] at h1; omega
  go_upto_region 4 with fail
  obtain ⟨W3, hW3⟩ : ∃ W3, W3 = W2.alloc (.cells #[.slice none 0 0] 62) := ⟨_, rfl⟩
  obtain ⟨p, hp⟩ : ∃ p, p = W2.heap.size := ⟨_, rfl⟩
  have HS3 : Hid (PPt w W3 bp p (.slice A n c) (.slice none 0 0) f t g []) := by
    have hb := (Below.refl W2.heap.size W2).alloc (Nat.le_refl _) (.cells #[.slice none 0 0] 62)
    have h0 := HG2.out.lt
    rw [hW3, hp]
    exact ⟨⟨Blk.new _ _ _, World.ownsRow_nil _ _ _ _⟩, HG2.out.below hb HG2.out.lt, HB2.out.trans (hb.mono HB2.out.size), h0, hlo⟩
  rw [← hW3, ← hp]
  clear hW3 hp HG2 HB2
  have q0 : W3.cell? ⟨bp, 0, none⟩ = some (.int .u16 (f : Int)) := HS3.out.pk.cell 0
  go_wp2_with fail
  refine (wr_u16 f hf HS3.out.wr HS3.out.below.size (by simp)).mono ?_
  intro e V4 hd
  obtain ⟨v4, rfl, HS4⟩ := HS3.out.step hd
  clear hd q0 HS3
  have q1 : V4.cell? ⟨bp, 1, none⟩ = some (.int .u16 (t : Int)) := HS4.out.pk.cell 1
  go_wp2_with fail
  refine (wr_u16 t ht HS4.out.wr HS4.out.below.size (by rw [List.length_append, be_length]; simp)).mono ?_
  intro e V5 hd
  obtain ⟨v5, rfl, HS5⟩ := HS4.out.step hd
  clear hd q1 HS4
  have q2 : V5.cell? ⟨bp, 2, none⟩ = some (.int .u32 (g : Int)) := HS5.out.pk.cell 2
  go_wp2_with fail
  refine (wr_u32 g hg HS5.out.wr HS5.out.below.size (by rw [List.length_append, List.length_append, be_length, be_length]; simp)).mono ?_
  intro e V6 hd
  obtain ⟨v6, rfl, HS6⟩ := HS5.out.step hd
  clear hd q2 HS5
  go_wp2_with fail
  refine (wr_u32 0 (by omega) HS6.out.wr HS6.out.below.size (by rw [List.length_append, List.length_append, List.length_append, be_length, be_length, be_length]; simp)).mono ?_
  intro e V7 hd
  obtain ⟨v7, rfl, HS7⟩ := HS6.out.step hd
  clear hd HS6
  obtain ⟨hd, hhd⟩ : ∃ hd, hd = headB f t g := ⟨_, rfl⟩
  have HHL : Hid (hd.length = 12) := by rw [hhd]; exact headB_len f t g
  have HS7 : Hid (PPt w V7 bp p (.slice A n c) v7 f t g hd) := by
    have e : hd = [] ++ be f 2 ++ be t 2 ++ be g 4 ++ be 0 4 := by rw [hhd]; unfold headB; simp only [List.nil_append, List.append_assoc]
    rw [e]; exact HS7.out
  rw [← hhd]
  have HHD := Lib.hid hhd
  have q3 : V7.cell? ⟨bp, 3, none⟩ = some (.slice A n c) := HS7.out.pk.cell 3
  clear hhd hf ht hg
  go_wp2_with fail
  go_loopw [2, 3, 6, 7, 8, 34] (fun _ _ _ _ _ i wr => ∃ (k : Nat) (v : Value), k ≤ n ∧ i = .int .i64 k ∧ Hid (PPt w wr bp p (.slice A n c) v f t g (hd ++ bodyB (ls.take k))) ∧ Hid (AllPuts (ls.take k))) (fun _ _ _ _ _ i _ => n - (intOf i).toNat)
  case atStart => exact ⟨0, v7, by omega, rfl, by rw [List.take_zero, bodyB_nil, List.append_nil]; exact HS7, fun c hc => by simp at hc⟩
  case round =>
    obtain ⟨k, v, hk, rfl, HS, HA⟩ := hrel
    by_cases hlt : k < n
    · have hk2 : k < ls.length := by rw [← HN.out]; exact hlt
      obtain ⟨ad, cs, rfl, hblk, hsz, hat, hcell⟩ := HC.out.nthw (Nat.le_refl _) HS.out.below hk2
      obtain ⟨ck, hck⟩ : ∃ ck, ck = ls[k] := ⟨_, rfl⟩
      rw [← hck] at hat
      have HSZ := Lib.hid hsz
      have HCELL := Lib.hid hcell
      have HONE := Lib.hid hat.one
      have HAT := Lib.hid hat
      have HCK := Lib.hid hck
      have HSM : Hid (Small ck) := small_size (by have h1 := sumC_mem (c := ck) (ls := ls) (by rw [hck]; exact List.getElem_mem _); have h2 := HSC.out; omega)
      clear hsz hat hcell hblk hck
      go_upto_region 11 with (first
        | (refine wpList_load_any rfl 42 _ rfl (ad.add (k * 19)) rfl cs _ HCELL.out Try.underlying42 rfl (by rw [HSZ.out]; exact chunk_info) ?_)
        | (refine wpList_store_row rfl 42 _ _ rfl wr.heap.size cs rfl rfl 42 _ (Blk.new wr 42 _) (by rw [HSZ.out]; exact chunk_info) (by rw [HSZ.out]; rfl) HONE.out ?_))
      obtain ⟨W2, hW2, HC2, HB2⟩ := kept_var wr cs
      obtain ⟨g0, hg0⟩ : ∃ g0, g0 = wr.heap.size := ⟨_, rfl⟩
      rw [← hg0] at HC2
      rw [← hW2, ← hg0]
      have HSW := Lib.hid (HS.out.grows HB2)
      have HG2 := Lib.hid HC2
      have HAT2 : Hid (CkAt W2 W2.heap.size cs ck) := (HAT.out.keep (fun q hq => HB2.cell (Nat.lt_of_lt_of_le hq HS.out.below.size))).more HSW.out.below.size
      clear hW2 hg0 HC2 HB2 HCELL HONE HAT HS
      go_wp2_with (refine wpList_load_row rfl 42 _ rfl g0 rfl 42 cs (0, 0) _ HG2.out Try.underlying42 rfl (by rw [HSZ.out]; exact chunk_info) ?_)
      refine (put_k HSM.out HAT2.out).mono ?_
      rintro e W3 ⟨hd2, hb3⟩
      have HSX := Lib.hid (HSW.out.grows hb3)
      rcases hd2 with ⟨v3, hp3, rfl, ho3⟩ | ⟨k3, hk3, rfl⟩
      · obtain ⟨y, hy⟩ : ∃ y, y = bytesC ck := ⟨_, rfl⟩
        rw [← hy] at ho3
        obtain ⟨ny, hny⟩ : ∃ ny, ny = y.length := ⟨_, rfl⟩
        obtain ⟨A3, c3, rfl, h3a, h3b, HY3⟩ := own_as ho3 hny
        have HT : Hid (bodyB (ls.take (k + 1)) = bodyB (ls.take k) ++ y) := by show _ = _; rw [List.take_succ_eq_append_getElem hk2, bodyB_snoc, hy, HCK.out]
        have HL2 : Hid ((hd ++ bodyB (ls.take k)).length ≤ 1000000 ∧ ny ≤ 1000000) := by
          have h1 := HLE.out k
          have h2 := HLE.out (k + 1)
          have h3 := HHL.out
          rw [HT.out, List.length_append, ← hny] at h2
          rw [List.length_append]
          exact ⟨by omega, by omega⟩
        have HA2 : Hid (AllPuts (ls.take (k + 1))) := allPuts_snoc hk2 HA.out (by rw [← HCK.out]; exact hp3)
        have HNY := Lib.hid hny
        clear hy hny ho3 hb3 hp3 HAT2 HG2 HSW
        go_wp2_with fail
        refine (wr_put HSX.out.wr HSX.out.below.size HL2.out.1 HNY.out HL2.out.2 HY3.out).mono ?_
        intro e V9 hd9
        obtain ⟨v9, rfl, HS9⟩ := HSX.out.step hd9
        have HS9 : Hid (PPt w V9 bp p (.slice (some ad) n c) v9 f t g (hd ++ bodyB (ls.take (k + 1)))) := by rw [HT.out, ← List.append_assoc]; exact HS9
        clear hd9 HSX
        go_wp2_with fail
        go_roundw
        case rel => exact ⟨k + 1, v9, by omega, by go_num, HS9, HA2⟩
        case measure => simp [intOf]; omega
      · have hkp := err_pos' hk3
        have HBAD : Hid (BadL ls k3) := bad_at hk2 HA.out (by rw [← HCK.out]; exact hk3)
        have hne : ((k3 : Int) != 0) = true := by simp; omega
        clear hk3
        go_wp2_with fail
        go_ret2
        exact ⟨⟨k3, _, [], rfl, hkp.2, own_nil_ _ _, .inr (.inl ⟨HF.out.symm, HBAD.out, rfl⟩)⟩, HSX.out.below⟩
    · obtain rfl : k = n := by omega
      have HFull : Hid (ls.take k = ls) := List.take_of_length_le (by rw [HN.out]; exact Nat.le_refl _)
      have HS1 : Hid (PPt w wr bp p (.slice A k c) v f t g (hd ++ bodyB ls)) := by have := HS.out; rw [HFull.out] at this; exact this
      have HA1 : Hid (AllPuts ls) := by have := HA.out; rw [HFull.out] at this; exact this
      have HLL : Hid ((bodyB ls).length ≤ 602560) := by have := HLE.out k; rw [HFull.out] at this; exact this
      obtain ⟨l, hl⟩ : ∃ l, l = hd ++ bodyB ls := ⟨_, rfl⟩
      rw [← hl] at HS1
      obtain ⟨m, hm⟩ : ∃ m, m = l.length := ⟨_, rfl⟩
      have HM : Hid (m = 12 + (bodyB ls).length) := by rw [hm, hl, List.length_append, HHL.out]; rfl
      have hm6 : m ≤ 700000 := by have := HM.out; have := HLL.out; omega
      have hm12 : 12 ≤ m := by have := HM.out; omega
      have HML := Lib.hid hm
      have HL := Lib.hid hl
      clear HS HA hl hm
      go_wp2_with fail
      refine (wr_len HS1.out.wr).mono ?_
      rintro e w' ⟨rfl, rfl⟩
      rw [← HML.out]
      by_cases hbig : (1200 : Int) < (m : Int)
      · go_wp2_with fail
        go_ret2
        exact ⟨⟨43, _, [], rfl, by omega, own_nil_ _ _, .inr (.inr (.inl ⟨HF.out.symm, HA1.out, by have := HM.out; omega, rfl, rfl⟩))⟩, HS1.out.below⟩
      · go_wp2_with fail
        refine (wr_out HS1.out.wr (by rw [← HML.out]; omega)).mono ?_
        rintro e W8 ⟨⟨u, rfl, ho8⟩, hb8⟩
        obtain ⟨A8, c8, rfl, h8a, h8b⟩ := own_slice ho8
        have HB8 := Lib.hid (HS1.out.below.trans (hb8.mono HS1.out.below.size))
        have HY8 : Hid (Byt W8 W8.heap.size A8 l) := Own.byt ho8
        have HCA : Hid (l.length ≤ c8) := h8a
        clear ho8 hb8 h8a
        go_wp2_with fail
        refine (Crc.seal_any A8 l c8 8 W8 HCA.out h8b (by rw [← HML.out]; omega) HY8.out (by rw [← HML.out]; omega)).mono ?_
        rintro e W9 ⟨v9, rfl, ho9, hb9⟩
        have HO9 := Lib.hid ho9
        have HB9 := Lib.hid (HB8.out.trans (hb9.mono HB8.out.size))
        clear ho9 hb9
        go_wp2_with fail
        go_ret2
        refine ⟨⟨0, v9, sealL l 8, rfl, by omega, own_mono HO9.out HB8.out.size, .inr (.inr (.inr ⟨HF.out.symm, HA1.out, by have := HM.out; omega, rfl, ?_⟩))⟩, HB9.out⟩
        rw [HL.out, HHD.out]
end Go.Proofs.Ytabkjgklmibagaa.Chk
