/-
  Packets: the document's Put (flumeref07).
-/
import Derived.Test.YtpgklhecmafnbaaPkA
import Derived.Test.YtpgklhecmafnbaaChRf3
import Derived.Test.YtpgklhecmafnbaaOctText
set_option linter.unusedVariables false
set_option linter.unusedSimpArgs false
namespace Go.Proofs.Ytpgklhecmafnbaa.Chk
open Go.ChangeShapes Go.WideShapes Go.ChangeAt Go.RowKit Go.Deep Go.Proofs.Ytpgklhecmafnbaa.Words Go.Proofs.Ytpgklhecmafnbaa.Oct Go.Proofs.Ytpgklhecmafnbaa.Par
open Go.Proofs.Ytpgklhecmafnbaa.Crc (sealL)

/-- Where the document's Put stands: the packet's variable, the bytes. -/
structure RPt (w V : World) (bp : Nat) (pv : Value) (f t g : Nat) (v : Value) (n : Nat) (l : List UInt8) : Prop where
  own : V.ownsRow w.heap.size 5 1 v n (u8s l)
  len : n = l.length
  pk : Blk V bp 44 (pkV f t g pv)
  below : Below w.heap.size w V
  lo : w.heap.size ≤ bp
section
variable {w V V' : World} {bp n m n' : Nat} {pv v v' : Value} {f t g : Nat} {l news : List UInt8}
theorem RPt.grows (h : RPt w V bp pv f t g v n l) (k : Below V.heap.size V V') : RPt w V' bp pv f t g v n l :=
  ⟨(Fr.of_below k).own h.own (fun b hb hi => by have := (h.own.lt b hb).2; omega), h.len, h.pk.below k h.pk.lt, h.below.trans (k.mono h.below.size), h.lo⟩
theorem RPt.app (h : RPt w V bp pv f t g v n l) (ho : V'.ownsRow w.heap.size 5 1 v' n' (u8s l ++ u8s news)) (hn : n' = n + news.length) (hg : V.grownBy V' v.ownBlock) : RPt w V' bp pv f t g v' n' (l ++ news) :=
  ⟨by rw [u8s_append]; exact ho, by rw [List.length_append, ← h.len]; exact hn, h.pk.grown hg (fun e => own_blk_ne h.own h.pk (by decide) e.symm), h.below.grown hg h.below.size (fun b hb => (h.own.lt b hb).1), h.lo⟩
end
theorem four_zero : u8s (be 0 4) = [.int .u8 0, .int .u8 0, .int .u8 0, .int .u8 0] := rfl
set_option maxHeartbeats 8000000 in
set_option maxRecDepth 100000 in
theorem rput_p {w : World} {n c f t g : Nat} {A : Option Addr} {ls : List Ck} (h : Cks w w.heap.size A ls) (hn : n = ls.length) (hs : sumC ls ≤ 300000) (hf : f < 65536) (ht : t < 65536) (hg : g < 4294967296) :
    Calls Try.prog 18 #[.agg (pkV f t g (.slice A n c))] w (PutPk w (headB f t g) ls) := by
  obtain ⟨i0, hi0, hz0, hz1, hz2⟩ := info_parts3 u8_info
  have HC := Lib.hid h
  have HN := Lib.hid hn
  have HSC := Lib.hid hs
  have hn6 : n ≤ 75000 := by have := sumC_len ls; omega
  obtain ⟨F, hF⟩ : ∃ F, F = fitsL ls := ⟨_, rfl⟩
  have HF := Lib.hid hF
  have HBL := Lib.hid (Blk.new w 44 (pkV f t g (.slice A n c)))
  have HB := Lib.hid ((Below.refl w.heap.size w).alloc (Nat.le_refl _) (.cells (pkV f t g (.slice A n c)) 44))
  clear h hn hs
  unfold pkV
  go_enter Try.func18, Try.ntmps18
  go_upto_region 1 with (fail)
  obtain ⟨W1, hW1⟩ : ∃ W1, W1 = w.alloc (.cells #[.int .u16 (f : Int), .int .u16 (t : Int), .int .u32 (g : Int), .slice A n c] 44) := ⟨_, rfl⟩
  have hW1' : W1 = w.alloc (.cells (pkV f t g (.slice A n c)) 44) := hW1
  rw [← hW1'] at HBL HB
  rw [← hW1]
  obtain ⟨bp, hbp⟩ : ∃ b, b = w.heap.size := ⟨_, rfl⟩
  have HG1 : Hid (Blk W1 bp 44 (pkV f t g (.slice A n c))) := by rw [hbp]; exact HBL
  have hlo : w.heap.size ≤ bp := by omega
  rw [← hbp]
  have c3 : W1.cell? ⟨bp, 3, none⟩ = some (.slice A n c) := HG1.out.cell 3
  clear hW1 hW1' HBL hbp
  go_wp2_with fail
  refine (rfits_k (HC.out.below HB.out) HB.out.size HN.out (by omega)).mono ?_
  rintro e W2 ⟨rfl, hb2⟩
  have HB2 := Lib.hid (HB.out.trans (hb2.mono HB.out.size))
  have HG2 : Hid (Blk W2 bp 44 (pkV f t g (.slice A n c))) := HG1.out.below hb2 HG1.out.lt
  rw [← hF]
  clear c3 hb2 HG1 HB hF
  cases F
  · go_wp2_with fail
    go_ret2
    exact ⟨⟨42, _, [], rfl, by omega, own_nil_ _ _, .inl ⟨HF.out.symm, rfl, rfl⟩⟩, HB2.out⟩
  have HFI : Hid (1 ≤ n ∧ n ≤ 64) := by have := fitsL_iff.1 HF.out.symm; rw [← HN.out] at this; exact ⟨this.1, this.2.1⟩
  have HLE : Hid (∀ k, (bodyB (ls.take k)).length ≤ 602560) := fun k => by have h1 := bodyB_take ls k; have h2 := HSC.out; have h3 := HFI.out; rw [← HN.out] at h1; omega
  have q0 : W2.cell? ⟨bp, 0, none⟩ = some (.int .u16 (f : Int)) := HG2.out.cell 0
  have x0 : IntKind.u64.wrap (f : Int) = (f : Int) := by simp [IntKind.wrap, IntKind.bits, IntKind.signed]; omega
  go_upto_region 3 with fail
  go_wp2_with fail
  refine (text_any f 2 (by omega) (by omega) W2).mono ?_
  rintro e W3 ⟨⟨u, rfl, ho3⟩, hb3⟩
  obtain ⟨A3, d3, rfl, h3a, h3b, _⟩ := own_as ho3 (n := 2) (by rw [be_length])
  have HS3 : Hid (RPt w W3 bp (.slice A n c) f t g (.slice A3 2 d3) 2 (be f 2)) := by
    have ho3' : W3.ownsRow W2.heap.size 5 1 (.slice A3 2 d3) 2 (u8s (be f 2)) := by have := ho3; unfold Own at this; rw [be_length] at this; exact this
    exact ⟨own_mono ho3' HB2.out.size, by rw [be_length], HG2.out.below hb3 HG2.out.lt, HB2.out.trans (hb3.mono HB2.out.size), hlo⟩
  clear q0 x0 ho3 hb3 HB2 HG2
  have q1 : W3.cell? ⟨bp, 1, none⟩ = some (.int .u16 (t : Int)) := HS3.out.pk.cell 1
  have x1 : IntKind.u64.wrap (t : Int) = (t : Int) := by simp [IntKind.wrap, IntKind.bits, IntKind.signed]; omega
  go_upto_region 4 with fail
  go_wp2_with fail
  refine (text_any t 2 (by omega) (by omega) W3).mono ?_
  rintro e W4 ⟨⟨u, rfl, ho4⟩, hb4⟩
  obtain ⟨A4, d4, rfl, h4a, h4b, HY4⟩ := own_as ho4 (n := 2) (by rw [be_length])
  have HS4 := Lib.hid (HS3.out.grows hb4)
  clear q1 x1 ho4 hb4 HS3
  have hz4 := HS4.out.below.size
  have HR4 : Hid (Reads W4 W4.heap.size 1 A4 2 (u8s (be t 2))) := by have := HY4.out; unfold Byt at this; rw [be_length] at this; exact this
  go_upto_region 5 with (at_builtin; refine wpList_append_any _ rfl (.tmp 17) (.tmp 21) _ rfl w.heap.size 5 i0 _ 1 1 Try.underlying22 hi0 hz0 hz1 hz2 rfl (by omega) (.slice A3 2 d3) 2 (u8s (be f 2)) rfl HS4.out.own W4.heap.size A4 2 d4 (u8s (be t 2)) rfl HR4.out (u8s_one _) (by simp only [maxLen]; omega) (by omega) hz4 ?_; intro v5 w5 hown5 hg5 hat5; obtain ⟨A5, d5, rfl, h5a, h5b⟩ := own_slice hown5; have HS5 := Lib.hid (HS4.out.app hown5 (by rw [be_length]) hg5); clear hown5 hg5 hat5)
  obtain ⟨W5, hW5⟩ : ∃ W, W = w5 := ⟨_, rfl⟩
  rw [← hW5] at HS5 ⊢
  clear hW5 HS4 HY4 HR4 h3a h3b h4a h4b hz4
  have q2 : W5.cell? ⟨bp, 2, none⟩ = some (.int .u32 (g : Int)) := HS5.out.pk.cell 2
  have x2 : IntKind.u64.wrap (g : Int) = (g : Int) := by simp [IntKind.wrap, IntKind.bits, IntKind.signed]; omega
  go_wp2_with fail
  refine (text_any g 4 (by omega) (by omega) W5).mono ?_
  rintro e W6 ⟨⟨u, rfl, ho6⟩, hb6⟩
  obtain ⟨A6, d6, rfl, h6a, h6b, HY6⟩ := own_as ho6 (n := 4) (by rw [be_length])
  have HS6 := Lib.hid (HS5.out.grows hb6)
  clear q2 x2 ho6 hb6 HS5
  have hz6 := HS6.out.below.size
  have HR6 : Hid (Reads W6 W6.heap.size 1 A6 4 (u8s (be g 4))) := by have := HY6.out; unfold Byt at this; rw [be_length] at this; exact this
  go_upto_region 6 with (at_builtin; refine wpList_append_any _ rfl (.tmp 23) (.tmp 27) _ rfl w.heap.size 5 i0 _ 1 1 Try.underlying22 hi0 hz0 hz1 hz2 rfl (by omega) (.slice A5 (2 + 2) d5) (2 + 2) (u8s (be f 2 ++ be t 2)) rfl HS6.out.own W6.heap.size A6 4 d6 (u8s (be g 4)) rfl HR6.out (u8s_one _) (by simp only [maxLen]; omega) (by omega) hz6 ?_; intro v7 w7 hown7 hg7 hat7; obtain ⟨A7, d7, rfl, h7a, h7b⟩ := own_slice hown7; have HS7 := Lib.hid (HS6.out.app hown7 (by rw [be_length]) hg7); clear hown7 hg7 hat7)
  obtain ⟨W7, hW7⟩ : ∃ W, W = w7 := ⟨_, rfl⟩
  rw [← hW7] at HS7 ⊢
  clear hW7 HS6 HY6 HR6 h5a h5b h6a h6b hz6
  have hz7 := HS7.out.below.size
  have HO7 : Hid ((W7.alloc (.cells #[.int .u8 0, .int .u8 0, .int .u8 0, .int .u8 0] 5)).ownsRow w.heap.size 5 1 (.slice A7 (2 + 2 + 4) d7) (2 + 2 + 4) (u8s (be f 2 ++ be t 2 ++ be g 4))) := HS7.out.own.alloc _
  go_upto_region 7 with (at_builtin; refine wpList_append_any _ rfl (.tmp 29) (.tmp 30) _ rfl w.heap.size 5 i0 _ 1 1 Try.underlying22 hi0 hz0 hz1 hz2 rfl (by omega) (.slice A7 (2 + 2 + 4) d7) (2 + 2 + 4) (u8s (be f 2 ++ be t 2 ++ be g 4)) rfl HO7.out (W7.heap.size + 1) (some ⟨W7.heap.size, 0, none⟩) 4 4 [.int .u8 0, .int .u8 0, .int .u8 0, .int .u8 0] rfl (blk_reads (Blk.new W7 5 #[.int .u8 0, .int .u8 0, .int .u8 0, .int .u8 0]) rfl) (by simp [Value.oneCell']) (by simp only [maxLen]; omega) (by omega) (by simp; omega) ?_; intro v8 w8 hown8 hg8 hat8; obtain ⟨A8, d8, rfl, h8a, h8b⟩ := own_slice hown8; have HS8 := Lib.hid (RPt.app (HS7.out.grows ((Below.refl W7.heap.size W7).alloc (Nat.le_refl _) (.cells #[.int .u8 0, .int .u8 0, .int .u8 0, .int .u8 0] 5))) (news := be 0 4) (by rw [four_zero]; exact hown8) (by rw [be_length]) hg8); clear hown8 hg8 hat8)
  obtain ⟨W8, hW8⟩ : ∃ W, W = w8 := ⟨_, rfl⟩
  rw [← hW8] at HS8 ⊢
  obtain ⟨hd, hhd⟩ : ∃ hd, hd = headB f t g := ⟨_, rfl⟩
  have HHL : Hid (hd.length = 12) := by rw [hhd]; exact headB_len f t g
  have HS8 : Hid (RPt w W8 bp (.slice A n c) f t g (.slice A8 12 d8) 12 hd) := by
    have e : hd = be f 2 ++ be t 2 ++ be g 4 ++ be 0 4 := by rw [hhd]; unfold headB; simp only [List.append_assoc]
    rw [e]; exact HS8.out
  rw [← hhd]
  have HHD := Lib.hid hhd
  have q3 : W8.cell? ⟨bp, 3, none⟩ = some (.slice A n c) := HS8.out.pk.cell 3
  have h8a : 12 ≤ d8 := h8a
  clear hhd hf ht hg hW8 HO7 HS7 hz7 h7a h7b
  go_wp2_with fail
  go_loopw [2, 3, 4, 6, 7, 8, 35] (fun _ _ b _ _ _ i wr => ∃ (k m : Nat) (A9 : Option Addr) (d9 : Nat), k ≤ n ∧ i = .int .i64 k ∧ b = .slice A9 m d9 ∧ m ≤ d9 ∧ d9 ≤ 9223372036854775807 ∧ m ≤ 700000 ∧ Hid (RPt w wr bp (.slice A n c) f t g (.slice A9 m d9) m (hd ++ bodyB (ls.take k))) ∧ Hid (AllPuts (ls.take k))) (fun _ _ _ _ _ _ i _ => n - (intOf i).toNat)
  case atStart => exact ⟨0, 12, A8, d8, by omega, rfl, rfl, h8a, h8b, by omega, by rw [List.take_zero, bodyB_nil, List.append_nil]; exact HS8, fun c hc => by simp at hc⟩
  case round =>
    obtain ⟨k, m, A9, d9, hk, rfl, rfl, hmd, hdm, hm7, HS, HA⟩ := hrel
    by_cases hlt : k < n
    · have hk2 : k < ls.length := by rw [← HN.out]; exact hlt
      obtain ⟨ad, cs, rfl, hblk, hsz, hat, hcell⟩ := HC.out.nthw (Nat.le_refl _) HS.out.below hk2
      obtain ⟨ck, hck⟩ : ∃ ck, ck = ls[k] := ⟨_, rfl⟩
      rw [← hck] at hat
      have HSZ := Lib.hid hsz
      have HCELL := Lib.hid hcell
      have HONE := Lib.hid hat.one
      have HAT := Lib.hid hat
      have HCK := Lib.hid hck
      have HSM : Hid (Small ck) := small_size (by have h1 := sumC_mem (c := ck) (ls := ls) (by rw [hck]; exact List.getElem_mem _); have h2 := HSC.out; omega)
      clear hsz hat hcell hblk hck
      go_upto_region 10 with (first
        | (refine wpList_load_any rfl 32 _ rfl (ad.add (k * 19)) rfl cs _ HCELL.out Try.underlying32 rfl (by rw [HSZ.out]; exact chunk_info) ?_)
        | (refine wpList_store_row rfl 32 _ _ rfl wr.heap.size cs rfl rfl 32 _ (Blk.new wr 32 _) (by rw [HSZ.out]; exact chunk_info) (by rw [HSZ.out]; rfl) HONE.out ?_))
      obtain ⟨W2, hW2, HC2, HB2⟩ := kept_var wr cs
      obtain ⟨g0, hg0⟩ : ∃ g0, g0 = wr.heap.size := ⟨_, rfl⟩
      rw [← hg0] at HC2
      rw [← hW2, ← hg0]
      have HSW := Lib.hid (HS.out.grows HB2)
      have HG2 := Lib.hid HC2
      have HAT2 : Hid (CkAt W2 W2.heap.size cs ck) := (HAT.out.keep (fun q hq => HB2.cell (Nat.lt_of_lt_of_le hq HS.out.below.size))).more HSW.out.below.size
      clear hW2 hg0 HC2 HB2 HCELL HONE HAT HS
      go_wp2_with (refine wpList_load_row rfl 32 _ rfl g0 rfl 32 cs (0, 0) _ HG2.out Try.underlying32 rfl (by rw [HSZ.out]; exact chunk_info) ?_)
      refine (Chk.rput_k HSM.out HAT2.out).mono ?_
      rintro e W3 ⟨hd2, hb3⟩
      have HSX := Lib.hid (HSW.out.grows hb3)
      rcases hd2 with ⟨v3, hp3, rfl, ho3⟩ | ⟨k3, hk3, rfl⟩
      · obtain ⟨y, hy⟩ : ∃ y, y = bytesC ck := ⟨_, rfl⟩
        rw [← hy] at ho3
        obtain ⟨ny, hny⟩ : ∃ ny, ny = y.length := ⟨_, rfl⟩
        obtain ⟨A3, d3, rfl, h3a, h3b, HY3⟩ := own_as ho3 hny
        have HT : Hid (bodyB (ls.take (k + 1)) = bodyB (ls.take k) ++ y) := by show _ = _; rw [List.take_succ_eq_append_getElem hk2, bodyB_snoc, hy, HCK.out]
        have hl2 : m + ny ≤ 700000 := by
          have h2 := HLE.out (k + 1)
          have h3 := HHL.out
          have h4 := HSX.out.len
          rw [List.length_append] at h4
          rw [HT.out, List.length_append, ← hny] at h2
          omega
        have HA2 : Hid (AllPuts (ls.take (k + 1))) := allPuts_snoc hk2 HA.out (by rw [← HCK.out]; exact hp3)
        have HNY := Lib.hid hny
        have HRY : Hid (Reads W3 W3.heap.size 1 A3 ny (u8s y)) := by have := HY3.out; unfold Byt at this; rw [← hny] at this; exact this
        have hzx := HSX.out.below.size
        obtain ⟨xs, hxs⟩ : ∃ xs, xs = u8s (hd ++ bodyB (ls.take k)) := ⟨_, rfl⟩
        have HOX : Hid (W3.ownsRow w.heap.size 5 1 (.slice A9 m d9) m xs) := by rw [hxs]; exact HSX.out.own
        have HXS := Lib.hid hxs
        clear hy hny ho3 hb3 hp3 HAT2 HG2 HSW hxs
        go_wp2_with (at_builtin; refine wpList_append_any _ rfl (.tmp 47) (.tmp 48) _ rfl w.heap.size 5 i0 _ 1 1 Try.underlying22 hi0 hz0 hz1 hz2 rfl (by omega) (.slice A9 m d9) m xs rfl HOX.out W3.heap.size A3 ny d3 (u8s y) rfl HRY.out (u8s_one _) (by simp only [maxLen]; omega) (by omega) hzx ?_; intro v5 w5 hown5 hg5 hat5; obtain ⟨A5, d5, rfl, h5a, h5b⟩ := own_slice hown5; have HS5 := Lib.hid (HSX.out.app (news := y) (by rw [← HXS.out]; exact hown5) (by rw [← HNY.out]) hg5); clear hown5 hg5 hat5)
        have HS9 : Hid (RPt w w5 bp (.slice (some ad) n c) f t g (.slice A5 (m + ny) d5) (m + ny) (hd ++ bodyB (ls.take (k + 1)))) := by rw [HT.out, ← List.append_assoc]; exact HS5
        go_roundw
        case rel => exact ⟨k + 1, m + ny, A5, d5, by omega, by go_num, rfl, h5a, h5b, hl2, HS9, HA2⟩
        case measure => simp [intOf]; omega
      · have hkp := err_pos' hk3
        have HBAD : Hid (BadL ls k3) := bad_at hk2 HA.out (by rw [← HCK.out]; exact hk3)
        have hne : ((k3 : Int) != 0) = true := by simp; omega
        clear hk3
        go_wp2_with fail
        go_ret2
        exact ⟨⟨k3, _, [], rfl, hkp.2, own_nil_ _ _, .inr (.inl ⟨HF.out.symm, HBAD.out, rfl⟩)⟩, HSX.out.below⟩
    · obtain rfl : k = n := by omega
      have HFull : Hid (ls.take k = ls) := List.take_of_length_le (by rw [HN.out]; exact Nat.le_refl _)
      have HS1 : Hid (RPt w wr bp (.slice A k c) f t g (.slice A9 m d9) m (hd ++ bodyB ls)) := by have := HS.out; rw [HFull.out] at this; exact this
      have HA1 : Hid (AllPuts ls) := by have := HA.out; rw [HFull.out] at this; exact this
      obtain ⟨l, hl⟩ : ∃ l, l = hd ++ bodyB ls := ⟨_, rfl⟩
      rw [← hl] at HS1
      have HM : Hid (m = 12 + (bodyB ls).length) := by have := HS1.out.len; rw [hl, List.length_append, HHL.out] at this; exact this
      have hm12 : 12 ≤ m := by have := HM.out; omega
      have HML := Lib.hid HS1.out.len
      have HL := Lib.hid hl
      clear HS HA hl
      by_cases hbig : (1200 : Int) < (m : Int)
      · go_wp2_with fail
        go_ret2
        exact ⟨⟨43, _, [], rfl, by omega, own_nil_ _ _, .inr (.inr (.inl ⟨HF.out.symm, HA1.out, by have := HM.out; omega, rfl, rfl⟩))⟩, HS1.out.below⟩
      · have HY8 : Hid (Byt wr wr.heap.size A9 l) := by have := HS1.out.own; rw [HS1.out.len] at this; exact Reads.of_own this
        have HCA : Hid (l.length ≤ d9) := by rw [← HML.out]; exact hmd
        have HCALL := Lib.hid (Crc.rseal_any A9 l d9 8 wr HCA.out hdm (by rw [← HML.out]; omega) HY8.out (by rw [← HML.out]; omega))
        rw [← HML.out] at HCALL
        go_wp2_with fail
        refine HCALL.out.mono ?_
        rintro e W9 ⟨v9, rfl, ho9, hb9⟩
        have HO9 := Lib.hid ho9
        have HB9 := Lib.hid (HS1.out.below.trans (hb9.mono HS1.out.below.size))
        clear ho9 hb9
        go_wp2_with fail
        go_ret2
        refine ⟨⟨0, v9, sealL l 8, rfl, by omega, own_mono HO9.out HS1.out.below.size, .inr (.inr (.inr ⟨HF.out.symm, HA1.out, by have := HM.out; omega, rfl, ?_⟩))⟩, HB9.out⟩
        rw [HL.out, HHD.out]
end Go.Proofs.Ytpgklhecmafnbaa.Chk
