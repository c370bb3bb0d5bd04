/-
  PROVED: PacketPasses of flumelaw07 answers true for every input, and its arguments read afterwards as before. CONDITIONS: none beside the form's own.
-/
import Derived.Test.YtpgklhecmafnbaaRows
import Derived.Test.YtpgklhecmafnbaaPkA
import Derived.Test.YtpgklhecmafnbaaSees
import Derived.WalkKit
import Derived.ProofKit
import Derived.OpenShut
import Derived.ShutString
import Derived.ChangeOld
import Derived.Below
namespace Go.Proofs.Ytpgklhecmafnbaa.packetPasses
open Go.ChangeShapes Go.WideShapes Go.ChangeAt Go.RowKit
open Go.ChangeMaps (open_string shut_string)
set_option linter.unusedVariables false
set_option linter.unusedSimpArgs false

theorem own : ownKnob Try.prog.godebug = none := by kernel_rfl
theorem laidOut : laidOutB Try.prog = true := by kernel_rfl

/-- What the walk is told of a slice of integers that came in. -/
def IsRow (k : IntKind) (w : World) (a : Option Addr) (len cap : Nat) (zs : List Int) : Prop :=
  (a = none ∧ len = 0 ∧ cap = 0 ∧ zs = []) ∨
  ∃ x, a = some x ∧ len ≤ cap ∧ cap ≤ maxLen ∧ zs.length = cap ∧ (∀ i, i < zs.length → w.cell? (x.add i) = some (.int k (zs.getD i 0))) ∧ ∀ n ∈ zs, (Lit.int k n).wf = true

/-! ### The walk -/
open Words Oct Par Chk
open Crc (sealL)
theorem pkKnown_any (kd : Nat) (hk : kd < 256) (w : World) : Calls Try.prog 26 #[.int .u8 (kd : Int)] w fun e w' => e = .returned (.bool (known kd)) ∧ w = w' := by
  by_cases h11 : kd ≤ 11
  · have d : decide ((kd : Int) ≤ 11) = true := by simp; omega
    have HK : Hid (known kd = true) := by show _ = _; unfold known; simp [h11]
    go_enter Try.func26, Try.ntmps26
    go_wp2_with fail
    go_ret
    exact ⟨ret_bool HK.out.symm, rfl⟩
  · have d : decide ((kd : Int) ≤ 11) = false := by simp; omega
    have hc : kd = 14 ∨ kd = 64 ∨ kd = 130 ∨ kd = 192 ∨ kd = 194 ∨ (kd ≠ 14 ∧ kd ≠ 64 ∧ kd ≠ 130 ∧ kd ≠ 192 ∧ kd ≠ 194) := by omega
    rcases hc with rfl | rfl | rfl | rfl | rfl | hc
    · go_enter Try.func26, Try.ntmps26
      go_wp2_with fail
      go_ret
      exact ⟨rfl, rfl⟩
    · go_enter Try.func26, Try.ntmps26
      go_wp2_with fail
      go_ret
      exact ⟨rfl, rfl⟩
    · go_enter Try.func26, Try.ntmps26
      go_wp2_with fail
      go_ret
      exact ⟨rfl, rfl⟩
    · go_enter Try.func26, Try.ntmps26
      go_wp2_with fail
      go_ret
      exact ⟨rfl, rfl⟩
    · go_enter Try.func26, Try.ntmps26
      go_wp2_with fail
      go_ret
      exact ⟨rfl, rfl⟩
    · have HK : Hid (known kd = false) := by show _ = _; unfold known; simp; omega
      have h1 : ((kd : Int) == 14) = false := by simp; omega
      have h2 : ((kd : Int) == 64) = false := by simp; omega
      have h3 : ((kd : Int) == 130) = false := by simp; omega
      have h4 : ((kd : Int) == 192) = false := by simp; omega
      have h5 : ((kd : Int) == 194) = false := by simp; omega
      clear hc h11
      go_enter Try.func26, Try.ntmps26
      go_wp2_with fail
      go_ret
      exact ⟨ret_bool HK.out.symm, rfl⟩
theorem head_u8s {k n : Nat} (hk : k < 256) (hn : n < 256) : u8s (be k 1 ++ (be 0 1 ++ be n 2)) = [.int .u8 (k : Int), .int .u8 0, .int .u8 0, .int .u8 (n : Int)] := by
  simp [be, u8s, byteAt, List.range, List.range.loop]
  omega
set_option maxHeartbeats 8000000 in
set_option maxRecDepth 100000 in
theorem walk {H : Type} {enc : TypeId × Value → H} {base : Nat} (v0 : Value) (d0 : DataW H) (p0 : List MemPlace) (a1 : Int) (a2 : Option Addr) (len2 cap2 : Nat) (z2 : List Int) (w : World) (o0 : Value.okWide Try.prog w .any base 44 v0) (k0 : DataW.Trod enc Try.prog w 0 (fun _ => true) true 44 v0 d0 p0) (w1 : (Lit.int .u8 a1).wf = true) (w2 : IsRow .u8 w a2 len2 cap2 z2) :
    Calls Try.prog 8 #[v0, .int .u8 a1, .slice a2 len2 cap2] w fun e w' => e = .returned (.bool true) ∧ Below w.heap.size w w' := by
  obtain ⟨cs, rfl, hsz⟩ := okWide_struct Try.underlying44 o0
  have hsee : Sees w PkSh cs.toList := sees_of (sh := PkSh) rfl pkSh_fits k0
  obtain ⟨f, t, g, A, cp, ls, rfl, hf, ht, hg, hnc, hcm, hck⟩ := pk_of hsee
  obtain ⟨n, hn⟩ : ∃ n, n = ls.length := ⟨_, rfl⟩
  rw [← hn] at hnc hsz hsee o0 k0 ⊢
  have HN := Lib.hid hn
  have HC := Lib.hid hck
  have hnm : n ≤ 9223372036854775807 := by omega
  have b1 := bounds_u8' w1
  obtain ⟨kd, hkd⟩ : ∃ t : Nat, a1 = (t : Int) := ⟨a1.toNat, by omega⟩
  subst hkd
  have hkb : kd < 256 := by omega
  obtain ⟨x, hx, hxc, hxm, hxy⟩ := bytes_of w2
  have HX := Lib.hid hx
  have HXY := Lib.hid hxy
  rw [← hx] at hxc
  have HBL := Lib.hid (Blk.new w 44 (pkV f t g (.slice A n cp)))
  have HB := Lib.hid ((Below.refl w.heap.size w).alloc (Nat.le_refl _) (.cells (pkV f t g (.slice A n cp)) 44))
  obtain ⟨i0, hi0, hz0, hz1, hz2⟩ := info_parts3 u8_info
  clear hsz hsee o0 k0 hck hn w1 w2 hx hxy b1
  unfold pkV
  go_enter Try.func8, Try.ntmps8
  go_upto_region 1 with (fail)
  obtain ⟨W1, hW1⟩ : ∃ W1, W1 = w.alloc (.cells #[.int .u16 (f : Int), .int .u16 (t : Int), .int .u32 (g : Int), .slice A n cp] 44) := ⟨_, rfl⟩
  have hW1' : W1 = w.alloc (.cells (pkV f t g (.slice A n cp)) 44) := hW1
  rw [← hW1'] at HBL HB
  rw [← hW1]
  obtain ⟨g1, hg1⟩ : ∃ b, b = w.heap.size := ⟨_, rfl⟩
  have HP1 : Hid (Blk W1 g1 44 (pkV f t g (.slice A n cp))) := by rw [hg1]; exact HBL
  rw [← hg1]
  clear hW1 hW1' HBL hg1
  go_wp2_with fail
  refine (first_p W1).mono ?_
  rintro e W2 ⟨rfl, hb2⟩
  have HB2 := Lib.hid (HB.out.trans (hb2.mono HB.out.size))
  have HP2 : Hid (Blk W2 g1 44 (pkV f t g (.slice A n cp))) := HP1.out.below hb2 HP1.out.lt
  have x3 : W2.cell? ⟨g1, 3, none⟩ = some (.slice A n cp) := HP2.out.cell 3
  clear hb2 HP1 HB
  go_wp2_with fail
  refine (rsizeL_k (HC.out.below HB2.out) HB2.out.size HN.out hnm).mono ?_
  rintro e W3 ⟨⟨s, rfl, hs4, hs⟩, hb3⟩
  have HSS := Lib.hid hs
  have HB3 := Lib.hid (HB2.out.trans (hb3.mono HB2.out.size))
  have HP3 : Hid (Blk W3 g1 44 (pkV f t g (.slice A n cp))) := HP2.out.below hb3 HP2.out.lt
  have x3 : W3.cell? ⟨g1, 3, none⟩ = some (.slice A n cp) := HP3.out.cell 3
  clear hb3 HP2 HB2 hs
  by_cases hbig : (500 : Int) < (s : Int)
  · go_wp2_with fail
    go_ret
    exact ⟨rfl, HB3.out⟩
  by_cases h10 : (10 : Int) < (n : Int)
  · go_wp2_with fail
    go_ret
    exact ⟨rfl, HB3.out⟩
  by_cases h200 : (200 : Int) < (len2 : Int)
  · go_wp2_with fail
    go_ret
    exact ⟨rfl, HB3.out⟩
  have HSC : Hid (sumC ls ≤ 500) := by have := HSS.out (by omega); show _ ≤ _; omega
  clear HSS
  obtain ⟨kn, hkn⟩ : ∃ b, b = known kd := ⟨_, rfl⟩
  have HKN := Lib.hid hkn
  have hcall := pkKnown_any kd hkb W3
  rw [← hkn] at hcall
  have HCALL := Lib.hid hcall
  clear hkn hcall
  go_wp2_with fail
  refine HCALL.out.mono ?_
  rintro e w' ⟨rfl, rfl⟩
  cases kn
  rotate_left
  · go_wp2_with fail
    go_ret
    exact ⟨rfl, HB3.out⟩
  have hl200 : len2 ≤ 200 := by omega
  go_upto_region 5 with fail
  clear hbig h10 h200 HCALL x3
  have HC3 : Hid (Cks W3 W3.heap.size A ls) := (HC.out.below HB3.out).more HB3.out.size
  have hcall := put_p (c := cp) HC3.out HN.out (by have := HSC.out; omega) hf ht hg
  have HCALL := Lib.hid hcall
  clear hcall
  go_wp2_with (refine wpList_load_pkW rfl _ rfl g1 rfl (pkV f t g (.slice A n cp)) HP3.out rfl ?_)
  refine HCALL.out.mono ?_
  rintro e W4 ⟨⟨kk, v4, l, rfl, hkk, ho4, hp4⟩, hb4⟩
  have HPP := Lib.hid hp4
  have HO4 := Lib.hid ho4
  have HB4 := Lib.hid (HB3.out.trans (hb4.mono HB3.out.size))
  have HP4 : Hid (Blk W4 g1 44 (pkV f t g (.slice A n cp))) := HP3.out.below hb4 HP3.out.lt
  have HLW : Hid (w.heap.size ≤ W3.heap.size) := HB3.out.size
  have HGL : Hid (g1 < W3.heap.size) := HP3.out.lt
  have hz4 : W3.heap.size ≤ W4.heap.size := hb4.size
  clear ho4 hp4 hb4 HP3 HB3 HC3 HCALL
  by_cases hk0 : kk = 0
  rotate_left
  · have hkn : ((kk : Int) != 0) = true := by simp; omega
    clear hk0
    go_wp2_with fail
    go_ret
    exact ⟨rfl, HB4.out⟩
  subst hk0
  obtain ⟨hfit, hput, hbody, hl⟩ := putP_ok HPP.out
  have HFIT := Lib.hid hfit
  have HPU := Lib.hid hput
  have HL := Lib.hid hl
  obtain ⟨m, hm⟩ : ∃ m, m = l.length := ⟨_, rfl⟩
  have hm2 : m = 12 + (bodyB ls).length := by rw [hm, hl, sealL_length _ _ (by rw [List.length_append, headB_len]; omega), List.length_append, headB_len]
  have hm4 : m % 4 = 0 := by have := bodyB_mod ls; omega
  have hm20 : m ≤ 1200 := by omega
  have HM := Lib.hid hm
  obtain ⟨A4, c4, rfl, h4a, h4b⟩ := own_slice HO4.out
  have HO5 : Hid (W4.ownsRow W3.heap.size 5 1 (.slice A4 m c4) m (u8s l)) := by have := HO4.out; unfold Own at this; rw [← hm] at this; exact this
  rw [← hm] at h4a ⊢
  obtain ⟨q, hq⟩ : ∃ q, q = 4 + len2 := ⟨_, rfl⟩
  have hqi : 4 + (len2 : Int) = (q : Int) := by omega
  have hqb : q < 256 := by omega
  have hq0 : ((q : Int)).tdiv 256 = 0 := by rw [Int.tdiv_eq_ediv_of_nonneg (by omega)]; omega
  have hq1 : (q : Int) / 256 = 0 := by omega
  have hq2 : IntKind.u8.wrap (q : Int) = (q : Int) := by simp [IntKind.wrap, IntKind.bits, IntKind.signed]; omega
  have hq3 : IntKind.u8.wrap 0 = 0 := rfl
  have HQ := Lib.hid hq
  have HU := Lib.hid (head_u8s hkb hqb)
  obtain ⟨uu, huu⟩ : ∃ uu, uu = be kd 1 ++ (be 0 1 ++ be q 2) := ⟨_, rfl⟩
  rw [← huu] at HU
  have HUL : Hid (uu.length = 4) := by rw [huu]; show _ = _; simp [be_length]
  have HUU := Lib.hid huu
  have HO5a : Hid ((W4.alloc (.cells #[.int .u8 (kd : Int), .int .u8 0, .int .u8 0, .int .u8 (q : Int)] 5)).ownsRow W3.heap.size 5 1 (.slice A4 m c4) m (u8s l)) := HO5.out.alloc _
  clear hfit hput hbody hl hm hm2 hq HPP HO4 huu
  go_upto_region 9 with fail
  go_upto_region 10 with (at_builtin; refine wpList_append_any _ rfl (.tmp 43) (.tmp 50) _ rfl W3.heap.size 5 i0 _ 1 1 Try.underlying22 hi0 hz0 hz1 hz2 rfl (by omega) (.slice A4 m c4) m (u8s l) rfl HO5a.out (W4.heap.size + 1) (some ⟨W4.heap.size, 0, none⟩) 4 4 [.int .u8 (kd : Int), .int .u8 0, .int .u8 0, .int .u8 (q : Int)] rfl (blk_reads (Blk.new W4 5 #[.int .u8 (kd : Int), .int .u8 0, .int .u8 0, .int .u8 (q : Int)]) rfl) (by simp [Value.oneCell']) (by simp only [maxLen]; omega) (by omega) (by simp; omega) ?_; intro v8 w8 hown8 hg8 hat8; obtain ⟨A8, d8, rfl, h8a, h8b⟩ := own_slice hown8; have HB48 := Lib.hid ((Below.refl W4.heap.size W4).alloc (Nat.le_refl _) (.cells #[.int .u8 (kd : Int), .int .u8 0, .int .u8 0, .int .u8 (q : Int)] 5)); have HB8 : Hid (Below w.heap.size w w8) := ((HB4.out.trans (HB48.out.mono HB4.out.size)).grown hg8 (Nat.le_trans HB4.out.size HB48.out.size) (fun b hb => Nat.le_trans HLW.out (HO5a.out.lt b hb).1)); have HP8 : Hid (Blk w8 g1 44 (pkV f t g (.slice A n cp))) := ((HP4.out.below HB48.out HP4.out.lt).grown hg8 (fun e => by have := (HO5a.out.lt g1 e.symm).1; have := HGL.out; omega)); have HO8 : Hid (w8.ownsRow W3.heap.size 5 1 (.slice A8 (m + 4) d8) (m + 4) (u8s (l ++ uu))) := (by rw [u8s_append, HU.out]; exact hown8); have HZ8 : Hid (W3.heap.size ≤ w8.heap.size) := (Nat.le_trans hz4 (Nat.le_trans HB48.out.size hg8.size)); clear hown8 hg8 hat8 HB48)
  obtain ⟨W5, hW5⟩ : ∃ W, W = w8 := ⟨_, rfl⟩
  rw [← hW5] at HB8 HP8 HO8 HZ8 ⊢
  clear hW5 HO5 HO5a HP4 HB4 HU hqi hq0 hq1 hq2 hq3 hz4 h4a h4b
  have hz5 : W3.heap.size ≤ W5.heap.size := HZ8.out
  have RDX : Hid (Reads W5 w.heap.size 1 a2 len2 (u8s x)) := by have := HXY.out.below HB8.out; unfold Byt at this; rw [← HX.out] at this; exact this
  go_upto_block 0 with (at_builtin; refine wpList_append_any _ rfl (.tmp 52) (.tmp 53) _ rfl W3.heap.size 5 i0 _ 1 1 Try.underlying22 hi0 hz0 hz1 hz2 rfl (by omega) (.slice A8 (m + 4) d8) (m + 4) (u8s (l ++ uu)) rfl HO8.out w.heap.size a2 len2 cap2 (u8s x) rfl RDX.out (u8s_one _) (by simp only [maxLen]; omega) (by omega) hz5 ?_; intro v9 w9 hown9 hg9 hat9; obtain ⟨A9, d9, rfl, h9a, h9b⟩ := own_slice hown9; have HB9 : Hid (Below w.heap.size w w9) := (HB8.out.grown hg9 HB8.out.size (fun b hb => Nat.le_trans HLW.out (HO8.out.lt b hb).1)); have HP9 : Hid (Blk w9 g1 44 (pkV f t g (.slice A n cp))) := (HP8.out.grown hg9 (fun e => by have := (HO8.out.lt g1 e.symm).1; have := HGL.out; omega)); have HO9 : Hid (w9.ownsRow W3.heap.size 5 1 (.slice A9 (m + 4 + len2) d9) (m + 4 + len2) (u8s (l ++ uu ++ x))) := (by rw [u8s_append]; exact hown9); have HZ9 : Hid (W3.heap.size ≤ w9.heap.size) := (Nat.le_trans hz5 hg9.size); clear hown9 hg9 hat9)
  obtain ⟨W6, hW6⟩ : ∃ W, W = w9 := ⟨_, rfl⟩
  rw [← hW6] at HB9 HP9 HO9 HZ9 ⊢
  obtain ⟨mm, hmm⟩ : ∃ mm, mm = m + 4 + len2 := ⟨_, rfl⟩
  rw [← hmm] at HO9 h9a ⊢
  obtain ⟨pd, hpd⟩ : ∃ p, p = padC len2 := ⟨_, rfl⟩
  have hpd3 : pd ≤ 3 := by rw [hpd]; unfold padC; omega
  have hpd4 : (mm + pd) % 4 = 0 := by rw [hmm, hpd]; unfold padC; omega
  have HPD := Lib.hid hpd
  have hmmb : mm ≤ 1404 := by omega
  obtain ⟨y, hy⟩ : ∃ y, y = l ++ uu ++ x := ⟨_, rfl⟩
  have HYL : Hid (mm = y.length) := by rw [hy, List.length_append, List.length_append, ← HM.out, HUL.out, ← HX.out]; exact hmm
  have HYE := Lib.hid hy
  rw [← hy] at HO9
  clear hW6 hmm hpd hy HB8 HP8 HO8 RDX hz5 h8a h8b HZ8
  go_cut [7] from 52 to 61 (fun s7 wx => ∃ (Az : Option Addr) (dz : Nat), s7 = .slice Az (mm + pd) dz ∧ mm + pd ≤ dz ∧ dz ≤ 9223372036854775807 ∧ Hid (wx.ownsRow W3.heap.size 5 1 (.slice Az (mm + pd) dz) (mm + pd) (u8s (y ++ List.replicate pd 0))) ∧ Hid (Below w.heap.size w wx) ∧ Hid (Blk wx g1 44 (pkV f t g (.slice A n cp))) ∧ Hid (W3.heap.size ≤ wx.heap.size))
  case first =>
    go_wp2_with fail
    go_loopw [7] (fun s7 wr => ∃ (j M : Nat) (Az : Option Addr) (dz : Nat), s7 = .slice Az M dz ∧ M ≤ dz ∧ dz ≤ 9223372036854775807 ∧ j ≤ pd ∧ mm + j ≤ M ∧ M ≤ mm + j ∧ Hid (wr.ownsRow W3.heap.size 5 1 (.slice Az M dz) M (u8s (y ++ List.replicate j 0))) ∧ Hid (Below w.heap.size w wr) ∧ Hid (Blk wr g1 44 (pkV f t g (.slice A n cp))) ∧ Hid (W3.heap.size ≤ wr.heap.size)) (fun s7 _ => mm + 4 - Chk.lenOf s7)
    case atStart => exact ⟨0, mm, A9, d9, rfl, h9a, h9b, by omega, by omega, by omega, by rw [List.replicate_zero, List.append_nil]; exact HO9, HB9, HP9, HZ9⟩
    case round =>
      obtain ⟨j, M, Az, dz, rfl, hMd, hdm, hj, hM1, hM2, HOj, HBj, HPj, HZj⟩ := hrel
      by_cases h4 : M % 4 = 0
      · obtain rfl : j = pd := by omega
        obtain rfl : M = mm + j := by omega
        have r1 : (((mm + j : Nat) : Int).tmod 4 != 0) = false := by rw [Int.tmod_eq_emod_of_nonneg (by omega)]; simp; omega
        have r2 : ((((mm + j : Nat) : Int)) % 4 != 0) = false := by simp; omega
        have r3 : (((mm : Int) + (j : Int)).tmod 4 != 0) = false := by rw [Int.tmod_eq_emod_of_nonneg (by omega)]; simp; omega
        have r4 : (((mm : Int) + (j : Int)) % 4 != 0) = false := by simp; omega
        go_wp2_with fail
        go_meet
        exact ⟨Az, dz, rfl, hMd, hdm, HOj, HBj, HPj, HZj⟩
      · have r1 : ((M : Int).tmod 4 != 0) = true := by rw [Int.tmod_eq_emod_of_nonneg (by omega)]; simp; omega
        have r2 : ((M : Int) % 4 != 0) = true := by simp; omega
        have hjp : j + 1 ≤ pd := by omega
        have hM1' : mm + (j + 1) ≤ M + 1 := by omega
        have hM2' : M + 1 ≤ mm + (j + 1) := by omega
        have hzj := HZj.out
        have hMb : M ≤ 1410 := by omega
        have HOa : Hid ((wr.alloc (.cells #[.int .u8 0] 5)).ownsRow W3.heap.size 5 1 (.slice Az M dz) M (u8s (y ++ List.replicate j 0))) := HOj.out.alloc _
        clear h4 hM1 hM2
        go_wp2_with (at_builtin; refine wpList_append_any _ rfl (.tmp 59) (.tmp 60) _ rfl W3.heap.size 5 i0 _ 1 1 Try.underlying22 hi0 hz0 hz1 hz2 rfl (by omega) (.slice Az M dz) M (u8s (y ++ List.replicate j 0)) rfl HOa.out (wr.heap.size + 1) (some ⟨wr.heap.size, 0, none⟩) 1 1 [.int .u8 0] rfl (blk_reads (Blk.new wr 5 #[.int .u8 0]) rfl) (by simp [Value.oneCell']) (by simp only [maxLen]; omega) (by omega) (by simp; omega) ?_; intro v7 w7 hown7 hg7 hat7; obtain ⟨A7, d7, rfl, h7a, h7b⟩ := own_slice hown7; have HBa := Lib.hid ((Below.refl wr.heap.size wr).alloc (Nat.le_refl _) (.cells #[.int .u8 0] 5)); have HB7 : Hid (Below w.heap.size w w7) := ((HBj.out.trans (HBa.out.mono HBj.out.size)).grown hg7 (Nat.le_trans HBj.out.size HBa.out.size) (fun b hb => Nat.le_trans HLW.out (HOa.out.lt b hb).1)); have HP7 : Hid (Blk w7 g1 44 (pkV f t g (.slice A n cp))) := ((HPj.out.below HBa.out HPj.out.lt).grown hg7 (fun e => by have := (HOa.out.lt g1 e.symm).1; have := HGL.out; omega)); have HO7 : Hid (w7.ownsRow W3.heap.size 5 1 (.slice A7 (M + 1) d7) (M + 1) (u8s (y ++ List.replicate (j + 1) 0))) := (by have e : y ++ List.replicate (j + 1) (0 : UInt8) = (y ++ List.replicate j 0) ++ [0] := by rw [List.append_assoc, ← List.replicate_succ']; ; rw [e, u8s_append]; exact hown7); have HZ7 : Hid (W3.heap.size ≤ w7.heap.size) := (Nat.le_trans hzj (Nat.le_trans HBa.out.size hg7.size)); clear hown7 hg7 hat7 HBa)
        go_roundw
        case rel => exact ⟨j + 1, M + 1, A7, d7, rfl, h7a, h7b, hjp, hM1', hM2', HO7, HB7, HP7, HZ7⟩
        case measure => simp only [Chk.lenOf]; omega
  case rest =>
  obtain ⟨Az, dz, rfl, hzd, hzm, HOz, HBz, HPz, HZz⟩ := hcut
  obtain ⟨W7, hW7⟩ : ∃ W, W = wc := ⟨_, rfl⟩
  rw [← hW7] at HOz HBz HPz HZz ⊢
  obtain ⟨M, hM⟩ : ∃ M, M = mm + pd := ⟨_, rfl⟩
  rw [← hM] at hzd HOz ⊢
  have hMb : M ≤ 1410 := by omega
  obtain ⟨z, hz⟩ : ∃ z, z = y ++ List.replicate pd 0 := ⟨_, rfl⟩
  have HZE : Hid (z = l ++ frame kd 0 x) := by
    show _ = _
    unfold frame
    rw [hz, HYE.out, HUU.out, ← HX.out, ← HPD.out, HQ.out]
    simp only [List.append_assoc]
    rw [Nat.add_comm 4 len2]
  have HZL : Hid (M = z.length) := by rw [hz, List.length_append, List.length_replicate, ← HYL.out]; exact hM
  rw [← hz] at HOz
  clear hW7 hM hz HB9 HP9 HO9 HZ9 hpd4 hpd3 h9a h9b
  by_cases h12 : (1200 : Int) < (M : Int)
  · go_wp2_with fail
    go_ret
    exact ⟨rfl, HBz.out⟩
  have hM12 : M ≤ 1200 := by omega
  have hM0 : 12 ≤ M := by
    have h1 := HZL.out
    rw [HZE.out, List.length_append, frame_len, HL.out, sealL_length _ _ (by rw [List.length_append, headB_len]; omega), List.length_append, headB_len] at h1
    omega
  have HYz : Hid (Byt W7 W7.heap.size Az z) := by have := HOz.out; rw [HZL.out] at this; exact Reads.of_own this
  have hcall := Crc.rseal_any Az z dz 8 W7 (by rw [← HZL.out]; exact hzd) hzm (by rw [← HZL.out]; omega) HYz.out (by rw [← HZL.out]; omega)
  rw [← HZL.out] at hcall
  have HCALL := Lib.hid hcall
  have HPASS := Lib.hid (getP_pass (hd := headB f t g) (ls := ls) (k := kd) (x := x) (headB_len f t g) HFIT.out HPU.out HC.out.ok hkb (by rw [← HX.out]; omega) HKN.out.symm (by rw [← HL.out, ← HZE.out, ← HZL.out]; exact hM12))
  have HSK : Hid (∀ c ∈ ls, c.skips.length ≤ 500000 ∧ (strip c).skips.length ≤ 500000) := fun c hc => ⟨by have h1 := sumC_mem hc; have h2 := HSC.out; unfold sizeC at h1; omega, strip_small (HC.out.ok c hc) (HPU.out c hc)⟩
  have HAL : Hid (Alikes (ls.map strip) ls) := alikes_strip HPU.out HC.out.ok HSK.out
  clear hcall h12 HSK
  go_upto_region 15 with fail
  go_wp2_with fail
  refine HCALL.out.mono ?_
  rintro e W8 ⟨v8, rfl, ho8, hb8⟩
  have HN8 : Hid (M = (sealL z 8).length) := by rw [sealL_length _ _ (by rw [← HZL.out]; omega)]; exact HZL.out
  obtain ⟨A8', d8', rfl, h8a, h8b, HY8⟩ := own_as (n := M) ho8 HN8.out
  have HB8 := Lib.hid (HBz.out.trans (hb8.mono HBz.out.size))
  have HP8 : Hid (Blk W8 g1 44 (pkV f t g (.slice A n cp))) := HPz.out.below hb8 HPz.out.lt
  clear ho8 hb8 HOz HBz HPz HZz HYz HCALL
  go_wp2_with fail
  refine (get_p HN8.out h8a h8b HY8.out).mono ?_
  rintro e W9 ⟨hb9, hd⟩
  rw [HZE.out, HL.out] at hd
  have HB9 := Lib.hid (HB8.out.trans (hb9.mono HB8.out.size))
  have HP9 : Hid (Blk W9 g1 44 (pkV f t g (.slice A n cp))) := HP8.out.below hb9 HP8.out.lt
  clear hb9 HY8 HB8 HP8
  by_cases h8 : 128 ≤ kd
  · have h8i : decide ((kd : Int) < 128) = false := by simp; omega
    obtain ⟨f', t', g', he'⟩ := HPASS.out.1 h8
    rw [he'] at hd
    rcases hd with ⟨f2, t2, g2, v9, ls2, he, rfl, ho9, _⟩ | ⟨k', he, rfl⟩
    rotate_left
    · cases he
    injection he with he
    simp only [Prod.mk.injEq] at he
    obtain ⟨rfl, rfl, rfl, rfl⟩ := he
    obtain ⟨A9', c9, hv9, h9a, h9b⟩ := ho9.slice
    rw [List.length_map, ← HN.out] at hv9 h9a
    subst hv9
    have HO9 := Lib.hid ho9
    clear ho9 he' h8
    go_upto_region 16 with (refine wpList_store_row rfl 44 _ _ rfl W9.heap.size (pkV f' t' g' (.slice A9' n c9)) rfl rfl 44 _ (Blk.new W9 44 _) pk_info rfl (pk_one _ _ _ _ rfl) ?_)
    obtain ⟨W10, hW10, hp10, hb10⟩ := kept_pk W9 (pkV f' t' g' (.slice A9' n c9))
    obtain ⟨g10, hg10⟩ : ∃ g, g = W9.heap.size := ⟨_, rfl⟩
    rw [← hg10] at hp10
    rw [← hW10, ← hg10]
    have HB10 := Lib.hid (HB9.out.trans (hb10.mono HB9.out.size))
    have x3 : W10.cell? ⟨g1, 3, none⟩ = some (.slice A n cp) := (HP9.out.below hb10 HP9.out.lt).cell 3
    have y3 : W10.cell? ⟨g10, 3, none⟩ = some (.slice A9' n c9) := hp10.cell 3
    have HO10 := Lib.hid (HO9.out.grows hb10)
    clear hW10 hg10 hp10 hb10 HP9 HB9 HO9
    go_wp2_with fail
    refine (rsameL_k HO10.out.cks ((HC.out.below HB10.out).more HB10.out.size) (Nat.le_refl _) (Nat.le_refl _) (by rw [List.length_map]; exact HN.out) HN.out HAL.out hnm).mono ?_
    rintro e W11 ⟨rfl, hb11⟩
    have HB11 := Lib.hid (HB10.out.trans (hb11.mono HB10.out.size))
    clear hb11
    go_wp2_with fail
    go_ret
    exact ⟨ret_bool (by simp), HB11.out⟩
  · have h8i : decide ((kd : Int) < 128) = true := by simp; omega
    have he' := HPASS.out.2 h8
    rw [he'] at hd
    rcases hd with ⟨_, _, _, _, _, he, _⟩ | ⟨k', he, rfl⟩
    · cases he
    injection he with he
    subst he
    clear he' h8
    go_upto_region 16 with (refine wpList_store_row rfl 44 _ _ rfl W9.heap.size zeroP rfl rfl 44 _ (Blk.new W9 44 _) pk_info rfl (pk_one _ _ _ _ rfl) ?_)
    obtain ⟨W10, hW10, hp10, hb10⟩ := kept_pk W9 zeroP
    obtain ⟨g10, hg10⟩ : ∃ g, g = W9.heap.size := ⟨_, rfl⟩
    rw [← hg10] at hp10
    rw [← hW10, ← hg10]
    have HB10 := Lib.hid (HB9.out.trans (hb10.mono HB9.out.size))
    have y3 : W10.cell? ⟨g10, 3, none⟩ = some (.slice none 0 0) := hp10.cell 3
    clear hW10 hg10 hp10 hb10 HP9 HB9
    go_wp2_with fail
    go_ret
    exact ⟨ret_bool (by simp), HB10.out⟩

/-! ### The row's step -/
set_option maxRecDepth 100000 in
theorem lifted (os : Os) (started : os.Started) (H : Type) (enc : TypeId × Value → H) :
    ReturnsInHanded {} Try.checked os 8 .any (Rows.packetPassesSpec.pre6 enc Try.prog Try.f8 Rows.packetPassesRow.domain false) (Rows.packetPassesSpec.post enc Try.prog Try.f8 false true false false) := by
  refine returnsInHanded_of_change (C := Try.checked) own started (by kernel_rfl) Try.func8
    (ChangeSpec.witness6 (enc := enc) (C := Try.checked) false ⟨#[], #[.agg #[.int .u16 0, .int .u16 0, .int .u32 0, .slice none 0 0], .int .u8 0, .slice none 0 0], []⟩ 8 (by kernel_rfl) (by kernel_rfl) (by kernel_rfl) (by kernel_rfl)) ?_
  intro W base args ds gs before hval0 hW hcnd _
  have hval : ∀ (j : Nat) t v, Try.f8.params[j]? = some t → args[j]? = some v → Value.okWide Try.prog W .any base t v := hval0
  have hW' := hW
  obtain ⟨p, q, hA0, hV, rfl, hfz, hnd⟩ := hW
  have hA : DataW.TrodAll enc Try.prog W 0 (fun _ => true) true Try.f8.params.toList args.toList ds p := hA0
  rw [Try.params8] at hA hval
  obtain ⟨v0, vs0, d0, ds0, p0, q0, hargs, rfl, rfl, h0, r0⟩ := trodAll_cons hA
  obtain ⟨v1, vs1, d1, ds1, p1, q1, rfl, rfl, rfl, h1, r1⟩ := trodAll_cons r0
  obtain ⟨v2, vs2, d2, ds2, p2, q2, rfl, rfl, rfl, h2, r2⟩ := trodAll_cons r1
  obtain ⟨rfl, rfl, rfl⟩ := trodAll_nil r2
  obtain rfl : args = #[v0, v1, v2] := by cases args; simp_all
  obtain ⟨rfl, rfl⟩ := trodVars_none hV
  have lt0 : ∀ x ∈ p0, x.block < W.heap.size := by obtain ⟨m, hm⟩ := h0; exact DataW.trod_lt m _ _ _ hm
  obtain ⟨a1, rfl, rfl, rfl, w1⟩ := open_int Try.underlying5 (hval 1 5 v1 rfl rfl) h1
  obtain ⟨a2, len2, cap2, rfl⟩ := okWide_slice Try.underlying22 (hval 2 22 v2 rfl rfl)
  have k2 := h2
  have lt2 : ∀ x ∈ p2, x.block < W.heap.size := by obtain ⟨m, hm⟩ := k2; exact DataW.trod_lt m _ _ _ hm
  obtain ⟨z2, w2⟩ : ∃ zs, IsRow .u8 W a2 len2 cap2 zs := by
    obtain ⟨fuel, hf⟩ := h2
    rcases open_ints Try.underlying22 Try.underlying5 (by kernel_rfl) hf with ⟨hcs, _⟩ | ⟨x, l, c, zs, hcs, _, hl, hm, hz, _, hcell, hwz⟩
    · simp [Value.cells] at hcs
      obtain ⟨rfl, rfl, rfl⟩ := hcs
      exact ⟨[], .inl ⟨rfl, rfl, rfl, rfl⟩⟩
    · simp [Value.cells] at hcs
      obtain ⟨rfl, rfl, rfl⟩ := hcs
      exact ⟨zs, .inr ⟨_, rfl, hl, hm, by simpa using hz, hcell, hwz⟩⟩
  clear hA0 hval0
  refine (walk v0 d0 p0 a1 a2 len2 cap2 z2 W (hval 0 44 v0 rfl rfl) h0 w1 w2).mono fun e W' ⟨he, bel⟩ => ?_
  subst he
  exact ⟨_, rfl, _, _, _, [], _, [], hW', trodAll_mk1 (shut_bool Try.underlying4 _), (trodAll_cons_mk (Below.trod laidOut (by kernel_rfl) (of_decide_eq_true (by kernel_rfl)) h0 bel lt0) (trodAll_cons_mk (shut_int Try.underlying5 w1) (trodAll_cons_mk (Below.trod laidOut (by kernel_rfl) (of_decide_eq_true (by kernel_rfl)) k2 bel lt2) trodAll_mk0))), rfl, bel.frame _, fun h => by cases h⟩

theorem over : Rows.packetPassesRow.holds Try.pinned (OpenSpec.ofChange Rows.packetPassesSpec) :=
  OpenClaim.holds_of_wide 8 Try.f8 rfl rfl rfl rfl rfl rfl rfl ⟨rfl, rfl, rfl, rfl, rfl⟩ rfl rfl rfl rfl rfl (by kernel_rfl) Try.func8 (by kernel_rfl)
    (of_decide_eq_true (by kernel_rfl)) (by unfold Func.isWrapper; first | (rw [if_pos (by decide +kernel)]; kernel_rfl) | (rw [if_neg (by decide +kernel)]; exact ⟨rfl, rfl⟩))
    (fun os started H enc _ => lifted os started H enc)

theorem proved : Rows.PacketPassesSaid := over
#print axioms proved
end Go.Proofs.Ytpgklhecmafnbaa.packetPasses
