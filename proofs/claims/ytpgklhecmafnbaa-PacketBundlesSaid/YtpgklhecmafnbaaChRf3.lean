/-
  The document's answers of layer 6 (flumeref06): put, Put.
-/
import Derived.Test.YtpgklhecmafnbaaChRf1
import Derived.Test.YtpgklhecmafnbaaParPut
import Derived.Test.YtpgklhecmafnbaaChSz
set_option linter.unusedVariables false
set_option linter.unusedSimpArgs false
namespace Go.Proofs.Ytpgklhecmafnbaa.Chk
open Go.ChangeShapes Go.WideShapes Go.ChangeAt Go.RowKit Go.Deep Go.Proofs.Ytpgklhecmafnbaa.Words Go.Proofs.Ytpgklhecmafnbaa.Oct Go.Proofs.Ytpgklhecmafnbaa.Par

/-- What the document's put leaves: m bytes of a number behind. -/
def Behind (V : World) (B : Nat) (A : Option Addr) (n cp : Nat) (l : List UInt8) (x m : Nat) (e : Ending) (V' : World) : Prop :=
  ∃ A' n' cp', e = .returned (.slice A' n' cp') ∧ n' = n + m ∧ n' ≤ cp' ∧ cp' ≤ 9223372036854775807 ∧ V'.ownsRow B 5 1 (.slice A' n' cp') n' (u8s (l ++ be x m)) ∧ V.grownBy V' (Value.slice A n cp).ownBlock
theorem grown_after {w V w' : World} {row : Option Nat} (h : Below w.heap.size w V) (g : V.grownBy w' row) : w.grownBy w' row :=
  ⟨g.os.trans h.os, g.tape.trans h.tape, g.output.trans h.output, Nat.le_trans h.size g.size, fun k hk hne => (g.block k (Nat.lt_of_lt_of_le hk h.size) hne).trans (h.block k hk)⟩
set_option maxHeartbeats 1000000 in
set_option maxRecDepth 100000 in
theorem rputn_any (B : Nat) (A : Option Addr) (n cp : Nat) (l : List UInt8) (x m : Nat) (V : World) (hx : x < 18446744073709551616) (hm : m ≤ 8) (hn : n ≤ 2000000) (ho : V.ownsRow B 5 1 (.slice A n cp) n (u8s l)) (hB : B ≤ V.heap.size) :
    Calls Try.prog 84 #[.slice A n cp, .int .u64 (x : Int), .int .i64 (m : Int)] V (Behind V B A n cp l x m) := by
  obtain ⟨i0, hi0, hz0, hz1, hz2⟩ := info_parts3 u8_info
  have HO := Lib.hid ho
  clear ho
  go_enter Try.func84, Try.ntmps84
  go_wp2_with fail
  refine (text_any x m hx hm V).mono ?_
  rintro e V2 ⟨⟨u, rfl, ho2⟩, hb2⟩
  obtain ⟨A2, c2, rfl, _, _, HY2⟩ := own_as (n := m) ho2 (by rw [be_length])
  have HO2 : Hid (V2.ownsRow B 5 1 (.slice A n cp) n (u8s l)) := (Fr.of_below hb2).own HO.out (fun g hg hi => by have := (HO.out.lt g hg).2; omega)
  have HB2 := Lib.hid hb2
  have hsz2 : B ≤ V2.heap.size := Nat.le_trans hB hb2.size
  clear ho2 hb2
  go_wp2_with (at_builtin; refine wpList_append_any _ rfl (.tmp 7) (.tmp 10) _ rfl B 5 i0 _ 1 1 Try.underlying22 hi0 hz0 hz1 hz2 rfl (by omega) (.slice A n cp) n (u8s l) rfl HO2.out V2.heap.size A2 m c2 (u8s (be x m)) rfl (by have := HY2.out; unfold Byt at this; rw [be_length] at this; exact this) (u8s_one _) (by simp only [maxLen]; omega) (by omega) hsz2 ?_; intro v3 V3 hown3 hg3 hat3; obtain ⟨A3, c3, rfl, hc3, hm3⟩ := own_slice hown3; have HO3 := Lib.hid hown3; have HG3 := Lib.hid (grown_after HB2.out hg3); clear hown3 hg3 hat3)
  go_ret
  exact ⟨A3, n + m, c3, rfl, rfl, hc3, hm3, by rw [u8s_append]; exact HO3.out, HG3.out⟩
/-- Where Put stands: the chunk's variable, the bytes so far. -/
structure PtS (w V : World) (g0 : Nat) (cs : Array Value) (A : Option Addr) (n cp : Nat) (l : List UInt8) : Prop where
  b0 : CkBlk V g0 cs
  own : V.ownsRow w.heap.size 5 1 (.slice A n cp) n (u8s l)
  len : n = l.length
  cap : n ≤ cp
  max : cp ≤ 9223372036854775807
  below : Below w.heap.size w V
section
variable {w V V' : World} {g0 : Nat} {cs : Array Value} {A : Option Addr} {n cp x m : Nat} {l : List UInt8} {e : Ending}
theorem PtS.step (h : PtS w V g0 cs A n cp l) (k : Behind V w.heap.size A n cp l x m e V') : ∃ A' n' cp', e = .returned (.slice A' n' cp') ∧ n' ≤ cp' ∧ cp' ≤ 9223372036854775807 ∧ n' ≤ n + m ∧ Hid (PtS w V' g0 cs A' n' cp' (l ++ be x m)) ∧ Hid (V.grownBy V' (Value.slice A n cp).ownBlock) := by
  obtain ⟨A', n', cp', h1, h2, h3, h4, h5, h6⟩ := k
  exact ⟨A', n', cp', h1, h3, h4, by omega, ⟨Blk.grown h.b0 h6 (own_blk_ne h.own h.b0 (by decide)).symm, h5, by rw [List.length_append, be_length, ← h.len]; exact h2, h3, h4, h.below.grown h6 h.below.size (fun g hg => (h.own.lt g hg).1)⟩, h6⟩
theorem PtS.grows (h : PtS w V g0 cs A n cp l) (k : Below V.heap.size V V') : PtS w V' g0 cs A n cp l :=
  ⟨h.b0.below k h.b0.lt, (Fr.of_below k).own h.own (fun g hg hi => by have := (h.own.lt g hg).2; omega), h.len, h.cap, h.max, h.below.trans (k.mono h.below.size)⟩
theorem PtS.app {v' : Value} {n' : Nat} {r : List UInt8} (h : PtS w V g0 cs A n cp l) (ho : V'.ownsRow w.heap.size 5 1 v' n' (u8s l ++ u8s r)) (hn : n' = n + r.length) (hg : V.grownBy V' (Value.slice A n cp).ownBlock) : ∃ A' cp', v' = .slice A' n' cp' ∧ n' ≤ cp' ∧ cp' ≤ 9223372036854775807 ∧ Hid (PtS w V' g0 cs A' n' cp' (l ++ r)) := by
  obtain ⟨A', cp', rfl, h1, h2⟩ := own_slice ho
  exact ⟨A', cp', rfl, h1, h2, Blk.grown h.b0 hg (own_blk_ne h.own h.b0 (by decide)).symm, by rw [u8s_append]; exact ho, by rw [List.length_append, ← h.len]; exact hn, h1, h2, h.below.grown hg h.below.size (fun g hg => (h.own.lt g hg).1)⟩
theorem PtS.as {l' : List UInt8} (h : PtS w V g0 cs A n cp l) (e : l = l') : PtS w V g0 cs A n cp l' := e ▸ h
/-- Another variable's block stays. -/
theorem PtS.blk {g : Nat} {t : TypeId} {ds : Array Value} (h : PtS w V g0 cs A n cp l) (hg : V.grownBy V' (Value.slice A n cp).ownBlock) (hb : Blk V g t ds) (ht : 5 ≠ t) : Blk V' g t ds := Blk.grown hb hg (own_blk_ne h.own hb ht).symm
end
/-! ### what stands behind the length, 'if' by 'if' -/
def L1 (c : Ck) : List UInt8 := if c.kind = 0 ∨ c.kind = 64 then fragE c else []
def L2 (c : Ck) : List UInt8 := if c.kind = 1 ∨ c.kind = 2 then L1 c ++ greetE c else L1 c
def L3 (c : Ck) : List UInt8 := if c.kind = 3 then L2 c ++ sackE c else L2 c
def L4 (c : Ck) : List UInt8 := if c.kind = 7 ∨ c.kind = 192 ∨ c.kind = 194 then L3 c ++ be c.tsn 4 else L3 c
def L5 (c : Ck) : List UInt8 := if c.kind = 192 ∨ c.kind = 194 then L4 c ++ (if c.kind = 192 then sksE c.skips else sksW c.skips) else L4 c
def L6 (c : Ck) : List UInt8 := if c.kind = 1 ∨ c.kind = 2 ∨ c.kind = 6 ∨ c.kind = 9 ∨ c.kind = 130 then L5 c ++ encL c.ps else L5 c
def L7 (c : Ck) : List UInt8 := if c.kind = 0 ∨ c.kind = 64 ∨ c.kind = 4 ∨ c.kind = 5 ∨ c.kind = 10 then L6 c ++ c.body else L6 c
def F1 (c : Ck) : Nat := if c.kind = 0 ∨ c.kind = 64 then loN c.en + (2 * loN c.bg + 4 * loN c.lo) else 0
theorem L7_cont {c : Ck} (h : known c.kind = true) : L7 c = cont c := by
  obtain ⟨k, bg, en, lo, ba, tsn, st, mid, pp, fr, tag, win, out, inn, gaps, dups, skips, ps, body⟩ := c
  simp only at h
  rcases kinds h with rfl | rfl | rfl | rfl | rfl | rfl | rfl | rfl | rfl | rfl | rfl | rfl | rfl | rfl | rfl | rfl | rfl <;> simp [L7, L6, L5, L4, L3, L2, L1, cont, hasBody, hasPs]
theorem F_flags {c : Ck} (h : known c.kind = true) : (if (c.kind = 6 ∨ c.kind = 14) ∧ c.ba = true then 1 else F1 c) = flagsN c := by
  obtain ⟨k, bg, en, lo, ba, tsn, st, mid, pp, fr, tag, win, out, inn, gaps, dups, skips, ps, body⟩ := c
  simp only at h
  rcases kinds h with rfl | rfl | rfl | rfl | rfl | rfl | rfl | rfl | rfl | rfl | rfl | rfl | rfl | rfl | rfl | rfl | rfl <;> cases ba <;> simp [F1, flagsN, hasBody, loN]
theorem L_bound {c : Ck} (hs : Small c) : (sksE c.skips).length ≤ 225000 ∧ (sksW c.skips).length ≤ 450000 ∧ (encL c.ps).length ≤ 900000 ∧ c.body.length ≤ 450000 := by
  have h1 := encL_le c.ps
  have h2 := hs.ps
  have h3 := hs.skips
  have h4 := hs.body
  rw [sksE_length, sksW_length]
  omega
theorem be_loose (b : Bool) : be (loN b) 2 = be 0 1 ++ be (loN b) 1 := by cases b <;> decide
theorem own_pair (w : World) (B : Nat) (hB : B ≤ w.heap.size) (x y : UInt8) : (w.alloc (.cells #[.int .u8 (x.toNat : Int), .int .u8 (y.toNat : Int)] 5)).ownsRow B 5 1 (.slice (some ⟨w.heap.size, 0, none⟩) 2 2) 2 (u8s [x, y]) :=
  World.ownsRow_lit (base := B) (e := 5) (size := 1) w #[.int .u8 (x.toNat : Int), .int .u8 (y.toNat : Int)] 2 hB (by unfold maxLen; omega) rfl
theorem u8_be {k : Nat} (h : k < 256) : (k : Int) = ((byteAt k 0).toNat : Int) := by rw [byte_toNat h]
theorem small_take {l : List Skp} {k : Nat} : (sksE (l.take k)).length ≤ 4 * k ∧ (sksW (l.take k)).length ≤ 8 * k := by
  rw [sksE_length, sksW_length, List.length_take]
  omega
theorem not_long {c : Ck} (hl : (cont c).length + 4 ≤ 65535) : ¬ tooLong c := by
  rintro (⟨hk, h⟩ | ⟨hp, p, hm, hpl⟩ | h)
  · rw [cont_3 hk] at hl
    unfold sackE at hl
    simp only [List.length_append, be_length, gapsE_length, dupsE_length] at hl
    omega
  · have h1 := val_le_size c.ps p hm
    have h2 := size_le_enc c.ps
    by_cases h12 : c.kind = 1 ∨ c.kind = 2
    · rw [cont_12 h12, List.length_append] at hl
      omega
    · rw [cont_ps h12 hp] at hl
      omega
  · omega
set_option maxHeartbeats 8000000 in
set_option maxRecDepth 100000 in
theorem rput_k {w : World} {cs : Array Value} {c : Ck} (hs : Small c) (h : CkAt w w.heap.size cs c) :
    Calls Try.prog 57 #[.agg cs] w fun e w' => PutDoneC w c e w' ∧ Below w.heap.size w w' := by
  obtain ⟨i0, hi0, hz0, hz1, hz2⟩ := info_parts3 u8_info
  have HCOK := Lib.hid h.ok
  have hk256 := h.ok.kind
  have HSM := Lib.hid hs
  have hb5 := h.ok.tsn
  have hb6 := h.ok.st
  have hb7 := h.ok.mid
  have hb8 := h.ok.pp
  have hb9 := h.ok.fr
  have hb10 := h.ok.tag
  have hb11 := h.ok.win
  have hb12 := h.ok.out
  have hb13 := h.ok.inn
  obtain ⟨cg, cd, csk, cpp, cb, hcc, hcl⟩ := h.parts
  have HCC := Lib.hid hcc
  have HCL := Lib.hid hcl
  obtain ⟨kd, hkd⟩ : ∃ kd, kd = c.kind := ⟨_, rfl⟩
  have HKD := Lib.hid hkd
  rw [← hkd] at hk256
  have e0 := hcc.c0
  rw [← hkd] at e0
  have HBL := Lib.hid (Blk.new w 32 cs)
  have HBW := Lib.hid ((Below.refl w.heap.size w).alloc (Nat.le_refl _) (.cells cs 32))
  clear h hcc hcl hs hkd
  go_enter Try.func57, Try.ntmps57
  go_upto_region 1 with fail
  obtain ⟨W0, hW0⟩ : ∃ W0, W0 = w.alloc (.cells cs 32) := ⟨_, rfl⟩
  obtain ⟨g0, hg0⟩ : ∃ g, g = w.heap.size := ⟨_, rfl⟩
  rw [← hW0] at HBL HBW ⊢
  have HG0 : Hid (CkBlk W0 g0 cs) := by rw [hg0]; exact HBL
  rw [← hg0]
  have f0 := CkBlk.at HG0.out e0
  have wkd : IntKind.i64.wrap (kd : Int) = (kd : Int) := IntWalk.i64_in _ (by omega)
  clear hW0 HBL hg0
  go_wp2_with fail
  refine (rknown_any kd hk256 W0).mono ?_
  rintro e W1 ⟨rfl, rfl⟩
  by_cases hK : known kd = true
  rotate_left
  · have hK : known kd = false := by simpa using hK
    rw [hK]
    have HKN : Hid (known c.kind = false) := by rw [← HKD.out]; exact hK
    clear hK f0
    go_wp2_with fail
    go_ret2
    exact ⟨.inr ⟨60, .inl ⟨rfl, HKN.out⟩, rfl⟩, HBW.out⟩
  rw [hK]
  have HKN : Hid (known c.kind = true) := by rw [← HKD.out]; exact hK
  clear hK f0 wkd
  have HP0 : Hid (PtS w W0 g0 cs none 0 0 []) := ⟨HG0.out, World.ownsRow_nil _ _ _ _, rfl, by omega, by omega, HBW.out⟩
  clear HG0 HBW
  go_upto_region 6 with fail
  go_cut [28] from 28 to 28 (fun s wx => ∃ r, s = .bool r ∧ Hid (r = decide (kd = 0 ∨ kd = 64)) ∧ wx = W0)
  case first =>
    by_cases h0 : kd = 0
    · have d0b : ((kd : Int) == 0) = true := by rw [h0]; rfl
      have HQ : Hid (kd = 0 ∨ kd = 64) := by first | exact .inl h0 | exact .inr h0 | exact .inr (.inl h0) | exact .inr (.inr h0) | exact .inr (.inr (.inl h0)) | exact .inr (.inr (.inr h0)) | exact .inr (.inr (.inr (.inl h0))) | exact .inr (.inr (.inr (.inr h0)))
      clear h0
      go_wp2_with fail
      go_meet
      exact ⟨_, rfl, (decide_eq_true HQ.out).symm, rfl⟩
    have d0b : ((kd : Int) == 0) = false := beq_no (by omega)
    have HN0 := Lib.hid h0
    clear h0
    by_cases h1 : kd = 64
    · have d1b : ((kd : Int) == 64) = true := by rw [h1]; rfl
      have HQ : Hid (kd = 0 ∨ kd = 64) := by first | exact .inl h1 | exact .inr h1 | exact .inr (.inl h1) | exact .inr (.inr h1) | exact .inr (.inr (.inl h1)) | exact .inr (.inr (.inr h1)) | exact .inr (.inr (.inr (.inl h1))) | exact .inr (.inr (.inr (.inr h1)))
      clear h1
      go_wp2_with fail
      go_meet
      exact ⟨_, rfl, (decide_eq_true HQ.out).symm, rfl⟩
    have d1b : ((kd : Int) == 64) = false := beq_no (by omega)
    have HN1 := Lib.hid h1
    clear h1
    have HQ : Hid (¬ (kd = 0 ∨ kd = 64)) := by
      have := HN0.out
      have := HN1.out
      show ¬ _
      omega
    go_wp2_with fail
    go_meet
    exact ⟨_, rfl, (decide_eq_false HQ.out).symm, rfl⟩
  case rest =>
    obtain ⟨r, rfl, HR, hwc⟩ := hcut
    rw [hwc]
    clear hwc
    go_upto_if 28 with (fail)
    go_cut [5, 6] from 28 to 28 (fun s5 s6 wx => ∃ (A : Option Addr) (n cp : Nat), s5 = .slice A n cp ∧ s6 = .int .u8 (F1 c : Int) ∧ n ≤ 16 ∧ n ≤ cp ∧ cp ≤ 9223372036854775807 ∧ Hid (PtS w wx g0 cs A n cp (L1 c)) ∧ Hid (lacks c = false))
    case first =>
      cases r
      rotate_left
      · have hc : kd = 0 ∨ kd = 64 := of_decide_eq_true HR.out.symm
        clear HR
        have HC := Lib.hid hc
        clear hc
        have f18 := CkBlk.at HP0.out.b0 HCC.out.c18
        obtain ⟨nb, hnb⟩ : ∃ n, n = c.body.length := ⟨_, rfl⟩
        rw [← hnb] at f18
        have HNB := Lib.hid hnb
        clear hnb
        by_cases hz : nb = 0
        · subst hz
          have HLK : Hid (lacks c = true) := by
            have h1 : c.body = [] := List.eq_nil_of_length_eq_zero HNB.out.symm
            show lacks c = true
            unfold lacks hasBody
            rw [h1, ← HKD.out]
            have := HC.out
            rcases this with h | h <;> rw [h] <;> rfl
          go_wp2_with fail
          go_ret2
          exact ⟨.inr ⟨42, .inr (.inl ⟨rfl, HKN.out, HLK.out⟩), rfl⟩, HP0.out.below⟩
        have hz0 : ((nb : Int) == 0) = false := beq_no (by omega)
        have HLK : Hid (lacks c = false) := by
          show lacks c = false
          unfold lacks
          have h1 : c.body.isEmpty = false := by
            cases hb : c.body with
            | nil => have := HNB.out; rw [hb] at this; exact absurd this hz
            | cons _ _ => rfl
          rw [h1, Bool.and_false]
        clear hz
        have f2 := CkBlk.at HP0.out.b0 HCC.out.c2
        go_upto_if 34 with (fail)
        clear f18 hz0 f2
        go_cut [6] from 34 to 34 (fun s6 wx => s6 = .int .u8 (loN c.en : Int) ∧ wx = W0)
        case first =>
          by_cases hb : c.en = true
          · rw [hb]
            go_wp2_with fail
            go_meet
            exact ⟨by rw [hb]; rfl, rfl⟩
          · have hb : c.en = false := by simpa using hb
            rw [hb]
            go_wp2_with fail
            go_meet
            exact ⟨by rw [hb]; rfl, rfl⟩
        case rest =>
          obtain ⟨rfl, hwc⟩ := hcut
          rw [hwc]
          clear hwc
          obtain ⟨fe, hfe⟩ : ∃ f, f = loN c.en := ⟨_, rfl⟩
          have hfe1 : fe ≤ 1 := by rw [hfe]; exact loN_le _
          rw [← hfe]
          have HFE := Lib.hid hfe
          clear hfe
          have f1 := CkBlk.at HP0.out.b0 HCC.out.c1
          go_upto_if 38 with (fail)
          clear f1
          go_cut [6] from 38 to 38 (fun s6 wx => s6 = .int .u8 ((fe + 2 * loN c.bg : Nat) : Int) ∧ wx = W0)
          case first =>
            have w2 : IntKind.u8.wrap ((fe : Int) + 2) = ((fe + 2 : Nat) : Int) := by simp [IntKind.wrap, IntKind.bits, IntKind.signed]; omega
            have w2b : ((fe : Int) + 2) % 256 = ((fe + 2 : Nat) : Int) := by omega
            by_cases hb : c.bg = true
            · rw [hb]
              go_wp2_with fail
              go_meet
              exact ⟨by rw [hb]; simp [loN], rfl⟩
            · have hb : c.bg = false := by simpa using hb
              rw [hb]
              go_wp2_with fail
              go_meet
              exact ⟨by rw [hb]; simp [loN], rfl⟩
          case rest =>
            obtain ⟨rfl, hwc⟩ := hcut
            rw [hwc]
            clear hwc
            obtain ⟨fb, hfb⟩ : ∃ f, f = fe + 2 * loN c.bg := ⟨_, rfl⟩
            have hfb1 : fb ≤ 3 := by have := loN_le c.bg; omega
            rw [← hfb]
            have HFB := Lib.hid hfb
            clear hfb
            have f3 := CkBlk.at HP0.out.b0 HCC.out.c3
            go_upto_if 42 with (fail)
            clear f3
            go_cut [6] from 42 to 42 (fun s6 wx => s6 = .int .u8 ((fb + 4 * loN c.lo : Nat) : Int) ∧ wx = W0)
            case first =>
              have w2 : IntKind.u8.wrap ((fb : Int) + 4) = ((fb + 4 : Nat) : Int) := by simp [IntKind.wrap, IntKind.bits, IntKind.signed]; omega
              have w2b : ((fb : Int) + 4) % 256 = ((fb + 4 : Nat) : Int) := by omega
              by_cases hb : c.lo = true
              · rw [hb]
                go_wp2_with fail
                go_meet
                exact ⟨by rw [hb]; simp [loN], rfl⟩
              · have hb : c.lo = false := by simpa using hb
                rw [hb]
                go_wp2_with fail
                go_meet
                exact ⟨by rw [hb]; simp [loN], rfl⟩
            case rest =>
              obtain ⟨rfl, hwc⟩ := hcut
              rw [hwc]
              clear hwc
              have HFF : Hid (fb + 4 * loN c.lo = F1 c) := by
                show _ = _
                unfold F1
                rw [if_pos (by rw [← HKD.out]; exact HC.out), HFB.out, HFE.out]
                omega
              rw [HFF.out]
              clear HFF HFB HFE
              have f5 := CkBlk.at HP0.out.b0 HCC.out.c5
              have wx : IntKind.u64.wrap (c.tsn : Int) = (c.tsn : Int) := by simp [IntKind.wrap, IntKind.bits, IntKind.signed]; omega
              go_wp2_with fail
              refine (rputn_any w.heap.size none 0 0 _ (c.tsn) 4 W0 (by omega) (by omega) (by omega) HP0.out.own HP0.out.below.size).mono ?_
              rintro e W1 hd
              obtain ⟨A1, n1, cp1, rfl, hc1, hm1, hn1, HP1, HG⟩ := HP0.out.step hd
              clear hd HG f5 wx
              have f6 := CkBlk.at HP1.out.b0 HCC.out.c6
              have wx : IntKind.u64.wrap (c.st : Int) = (c.st : Int) := by simp [IntKind.wrap, IntKind.bits, IntKind.signed]; omega
              go_wp2_with fail
              refine (rputn_any w.heap.size A1 n1 cp1 _ (c.st) 2 W1 (by omega) (by omega) (by omega) HP1.out.own HP1.out.below.size).mono ?_
              rintro e W2 hd
              obtain ⟨A2, n2, cp2, rfl, hc2, hm2, hn2, HP2, HG⟩ := HP1.out.step hd
              clear hd HG f6 wx
              have hc := HC.out
              clear HC
              rcases hc with hc | hc
              · have HC := Lib.hid hc
                clear hc
                have q0 : ((kd : Int) == 0) = true := by rw [HC.out]; rfl
                have q64 : ((kd : Int) == 64) = false := by rw [HC.out]; rfl
                have f7 := CkBlk.at HP2.out.b0 HCC.out.c7
                have wx : IntKind.u64.wrap ((c.mid : Int) % 65536) = (c.mid : Int) % 65536 := by simp [IntKind.wrap, IntKind.bits, IntKind.signed]; omega
                go_wp2_with fail
                refine (rputn_any w.heap.size A2 n2 cp2 _ (c.mid % 65536) 2 W2 (by omega) (by omega) (by omega) HP2.out.own HP2.out.below.size).mono ?_
                rintro e W3 hd
                obtain ⟨A3, n3, cp3, rfl, hc3, hm3, hn3, HP3, HG⟩ := HP2.out.step hd
                clear hd HG f7 wx
                have f8 := CkBlk.at HP3.out.b0 HCC.out.c8
                have wx : IntKind.u64.wrap (c.pp : Int) = (c.pp : Int) := by simp [IntKind.wrap, IntKind.bits, IntKind.signed]; omega
                go_wp2_with fail
                refine (rputn_any w.heap.size A3 n3 cp3 _ (c.pp) 4 W3 (by omega) (by omega) (by omega) HP3.out.own HP3.out.below.size).mono ?_
                rintro e W4 hd
                obtain ⟨A4, n4, cp4, rfl, hc4, hm4, hn4, HP4, HG⟩ := HP3.out.step hd
                clear hd HG f8 wx
                have HF : Hid (PtS w W4 g0 cs A4 n4 cp4 (L1 c)) := HP4.out.as (by unfold L1 fragE; rw [if_pos (by rw [← HKD.out]; exact .inl HC.out), if_pos (by rw [← HKD.out]; exact HC.out)]; simp only [List.append_assoc, List.nil_append])
                go_wp2_with fail
                go_meet
                exact ⟨A4, n4, cp4, rfl, rfl, by omega, hc4, hm4, HF, HLK⟩
              · have HC := Lib.hid hc
                clear hc
                have q0 : ((kd : Int) == 0) = false := by rw [HC.out]; rfl
                have q64 : ((kd : Int) == 64) = true := by rw [HC.out]; rfl
                go_wp2_with fail
                refine (rputn_any w.heap.size A2 n2 cp2 _ (0) 2 W2 (by omega) (by omega) (by omega) HP2.out.own HP2.out.below.size).mono ?_
                rintro e W3 hd
                obtain ⟨A3, n3, cp3, rfl, hc3, hm3, hn3, HP3, HG⟩ := HP2.out.step hd
                clear hd HG
                have f7 := CkBlk.at HP3.out.b0 HCC.out.c7
                have wx : IntKind.u64.wrap (c.mid : Int) = (c.mid : Int) := by simp [IntKind.wrap, IntKind.bits, IntKind.signed]; omega
                go_wp2_with fail
                refine (rputn_any w.heap.size A3 n3 cp3 _ (c.mid) 4 W3 (by omega) (by omega) (by omega) HP3.out.own HP3.out.below.size).mono ?_
                rintro e W4 hd
                obtain ⟨A4, n4, cp4, rfl, hc4, hm4, hn4, HP4, HG⟩ := HP3.out.step hd
                clear hd HG f7 wx
                by_cases hbg : c.bg = true
                · have o1 := CkBlk.at HP4.out.b0 HCC.out.c1
                  rw [hbg] at o1
                  have HBG := Lib.hid hbg
                  clear hbg
                  have f8 := CkBlk.at HP4.out.b0 HCC.out.c8
                  have wx : IntKind.u64.wrap (c.pp : Int) = (c.pp : Int) := by simp [IntKind.wrap, IntKind.bits, IntKind.signed]; omega
                  go_wp2_with fail
                  refine (rputn_any w.heap.size A4 n4 cp4 _ (c.pp) 4 W4 (by omega) (by omega) (by omega) HP4.out.own HP4.out.below.size).mono ?_
                  rintro e W5 hd
                  obtain ⟨A5, n5, cp5, rfl, hc5, hm5, hn5, HP5, HG⟩ := HP4.out.step hd
                  clear hd HG f8 wx
                  clear o1
                  have HF : Hid (PtS w W5 g0 cs A5 n5 cp5 (L1 c)) := HP5.out.as (by unfold L1 fragE; rw [if_pos (by rw [← HKD.out]; exact .inr HC.out), if_neg (by rw [← HKD.out, HC.out]; decide), HBG.out]; simp only [List.append_assoc, List.nil_append, if_true, Bool.false_eq_true, if_false])
                  go_wp2_with fail
                  go_meet
                  exact ⟨A5, n5, cp5, rfl, rfl, by omega, hc5, hm5, HF, HLK⟩
                · have hbg : c.bg = false := by simpa using hbg
                  have o1 := CkBlk.at HP4.out.b0 HCC.out.c1
                  rw [hbg] at o1
                  have HBG := Lib.hid hbg
                  clear hbg
                  have f9 := CkBlk.at HP4.out.b0 HCC.out.c9
                  have wx : IntKind.u64.wrap (c.fr : Int) = (c.fr : Int) := by simp [IntKind.wrap, IntKind.bits, IntKind.signed]; omega
                  go_wp2_with fail
                  refine (rputn_any w.heap.size A4 n4 cp4 _ (c.fr) 4 W4 (by omega) (by omega) (by omega) HP4.out.own HP4.out.below.size).mono ?_
                  rintro e W5 hd
                  obtain ⟨A5, n5, cp5, rfl, hc5, hm5, hn5, HP5, HG⟩ := HP4.out.step hd
                  clear hd HG f9 wx
                  clear o1
                  have HF : Hid (PtS w W5 g0 cs A5 n5 cp5 (L1 c)) := HP5.out.as (by unfold L1 fragE; rw [if_pos (by rw [← HKD.out]; exact .inr HC.out), if_neg (by rw [← HKD.out, HC.out]; decide), HBG.out]; simp only [List.append_assoc, List.nil_append, if_true, Bool.false_eq_true, if_false])
                  go_wp2_with fail
                  go_meet
                  exact ⟨A5, n5, cp5, rfl, rfl, by omega, hc5, hm5, HF, HLK⟩
      · have hc : ¬ (kd = 0 ∨ kd = 64) := of_decide_eq_false HR.out.symm
        have HF : Hid (PtS w W0 g0 cs none 0 0 (L1 c)) := HP0.out.as (by unfold L1; rw [if_neg (by rw [← HKD.out]; exact hc)])
        have HFF : Hid (F1 c = 0) := by unfold F1; exact if_neg (by rw [← HKD.out]; exact hc)
        have HLK : Hid (lacks c = false) := by
          show lacks c = false
          unfold lacks hasBody
          rw [← HKD.out, beq_eq_false_iff_ne.2 (fun e => hc (.inl e)), beq_eq_false_iff_ne.2 (fun e => hc (.inr e))]
          rfl
        have HFG : Hid (Value.int .u8 (F1 c : Int) = .int .u8 0) := by rw [HFF.out]; rfl
        clear hc HR
        go_wp2_with fail
        go_meet
        exact ⟨none, 0, 0, rfl, HFG.out.symm, by omega, (by omega), (by omega), HF, HLK⟩
    case rest =>
      obtain ⟨A0, n0, cp0, rfl, rfl, hn0, hc0, hm0, hcut, HLK⟩ := hcut
      obtain ⟨W0, hW0⟩ : ∃ W, W = wc := ⟨_, rfl⟩
      rw [← hW0] at hcut ⊢
      have HP0 : Hid (PtS w W0 g0 cs A0 n0 cp0 (L1 c)) := hcut.out
      clear hW0 hcut
      obtain ⟨ff, hff⟩ : ∃ f, f = F1 c := ⟨_, rfl⟩
      have hff7 : ff ≤ 7 := by rw [hff]; unfold F1; split; (have h1 := loN_le c.en; have h2 := loN_le c.bg; have h3 := loN_le c.lo; omega); omega
      rw [← hff]
      have HFF := Lib.hid hff
      clear hff
      go_upto_region 24 with fail
      go_cut [92] from 92 to 92 (fun s wx => ∃ r, s = .bool r ∧ Hid (r = decide (kd = 1 ∨ kd = 2)) ∧ wx = W0)
      case first =>
        by_cases h0 : kd = 1
        · have d0b : ((kd : Int) == 1) = true := by rw [h0]; rfl
          have HQ : Hid (kd = 1 ∨ kd = 2) := by first | exact .inl h0 | exact .inr h0 | exact .inr (.inl h0) | exact .inr (.inr h0) | exact .inr (.inr (.inl h0)) | exact .inr (.inr (.inr h0)) | exact .inr (.inr (.inr (.inl h0))) | exact .inr (.inr (.inr (.inr h0)))
          clear h0
          go_wp2_with fail
          go_meet
          exact ⟨_, rfl, (decide_eq_true HQ.out).symm, rfl⟩
        have d0b : ((kd : Int) == 1) = false := beq_no (by omega)
        have HN0 := Lib.hid h0
        clear h0
        by_cases h1 : kd = 2
        · have d1b : ((kd : Int) == 2) = true := by rw [h1]; rfl
          have HQ : Hid (kd = 1 ∨ kd = 2) := by first | exact .inl h1 | exact .inr h1 | exact .inr (.inl h1) | exact .inr (.inr h1) | exact .inr (.inr (.inl h1)) | exact .inr (.inr (.inr h1)) | exact .inr (.inr (.inr (.inl h1))) | exact .inr (.inr (.inr (.inr h1)))
          clear h1
          go_wp2_with fail
          go_meet
          exact ⟨_, rfl, (decide_eq_true HQ.out).symm, rfl⟩
        have d1b : ((kd : Int) == 2) = false := beq_no (by omega)
        have HN1 := Lib.hid h1
        clear h1
        have HQ : Hid (¬ (kd = 1 ∨ kd = 2)) := by
          have := HN0.out
          have := HN1.out
          show ¬ _
          omega
        go_wp2_with fail
        go_meet
        exact ⟨_, rfl, (decide_eq_false HQ.out).symm, rfl⟩
      case rest =>
        obtain ⟨r, rfl, HR, hwc⟩ := hcut
        rw [hwc]
        clear hwc
        go_upto_if 92 with (fail)
        go_cut [5] from 92 to 92 (fun s5 wx => ∃ (A : Option Addr) (n cp : Nat), s5 = .slice A n cp ∧ n ≤ 32 ∧ n ≤ cp ∧ cp ≤ 9223372036854775807 ∧ Hid (PtS w wx g0 cs A n cp (L2 c)))
        case first =>
          cases r
          rotate_left
          · have hc : kd = 1 ∨ kd = 2 := of_decide_eq_true HR.out.symm
            clear HR
            have HC := Lib.hid hc
            clear hc
            have f10 := CkBlk.at HP0.out.b0 HCC.out.c10
            have wx : IntKind.u64.wrap (c.tag : Int) = (c.tag : Int) := by simp [IntKind.wrap, IntKind.bits, IntKind.signed]; omega
            go_wp2_with fail
            refine (rputn_any w.heap.size A0 n0 cp0 _ (c.tag) 4 W0 (by omega) (by omega) (by omega) HP0.out.own HP0.out.below.size).mono ?_
            rintro e W1 hd
            obtain ⟨A1, n1, cp1, rfl, hc1, hm1, hn1, HP1, HG⟩ := HP0.out.step hd
            clear hd HG f10 wx
            have f11 := CkBlk.at HP1.out.b0 HCC.out.c11
            have wx : IntKind.u64.wrap (c.win : Int) = (c.win : Int) := by simp [IntKind.wrap, IntKind.bits, IntKind.signed]; omega
            go_wp2_with fail
            refine (rputn_any w.heap.size A1 n1 cp1 _ (c.win) 4 W1 (by omega) (by omega) (by omega) HP1.out.own HP1.out.below.size).mono ?_
            rintro e W2 hd
            obtain ⟨A2, n2, cp2, rfl, hc2, hm2, hn2, HP2, HG⟩ := HP1.out.step hd
            clear hd HG f11 wx
            have f12 := CkBlk.at HP2.out.b0 HCC.out.c12
            have wx : IntKind.u64.wrap (c.out : Int) = (c.out : Int) := by simp [IntKind.wrap, IntKind.bits, IntKind.signed]; omega
            go_wp2_with fail
            refine (rputn_any w.heap.size A2 n2 cp2 _ (c.out) 2 W2 (by omega) (by omega) (by omega) HP2.out.own HP2.out.below.size).mono ?_
            rintro e W3 hd
            obtain ⟨A3, n3, cp3, rfl, hc3, hm3, hn3, HP3, HG⟩ := HP2.out.step hd
            clear hd HG f12 wx
            have f13 := CkBlk.at HP3.out.b0 HCC.out.c13
            have wx : IntKind.u64.wrap (c.inn : Int) = (c.inn : Int) := by simp [IntKind.wrap, IntKind.bits, IntKind.signed]; omega
            go_wp2_with fail
            refine (rputn_any w.heap.size A3 n3 cp3 _ (c.inn) 2 W3 (by omega) (by omega) (by omega) HP3.out.own HP3.out.below.size).mono ?_
            rintro e W4 hd
            obtain ⟨A4, n4, cp4, rfl, hc4, hm4, hn4, HP4, HG⟩ := HP3.out.step hd
            clear hd HG f13 wx
            have f5 := CkBlk.at HP4.out.b0 HCC.out.c5
            have wx : IntKind.u64.wrap (c.tsn : Int) = (c.tsn : Int) := by simp [IntKind.wrap, IntKind.bits, IntKind.signed]; omega
            go_wp2_with fail
            refine (rputn_any w.heap.size A4 n4 cp4 _ (c.tsn) 4 W4 (by omega) (by omega) (by omega) HP4.out.own HP4.out.below.size).mono ?_
            rintro e W5 hd
            obtain ⟨A5, n5, cp5, rfl, hc5, hm5, hn5, HP5, HG⟩ := HP4.out.step hd
            clear hd HG f5 wx
            have HF : Hid (PtS w W5 g0 cs A5 n5 cp5 (L2 c)) := HP5.out.as (by unfold L2 greetE; rw [if_pos (by rw [← HKD.out]; exact HC.out)]; simp only [List.append_assoc])
            go_wp2_with fail
            go_meet
            exact ⟨A5, n5, cp5, rfl, by omega, hc5, hm5, HF⟩
          · have hc : ¬ (kd = 1 ∨ kd = 2) := of_decide_eq_false HR.out.symm
            have HF : Hid (PtS w W0 g0 cs A0 n0 cp0 (L2 c)) := HP0.out.as (by unfold L2; rw [if_neg (by rw [← HKD.out]; exact hc)])
            clear hc HR
            go_wp2_with fail
            go_meet
            exact ⟨A0, n0, cp0, rfl, by omega, hc0, hm0, HF⟩
        case rest =>
          obtain ⟨A0, n0, cp0, rfl, hn0, hc0, hm0, hcut⟩ := hcut
          obtain ⟨W0, hW0⟩ : ∃ W, W = wc := ⟨_, rfl⟩
          rw [← hW0] at hcut ⊢
          have HP0 : Hid (PtS w W0 g0 cs A0 n0 cp0 (L2 c)) := hcut.out
          clear hW0 hcut
          have o4 := CkBlk.at HP0.out.b0 HCC.out.c4
          go_upto_region 30 with fail
          go_cut [127] from 127 to 127 (fun s wx => ∃ r, s = .bool r ∧ Hid (r = decide ((kd = 6 ∨ kd = 14) ∧ c.ba = true)) ∧ wx = W0)
          case first =>
            by_cases hb : c.ba = true
            · have hbx := hb
              rw [hb] at o4
              have HBA := Lib.hid hb
              clear hb hbx
              by_cases h6 : kd = 6
              · have d6 : ((kd : Int) == 6) = true := by rw [h6]; rfl
                have HQ : Hid ((kd = 6 ∨ kd = 14) ∧ c.ba = true) := ⟨.inl h6, HBA.out⟩
                clear h6
                go_wp2_with fail
                go_meet
                exact ⟨_, rfl, (decide_eq_true HQ.out).symm, rfl⟩
              have d6 : ((kd : Int) == 6) = false := beq_no (by omega)
              by_cases h14 : kd = 14
              · have d14 : ((kd : Int) == 14) = true := by rw [h14]; rfl
                have HQ : Hid ((kd = 6 ∨ kd = 14) ∧ c.ba = true) := ⟨.inr h14, HBA.out⟩
                clear h14 h6
                go_wp2_with fail
                go_meet
                exact ⟨_, rfl, (decide_eq_true HQ.out).symm, rfl⟩
              have d14 : ((kd : Int) == 14) = false := beq_no (by omega)
              have HQ : Hid (¬ ((kd = 6 ∨ kd = 14) ∧ c.ba = true)) := fun h => by have := h.1; omega
              clear h6 h14
              go_wp2_with fail
              go_meet
              exact ⟨_, rfl, (decide_eq_false HQ.out).symm, rfl⟩
            · have HQ : Hid (¬ ((kd = 6 ∨ kd = 14) ∧ c.ba = true)) := fun h => hb h.2
              have hb : c.ba = false := by simpa using hb
              rw [hb] at o4
              clear hb
              by_cases h6 : kd = 6
              · have d6 : ((kd : Int) == 6) = true := by rw [h6]; rfl
                clear h6
                go_wp2_with fail
                go_meet
                exact ⟨_, rfl, (decide_eq_false HQ.out).symm, rfl⟩
              have d6 : ((kd : Int) == 6) = false := beq_no (by omega)
              by_cases h14 : kd = 14
              · have d14 : ((kd : Int) == 14) = true := by rw [h14]; rfl
                clear h14 h6
                go_wp2_with fail
                go_meet
                exact ⟨_, rfl, (decide_eq_false HQ.out).symm, rfl⟩
              have d14 : ((kd : Int) == 14) = false := beq_no (by omega)
              clear h6 h14
              go_wp2_with fail
              go_meet
              exact ⟨_, rfl, (decide_eq_false HQ.out).symm, rfl⟩
          case rest =>
            obtain ⟨r, rfl, HR, hwc⟩ := hcut
            rw [hwc]
            clear hwc o4
            go_upto_if 127 with (fail)
            go_cut [6] from 127 to 127 (fun s6 wx => s6 = .int .u8 (flagsN c : Int) ∧ wx = W0)
            case first =>
              have HFN : Hid ((if (kd = 6 ∨ kd = 14) ∧ c.ba = true then 1 else ff) = flagsN c) := by rw [HFF.out, HKD.out]; exact F_flags HKN.out
              cases r
              · have h1 : Hid (ff = flagsN c) := by have := HFN.out; rw [if_neg (of_decide_eq_false HR.out.symm)] at this; exact this
                go_wp2_with fail
                go_meet
                exact ⟨by rw [← h1.out], rfl⟩
              · have h1 : Hid (1 = flagsN c) := by have := HFN.out; rw [if_pos (of_decide_eq_true HR.out.symm)] at this; exact this
                go_wp2_with fail
                go_meet
                exact ⟨by rw [← h1.out]; rfl, rfl⟩
            case rest =>
              obtain ⟨rfl, hwc⟩ := hcut
              rw [hwc]
              clear hwc HR HFF hff7
              have hfl : flagsN c ≤ 7 := by rw [← F_flags HKN.out]; split; omega; unfold F1; split; (have h1 := loN_le c.en; have h2 := loN_le c.bg; have h3 := loN_le c.lo; omega); omega
              obtain ⟨ff, hff⟩ : ∃ f, f = flagsN c := ⟨_, rfl⟩
              rw [← hff] at hfl ⊢
              have HFF := Lib.hid hff
              clear hff
              go_upto_if 129 with (fail)
              go_cut [5] from 129 to 129 (fun s5 wx => ∃ (A : Option Addr) (n cp : Nat), s5 = .slice A n cp ∧ n ≤ 600032 ∧ n ≤ cp ∧ cp ≤ 9223372036854775807 ∧ Hid (PtS w wx g0 cs A n cp (L3 c)))
              case first =>
                by_cases hc : kd = 3
                · have dt : ((kd : Int) == 3) = true := by rw [hc]; rfl
                  have HC := Lib.hid hc
                  clear hc
                  have o14 := CkBlk.at HP0.out.b0 HCC.out.c14
                  have o15 := CkBlk.at HP0.out.b0 HCC.out.c15
                  obtain ⟨ng, hng⟩ : ∃ n, n = c.gaps.length := ⟨_, rfl⟩
                  obtain ⟨nd, hnd⟩ : ∃ n, n = c.dups.length := ⟨_, rfl⟩
                  rw [← hng] at o14
                  rw [← hnd] at o15
                  have HNG := Lib.hid hng
                  have HND := Lib.hid hnd
                  clear hng hnd
                  have TL : Hid (65535 < ng ∨ 65535 < nd → PutErr c 43) := fun h => .inr (.inr ⟨rfl, HKN.out, HLK.out, .inl ⟨by rw [← HKD.out]; exact HC.out, by rw [← HNG.out, ← HND.out]; exact h⟩⟩)
                  by_cases hg : (65535 : Int) < (ng : Int)
                  · have dg : decide ((65535 : Int) < (ng : Int)) = true := decide_eq_true hg
                    go_wp2_with fail
                    go_ret2
                    exact ⟨.inr ⟨43, TL.out (.inl (by omega)), rfl⟩, HP0.out.below⟩
                  have dg : decide ((65535 : Int) < (ng : Int)) = false := decide_eq_false hg
                  by_cases hd : (65535 : Int) < (nd : Int)
                  · have dd : decide ((65535 : Int) < (nd : Int)) = true := decide_eq_true hd
                    go_wp2_with fail
                    go_ret2
                    exact ⟨.inr ⟨43, TL.out (.inr (by omega)), rfl⟩, HP0.out.below⟩
                  have dd : decide ((65535 : Int) < (nd : Int)) = false := decide_eq_false hd
                  have hg6 : ng ≤ 65535 := by omega
                  have hd6 : nd ≤ 65535 := by omega
                  have GR : Hid (∀ V, Below w.heap.size w V → Reads V w.heap.size 2 cg.A ng (gapC c.gaps)) := fun V hb => by rw [HNG.out]; exact HCL.out.gaps.below hb
                  have DR : Hid (∀ V, Below w.heap.size w V → Reads V w.heap.size 1 cd.A nd (dupC c.dups)) := fun V hb => by rw [HND.out]; exact HCL.out.dups.below hb
                  clear hg hd TL
                  go_upto_region 35 with fail
                  clear o14 o15 dg dd
                  have f5 := CkBlk.at HP0.out.b0 HCC.out.c5
                  have wx : IntKind.u64.wrap (c.tsn : Int) = (c.tsn : Int) := by simp [IntKind.wrap, IntKind.bits, IntKind.signed]; omega
                  go_wp2_with fail
                  refine (rputn_any w.heap.size A0 n0 cp0 _ (c.tsn) 4 W0 (by omega) (by omega) (by omega) HP0.out.own HP0.out.below.size).mono ?_
                  rintro e W1 hd
                  obtain ⟨A1, n1, cp1, rfl, hc1, hm1, hn1, HP1, HG⟩ := HP0.out.step hd
                  clear hd HG f5 wx
                  have f11 := CkBlk.at HP1.out.b0 HCC.out.c11
                  have wx : IntKind.u64.wrap (c.win : Int) = (c.win : Int) := by simp [IntKind.wrap, IntKind.bits, IntKind.signed]; omega
                  go_wp2_with fail
                  refine (rputn_any w.heap.size A1 n1 cp1 _ (c.win) 4 W1 (by omega) (by omega) (by omega) HP1.out.own HP1.out.below.size).mono ?_
                  rintro e W2 hd
                  obtain ⟨A2, n2, cp2, rfl, hc2, hm2, hn2, HP2, HG⟩ := HP1.out.step hd
                  clear hd HG f11 wx
                  have o14 := CkBlk.at HP2.out.b0 HCC.out.c14
                  rw [← HNG.out] at o14
                  have wx : IntKind.u64.wrap (ng : Int) = (ng : Int) := by simp [IntKind.wrap, IntKind.bits, IntKind.signed]; omega
                  go_wp2_with fail
                  refine (rputn_any w.heap.size A2 n2 cp2 _ (ng) 2 W2 (by omega) (by omega) (by omega) HP2.out.own HP2.out.below.size).mono ?_
                  rintro e W3 hd
                  obtain ⟨A3, n3, cp3, rfl, hc3, hm3, hn3, HP3, HG⟩ := HP2.out.step hd
                  clear hd HG wx
                  clear o14
                  have o15 := CkBlk.at HP3.out.b0 HCC.out.c15
                  rw [← HND.out] at o15
                  have wx : IntKind.u64.wrap (nd : Int) = (nd : Int) := by simp [IntKind.wrap, IntKind.bits, IntKind.signed]; omega
                  go_wp2_with fail
                  refine (rputn_any w.heap.size A3 n3 cp3 _ (nd) 2 W3 (by omega) (by omega) (by omega) HP3.out.own HP3.out.below.size).mono ?_
                  rintro e W4 hd
                  obtain ⟨A4, n4, cp4, rfl, hc4, hm4, hn4, HP4, HG⟩ := HP3.out.step hd
                  clear hd HG wx
                  clear o15
                  have o14 := CkBlk.at HP4.out.b0 HCC.out.c14
                  rw [← HNG.out] at o14
                  obtain ⟨X, hX⟩ : ∃ X, X = (((L2 c ++ be c.tsn 4) ++ be c.win 4) ++ be ng 2) ++ be nd 2 := ⟨_, rfl⟩
                  rw [← hX] at HP4
                  have HX := Lib.hid hX
                  have hn4 : n4 ≤ 44 := by omega
                  clear hX
                  go_wp2_with fail
                  go_loopw [5, 8, 165] (fun s5 _ i wr => ∃ (k : Nat) (A : Option Addr) (n cp : Nat), k ≤ ng ∧ i = .int .i64 k ∧ s5 = .slice A n cp ∧ n ≤ cp ∧ cp ≤ 9223372036854775807 ∧ n ≤ 44 + 4 * k ∧ Hid (PtS w wr g0 cs A n cp (X ++ gapsE (c.gaps.take k)))) (fun _ _ i _ => ng - (intOf i).toNat)
                  case atStart => exact ⟨0, A4, n4, cp4, by omega, rfl, rfl, hc4, hm4, by omega, HP4.out.as (by rw [List.take_zero]; simp [gapsE])⟩
                  case round =>
                    obtain ⟨k, A, n, cp, hk, rfl, rfl, hcn, hcm, hnk, HP⟩ := hrel
                    by_cases hlt : k < ng
                    · obtain ⟨ad, x, hA, hblk, hx, hc0, hc1⟩ := gap_cells (GR.out wr HP.out.below) HNG.out hlt
                      have hxb := HCOK.out.gaps x (List.mem_of_getElem? hx)
                      have HT : Hid (c.gaps.take (k + 1) = c.gaps.take k ++ [x]) := by have hl := (List.getElem?_eq_some_iff.1 hx); obtain ⟨hl1, hl2⟩ := hl; rw [List.take_succ_eq_append_getElem hl1, hl2]; rfl
                      obtain ⟨x1, hx1⟩ : ∃ v, v = x.1 := ⟨_, rfl⟩
                      obtain ⟨x2, hx2⟩ : ∃ v, v = x.2 := ⟨_, rfl⟩
                      have HXE : Hid (x = (x1, x2)) := by rw [hx1, hx2]; rfl
                      rw [← hx1] at hc0 hxb
                      rw [← hx2] at hc1 hxb
                      rcases HcA : cg.A with _ | ad2
                      · rw [HcA] at hA; cases hA
                      rw [HcA] at hA
                      injection hA with hA
                      subst hA
                      have HAA := Lib.hid HcA
                      have hq : True := trivial
                      have w1 : IntKind.u64.wrap (x1 : Int) = (x1 : Int) := by simp [IntKind.wrap, IntKind.bits, IntKind.signed]; omega
                      have w2 : IntKind.u64.wrap (x2 : Int) = (x2 : Int) := by simp [IntKind.wrap, IntKind.bits, IntKind.signed]; omega
                      obtain ⟨W1, hW1⟩ : ∃ W, W = wr.alloc (.cells #[.int .u16 (x1 : Int), .int .u16 (x2 : Int)] 85) := ⟨_, rfl⟩
                      obtain ⟨g8, hg8⟩ : ∃ g, g = wr.heap.size := ⟨_, rfl⟩
                      have HG8 : Hid (Blk W1 g8 85 #[.int .u16 (x1 : Int), .int .u16 (x2 : Int)]) := by rw [hW1, hg8]; exact Blk.new _ _ _
                      have HP1 := Lib.hid (HP.out.grows (show Below wr.heap.size wr W1 by rw [hW1]; exact (Below.refl _ wr).alloc (Nat.le_refl _) _))
                      have c8 : W1.cell? ⟨g8, 0, none⟩ = some (.int .u16 (x1 : Int)) := HG8.out.cell 0
                      clear hx hx1 hx2 hblk HcA hq HP
                      go_upto_region 42 with fail
                      rw [← hW1, ← hg8]
                      clear hW1 hg8
                      go_wp2_with fail
                      refine (rputn_any w.heap.size A n cp _ x1 2 W1 (by omega) (by omega) (by omega) HP1.out.own HP1.out.below.size).mono ?_
                      rintro e W2 hd
                      obtain ⟨A2, n2, cp2, rfl, hc2, hm2, hn2, HP2, HG⟩ := HP1.out.step hd
                      have HG9 := Lib.hid (HP1.out.blk HG.out HG8.out (by decide))
                      have c9 : W2.cell? ⟨g8, 1, none⟩ = some (.int .u16 (x2 : Int)) := HG9.out.cell 1
                      clear hd HG c8 HG8 HG9
                      go_wp2_with fail
                      refine (rputn_any w.heap.size A2 n2 cp2 _ x2 2 W2 (by omega) (by omega) (by omega) HP2.out.own HP2.out.below.size).mono ?_
                      rintro e W3 hd
                      obtain ⟨A3, n3, cp3, rfl, hc3, hm3, hn3, HP3, HG⟩ := HP2.out.step hd
                      clear hd HG c9
                      go_wp2_with fail
                      go_roundw
                      case rel => exact ⟨k + 1, A3, n3, cp3, by omega, by go_num, rfl, hc3, hm3, by omega, HP3.out.as (by rw [HT.out, gapsE_snoc, HXE.out]; simp only [List.append_assoc])⟩
                      case measure => simp [intOf]; omega
                    · obtain rfl : k = ng := by omega
                      have HTK : Hid (c.gaps.take k = c.gaps) := List.take_of_length_le (by rw [HNG.out]; exact Nat.le_refl _)
                      have HP5 : Hid (PtS w wr g0 cs A n cp (X ++ gapsE c.gaps)) := HP.out.as (by rw [HTK.out])
                      have o15 := CkBlk.at HP5.out.b0 HCC.out.c15
                      rw [← HND.out] at o15
                      clear HP HTK
                      go_wp2_with fail
                      go_loopw [5, 10, 183] (fun s5 _ i wr => ∃ (k2 : Nat) (A : Option Addr) (n cp : Nat), k2 ≤ nd ∧ i = .int .i64 k2 ∧ s5 = .slice A n cp ∧ n ≤ cp ∧ cp ≤ 9223372036854775807 ∧ n ≤ 300044 + 4 * k2 ∧ Hid (PtS w wr g0 cs A n cp ((X ++ gapsE c.gaps) ++ dupsE (c.dups.take k2)))) (fun _ _ i _ => nd - (intOf i).toNat)
                      case atStart => exact ⟨0, A, n, cp, by omega, rfl, rfl, hcn, hcm, by omega, HP5.out.as (by rw [List.take_zero]; simp [dupsE])⟩
                      case round =>
                        obtain ⟨k2, A, n, cp, hk2, rfl, rfl, hcn, hcm, hnk, HP⟩ := hrel
                        by_cases hlt : k2 < nd
                        · obtain ⟨ad, x, hA, hblk, hx, hc0⟩ := dup_cells (DR.out wr HP.out.below) HND.out hlt
                          have hxb := HCOK.out.dups x (List.mem_of_getElem? hx)
                          have HT : Hid (c.dups.take (k2 + 1) = c.dups.take k2 ++ [x]) := by have hl := (List.getElem?_eq_some_iff.1 hx); obtain ⟨hl1, hl2⟩ := hl; rw [List.take_succ_eq_append_getElem hl1, hl2]; rfl
                          rcases HcA : cd.A with _ | ad2
                          · rw [HcA] at hA; cases hA
                          rw [HcA] at hA
                          injection hA with hA
                          subst hA
                          have w1 : IntKind.u64.wrap (x : Int) = (x : Int) := by simp [IntKind.wrap, IntKind.bits, IntKind.signed]; omega
                          clear hx hblk HcA
                          go_wp2_with fail
                          refine (rputn_any w.heap.size A n cp _ x 4 wr (by omega) (by omega) (by omega) HP.out.own HP.out.below.size).mono ?_
                          rintro e W3 hd
                          obtain ⟨A3, n3, cp3, rfl, hc3, hm3, hn3, HP3, HG⟩ := HP.out.step hd
                          clear hd HG
                          go_wp2_with fail
                          go_roundw
                          case rel => exact ⟨k2 + 1, A3, n3, cp3, by omega, by go_num, rfl, hc3, hm3, by omega, HP3.out.as (by rw [HT.out, dupsE_snoc]; simp only [List.append_assoc])⟩
                          case measure => simp [intOf]; omega
                        · obtain rfl : k2 = nd := by omega
                          have HTK : Hid (c.dups.take k2 = c.dups) := List.take_of_length_le (by rw [HND.out]; exact Nat.le_refl _)
                          have HF : Hid (PtS w wr g0 cs A n cp (L3 c)) := HP.out.as (by rw [HTK.out, HX.out]; unfold L3 sackE; rw [if_pos (by rw [← HKD.out]; exact HC.out), HNG.out, HND.out]; simp only [List.append_assoc])
                          go_wp2_with fail
                          go_meet
                          exact ⟨A, n, cp, rfl, by omega, hcn, hcm, HF⟩
                · have dt : ((kd : Int) == 3) = false := beq_no (by omega)
                  have HF : Hid (PtS w W0 g0 cs A0 n0 cp0 (L3 c)) := HP0.out.as (by unfold L3; rw [if_neg (by rw [← HKD.out]; exact hc)])
                  clear hc
                  go_wp2_with fail
                  go_meet
                  exact ⟨A0, n0, cp0, rfl, by omega, hc0, hm0, HF⟩
              case rest =>
                obtain ⟨A0, n0, cp0, rfl, hn0, hc0, hm0, hcut⟩ := hcut
                obtain ⟨W0, hW0⟩ : ∃ W, W = wc := ⟨_, rfl⟩
                rw [← hW0] at hcut ⊢
                have HP0 : Hid (PtS w W0 g0 cs A0 n0 cp0 (L3 c)) := hcut.out
                clear hW0 hcut
                go_upto_region 50 with fail
                go_cut [201] from 201 to 201 (fun s wx => ∃ r, s = .bool r ∧ Hid (r = decide (kd = 7 ∨ kd = 192 ∨ kd = 194)) ∧ wx = W0)
                case first =>
                  by_cases h0 : kd = 7
                  · have d0b : ((kd : Int) == 7) = true := by rw [h0]; rfl
                    have HQ : Hid (kd = 7 ∨ kd = 192 ∨ kd = 194) := by first | exact .inl h0 | exact .inr h0 | exact .inr (.inl h0) | exact .inr (.inr h0) | exact .inr (.inr (.inl h0)) | exact .inr (.inr (.inr h0)) | exact .inr (.inr (.inr (.inl h0))) | exact .inr (.inr (.inr (.inr h0)))
                    clear h0
                    go_wp2_with fail
                    go_meet
                    exact ⟨_, rfl, (decide_eq_true HQ.out).symm, rfl⟩
                  have d0b : ((kd : Int) == 7) = false := beq_no (by omega)
                  have HN0 := Lib.hid h0
                  clear h0
                  by_cases h1 : kd = 192
                  · have d1b : ((kd : Int) == 192) = true := by rw [h1]; rfl
                    have HQ : Hid (kd = 7 ∨ kd = 192 ∨ kd = 194) := by first | exact .inl h1 | exact .inr h1 | exact .inr (.inl h1) | exact .inr (.inr h1) | exact .inr (.inr (.inl h1)) | exact .inr (.inr (.inr h1)) | exact .inr (.inr (.inr (.inl h1))) | exact .inr (.inr (.inr (.inr h1)))
                    clear h1
                    go_wp2_with fail
                    go_meet
                    exact ⟨_, rfl, (decide_eq_true HQ.out).symm, rfl⟩
                  have d1b : ((kd : Int) == 192) = false := beq_no (by omega)
                  have HN1 := Lib.hid h1
                  clear h1
                  by_cases h2 : kd = 194
                  · have d2b : ((kd : Int) == 194) = true := by rw [h2]; rfl
                    have HQ : Hid (kd = 7 ∨ kd = 192 ∨ kd = 194) := by first | exact .inl h2 | exact .inr h2 | exact .inr (.inl h2) | exact .inr (.inr h2) | exact .inr (.inr (.inl h2)) | exact .inr (.inr (.inr h2)) | exact .inr (.inr (.inr (.inl h2))) | exact .inr (.inr (.inr (.inr h2)))
                    clear h2
                    go_wp2_with fail
                    go_meet
                    exact ⟨_, rfl, (decide_eq_true HQ.out).symm, rfl⟩
                  have d2b : ((kd : Int) == 194) = false := beq_no (by omega)
                  have HN2 := Lib.hid h2
                  clear h2
                  have HQ : Hid (¬ (kd = 7 ∨ kd = 192 ∨ kd = 194)) := by
                    have := HN0.out
                    have := HN1.out
                    have := HN2.out
                    show ¬ _
                    omega
                  go_wp2_with fail
                  go_meet
                  exact ⟨_, rfl, (decide_eq_false HQ.out).symm, rfl⟩
                case rest =>
                  obtain ⟨r, rfl, HR, hwc⟩ := hcut
                  rw [hwc]
                  clear hwc
                  go_upto_if 201 with (fail)
                  go_cut [5] from 201 to 201 (fun s5 wx => ∃ (A : Option Addr) (n cp : Nat), s5 = .slice A n cp ∧ n ≤ 600036 ∧ n ≤ cp ∧ cp ≤ 9223372036854775807 ∧ Hid (PtS w wx g0 cs A n cp (L4 c)))
                  case first =>
                    cases r
                    rotate_left
                    · have hc : kd = 7 ∨ kd = 192 ∨ kd = 194 := of_decide_eq_true HR.out.symm
                      clear HR
                      have HC := Lib.hid hc
                      clear hc
                      have f5 := CkBlk.at HP0.out.b0 HCC.out.c5
                      have wx : IntKind.u64.wrap (c.tsn : Int) = (c.tsn : Int) := by simp [IntKind.wrap, IntKind.bits, IntKind.signed]; omega
                      go_wp2_with fail
                      refine (rputn_any w.heap.size A0 n0 cp0 _ (c.tsn) 4 W0 (by omega) (by omega) (by omega) HP0.out.own HP0.out.below.size).mono ?_
                      rintro e W1 hd
                      obtain ⟨A1, n1, cp1, rfl, hc1, hm1, hn1, HP1, HG⟩ := HP0.out.step hd
                      clear hd HG f5 wx
                      have HF : Hid (PtS w W1 g0 cs A1 n1 cp1 (L4 c)) := HP1.out.as (by unfold L4; rw [if_pos (by rw [← HKD.out]; exact HC.out)])
                      go_wp2_with fail
                      go_meet
                      exact ⟨A1, n1, cp1, rfl, by omega, hc1, hm1, HF⟩
                    · have hc : ¬ (kd = 7 ∨ kd = 192 ∨ kd = 194) := of_decide_eq_false HR.out.symm
                      have HF : Hid (PtS w W0 g0 cs A0 n0 cp0 (L4 c)) := HP0.out.as (by unfold L4; rw [if_neg (by rw [← HKD.out]; exact hc)])
                      clear hc HR
                      go_wp2_with fail
                      go_meet
                      exact ⟨A0, n0, cp0, rfl, by omega, hc0, hm0, HF⟩
                  case rest =>
                    obtain ⟨A0, n0, cp0, rfl, hn0, hc0, hm0, hcut⟩ := hcut
                    obtain ⟨W0, hW0⟩ : ∃ W, W = wc := ⟨_, rfl⟩
                    rw [← hW0] at hcut ⊢
                    have HP0 : Hid (PtS w W0 g0 cs A0 n0 cp0 (L4 c)) := hcut.out
                    clear hW0 hcut
                    go_upto_region 52 with fail
                    go_cut [212] from 212 to 212 (fun s wx => ∃ r, s = .bool r ∧ Hid (r = decide (kd = 192 ∨ kd = 194)) ∧ wx = W0)
                    case first =>
                      by_cases h0 : kd = 192
                      · have d0b : ((kd : Int) == 192) = true := by rw [h0]; rfl
                        have HQ : Hid (kd = 192 ∨ kd = 194) := by first | exact .inl h0 | exact .inr h0 | exact .inr (.inl h0) | exact .inr (.inr h0) | exact .inr (.inr (.inl h0)) | exact .inr (.inr (.inr h0)) | exact .inr (.inr (.inr (.inl h0))) | exact .inr (.inr (.inr (.inr h0)))
                        clear h0
                        go_wp2_with fail
                        go_meet
                        exact ⟨_, rfl, (decide_eq_true HQ.out).symm, rfl⟩
                      have d0b : ((kd : Int) == 192) = false := beq_no (by omega)
                      have HN0 := Lib.hid h0
                      clear h0
                      by_cases h1 : kd = 194
                      · have d1b : ((kd : Int) == 194) = true := by rw [h1]; rfl
                        have HQ : Hid (kd = 192 ∨ kd = 194) := by first | exact .inl h1 | exact .inr h1 | exact .inr (.inl h1) | exact .inr (.inr h1) | exact .inr (.inr (.inl h1)) | exact .inr (.inr (.inr h1)) | exact .inr (.inr (.inr (.inl h1))) | exact .inr (.inr (.inr (.inr h1)))
                        clear h1
                        go_wp2_with fail
                        go_meet
                        exact ⟨_, rfl, (decide_eq_true HQ.out).symm, rfl⟩
                      have d1b : ((kd : Int) == 194) = false := beq_no (by omega)
                      have HN1 := Lib.hid h1
                      clear h1
                      have HQ : Hid (¬ (kd = 192 ∨ kd = 194)) := by
                        have := HN0.out
                        have := HN1.out
                        show ¬ _
                        omega
                      go_wp2_with fail
                      go_meet
                      exact ⟨_, rfl, (decide_eq_false HQ.out).symm, rfl⟩
                    case rest =>
                      obtain ⟨r, rfl, HR, hwc⟩ := hcut
                      rw [hwc]
                      clear hwc
                      go_upto_if 212 with (fail)
                      go_cut [5] from 212 to 212 (fun s5 wx => ∃ (A : Option Addr) (n cp : Nat), s5 = .slice A n cp ∧ n ≤ 1050036 ∧ n ≤ cp ∧ cp ≤ 9223372036854775807 ∧ Hid (PtS w wx g0 cs A n cp (L5 c)))
                      case first =>
                        cases r
                        rotate_left
                        · have hc : kd = 192 ∨ kd = 194 := of_decide_eq_true HR.out.symm
                          clear HR
                          have HC := Lib.hid hc
                          clear hc
                          have o16 := CkBlk.at HP0.out.b0 HCC.out.c16
                          obtain ⟨ns, hns⟩ : ∃ n, n = c.skips.length := ⟨_, rfl⟩
                          rw [← hns] at o16
                          have HNS := Lib.hid hns
                          have hns6 : 8 * ns ≤ 450000 := by rw [hns]; exact HSM.out.skips
                          clear hns
                          have SR : Hid (∀ V, Below w.heap.size w V → Reads V w.heap.size 3 csk.A ns (skC c.skips)) := fun V hb => by rw [HNS.out]; exact HCL.out.skips.below hb
                          by_cases h192 : kd = 192
                          · have d192 : ((kd : Int) == 192) = true := by rw [h192]; rfl
                            have H192 := Lib.hid h192
                            clear h192
                            go_wp2_with fail
                            go_loopw [5, 12, 13, 216] (fun s5 _ _ i wr => ∃ (k : Nat) (A : Option Addr) (n cp : Nat), k ≤ ns ∧ i = .int .i64 k ∧ s5 = .slice A n cp ∧ n ≤ cp ∧ cp ≤ 9223372036854775807 ∧ n ≤ 600036 + 4 * k ∧ Hid (PtS w wr g0 cs A n cp (L4 c ++ sksE (c.skips.take k)))) (fun _ _ _ i _ => ns - (intOf i).toNat)
                            case atStart => exact ⟨0, A0, n0, cp0, by omega, rfl, rfl, hc0, hm0, by omega, HP0.out.as (by rw [List.take_zero]; simp [sksE])⟩
                            case round =>
                              obtain ⟨k, A, n, cp, hk, rfl, rfl, hcn, hcm, hnk, HP⟩ := hrel
                              by_cases hlt : k < ns
                              · obtain ⟨ad, x, hA, hblk, hx, hc0, hc1, hc2⟩ := sk_cells (SR.out wr HP.out.below) HNS.out hlt
                                have hxb := HCOK.out.skips x (List.mem_of_getElem? hx)
                                have HT : Hid (c.skips.take (k + 1) = c.skips.take k ++ [x]) := by have hl := (List.getElem?_eq_some_iff.1 hx); obtain ⟨hl1, hl2⟩ := hl; rw [List.take_succ_eq_append_getElem hl1, hl2]; rfl
                                obtain ⟨x1, hx1⟩ : ∃ v, v = x.1 := ⟨_, rfl⟩
                                obtain ⟨x2, hx2⟩ : ∃ v, v = x.2.1 := ⟨_, rfl⟩
                                obtain ⟨x3, hx3⟩ : ∃ v, v = x.2.2 := ⟨_, rfl⟩
                                have HXE : Hid (x = (x1, x2, x3)) := by rw [hx1, hx2, hx3]; rfl
                                rw [← hx1] at hc0 hxb
                                rw [← hx2] at hc1
                                rw [← hx3] at hc2 hxb
                                rcases HcA : csk.A with _ | ad2
                                · rw [HcA] at hA; cases hA
                                rw [HcA] at hA
                                injection hA with hA
                                subst hA
                                have w1 : IntKind.u64.wrap (x1 : Int) = (x1 : Int) := by simp [IntKind.wrap, IntKind.bits, IntKind.signed]; omega
                                have w3 : IntKind.u64.wrap ((x3 : Int) % 65536) = (x3 : Int) % 65536 := by simp [IntKind.wrap, IntKind.bits, IntKind.signed]; omega
                                obtain ⟨W1, hW1⟩ : ∃ W, W = wr.alloc (.cells #[.int .u16 (x1 : Int), .bool x2, .int .u32 (x3 : Int)] 87) := ⟨_, rfl⟩
                                obtain ⟨g8, hg8⟩ : ∃ g, g = wr.heap.size := ⟨_, rfl⟩
                                have HG8 : Hid (Blk W1 g8 87 #[.int .u16 (x1 : Int), .bool x2, .int .u32 (x3 : Int)]) := by rw [hW1, hg8]; exact Blk.new _ _ _
                                have HP1 := Lib.hid (HP.out.grows (show Below wr.heap.size wr W1 by rw [hW1]; exact (Below.refl _ wr).alloc (Nat.le_refl _) _))
                                have c8 : W1.cell? ⟨g8, 0, none⟩ = some (.int .u16 (x1 : Int)) := HG8.out.cell 0
                                clear hx hx1 hx2 hx3 hblk HcA HP
                                go_upto_region 56 with fail
                                rw [← hW1, ← hg8]
                                clear hW1 hg8
                                go_wp2_with fail
                                refine (rputn_any w.heap.size A n cp _ x1 2 W1 (by omega) (by omega) (by omega) HP1.out.own HP1.out.below.size).mono ?_
                                rintro e W2 hd
                                obtain ⟨A2, n2, cp2, rfl, hc2, hm2, hn2, HP2, HG⟩ := HP1.out.step hd
                                have HG9 := Lib.hid (HP1.out.blk HG.out HG8.out (by decide))
                                clear hd HG c8 HG8
                                have c9 : W2.cell? ⟨g8, 2, none⟩ = some (.int .u32 (x3 : Int)) := HG9.out.cell 2
                                clear HG9
                                go_wp2_with fail
                                refine (rputn_any w.heap.size A2 n2 cp2 _ (x3 % 65536) 2 W2 (by omega) (by omega) (by omega) HP2.out.own HP2.out.below.size).mono ?_
                                rintro e W3 hd
                                obtain ⟨A3, n3, cp3, rfl, hc3, hm3, hn3, HP3, HG⟩ := HP2.out.step hd
                                clear hd HG c9
                                go_wp2_with fail
                                go_roundw
                                case rel => exact ⟨k + 1, A3, n3, cp3, by omega, by go_num, rfl, hc3, hm3, by omega, HP3.out.as (by rw [HT.out, sksE_snoc, HXE.out]; simp only [List.append_assoc])⟩
                                case measure => simp [intOf]; omega
                              · obtain rfl : k = ns := by omega
                                have HTK : Hid (c.skips.take k = c.skips) := List.take_of_length_le (by rw [HNS.out]; exact Nat.le_refl _)
                                have HF : Hid (PtS w wr g0 cs A n cp (L5 c)) := HP.out.as (by rw [HTK.out]; unfold L5; rw [if_pos (by rw [← HKD.out]; exact HC.out), if_pos (by rw [← HKD.out]; exact H192.out)])
                                go_wp2_with fail
                                go_meet
                                exact ⟨A, n, cp, rfl, by omega, hcn, hcm, HF⟩
                          · have d192 : ((kd : Int) == 192) = false := beq_no (by omega)
                            have H192 := Lib.hid h192
                            clear h192
                            go_wp2_with fail
                            go_loopw [5, 12, 13, 216] (fun s5 _ _ i wr => ∃ (k : Nat) (A : Option Addr) (n cp : Nat), k ≤ ns ∧ i = .int .i64 k ∧ s5 = .slice A n cp ∧ n ≤ cp ∧ cp ≤ 9223372036854775807 ∧ n ≤ 600036 + 8 * k ∧ Hid (PtS w wr g0 cs A n cp (L4 c ++ sksW (c.skips.take k)))) (fun _ _ _ i _ => ns - (intOf i).toNat)
                            case atStart => exact ⟨0, A0, n0, cp0, by omega, rfl, rfl, hc0, hm0, by omega, HP0.out.as (by rw [List.take_zero]; simp [sksW])⟩
                            case round =>
                              obtain ⟨k, A, n, cp, hk, rfl, rfl, hcn, hcm, hnk, HP⟩ := hrel
                              by_cases hlt : k < ns
                              · obtain ⟨ad, x, hA, hblk, hx, hc0, hc1, hc2⟩ := sk_cells (SR.out wr HP.out.below) HNS.out hlt
                                have hxb := HCOK.out.skips x (List.mem_of_getElem? hx)
                                have HT : Hid (c.skips.take (k + 1) = c.skips.take k ++ [x]) := by have hl := (List.getElem?_eq_some_iff.1 hx); obtain ⟨hl1, hl2⟩ := hl; rw [List.take_succ_eq_append_getElem hl1, hl2]; rfl
                                obtain ⟨x1, hx1⟩ : ∃ v, v = x.1 := ⟨_, rfl⟩
                                obtain ⟨x2, hx2⟩ : ∃ v, v = x.2.1 := ⟨_, rfl⟩
                                obtain ⟨x3, hx3⟩ : ∃ v, v = x.2.2 := ⟨_, rfl⟩
                                have HXE : Hid (x = (x1, x2, x3)) := by rw [hx1, hx2, hx3]; rfl
                                rw [← hx1] at hc0 hxb
                                rw [← hx2] at hc1
                                rw [← hx3] at hc2 hxb
                                rcases HcA : csk.A with _ | ad2
                                · rw [HcA] at hA; cases hA
                                rw [HcA] at hA
                                injection hA with hA
                                subst hA
                                have w1 : IntKind.u64.wrap (x1 : Int) = (x1 : Int) := by simp [IntKind.wrap, IntKind.bits, IntKind.signed]; omega
                                have w3 : IntKind.u64.wrap (x3 : Int) = (x3 : Int) := by simp [IntKind.wrap, IntKind.bits, IntKind.signed]; omega
                                obtain ⟨W1, hW1⟩ : ∃ W, W = wr.alloc (.cells #[.int .u16 (x1 : Int), .bool x2, .int .u32 (x3 : Int)] 87) := ⟨_, rfl⟩
                                obtain ⟨g8, hg8⟩ : ∃ g, g = wr.heap.size := ⟨_, rfl⟩
                                have HG8 : Hid (Blk W1 g8 87 #[.int .u16 (x1 : Int), .bool x2, .int .u32 (x3 : Int)]) := by rw [hW1, hg8]; exact Blk.new _ _ _
                                have HP1 := Lib.hid (HP.out.grows (show Below wr.heap.size wr W1 by rw [hW1]; exact (Below.refl _ wr).alloc (Nat.le_refl _) _))
                                have c8 : W1.cell? ⟨g8, 0, none⟩ = some (.int .u16 (x1 : Int)) := HG8.out.cell 0
                                clear hx hx1 hx2 hx3 hblk HcA HP
                                go_upto_region 56 with fail
                                rw [← hW1, ← hg8]
                                clear hW1 hg8
                                go_wp2_with fail
                                refine (rputn_any w.heap.size A n cp _ x1 2 W1 (by omega) (by omega) (by omega) HP1.out.own HP1.out.below.size).mono ?_
                                rintro e W2 hd
                                obtain ⟨A2, n2, cp2, rfl, hc2, hm2, hn2, HP2, HG⟩ := HP1.out.step hd
                                have HG9 := Lib.hid (HP1.out.blk HG.out HG8.out (by decide))
                                clear hd HG c8 HG8
                                have c9 : W2.cell? ⟨g8, 1, none⟩ = some (.bool x2) := HG9.out.cell 1
                                have hw : ∀ x2v : Bool, x2 = x2v → True := fun _ _ => trivial
                                clear hw
                                rcases hx2b : x2 with _ | _
                                · rw [hx2b] at c9 HG9
                                  have HX2 := Lib.hid hx2b
                                  clear hx2b
                                  go_wp2_with fail
                                  refine (rputn_any w.heap.size A2 n2 cp2 _ (loN false) 2 W2 (by decide) (by omega) (by omega) HP2.out.own HP2.out.below.size).mono ?_
                                  rintro e W3 hd
                                  obtain ⟨A3, n3, cp3, rfl, hc3, hm3, hn3, HP3, HG⟩ := HP2.out.step hd
                                  have HG10 := Lib.hid (HP2.out.blk HG.out HG9.out (by decide))
                                  have c10 : W3.cell? ⟨g8, 2, none⟩ = some (.int .u32 (x3 : Int)) := HG10.out.cell 2
                                  clear hd HG c9 HG9 HG10
                                  go_wp2_with fail
                                  refine (rputn_any w.heap.size A3 n3 cp3 _ x3 4 W3 (by omega) (by omega) (by omega) HP3.out.own HP3.out.below.size).mono ?_
                                  rintro e W4 hd
                                  obtain ⟨A4, n4, cp4, rfl, hc4, hm4, hn4, HP4, HG⟩ := HP3.out.step hd
                                  clear hd HG c10
                                  go_wp2_with fail
                                  go_roundw
                                  case rel => exact ⟨k + 1, A4, n4, cp4, by omega, by go_num, rfl, hc4, hm4, by omega, HP4.out.as (by rw [HT.out, sksW_snoc, HXE.out, HX2.out, be_loose]; simp only [List.append_assoc])⟩
                                  case measure => simp [intOf]; omega
                                · rw [hx2b] at c9 HG9
                                  have HX2 := Lib.hid hx2b
                                  clear hx2b
                                  go_wp2_with fail
                                  refine (rputn_any w.heap.size A2 n2 cp2 _ (loN true) 2 W2 (by decide) (by omega) (by omega) HP2.out.own HP2.out.below.size).mono ?_
                                  rintro e W3 hd
                                  obtain ⟨A3, n3, cp3, rfl, hc3, hm3, hn3, HP3, HG⟩ := HP2.out.step hd
                                  have HG10 := Lib.hid (HP2.out.blk HG.out HG9.out (by decide))
                                  have c10 : W3.cell? ⟨g8, 2, none⟩ = some (.int .u32 (x3 : Int)) := HG10.out.cell 2
                                  clear hd HG c9 HG9 HG10
                                  go_wp2_with fail
                                  refine (rputn_any w.heap.size A3 n3 cp3 _ x3 4 W3 (by omega) (by omega) (by omega) HP3.out.own HP3.out.below.size).mono ?_
                                  rintro e W4 hd
                                  obtain ⟨A4, n4, cp4, rfl, hc4, hm4, hn4, HP4, HG⟩ := HP3.out.step hd
                                  clear hd HG c10
                                  go_wp2_with fail
                                  go_roundw
                                  case rel => exact ⟨k + 1, A4, n4, cp4, by omega, by go_num, rfl, hc4, hm4, by omega, HP4.out.as (by rw [HT.out, sksW_snoc, HXE.out, HX2.out, be_loose]; simp only [List.append_assoc])⟩
                                  case measure => simp [intOf]; omega
                              · obtain rfl : k = ns := by omega
                                have HTK : Hid (c.skips.take k = c.skips) := List.take_of_length_le (by rw [HNS.out]; exact Nat.le_refl _)
                                have HF : Hid (PtS w wr g0 cs A n cp (L5 c)) := HP.out.as (by rw [HTK.out]; unfold L5; rw [if_pos (by rw [← HKD.out]; exact HC.out), if_neg (by rw [← HKD.out]; exact H192.out)])
                                go_wp2_with fail
                                go_meet
                                exact ⟨A, n, cp, rfl, by omega, hcn, hcm, HF⟩
                        · have hc : ¬ (kd = 192 ∨ kd = 194) := of_decide_eq_false HR.out.symm
                          have HF : Hid (PtS w W0 g0 cs A0 n0 cp0 (L5 c)) := HP0.out.as (by unfold L5; rw [if_neg (by rw [← HKD.out]; exact hc)])
                          clear hc HR
                          go_wp2_with fail
                          go_meet
                          exact ⟨A0, n0, cp0, rfl, by omega, hc0, hm0, HF⟩
                      case rest =>
                        obtain ⟨A0, n0, cp0, rfl, hn0, hc0, hm0, hcut⟩ := hcut
                        obtain ⟨W0, hW0⟩ : ∃ W, W = wc := ⟨_, rfl⟩
                        rw [← hW0] at hcut ⊢
                        have HP0 : Hid (PtS w W0 g0 cs A0 n0 cp0 (L5 c)) := hcut.out
                        clear hW0 hcut
                        go_upto_region 65 with fail
                        go_cut [261] from 261 to 261 (fun s wx => ∃ r, s = .bool r ∧ Hid (r = decide (kd = 1 ∨ kd = 2 ∨ kd = 6 ∨ kd = 9 ∨ kd = 130)) ∧ wx = W0)
                        case first =>
                          by_cases h0 : kd = 1
                          · have d0b : ((kd : Int) == 1) = true := by rw [h0]; rfl
                            have HQ : Hid (kd = 1 ∨ kd = 2 ∨ kd = 6 ∨ kd = 9 ∨ kd = 130) := by first | exact .inl h0 | exact .inr h0 | exact .inr (.inl h0) | exact .inr (.inr h0) | exact .inr (.inr (.inl h0)) | exact .inr (.inr (.inr h0)) | exact .inr (.inr (.inr (.inl h0))) | exact .inr (.inr (.inr (.inr h0)))
                            clear h0
                            go_wp2_with fail
                            go_meet
                            exact ⟨_, rfl, (decide_eq_true HQ.out).symm, rfl⟩
                          have d0b : ((kd : Int) == 1) = false := beq_no (by omega)
                          have HN0 := Lib.hid h0
                          clear h0
                          by_cases h1 : kd = 2
                          · have d1b : ((kd : Int) == 2) = true := by rw [h1]; rfl
                            have HQ : Hid (kd = 1 ∨ kd = 2 ∨ kd = 6 ∨ kd = 9 ∨ kd = 130) := by first | exact .inl h1 | exact .inr h1 | exact .inr (.inl h1) | exact .inr (.inr h1) | exact .inr (.inr (.inl h1)) | exact .inr (.inr (.inr h1)) | exact .inr (.inr (.inr (.inl h1))) | exact .inr (.inr (.inr (.inr h1)))
                            clear h1
                            go_wp2_with fail
                            go_meet
                            exact ⟨_, rfl, (decide_eq_true HQ.out).symm, rfl⟩
                          have d1b : ((kd : Int) == 2) = false := beq_no (by omega)
                          have HN1 := Lib.hid h1
                          clear h1
                          by_cases h2 : kd = 6
                          · have d2b : ((kd : Int) == 6) = true := by rw [h2]; rfl
                            have HQ : Hid (kd = 1 ∨ kd = 2 ∨ kd = 6 ∨ kd = 9 ∨ kd = 130) := by first | exact .inl h2 | exact .inr h2 | exact .inr (.inl h2) | exact .inr (.inr h2) | exact .inr (.inr (.inl h2)) | exact .inr (.inr (.inr h2)) | exact .inr (.inr (.inr (.inl h2))) | exact .inr (.inr (.inr (.inr h2)))
                            clear h2
                            go_wp2_with fail
                            go_meet
                            exact ⟨_, rfl, (decide_eq_true HQ.out).symm, rfl⟩
                          have d2b : ((kd : Int) == 6) = false := beq_no (by omega)
                          have HN2 := Lib.hid h2
                          clear h2
                          by_cases h3 : kd = 9
                          · have d3b : ((kd : Int) == 9) = true := by rw [h3]; rfl
                            have HQ : Hid (kd = 1 ∨ kd = 2 ∨ kd = 6 ∨ kd = 9 ∨ kd = 130) := by first | exact .inl h3 | exact .inr h3 | exact .inr (.inl h3) | exact .inr (.inr h3) | exact .inr (.inr (.inl h3)) | exact .inr (.inr (.inr h3)) | exact .inr (.inr (.inr (.inl h3))) | exact .inr (.inr (.inr (.inr h3)))
                            clear h3
                            go_wp2_with fail
                            go_meet
                            exact ⟨_, rfl, (decide_eq_true HQ.out).symm, rfl⟩
                          have d3b : ((kd : Int) == 9) = false := beq_no (by omega)
                          have HN3 := Lib.hid h3
                          clear h3
                          by_cases h4 : kd = 130
                          · have d4b : ((kd : Int) == 130) = true := by rw [h4]; rfl
                            have HQ : Hid (kd = 1 ∨ kd = 2 ∨ kd = 6 ∨ kd = 9 ∨ kd = 130) := by first | exact .inl h4 | exact .inr h4 | exact .inr (.inl h4) | exact .inr (.inr h4) | exact .inr (.inr (.inl h4)) | exact .inr (.inr (.inr h4)) | exact .inr (.inr (.inr (.inl h4))) | exact .inr (.inr (.inr (.inr h4)))
                            clear h4
                            go_wp2_with fail
                            go_meet
                            exact ⟨_, rfl, (decide_eq_true HQ.out).symm, rfl⟩
                          have d4b : ((kd : Int) == 130) = false := beq_no (by omega)
                          have HN4 := Lib.hid h4
                          clear h4
                          have HQ : Hid (¬ (kd = 1 ∨ kd = 2 ∨ kd = 6 ∨ kd = 9 ∨ kd = 130)) := by
                            have := HN0.out
                            have := HN1.out
                            have := HN2.out
                            have := HN3.out
                            have := HN4.out
                            show ¬ _
                            omega
                          go_wp2_with fail
                          go_meet
                          exact ⟨_, rfl, (decide_eq_false HQ.out).symm, rfl⟩
                        case rest =>
                          obtain ⟨r, rfl, HR, hwc⟩ := hcut
                          rw [hwc]
                          clear hwc
                          go_upto_if 261 with (fail)
                          go_cut [5] from 261 to 261 (fun s5 wx => ∃ (A : Option Addr) (n cp : Nat), s5 = .slice A n cp ∧ n ≤ 1950036 ∧ n ≤ cp ∧ cp ≤ 9223372036854775807 ∧ Hid (PtS w wx g0 cs A n cp (L6 c)))
                          case first =>
                            cases r
                            rotate_left
                            · have hc : kd = 1 ∨ kd = 2 ∨ kd = 6 ∨ kd = 9 ∨ kd = 130 := of_decide_eq_true HR.out.symm
                              clear HR
                              have HC := Lib.hid hc
                              clear hc
                              have o17 := CkBlk.at HP0.out.b0 HCC.out.c17
                              obtain ⟨np, hnp⟩ : ∃ n, n = c.ps.length := ⟨_, rfl⟩
                              rw [← hnp] at o17
                              have HNP := Lib.hid hnp
                              clear hnp
                              go_wp2_with fail
                              refine (rput_any cpp.A c.ps np cpp.cap W0 HNP.out HSM.out.ps ((HCL.out.ps.below HP0.out.below).more HP0.out.below.size)).mono ?_
                              rintro e W1 ⟨hd, hb1⟩
                              have HP1 := Lib.hid (HP0.out.grows hb1)
                              rcases hd with ⟨v, rfl, ho, hok⟩ | ⟨rfl, p, hpm, hpl⟩
                              rotate_left
                              · have TL : Hid (PutErr c 43) := .inr (.inr ⟨rfl, HKN.out, HLK.out, .inr (.inl ⟨by rw [← HKD.out]; have := HC.out; unfold hasPs; rcases this with h | h | h | h | h <;> rw [h] <;> rfl, p, hpm, hpl⟩)⟩)
                                clear hpm hpl hb1
                                go_wp2_with fail
                                go_ret2
                                exact ⟨.inr ⟨43, TL.out, rfl⟩, HP1.out.below⟩
                              obtain ⟨q, hq⟩ : ∃ q, q = (encL c.ps).length := ⟨_, rfl⟩
                              have hq9 : q ≤ 900000 := by rw [hq]; exact (L_bound HSM.out).2.2.1
                              have HQ := Lib.hid hq
                              obtain ⟨A2, c2, rfl, h2a, h2b, HY2⟩ := own_as (n := q) ho hq
                              clear ho hok hb1 hq
                              have hsz1 := HP1.out.below.size
                              go_wp2_with (at_builtin; refine wpList_append_any _ rfl (.tmp 270) (.tmp 271) _ rfl w.heap.size 5 i0 _ 1 1 Try.underlying22 hi0 hz0 hz1 hz2 rfl (by omega) (.slice A0 n0 cp0) n0 (u8s (L5 c)) rfl HP1.out.own W1.heap.size A2 q c2 (u8s (encL c.ps)) rfl (by have := HY2.out; unfold Byt at this; rw [← HQ.out] at this; exact this) (u8s_one _) (by simp only [maxLen]; omega) (by omega) hsz1 ?_; intro v3 V3 hown3 hg3 hat3; obtain ⟨A3, cp3, rfl, hc3, hm3, HP3⟩ := HP1.out.app hown3 (by rw [HQ.out]) hg3; clear hown3 hg3 hat3)
                              have HF : Hid (PtS w V3 g0 cs A3 (n0 + q) cp3 (L6 c)) := HP3.out.as (by unfold L6; rw [if_pos (by rw [← HKD.out]; exact HC.out)])
                              go_meet
                              exact ⟨A3, n0 + q, cp3, rfl, by omega, hc3, hm3, HF⟩
                            · have hc : ¬ (kd = 1 ∨ kd = 2 ∨ kd = 6 ∨ kd = 9 ∨ kd = 130) := of_decide_eq_false HR.out.symm
                              have HF : Hid (PtS w W0 g0 cs A0 n0 cp0 (L6 c)) := HP0.out.as (by unfold L6; rw [if_neg (by rw [← HKD.out]; exact hc)])
                              clear hc HR
                              go_wp2_with fail
                              go_meet
                              exact ⟨A0, n0, cp0, rfl, by omega, hc0, hm0, HF⟩
                          case rest =>
                            obtain ⟨A0, n0, cp0, rfl, hn0, hc0, hm0, hcut⟩ := hcut
                            obtain ⟨W0, hW0⟩ : ∃ W, W = wc := ⟨_, rfl⟩
                            rw [← hW0] at hcut ⊢
                            have HP0 : Hid (PtS w W0 g0 cs A0 n0 cp0 (L6 c)) := hcut.out
                            clear hW0 hcut
                            go_upto_region 70 with fail
                            go_cut [290] from 290 to 290 (fun s wx => ∃ r, s = .bool r ∧ Hid (r = decide (kd = 0 ∨ kd = 64 ∨ kd = 4 ∨ kd = 5 ∨ kd = 10)) ∧ wx = W0)
                            case first =>
                              by_cases h0 : kd = 0
                              · have d0b : ((kd : Int) == 0) = true := by rw [h0]; rfl
                                have HQ : Hid (kd = 0 ∨ kd = 64 ∨ kd = 4 ∨ kd = 5 ∨ kd = 10) := by first | exact .inl h0 | exact .inr h0 | exact .inr (.inl h0) | exact .inr (.inr h0) | exact .inr (.inr (.inl h0)) | exact .inr (.inr (.inr h0)) | exact .inr (.inr (.inr (.inl h0))) | exact .inr (.inr (.inr (.inr h0)))
                                clear h0
                                go_wp2_with fail
                                go_meet
                                exact ⟨_, rfl, (decide_eq_true HQ.out).symm, rfl⟩
                              have d0b : ((kd : Int) == 0) = false := beq_no (by omega)
                              have HN0 := Lib.hid h0
                              clear h0
                              by_cases h1 : kd = 64
                              · have d1b : ((kd : Int) == 64) = true := by rw [h1]; rfl
                                have HQ : Hid (kd = 0 ∨ kd = 64 ∨ kd = 4 ∨ kd = 5 ∨ kd = 10) := by first | exact .inl h1 | exact .inr h1 | exact .inr (.inl h1) | exact .inr (.inr h1) | exact .inr (.inr (.inl h1)) | exact .inr (.inr (.inr h1)) | exact .inr (.inr (.inr (.inl h1))) | exact .inr (.inr (.inr (.inr h1)))
                                clear h1
                                go_wp2_with fail
                                go_meet
                                exact ⟨_, rfl, (decide_eq_true HQ.out).symm, rfl⟩
                              have d1b : ((kd : Int) == 64) = false := beq_no (by omega)
                              have HN1 := Lib.hid h1
                              clear h1
                              by_cases h2 : kd = 4
                              · have d2b : ((kd : Int) == 4) = true := by rw [h2]; rfl
                                have HQ : Hid (kd = 0 ∨ kd = 64 ∨ kd = 4 ∨ kd = 5 ∨ kd = 10) := by first | exact .inl h2 | exact .inr h2 | exact .inr (.inl h2) | exact .inr (.inr h2) | exact .inr (.inr (.inl h2)) | exact .inr (.inr (.inr h2)) | exact .inr (.inr (.inr (.inl h2))) | exact .inr (.inr (.inr (.inr h2)))
                                clear h2
                                go_wp2_with fail
                                go_meet
                                exact ⟨_, rfl, (decide_eq_true HQ.out).symm, rfl⟩
                              have d2b : ((kd : Int) == 4) = false := beq_no (by omega)
                              have HN2 := Lib.hid h2
                              clear h2
                              by_cases h3 : kd = 5
                              · have d3b : ((kd : Int) == 5) = true := by rw [h3]; rfl
                                have HQ : Hid (kd = 0 ∨ kd = 64 ∨ kd = 4 ∨ kd = 5 ∨ kd = 10) := by first | exact .inl h3 | exact .inr h3 | exact .inr (.inl h3) | exact .inr (.inr h3) | exact .inr (.inr (.inl h3)) | exact .inr (.inr (.inr h3)) | exact .inr (.inr (.inr (.inl h3))) | exact .inr (.inr (.inr (.inr h3)))
                                clear h3
                                go_wp2_with fail
                                go_meet
                                exact ⟨_, rfl, (decide_eq_true HQ.out).symm, rfl⟩
                              have d3b : ((kd : Int) == 5) = false := beq_no (by omega)
                              have HN3 := Lib.hid h3
                              clear h3
                              by_cases h4 : kd = 10
                              · have d4b : ((kd : Int) == 10) = true := by rw [h4]; rfl
                                have HQ : Hid (kd = 0 ∨ kd = 64 ∨ kd = 4 ∨ kd = 5 ∨ kd = 10) := by first | exact .inl h4 | exact .inr h4 | exact .inr (.inl h4) | exact .inr (.inr h4) | exact .inr (.inr (.inl h4)) | exact .inr (.inr (.inr h4)) | exact .inr (.inr (.inr (.inl h4))) | exact .inr (.inr (.inr (.inr h4)))
                                clear h4
                                go_wp2_with fail
                                go_meet
                                exact ⟨_, rfl, (decide_eq_true HQ.out).symm, rfl⟩
                              have d4b : ((kd : Int) == 10) = false := beq_no (by omega)
                              have HN4 := Lib.hid h4
                              clear h4
                              have HQ : Hid (¬ (kd = 0 ∨ kd = 64 ∨ kd = 4 ∨ kd = 5 ∨ kd = 10)) := by
                                have := HN0.out
                                have := HN1.out
                                have := HN2.out
                                have := HN3.out
                                have := HN4.out
                                show ¬ _
                                omega
                              go_wp2_with fail
                              go_meet
                              exact ⟨_, rfl, (decide_eq_false HQ.out).symm, rfl⟩
                            case rest =>
                              obtain ⟨r, rfl, HR, hwc⟩ := hcut
                              rw [hwc]
                              clear hwc
                              go_upto_if 290 with (fail)
                              go_cut [5] from 290 to 290 (fun s5 wx => ∃ (A : Option Addr) (n cp : Nat), s5 = .slice A n cp ∧ n ≤ 2400036 ∧ n ≤ cp ∧ cp ≤ 9223372036854775807 ∧ Hid (PtS w wx g0 cs A n cp (L7 c)))
                              case first =>
                                cases r
                                rotate_left
                                · have hc : kd = 0 ∨ kd = 64 ∨ kd = 4 ∨ kd = 5 ∨ kd = 10 := of_decide_eq_true HR.out.symm
                                  clear HR
                                  have HC := Lib.hid hc
                                  clear hc
                                  have o18 := CkBlk.at HP0.out.b0 HCC.out.c18
                                  obtain ⟨q, hq⟩ : ∃ q, q = c.body.length := ⟨_, rfl⟩
                                  rw [← hq] at o18
                                  have hq9 : q ≤ 450000 := by rw [hq]; exact HSM.out.body
                                  have HQ := Lib.hid hq
                                  have HY2 : Hid (Reads W0 w.heap.size 1 cb.A q (u8s c.body)) := by have := HCL.out.body.below HP0.out.below; unfold Byt at this; rw [← hq] at this; exact this
                                  clear hq
                                  have hsz1 := HP0.out.below.size
                                  go_wp2_with (at_builtin; refine wpList_append_any _ rfl (.tmp 291) (.tmp 293) _ rfl w.heap.size 5 i0 _ 1 1 Try.underlying22 hi0 hz0 hz1 hz2 rfl (by omega) (.slice A0 n0 cp0) n0 (u8s (L6 c)) rfl HP0.out.own w.heap.size cb.A q cb.cap (u8s c.body) rfl HY2.out (u8s_one _) (by simp only [maxLen]; omega) (by omega) hsz1 ?_; intro v3 V3 hown3 hg3 hat3; obtain ⟨A3, cp3, rfl, hc3, hm3, HP3⟩ := HP0.out.app hown3 (by rw [HQ.out]) hg3; clear hown3 hg3 hat3)
                                  have HF : Hid (PtS w V3 g0 cs A3 (n0 + q) cp3 (L7 c)) := HP3.out.as (by unfold L7; rw [if_pos (by rw [← HKD.out]; exact HC.out)])
                                  go_meet
                                  exact ⟨A3, n0 + q, cp3, rfl, by omega, hc3, hm3, HF⟩
                                · have hc : ¬ (kd = 0 ∨ kd = 64 ∨ kd = 4 ∨ kd = 5 ∨ kd = 10) := of_decide_eq_false HR.out.symm
                                  have HF : Hid (PtS w W0 g0 cs A0 n0 cp0 (L7 c)) := HP0.out.as (by unfold L7; rw [if_neg (by rw [← HKD.out]; exact hc)])
                                  clear hc HR
                                  go_wp2_with fail
                                  go_meet
                                  exact ⟨A0, n0, cp0, rfl, by omega, hc0, hm0, HF⟩
                              case rest =>
                                obtain ⟨A0, n0, cp0, rfl, hn0, hc0, hm0, hcut⟩ := hcut
                                obtain ⟨W0, hW0⟩ : ∃ W, W = wc := ⟨_, rfl⟩
                                rw [← hW0] at hcut ⊢
                                have HP0 : Hid (PtS w W0 g0 cs A0 n0 cp0 (L7 c)) := hcut.out
                                clear hW0 hcut
                                have HP0 : Hid (PtS w W0 g0 cs A0 n0 cp0 (cont c)) := HP0.out.as (L7_cont HKN.out)
                                obtain ⟨x, hx⟩ : ∃ x, x = cont c := ⟨_, rfl⟩
                                rw [← hx] at HP0
                                have HX := Lib.hid hx
                                clear hx
                                by_cases hbig : (65535 : Int) < (n0 : Int) + 4
                                · have TL : Hid (PutErr c 43) := .inr (.inr ⟨rfl, HKN.out, HLK.out, .inr (.inr (by rw [← HX.out, ← HP0.out.len]; omega))⟩)
                                  go_wp2_with fail
                                  go_ret2
                                  exact ⟨.inr ⟨43, TL.out, rfl⟩, HP0.out.below⟩
                                have hn6 : n0 + 4 ≤ 65535 := by omega
                                have HPU : Hid (Puts c) := ⟨HKN.out, HLK.out, not_long (by rw [← HX.out, ← HP0.out.len]; exact hn6)⟩
                                have wk8 : IntKind.u8.wrap (kd : Int) = (kd : Int) := by simp [IntKind.wrap, IntKind.bits, IntKind.signed]; omega
                                have wk8b : (kd : Int) % 256 = (kd : Int) := by omega
                                have wn4 : IntKind.u64.wrap ((n0 : Int) + 4) = (n0 : Int) + 4 := by simp [IntKind.wrap, IntKind.bits, IntKind.signed]; omega
                                have HO1 : Hid ((W0.alloc (.cells #[.int .u8 (kd : Int), .int .u8 (ff : Int)] 5)).ownsRow W0.heap.size 5 1 (.slice (some ⟨W0.heap.size, 0, none⟩) 2 2) 2 (u8s [byteAt kd 0, byteAt ff 0])) := by
                                  have := own_pair W0 W0.heap.size (Nat.le_refl _) (byteAt kd 0) (byteAt ff 0)
                                  rw [← u8_be hk256, ← u8_be (show ff < 256 by omega)] at this
                                  exact this
                                have HB1 : Hid (Below W0.heap.size W0 (W0.alloc (.cells #[.int .u8 (kd : Int), .int .u8 (ff : Int)] 5))) := (Below.refl _ W0).alloc (Nat.le_refl _) _
                                obtain ⟨W1, hW1⟩ : ∃ W, W = W0.alloc (.cells #[.int .u8 (kd : Int), .int .u8 (ff : Int)] 5) := ⟨_, rfl⟩
                                rw [← hW1] at HO1 HB1
                                obtain ⟨gq, hgq⟩ : ∃ g, g = W0.heap.size := ⟨_, rfl⟩
                                have HO1 : Hid (W1.ownsRow W0.heap.size 5 1 (.slice (some ⟨gq, 0, none⟩) 2 2) 2 (u8s [byteAt kd 0, byteAt ff 0])) := by rw [hgq]; exact HO1.out
                                go_upto_region 75 with fail
                                rw [← hW1, ← hgq]
                                clear hW1 hgq wk8 wk8b hbig
                                go_wp2_with fail
                                refine (rputn_any W0.heap.size (some ⟨gq, 0, none⟩) 2 2 _ (n0 + 4) 2 W1 (by omega) (by omega) (by omega) HO1.out HB1.out.size).mono ?_
                                rintro e W2 ⟨A2, n2, cp2, rfl, hn2, hc2, hm2, ho2, hg2⟩
                                have HB2 : Hid (Below W0.heap.size W0 W2) := HB1.out.grown hg2 HB1.out.size (fun g hg => (HO1.out.lt g hg).1)
                                have HP2 := Lib.hid (HP0.out.grows HB2.out)
                                have HO2 := Lib.hid ho2
                                have HN2 := Lib.hid hn2
                                have hn24 : n2 ≤ 4 := by omega
                                have hsz2 := HB2.out.size
                                have HR2 : Hid (Reads W2 W2.heap.size 1 A0 n0 (u8s x)) := Reads.of_own HP2.out.own
                                clear ho2 hg2 hn2 wn4 HB1 HO1
                                go_wp2_with (at_builtin; refine wpList_append_any _ rfl (.tmp 309) (.tmp 310) _ rfl W0.heap.size 5 i0 _ 1 1 Try.underlying22 hi0 hz0 hz1 hz2 rfl (by omega) (.slice A2 n2 cp2) n2 (u8s ([byteAt kd 0, byteAt ff 0] ++ be (n0 + 4) 2)) rfl HO2.out W2.heap.size A0 n0 cp0 (u8s x) rfl HR2.out (u8s_one _) (by simp only [maxLen]; omega) (by omega) hsz2 ?_; intro v3 W3 hown3 hg3 hat3; obtain ⟨A3, c3, rfl, hc3, hm3⟩ := own_slice hown3; have HB3 : Hid (Below W0.heap.size W0 W3) := HB2.out.grown hg3 HB2.out.size (fun g hg => (HO2.out.lt g hg).1); have HO3 := Lib.hid hown3; clear hown3 hg3 hat3)
                                have HLN : Hid (n2 + n0 = (([byteAt kd 0, byteAt ff 0] ++ be (n0 + 4) 2) ++ x).length) := by show _ = _; rw [List.length_append, List.length_append, be_length, ← HP0.out.len, HN2.out]; rfl
                                refine Calls.mono (by have := pad_any W0.heap.size (.slice A3 (n2 + n0) c3) (([byteAt kd 0, byteAt ff 0] ++ be (n0 + 4) 2) ++ x) 4 (by omega) W3 (by rw [← HLN.out]; omega) (by unfold Own; rw [← HLN.out, u8s_append]; exact HO3.out) HB3.out.size; exact this) ?_
                                rintro e W4 ⟨v4, rfl, ho4, hg4, hat4⟩
                                have HB4 : Hid (Below W0.heap.size W0 W4) := HB3.out.grown hg4 HB3.out.size (fun g hg => (HO3.out.lt g hg).1)
                                have HE : Hid ((([byteAt kd 0, byteAt ff 0] ++ be (n0 + 4) 2) ++ x) ++ List.replicate (padN (([byteAt kd 0, byteAt ff 0] ++ be (n0 + 4) 2) ++ x).length 4) 0 = bytesC c) := by
                                  have h1 := frame_eq kd ff x
                                  rw [← HP0.out.len] at h1
                                  unfold bytesC
                                  rw [← HKD.out, ← HFF.out, ← HX.out]
                                  exact h1
                                rw [HE.out] at ho4
                                have HO4 := Lib.hid (own_mono ho4 HP0.out.below.size)
                                clear ho4 hg4 hat4
                                go_wp2_with fail
                                go_ret2
                                exact ⟨.inl ⟨v4, HPU.out, rfl, HO4.out⟩, HP0.out.below.trans (HB4.out.mono HP0.out.below.size)⟩
end Go.Proofs.Ytpgklhecmafnbaa.Chk
