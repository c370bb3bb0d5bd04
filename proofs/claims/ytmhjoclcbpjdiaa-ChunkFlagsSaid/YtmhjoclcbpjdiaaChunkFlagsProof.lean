/-
  PROVED: ChunkFlags of flumelaw06 answers true for every input, and its arguments read afterwards as before. CONDITIONS: none beside the form's own.
-/
import Derived.Test.YtmhjoclcbpjdiaaRows
import Derived.Test.YtmhjoclcbpjdiaaChOpen
import Derived.Test.YtmhjoclcbpjdiaaChSz
import Derived.Test.YtmhjoclcbpjdiaaChBk
import Derived.Test.YtmhjoclcbpjdiaaSees
import Derived.WalkKit
import Derived.ProofKit
import Derived.OpenShut
import Derived.ShutString
import Derived.ChangeOld
import Derived.Below
namespace Go.Proofs.Ytmhjoclcbpjdiaa.chunkFlags
open Go.ChangeShapes Go.WideShapes Go.ChangeAt Go.RowKit
open Go.ChangeMaps (open_string shut_string)
set_option linter.unusedVariables false
set_option linter.unusedSimpArgs false

theorem own : ownKnob Try.prog.godebug = none := by kernel_rfl
theorem laidOut : laidOutB Try.prog = true := by kernel_rfl

/-- What the walk is told of a slice of integers that came in. -/
def IsRow (k : IntKind) (w : World) (a : Option Addr) (len cap : Nat) (zs : List Int) : Prop :=
  (a = none ∧ len = 0 ∧ cap = 0 ∧ zs = []) ∨
  ∃ x, a = some x ∧ len ≤ cap ∧ cap ≤ maxLen ∧ zs.length = cap ∧ (∀ i, i < zs.length → w.cell? (x.add i) = some (.int k (zs.getD i 0))) ∧ ∀ n ∈ zs, (Lit.int k n).wf = true

/-! ### The walk -/
open Words Oct Par Chk
set_option maxHeartbeats 4000000 in
set_option maxRecDepth 100000 in
theorem walk {H : Type} {enc : TypeId × Value → H} {base : Nat} (v0 : Value) (d0 : DataW H) (p0 : List MemPlace) (a1 : Int) (w : World) (o0 : Value.okWide Try.prog w .any base 31 v0) (k0 : DataW.Trod enc Try.prog w 0 (fun _ => true) true 31 v0 d0 p0) (w1 : (Lit.int .u8 a1).wf = true) :
    Calls Try.prog 6 #[v0, .int .u8 a1] w fun e w' => e = .returned (.bool true) ∧ Below w.heap.size w w' := by
  have bt := bounds_u8' w1
  obtain ⟨t, ht⟩ : ∃ t : UInt8, a1 = (t.toNat : Int) := ⟨UInt8.ofNat a1.toNat, by rw [UInt8.toNat_ofNat']; omega⟩
  subst ht
  clear w1
  obtain ⟨i0, hi0, hz0, hz1, hz2⟩ := info_parts3 u8_info
  obtain ⟨cs, rfl, hsz⟩ := okWide_struct Try.underlying31 o0
  have hsee : Sees w CkSh cs.toList := sees_of (sh := CkSh) rfl ckSh_fits k0
  obtain ⟨c, hat⟩ := ck_of hsee
  have HAT := Lib.hid hat
  have HSZ := Lib.hid hat.size
  have hk := hat.ok.kind
  obtain ⟨_, _, _, _, _, hcells, _⟩ := hat.parts
  have e0 := hcells.c0
  have HBL := Lib.hid (Blk.new w 31 cs)
  have HB := Lib.hid ((Below.refl w.heap.size w).alloc (Nat.le_refl _) (.cells cs 31))
  clear hsz hsee o0 k0 hat hcells
  go_enter Try.func6, Try.ntmps6
  go_upto_region 1 with (fail)
  obtain ⟨W0, hW0⟩ : ∃ W0, W0 = w.alloc (.cells cs 31) := ⟨_, rfl⟩
  rw [← hW0] at HBL HB ⊢
  obtain ⟨g0, hg0⟩ : ∃ g0, g0 = w.heap.size := ⟨_, rfl⟩
  rw [← hg0]
  have HG0 : Hid (CkBlk W0 g0 cs) := by rw [hg0]; exact HBL
  clear hW0 HBL hg0
  go_wp2_with fail
  refine (first_any W0).mono ?_
  rintro e W1 ⟨rfl, hb1⟩
  have HB1 := Lib.hid (HB.out.trans (hb1.mono HB.out.size))
  have HG1 : Hid (CkBlk W1 g0 cs) := HG0.out.below hb1 HG0.out.lt
  clear hb1 HG0 HB
  go_wp2_with (refine wpList_load_row rfl 31 _ rfl g0 rfl 31 cs (0, 0) _ HG1.out Try.underlying31 rfl (by rw [HSZ.out]; exact chunk_info) ?_)
  refine (size_k HB1.out.size (HAT.out.below HB1.out)).mono ?_
  rintro e W2 ⟨⟨s, rfl, hs⟩, hb2⟩
  have HS := Lib.hid hs
  have HB2 := Lib.hid (HB1.out.trans (hb2.mono HB1.out.size))
  have HG2 : Hid (CkBlk W2 g0 cs) := HG1.out.below hb2 HG1.out.lt
  clear hb2 HG1 HB1 hs
  by_cases hbig : (100000 : Int) < (s : Int)
  · go_wp2_with fail
    go_ret
    exact ⟨rfl, HB2.out⟩
  have HSM : Hid (Small c) := by
    have h1 := HS.out (by omega)
    unfold sizeC at h1
    exact ⟨by omega, by omega, by omega⟩
  go_wp2_with (refine wpList_load_row rfl 31 _ rfl g0 rfl 31 cs (0, 0) _ HG2.out Try.underlying31 rfl (by rw [HSZ.out]; exact chunk_info) ?_)
  refine (put_k HSM.out ((HAT.out.below HB2.out).more HB2.out.size)).mono ?_
  rintro e W3 ⟨hd, hb3⟩
  have HB3 := Lib.hid (HB2.out.trans (hb3.mono HB2.out.size))
  have HG3 : Hid (CkBlk W3 g0 cs) := HG2.out.below hb3 HG2.out.lt
  rcases hd with ⟨v, hp, rfl, ho⟩ | ⟨k, hk, rfl⟩
  · have hps := puts_short hp
    have HP := Lib.hid hp
    have HOKC := Lib.hid HAT.out.ok
    obtain ⟨l, hl⟩ : ∃ l, l = bytesC c := ⟨_, rfl⟩
    have hlen := bytes_len c
    rw [← hl] at hlen ho
    obtain ⟨nb, hnb⟩ : ∃ nb, nb = l.length := ⟨_, rfl⟩
    have hpad3 : padC (cont c).length ≤ 3 := by unfold padC; omega
    have hnb4 : 4 ≤ nb := by omega
    have hnb6 : nb < 70000 := by omega
    have HL := Lib.hid hl
    have HNB := Lib.hid hnb
    obtain ⟨A3, c3, rfl, h3a, h3b⟩ := own_slice ho
    have ho2 : W3.ownsRow W2.heap.size 5 1 (.slice A3 nb c3) nb (u8s l) := by have := ho; unfold Own at this; rw [← hnb] at this; exact this
    rw [← hnb] at h3a ⊢
    obtain ⟨gb, cap, hA, hg1, hg2⟩ := ho2.form (by omega)
    injection hA with hA _ hcc
    subst hA hcc
    obtain ⟨fb, hfb⟩ : ∃ fb, fb = t.toNat := ⟨_, rfl⟩
    have hf256 : fb < 256 := by omega
    obtain ⟨l2, hl2⟩ : ∃ l2, l2 = l.set 1 t := ⟨_, rfl⟩
    have HL2 : Hid (l2 = frame c.kind fb (cont c)) := by
      rw [hl2, hl, hfb]
      exact set_flags c t
    have HO4 : Hid ((W3.setCell ⟨gb, 1, none⟩ (.int .u8 (fb : Int))).ownsRow W2.heap.size 5 1 (.slice (some ⟨gb, 0, none⟩) nb c3) nb (u8s l2)) := by
      rw [hl2, ← u8s_set, hfb]
      exact (ho2.stored 1 _).1
    have HNB2 : Hid (nb = l2.length) := by rw [hl2, List.length_set]; exact hnb
    have hcell : ∃ x : UInt8, W3.cell? ⟨gb, 1, none⟩ = some (.int .u8 (x.toNat : Int)) := by
      have h1 : W3.cell? ⟨gb, 1, none⟩ = (u8s l)[1]? := ho2.cellAt 1 (by omega)
      rw [u8s_get, List.getElem?_eq_getElem (by omega)] at h1
      exact ⟨_, h1⟩
    obtain ⟨x1, hc1⟩ := hcell
    have hfz := ho2.frozenAt 1
    have HG1 := Lib.hid hg1
    rw [← hfb]
    have q1 : (1 : Int) < (nb : Int) := by omega
    clear hl hnb ho ho2 hp hb3 HSM HS hlen hpad3 hps hl2 hfb bt
    go_upto_region 7 with fail
    obtain ⟨W4, hW4⟩ : ∃ W4, W4 = W3.setCell ⟨gb, 1, none⟩ (.int .u8 (fb : Int)) := ⟨_, rfl⟩
    rw [← hW4] at HO4 ⊢
    have HB4 : Hid (Below w.heap.size w W4) := by rw [hW4]; exact HB3.out.setCell (p := ⟨gb, 1, none⟩) (Nat.le_trans HB2.out.size HG1.out) _
    have HG4 : Hid (CkBlk W4 g0 cs) := by
      rw [hW4]
      have h1 := (Below.refl W2.heap.size W3).setCell (p := ⟨gb, 1, none⟩) HG1.out (.int .u8 (fb : Int))
      exact HG3.out.below h1 HG2.out.lt
    clear hW4 HG3 HG2 hc1 hfz HG1
    refine (get_k HNB2.out h3a h3b (by have := HO4.out; rw [HNB2.out] at this; exact Reads.of_own this)).mono ?_
    rintro e W5 ⟨hb5, hd⟩
    have HB5 := Lib.hid (HB4.out.trans (hb5.mono HB4.out.size))
    have HG5 : Hid (CkBlk W5 g0 cs) := HG4.out.below hb5 HG4.out.lt
    have hgf := getC_frame (r := []) (f := fb) (x := cont c) HOKC.out.kind hf256 (puts_short HP.out) HP.out.known
    rw [List.append_nil, decC_cont HOKC.out HP.out, ← HL2.out] at hgf
    have hfo := flags_of c.kind fb
    have hbits := bit_of hf256
    clear hb5 HG4 HO4 q1
    by_cases hfe : fb = flagsN (flagged c.kind fb)
    · rw [if_pos hfe] at hgf
      simp only at hgf
      rw [hgf] at hd
      rcases hd with ⟨c5, n5, cs5, he, rfl, hown, hok5⟩ | ⟨_, he, _⟩
      rotate_left
      · cases he
      injection he with he
      injection he with he1 he2
      have HC5 := Lib.hid he1
      have HAT5 := Lib.hid (hown.at_ hok5)
      have HSZ5 := Lib.hid (hown.at_ hok5).size
      rw [hfo] at hfe
      have HFE := Lib.hid hfe
      have HBT := Lib.hid hbits
      clear hfe hbits
      clear hgf hown hok5 he1 he2 hfo
      go_upto_region 10 with (refine wpList_store_row rfl 31 _ _ rfl W5.heap.size cs5 rfl rfl 31 _ (Blk.new W5 31 _) (by rw [HSZ5.out]; exact chunk_info) (by rw [HSZ5.out]; rfl) HAT5.out.one ?_)
      obtain ⟨HC6, HB6⟩ := kept_ck W5 zeroA cs5
      obtain ⟨W6, hW6⟩ : ∃ W6, W6 = (W5.alloc (.cells zeroA 31)).setRow W5.heap.size cs5 := ⟨_, rfl⟩
      rw [← hW6] at HC6 HB6
      obtain ⟨g6, hg6⟩ : ∃ g6, g6 = W5.heap.size := ⟨_, rfl⟩
      rw [← hg6] at HC6
      have hW6' : W6 = (W5.alloc (.cells #[.int .u8 0, .bool false, .bool false, .bool false, .bool false, .int .u32 0, .int .u16 0, .int .u32 0, .int .u32 0, .int .u32 0, .int .u32 0, .int .u32 0, .int .u16 0, .int .u16 0, .slice none 0 0, .slice none 0 0, .slice none 0 0, .slice none 0 0, .slice none 0 0] 31)).setRow W5.heap.size cs5 := hW6
      rw [← hW6', ← hg6]
      have HB6' := Lib.hid (HB5.out.trans (HB6.mono HB5.out.size))
      have f06 := CkBlk.at (HG5.out.below HB6 HG5.out.lt) e0
      obtain ⟨_, _, _, _, _, hcells5, _⟩ := HAT5.out.parts
      have k1 := CkBlk.at HC6 hcells5.c1
      have k2 := CkBlk.at HC6 hcells5.c2
      have k3 := CkBlk.at HC6 hcells5.c3
      have k4 := CkBlk.at HC6 hcells5.c4
      have HCC := Lib.hid HC5.out
      rw [← HC5.out] at k1 k2 k3 k4
      obtain ⟨_, m1, m2, m3, m4, _⟩ := lacks_fill (c := c) (d := flagged c.kind fb) (flagged_kind' _ _)
      rw [m1] at k1
      rw [m2] at k2
      rw [m3] at k3
      rw [m4] at k4
      clear hcells5 HCC m1 m2 m3 m4
      clear hW6 hW6' hg6 HB6 HC6
      obtain ⟨kd, hkd⟩ : ∃ kd, kd = c.kind := ⟨_, rfl⟩
      have hfe := HFE.out
      have hbits := HBT.out
      clear HFE HBT
      rw [← hkd] at f06 hfe k1 k2 k3 k4
      have hbb : hasBody kd = true ↔ kd = 0 ∨ kd = 64 := by simp [hasBody]
      by_cases hb : kd = 0 ∨ kd = 64
      · rw [if_pos (hbb.2 hb)] at hfe
        rw [flagged_body (hbb.2 hb)] at k1 k2 k3
        have lt8 : (fb : Int) < 8 := by omega
        obtain ⟨b1, hb1⟩ : ∃ b1, b1 = (fb % 2 == 1) := ⟨_, rfl⟩
        obtain ⟨b2, hb2⟩ : ∃ b2, b2 = (fb / 2 % 2 == 1) := ⟨_, rfl⟩
        obtain ⟨b3, hb3⟩ : ∃ b3, b3 = (fb / 4 % 2 == 1) := ⟨_, rfl⟩
        obtain ⟨t1, t2, t3⟩ := hbits
        rw [← hb1] at t1
        rw [← hb2] at t2
        rw [← hb3] at t3
        have k1' : W6.cell? ⟨g6, 1, none⟩ = some (.bool b2) := by rw [hb2]; exact k1
        have k2' : W6.cell? ⟨g6, 2, none⟩ = some (.bool b1) := by rw [hb1]; exact k2
        have k3' : W6.cell? ⟨g6, 3, none⟩ = some (.bool b3) := by rw [hb3]; exact k3
        clear k1 k2 k3 k4 hb1 hb2 hb3 hkd hbb hfe
        rcases hb with rfl | rfl
        · go_wp2_with fail
          go_ret
          exact ⟨ret_bool (by simp), HB6'.out⟩
        · go_wp2_with fail
          go_ret
          exact ⟨ret_bool (by simp), HB6'.out⟩
      · have hnb : ¬ hasBody kd = true := fun h => hb (hbb.1 h)
        rw [if_neg hnb] at hfe
        have a1 : ¬ (kd : Int) = 0 := by omega
        have a2 : ¬ (kd : Int) = 64 := by omega
        by_cases h6 : kd = 6 ∨ kd = 14
        · rw [if_pos h6] at hfe
          rw [flagged_ba hnb h6] at k4
          have lt2 : (fb : Int) < 2 := by omega
          obtain ⟨b1, hb1⟩ : ∃ b1, b1 = (fb % 2 == 1) := ⟨_, rfl⟩
          have k4' : W6.cell? ⟨g6, 4, none⟩ = some (.bool b1) := by rw [hb1]; exact k4
          have t1 : ((fb : Int) == 1) = b1 := by
            rw [hb1, ← hfe, Bool.eq_iff_iff]
            simp
            omega
          clear k1 k2 k3 k4 hb1 hkd hbb hbits hnb hb a1 a2 hfe
          rcases h6 with rfl | rfl
          · go_wp2_with fail
            go_ret
            exact ⟨ret_bool (by simp), HB6'.out⟩
          · go_wp2_with fail
            go_ret
            exact ⟨ret_bool (by simp), HB6'.out⟩
        · rw [if_neg h6] at hfe
          have a3 : ¬ (kd : Int) = 6 := by omega
          have a4 : ¬ (kd : Int) = 14 := by omega
          clear k1 k2 k3 k4 hkd hbb hbits hnb hb h6
          subst hfe
          go_wp2_with fail
          go_ret
          exact ⟨ret_bool (by simp), HB6'.out⟩
    · rw [if_neg hfe] at hgf
      simp only at hgf
      rw [hgf] at hd
      rcases hd with ⟨_, _, _, he, _⟩ | ⟨k5, he, rfl⟩
      · cases he
      injection he with he
      subst he
      rw [hfo] at hfe
      have HFE := Lib.hid hfe
      have HBT := Lib.hid hbits
      clear hfe hbits
      clear hgf hfo
      go_upto_region 10 with (refine wpList_store_row rfl 31 _ _ rfl W5.heap.size zeroA rfl rfl 31 _ (Blk.new W5 31 _) chunk_info rfl (ck_one (zeroC 0)) ?_)
      obtain ⟨HC6, HB6⟩ := kept_ck W5 zeroA zeroA
      obtain ⟨W6, hW6⟩ : ∃ W6, W6 = (W5.alloc (.cells zeroA 31)).setRow W5.heap.size zeroA := ⟨_, rfl⟩
      rw [← hW6] at HC6 HB6
      obtain ⟨g6, hg6⟩ : ∃ g6, g6 = W5.heap.size := ⟨_, rfl⟩
      rw [← hg6] at HC6
      have hW6' : W6 = (W5.alloc (.cells #[.int .u8 0, .bool false, .bool false, .bool false, .bool false, .int .u32 0, .int .u16 0, .int .u32 0, .int .u32 0, .int .u32 0, .int .u32 0, .int .u32 0, .int .u16 0, .int .u16 0, .slice none 0 0, .slice none 0 0, .slice none 0 0, .slice none 0 0, .slice none 0 0] 31)).setRow W5.heap.size zeroA := hW6
      rw [← hW6', ← hg6]
      have HB6' := Lib.hid (HB5.out.trans (HB6.mono HB5.out.size))
      have f06 := CkBlk.at (HG5.out.below HB6 HG5.out.lt) e0
      clear hW6 hW6' hg6 HB6 HC6
      obtain ⟨kd, hkd⟩ : ∃ kd, kd = c.kind := ⟨_, rfl⟩
      have hfe := HFE.out
      have hbits := HBT.out
      clear HFE HBT
      rw [← hkd] at f06 hfe
      have hbb : hasBody kd = true ↔ kd = 0 ∨ kd = 64 := by simp [hasBody]
      by_cases hb : kd = 0 ∨ kd = 64
      · rw [if_pos (hbb.2 hb)] at hfe
        have lt8 : ¬ (fb : Int) < 8 := by omega
        clear hkd hbb hfe hbits
        rcases hb with rfl | rfl
        · go_wp2_with fail
          go_ret
          exact ⟨ret_bool (by simp), HB6'.out⟩
        · go_wp2_with fail
          go_ret
          exact ⟨ret_bool (by simp), HB6'.out⟩
      · have hnb : ¬ hasBody kd = true := fun h => hb (hbb.1 h)
        rw [if_neg hnb] at hfe
        have a1 : ¬ (kd : Int) = 0 := by omega
        have a2 : ¬ (kd : Int) = 64 := by omega
        by_cases h6 : kd = 6 ∨ kd = 14
        · rw [if_pos h6] at hfe
          have lt2 : ¬ (fb : Int) < 2 := by omega
          clear hkd hbb hnb hb a1 a2 hfe hbits
          rcases h6 with rfl | rfl
          · go_wp2_with fail
            go_ret
            exact ⟨ret_bool (by simp), HB6'.out⟩
          · go_wp2_with fail
            go_ret
            exact ⟨ret_bool (by simp), HB6'.out⟩
        · rw [if_neg h6] at hfe
          have a3 : ¬ (kd : Int) = 6 := by omega
          have a4 : ¬ (kd : Int) = 14 := by omega
          have a5 : ((fb : Int) == 0) = false := by simp; omega
          clear hkd hbb hnb hb h6 hfe hbits
          go_wp2_with fail
          go_ret
          exact ⟨ret_bool (by simp), HB6'.out⟩
  · have hk0 : ((k : Int) != 0) = true := by rcases hk with ⟨rfl, _⟩ | ⟨rfl, _⟩ | ⟨rfl, _⟩ <;> rfl
    clear hb3 hk
    go_wp2_with fail
    go_ret
    exact ⟨rfl, HB3.out⟩

/-! ### The row's step -/
set_option maxRecDepth 100000 in
theorem lifted (os : Os) (started : os.Started) (H : Type) (enc : TypeId × Value → H) :
    ReturnsInHanded {} Try.checked os 6 .any (Rows.chunkFlagsSpec.pre6 enc Try.prog Try.f6 Rows.chunkFlagsRow.domain false) (Rows.chunkFlagsSpec.post enc Try.prog Try.f6 false true false false) := by
  refine returnsInHanded_of_change (C := Try.checked) own started (by kernel_rfl) Try.func6
    (ChangeSpec.witness6 (enc := enc) (C := Try.checked) false ⟨#[], #[.agg #[.int .u8 0, .bool false, .bool false, .bool false, .bool false, .int .u32 0, .int .u16 0, .int .u32 0, .int .u32 0, .int .u32 0, .int .u32 0, .int .u32 0, .int .u16 0, .int .u16 0, .slice none 0 0, .slice none 0 0, .slice none 0 0, .slice none 0 0, .slice none 0 0], .int .u8 0], []⟩ 8 (by kernel_rfl) (by kernel_rfl) (by kernel_rfl) (by kernel_rfl)) ?_
  intro W base args ds gs before hval0 hW hcnd _
  have hval : ∀ (j : Nat) t v, Try.f6.params[j]? = some t → args[j]? = some v → Value.okWide Try.prog W .any base t v := hval0
  have hW' := hW
  obtain ⟨p, q, hA0, hV, rfl, hfz, hnd⟩ := hW
  have hA : DataW.TrodAll enc Try.prog W 0 (fun _ => true) true Try.f6.params.toList args.toList ds p := hA0
  rw [Try.params6] at hA hval
  obtain ⟨v0, vs0, d0, ds0, p0, q0, hargs, rfl, rfl, h0, r0⟩ := trodAll_cons hA
  obtain ⟨v1, vs1, d1, ds1, p1, q1, rfl, rfl, rfl, h1, r1⟩ := trodAll_cons r0
  obtain ⟨rfl, rfl, rfl⟩ := trodAll_nil r1
  obtain rfl : args = #[v0, v1] := by cases args; simp_all
  obtain ⟨rfl, rfl⟩ := trodVars_none hV
  have lt0 : ∀ x ∈ p0, x.block < W.heap.size := by obtain ⟨m, hm⟩ := h0; exact DataW.trod_lt m _ _ _ hm
  obtain ⟨a1, rfl, rfl, rfl, w1⟩ := open_int Try.underlying5 (hval 1 5 v1 rfl rfl) h1
  clear hA0 hval0
  refine (walk v0 d0 p0 a1 W (hval 0 31 v0 rfl rfl) h0 w1).mono fun e W' ⟨he, bel⟩ => ?_
  subst he
  exact ⟨_, rfl, _, _, _, [], _, [], hW', trodAll_mk1 (shut_bool Try.underlying4 _), (trodAll_cons_mk (Below.trod laidOut (by kernel_rfl) (of_decide_eq_true (by kernel_rfl)) h0 bel lt0) (trodAll_cons_mk (shut_int Try.underlying5 w1) trodAll_mk0)), rfl, bel.frame _, fun h => by cases h⟩

theorem over : Rows.chunkFlagsRow.holds Try.pinned (OpenSpec.ofChange Rows.chunkFlagsSpec) :=
  OpenClaim.holds_of_wide 6 Try.f6 rfl rfl rfl rfl rfl rfl rfl ⟨rfl, rfl, rfl, rfl, rfl⟩ rfl rfl rfl rfl rfl (by kernel_rfl) Try.func6 (by kernel_rfl)
    (of_decide_eq_true (by kernel_rfl)) (by unfold Func.isWrapper; first | (rw [if_pos (by decide +kernel)]; kernel_rfl) | (rw [if_neg (by decide +kernel)]; exact ⟨rfl, rfl⟩))
    (fun os started H enc _ => lifted os started H enc)

theorem proved : Rows.ChunkFlagsSaid := over
#print axioms proved
end Go.Proofs.Ytmhjoclcbpjdiaa.chunkFlags
