/-
  PROVED: PacketBroken of flumelaw07 answers true for every input, and its arguments read afterwards as before. CONDITIONS: none beside the form's own.
-/
import Derived.Test.YtpgklhecmafnbaaRows
import Derived.Test.YtpgklhecmafnbaaPkA
import Derived.Test.YtpgklhecmafnbaaCrcLaw
import Derived.Test.YtpgklhecmafnbaaSees
import Derived.WalkKit
import Derived.ProofKit
import Derived.OpenShut
import Derived.ShutString
import Derived.ChangeOld
import Derived.Below
namespace Go.Proofs.Ytpgklhecmafnbaa.packetBroken
open Go.ChangeShapes Go.WideShapes Go.ChangeAt Go.RowKit
open Go.ChangeMaps (open_string shut_string)
set_option linter.unusedVariables false
set_option linter.unusedSimpArgs false

theorem own : ownKnob Try.prog.godebug = none := by kernel_rfl
theorem laidOut : laidOutB Try.prog = true := by kernel_rfl

/-- What the walk is told of a slice of integers that came in. -/
def IsRow (k : IntKind) (w : World) (a : Option Addr) (len cap : Nat) (zs : List Int) : Prop :=
  (a = none ∧ len = 0 ∧ cap = 0 ∧ zs = []) ∨
  ∃ x, a = some x ∧ len ≤ cap ∧ cap ≤ maxLen ∧ zs.length = cap ∧ (∀ i, i < zs.length → w.cell? (x.add i) = some (.int k (zs.getD i 0))) ∧ ∀ n ∈ zs, (Lit.int k n).wf = true

/-! ### The walk -/
open Words Oct Par Chk
open Crc (sealL)
set_option maxHeartbeats 8000000 in
set_option maxRecDepth 100000 in
theorem walk {H : Type} {enc : TypeId × Value → H} {base : Nat} (v0 : Value) (d0 : DataW H) (p0 : List MemPlace) (a1 : Int) (a2 : Int) (w : World) (o0 : Value.okWide Try.prog w .any base 44 v0) (k0 : DataW.Trod enc Try.prog w 0 (fun _ => true) true 44 v0 d0 p0) (w1 : (Lit.int .i64 a1).wf = true) (w2 : (Lit.int .u32 a2).wf = true) :
    Calls Try.prog 7 #[v0, .int .i64 a1, .int .u32 a2] w fun e w' => e = .returned (.bool true) ∧ Below w.heap.size w w' := by
  obtain ⟨cs, rfl, hsz⟩ := okWide_struct Try.underlying44 o0
  have hsee : Sees w PkSh cs.toList := sees_of (sh := PkSh) rfl pkSh_fits k0
  obtain ⟨f, t0, g, A, cp, ls, rfl, hf, ht, hg, hnc, hcm, hck⟩ := pk_of hsee
  obtain ⟨n, hn⟩ : ∃ n, n = ls.length := ⟨_, rfl⟩
  rw [← hn] at hnc hsz hsee o0 k0 ⊢
  have HN := Lib.hid hn
  have HC := Lib.hid hck
  have hnm : n ≤ 9223372036854775807 := by omega
  have b2 := bounds_u32 w2
  obtain ⟨t, htt⟩ : ∃ t : Nat, a2 = (t : Int) := ⟨a2.toNat, by omega⟩
  subst htt
  have HBL := Lib.hid (Blk.new w 44 (pkV f t0 g (.slice A n cp)))
  have HB := Lib.hid ((Below.refl w.heap.size w).alloc (Nat.le_refl _) (.cells (pkV f t0 g (.slice A n cp)) 44))
  clear hsz hsee o0 k0 hck hn w2
  unfold pkV
  go_enter Try.func7, Try.ntmps7
  go_upto_region 1 with (fail)
  obtain ⟨W1, hW1⟩ : ∃ W1, W1 = w.alloc (.cells #[.int .u16 (f : Int), .int .u16 (t0 : Int), .int .u32 (g : Int), .slice A n cp] 44) := ⟨_, rfl⟩
  have hW1' : W1 = w.alloc (.cells (pkV f t0 g (.slice A n cp)) 44) := hW1
  rw [← hW1'] at HBL HB
  rw [← hW1]
  obtain ⟨g1, hg1⟩ : ∃ b, b = w.heap.size := ⟨_, rfl⟩
  have HP1 : Hid (Blk W1 g1 44 (pkV f t0 g (.slice A n cp))) := by rw [hg1]; exact HBL
  rw [← hg1]
  clear hW1 hW1' HBL hg1
  go_wp2_with fail
  refine (first_p W1).mono ?_
  rintro e W2 ⟨rfl, hb2⟩
  have HB2 := Lib.hid (HB.out.trans (hb2.mono HB.out.size))
  have HP2 : Hid (Blk W2 g1 44 (pkV f t0 g (.slice A n cp))) := HP1.out.below hb2 HP1.out.lt
  have x3 : W2.cell? ⟨g1, 3, none⟩ = some (.slice A n cp) := HP2.out.cell 3
  clear hb2 HP1 HB
  go_wp2_with fail
  refine (rsizeL_k (HC.out.below HB2.out) HB2.out.size HN.out hnm).mono ?_
  rintro e W3 ⟨⟨s, rfl, hs4, hs⟩, hb3⟩
  have HSS := Lib.hid hs
  have HB3 := Lib.hid (HB2.out.trans (hb3.mono HB2.out.size))
  have HP3 : Hid (Blk W3 g1 44 (pkV f t0 g (.slice A n cp))) := HP2.out.below hb3 HP2.out.lt
  clear hb3 HP2 HB2 x3 hs
  by_cases hbig : (5000 : Int) < (s : Int)
  · go_wp2_with fail
    go_ret
    exact ⟨rfl, HB3.out⟩
  by_cases ht0 : t = 0
  · subst ht0
    go_wp2_with fail
    go_ret
    exact ⟨rfl, HB3.out⟩
  have htn : ((t : Int) == 0) = false := by simp; omega
  have ht0' : 0 < t := by omega
  have HSC : Hid (sumC ls ≤ 5000) := by have := HSS.out (by omega); show _ ≤ _; omega
  clear HSS
  go_upto_region 5 with fail
  clear hbig htn
  have HC3 : Hid (Cks W3 W3.heap.size A ls) := (HC.out.below HB3.out).more HB3.out.size
  have hcall := put_p (c := cp) HC3.out HN.out (by have := HSC.out; omega) hf ht hg
  have HCALL := Lib.hid hcall
  clear hcall
  go_wp2_with (refine wpList_load_pkW rfl _ rfl g1 rfl (pkV f t0 g (.slice A n cp)) HP3.out rfl ?_)
  refine HCALL.out.mono ?_
  rintro e W4 ⟨⟨kk, v4, l, rfl, hkk, ho4, hp4⟩, hb4⟩
  have HPP := Lib.hid hp4
  have HO4 := Lib.hid ho4
  have HB4 := Lib.hid (HB3.out.trans (hb4.mono HB3.out.size))
  have HLW : Hid (w.heap.size ≤ W3.heap.size) := HB3.out.size
  clear ho4 hp4 hb4 HP3 HB3 HC3 HCALL
  by_cases hk0 : kk = 0
  rotate_left
  · have hkn : ((kk : Int) != 0) = true := by simp; omega
    clear hk0
    go_wp2_with fail
    go_ret
    exact ⟨rfl, HB4.out⟩
  subst hk0
  obtain ⟨hfit, hput, hbody, hl⟩ := putP_ok HPP.out
  obtain ⟨nb, hnb⟩ : ∃ nb, nb = l.length := ⟨_, rfl⟩
  have hhl : (headB f t0 g ++ bodyB ls).length = 12 + (bodyB ls).length := by rw [List.length_append, headB_len]
  have hnb2 : nb = 12 + (bodyB ls).length := by rw [hnb, hl, sealL_length _ _ (by omega), hhl]
  have hnb12 : 12 ≤ nb := by omega
  have hnb20 : nb ≤ 1200 := by omega
  have HSEAL : Hid (Crc.sealedB l 8 = true) := by rw [hl]; exact Crc.sealed_seal _ _ (by omega)
  have HNB := Lib.hid hnb
  obtain ⟨A4, c4, rfl, h4a, h4b⟩ := own_slice HO4.out
  have HO5 : Hid (W4.ownsRow w.heap.size 5 1 (.slice A4 nb c4) nb (u8s l)) := by have := HO4.out; unfold Own at this; rw [← hnb] at this; exact own_mono this HLW.out
  rw [← hnb] at h4a ⊢
  clear hfit hput hbody hl hnb hhl hnb2 HO4 HPP
  go_upto_region 9 with fail
  obtain ⟨k, hk, hkn⟩ := Crc.u64rem a1 (8 * (nb : Int) - 31) (by omega) (by omega)
  rw [hk]
  clear hk
  by_cases hov : 64 ≤ k + 31 ∧ k < 96
  · obtain ⟨hov1, hov2⟩ := hov
    have q1 : decide ((k : Int) + 31 ≥ 64) = true := by simp; omega
    have q2 : decide ((k : Int) < 96) = true := by simp; omega
    go_wp2_with fail
    go_ret
    exact ⟨rfl, HB4.out⟩
  have HT : Hid (Crc.sealedB (Crc.turned l k t 32) 8 = false) := Crc.told (by rw [← HNB.out]; omega) (by rw [← HNB.out]; omega) ht0 (by omega) (by omega) HSEAL.out
  obtain ⟨gb, cap, hA2, hg1', hg2'⟩ := HO5.out.form (by omega)
  injection hA2 with hA2 _ hcc
  subst hA2 hcc
  have hk32 : k + 32 ≤ 8 * nb := by omega
  have hfin : 64 ≤ k + 31 ∧ ¬ k < 96 ∨ ¬ 64 ≤ k + 31 := by omega
  clear hov
  rcases hfin with ⟨hov1, hov2⟩ | hov1
  all_goals
    go_wp2_with fail
    go_loopw [10] (fun i wr => ∃ m : Nat, m ≤ 32 ∧ i = .int .i64 m ∧ Hid (wr.ownsRow w.heap.size 5 1 (.slice (some ⟨gb, 0, none⟩) nb c4) nb (u8s (Crc.turned l k t m))) ∧ Hid (Below w.heap.size w wr)) (fun i _ => 32 - (intOf i).toNat)
    case atStart => exact ⟨0, by omega, rfl, HO5, HB4⟩
    case round =>
      obtain ⟨m, hm, rfl, ho, hb⟩ := hrel
      by_cases h32 : m < 32
      · have hbit := Crc.bit_of t m (by omega)
        by_cases htb : t.testBit m = true
        · have htt : (bits .and .u32 ((t : Int) / 2 ^ m) 1 == 1) = true := by rw [hbit, htb]; rfl
          have hcell : wr.cell? ⟨gb, (k + m) / 8, none⟩ = (u8s (Crc.turned l k t m))[(k + m) / 8]? := ho.out.cellAt ((k + m) / 8) (by omega)
          rw [u8s_get, List.getElem?_eq_getElem (by rw [Crc.turned_length, ← HNB.out]; omega)] at hcell
          simp only [Option.map_some] at hcell
          have hfr := ho.out.frozenAt ((k + m) / 8)
          have HST := Lib.hid (Crc.turn_stored ho.out htb (by rw [Crc.turned_length, ← HNB.out]; omega))
          have HB5 := Lib.hid hb
          clear hbit hb
          go_wp2_with fail
          go_roundw
          case rel => exact ⟨m + 1, by omega, by go_num, HST.out, HB5.out.setCell (p := ⟨gb, (k + m) / 8, none⟩) hg1' _⟩
          case measure => simp [intOf]; omega
        · have htt : (bits .and .u32 ((t : Int) / 2 ^ m) 1 == 1) = false := by rw [hbit]; simp [Crc.B2, htb]
          have HTM : Hid (Crc.turned l k t (m + 1) = Crc.turned l k t m) := by show (if t.testBit m = true then _ else _) = _; rw [if_neg htb]
          clear hbit
          go_wp2_with fail
          go_roundw
          case rel => exact ⟨m + 1, by omega, by go_num, by rw [HTM.out]; exact ho, hb⟩
          case measure => simp [intOf]; omega
      · obtain rfl : m = 32 := by omega
        obtain ⟨y, hy⟩ : ∃ y, y = Crc.turned l k t 32 := ⟨_, rfl⟩
        rw [← hy] at ho HT
        have HNY : Hid (nb = y.length) := by rw [hy, Crc.turned_length]; exact HNB.out
        have HYY : Hid (Byt wr wr.heap.size (some ⟨gb, 0, none⟩) y) := by have := ho.out; rw [HNY.out] at this; exact Reads.of_own this
        have HE : Hid (getP y = .error 70) := getP_sum (by rw [← HNY.out]; exact hnb12) (by rw [← HNY.out]; exact hnb20) (fun e => by
          have := (Crc.sealed_iff y 8 (by rw [← HNY.out]; omega)).2 e.symm
          rw [HT.out] at this; cases this)
        clear hy HT ho
        go_wp2_with fail
        refine (get_p HNY.out h4a h4b HYY.out).mono ?_
        rintro e W6 ⟨hb6, hd⟩
        rw [HE.out] at hd
        rcases hd with ⟨_, _, _, _, _, he, _⟩ | ⟨k', he, rfl⟩
        · cases he
        injection he with he
        subst he
        have HB6 := Lib.hid (hb.out.trans (hb6.mono hb.out.size))
        clear hb6 HYY
        go_upto_region 17 with (refine wpList_store_row rfl 44 _ _ rfl W6.heap.size zeroP rfl rfl 44 _ (Blk.new W6 44 _) pk_info rfl (pk_one _ _ _ _ rfl) ?_)
        obtain ⟨W7, hW7, hp7, hb7⟩ := kept_pk W6 zeroP
        obtain ⟨g7, hg7⟩ : ∃ g, g = W6.heap.size := ⟨_, rfl⟩
        rw [← hg7] at hp7
        rw [← hW7, ← hg7]
        have HB7 := Lib.hid (HB6.out.trans (hb7.mono HB6.out.size))
        have x3 : W7.cell? ⟨g7, 3, none⟩ = some (.slice none 0 0) := hp7.cell 3
        clear hW7 hg7 hp7 hb7
        go_wp2_with fail
        go_ret
        exact ⟨ret_bool (by simp), HB7.out⟩

/-! ### The row's step -/
set_option maxRecDepth 100000 in
theorem lifted (os : Os) (started : os.Started) (H : Type) (enc : TypeId × Value → H) :
    ReturnsInHanded {} Try.checked os 7 .any (Rows.packetBrokenSpec.pre6 enc Try.prog Try.f7 Rows.packetBrokenRow.domain false) (Rows.packetBrokenSpec.post enc Try.prog Try.f7 false true false false) := by
  refine returnsInHanded_of_change (C := Try.checked) own started (by kernel_rfl) Try.func7
    (ChangeSpec.witness6 (enc := enc) (C := Try.checked) false ⟨#[], #[.agg #[.int .u16 0, .int .u16 0, .int .u32 0, .slice none 0 0], .int .i64 0, .int .u32 0], []⟩ 8 (by kernel_rfl) (by kernel_rfl) (by kernel_rfl) (by kernel_rfl)) ?_
  intro W base args ds gs before hval0 hW hcnd _
  have hval : ∀ (j : Nat) t v, Try.f7.params[j]? = some t → args[j]? = some v → Value.okWide Try.prog W .any base t v := hval0
  have hW' := hW
  obtain ⟨p, q, hA0, hV, rfl, hfz, hnd⟩ := hW
  have hA : DataW.TrodAll enc Try.prog W 0 (fun _ => true) true Try.f7.params.toList args.toList ds p := hA0
  rw [Try.params7] at hA hval
  obtain ⟨v0, vs0, d0, ds0, p0, q0, hargs, rfl, rfl, h0, r0⟩ := trodAll_cons hA
  obtain ⟨v1, vs1, d1, ds1, p1, q1, rfl, rfl, rfl, h1, r1⟩ := trodAll_cons r0
  obtain ⟨v2, vs2, d2, ds2, p2, q2, rfl, rfl, rfl, h2, r2⟩ := trodAll_cons r1
  obtain ⟨rfl, rfl, rfl⟩ := trodAll_nil r2
  obtain rfl : args = #[v0, v1, v2] := by cases args; simp_all
  obtain ⟨rfl, rfl⟩ := trodVars_none hV
  have lt0 : ∀ x ∈ p0, x.block < W.heap.size := by obtain ⟨m, hm⟩ := h0; exact DataW.trod_lt m _ _ _ hm
  obtain ⟨a1, rfl, rfl, rfl, w1⟩ := open_int Try.underlying3 (hval 1 3 v1 rfl rfl) h1
  obtain ⟨a2, rfl, rfl, rfl, w2⟩ := open_int Try.underlying25 (hval 2 25 v2 rfl rfl) h2
  clear hA0 hval0
  refine (walk v0 d0 p0 a1 a2 W (hval 0 44 v0 rfl rfl) h0 w1 w2).mono fun e W' ⟨he, bel⟩ => ?_
  subst he
  exact ⟨_, rfl, _, _, _, [], _, [], hW', trodAll_mk1 (shut_bool Try.underlying4 _), (trodAll_cons_mk (Below.trod laidOut (by kernel_rfl) (of_decide_eq_true (by kernel_rfl)) h0 bel lt0) (trodAll_cons_mk (shut_int Try.underlying3 w1) (trodAll_cons_mk (shut_int Try.underlying25 w2) trodAll_mk0))), rfl, bel.frame _, fun h => by cases h⟩

theorem over : Rows.packetBrokenRow.holds Try.pinned (OpenSpec.ofChange Rows.packetBrokenSpec) :=
  OpenClaim.holds_of_wide 7 Try.f7 rfl rfl rfl rfl rfl rfl rfl ⟨rfl, rfl, rfl, rfl, rfl⟩ rfl rfl rfl rfl rfl (by kernel_rfl) Try.func7 (by kernel_rfl)
    (of_decide_eq_true (by kernel_rfl)) (by unfold Func.isWrapper; first | (rw [if_pos (by decide +kernel)]; kernel_rfl) | (rw [if_neg (by decide +kernel)]; exact ⟨rfl, rfl⟩))
    (fun os started H enc _ => lifted os started H enc)

theorem proved : Rows.PacketBrokenSaid := over
#print axioms proved
end Go.Proofs.Ytpgklhecmafnbaa.packetBroken
