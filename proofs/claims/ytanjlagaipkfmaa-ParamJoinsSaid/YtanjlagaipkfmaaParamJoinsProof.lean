/-
  PROVED: ParamJoins of flumelaw05 answers true for every input, and its arguments read afterwards as before. CONDITIONS: none beside the form's own.
-/
import Derived.Test.YtanjlagaipkfmaaRows
import Derived.Test.YtanjlagaipkfmaaParG
import Derived.Test.YtanjlagaipkfmaaParLaw
import Derived.Test.YtanjlagaipkfmaaSees
import Derived.Test.YtanjlagaipkfmaaStage
import Derived.Test.YtanjlagaipkfmaaRegion
import Derived.WalkKit
import Derived.ProofKit
import Derived.OpenShut
import Derived.ShutString
import Derived.ChangeOld
import Derived.Below
namespace Go.Proofs.Ytanjlagaipkfmaa.paramJoins
open Go.ChangeShapes Go.WideShapes Go.ChangeAt Go.RowKit
open Go.ChangeMaps (open_string shut_string)
set_option linter.unusedVariables false
set_option linter.unusedSimpArgs false

theorem own : ownKnob Try.prog.godebug = none := by kernel_rfl
theorem laidOut : laidOutB Try.prog = true := by kernel_rfl

/-- What the walk is told of a slice of integers that came in. -/
def IsRow (k : IntKind) (w : World) (a : Option Addr) (len cap : Nat) (zs : List Int) : Prop :=
  (a = none ∧ len = 0 ∧ cap = 0 ∧ zs = []) ∨
  ∃ x, a = some x ∧ len ≤ cap ∧ cap ≤ maxLen ∧ zs.length = cap ∧ (∀ i, i < zs.length → w.cell? (x.add i) = some (.int k (zs.getD i 0))) ∧ ∀ n ∈ zs, (Lit.int k n).wf = true

/-! ### The walk -/
open Words Oct Par
/-- What Get handed out, whichever way it went. -/
def GRes (w : World) (B : Nat) (x : List UInt8) (Ap : Option Addr) (np cp ep : Nat) : Prop :=
  (ep = 0 ∧ ∃ ls, getL x = .ok ls ∧ np = ls.length ∧ np ≤ cp ∧ OwnPs w B (.slice Ap np cp) ls) ∨ (ep ≠ 0 ∧ getL x = .error ep ∧ np = 0)
theorem gres_of {w w' : World} {x : List UInt8} {e : Ending} (h : GetDone w x e w') : ∃ Ap np cp ep, e = .returned (.tuple #[.slice Ap np cp, .int .i64 ((ep : Nat) : Int)]) ∧ cp ≤ 9223372036854775807 ∧ Hid (GRes w' w.heap.size x Ap np cp ep) := by
  rcases h with ⟨v, ls, h1, rfl, ho⟩ | ⟨k, A, c, h1, rfl, hc⟩
  · obtain ⟨A, c, rfl, h2, h3⟩ := ho.slice
    exact ⟨A, _, c, 0, rfl, h3, .inl ⟨rfl, ls, h1, rfl, h2, ho⟩⟩
  · exact ⟨A, 0, c, k, rfl, hc, .inr ⟨by have := getL_errs h1; omega, h1, rfl⟩⟩
theorem GRes.grows {w w' : World} {B : Nat} {x : List UInt8} {Ap : Option Addr} {np cp ep : Nat} (h : GRes w B x Ap np cp ep) (k : Below w.heap.size w w') : GRes w' B x Ap np cp ep := by
  rcases h with ⟨h1, ls, h2, h3, h4, h5⟩ | h
  · exact .inl ⟨h1, ls, h2, h3, h4, h5.grows k⟩
  · exact .inr h
set_option maxHeartbeats 4000000 in
set_option maxRecDepth 100000 in
theorem walk (a0 : Option Addr) (len0 cap0 : Nat) (z0 : List Int) (a1 : Option Addr) (len1 cap1 : Nat) (z1 : List Int) (w : World) (w0 : IsRow .u8 w a0 len0 cap0 z0) (w1 : IsRow .u8 w a1 len1 cap1 z1) :
    Calls Try.prog 6 #[.slice a0 len0 cap0, .slice a1 len1 cap1] w fun e w' => e = .returned (.bool true) ∧ Below w.heap.size w w' := by
  obtain ⟨xa, hlen, hcap, hc63, hby⟩ := bytes_of w0
  subst hlen
  obtain ⟨xb, hlen2, hcap2, hc632, hby2⟩ := bytes_of w1
  subst hlen2
  have HXA := Lib.hid hby
  have HXB := Lib.hid hby2
  obtain ⟨na, hna⟩ : ∃ n, n = xa.length := ⟨_, rfl⟩
  obtain ⟨nb, hnb⟩ : ∃ n, n = xb.length := ⟨_, rfl⟩
  rw [← hna] at hcap ⊢
  rw [← hnb] at hcap2 ⊢
  have HNA := Lib.hid hna
  have HNB := Lib.hid hnb
  clear hby hby2 w0 w1 hna hnb
  obtain ⟨i0, hi0, hz0, hz1, hz2⟩ := info_parts3 u8_info
  obtain ⟨j0, hj0, hjz0, hjz1, hjz2⟩ := info_parts3 prm_info
  go_enter Try.func6, Try.ntmps6
  go_wp2_with fail
  refine (first_any put_c get_c w).mono ?_
  rintro e W1 ⟨rfl, hb1⟩
  have HB1 := Lib.hid hb1
  clear hb1
  go_upto_region 3 with (fail)
  go_cut [18] from 13 to 19 (fun s18 wx => s18 = .bool (decide (50000 < na ∨ 50000 < nb)) ∧ W1 = wx)
  case first =>
    by_cases hlt : na < nb
    · go_wp2_with fail
      go_meet
      refine ⟨?_, rfl⟩
      congr 1
      rw [Bool.eq_iff_iff]
      simp only [decide_eq_true_eq]
      omega
    · go_wp2_with fail
      go_meet
      refine ⟨?_, rfl⟩
      congr 1
      rw [Bool.eq_iff_iff]
      simp only [decide_eq_true_eq]
      omega
  case rest =>
  obtain ⟨rfl, rfl⟩ := hcut
  by_cases hbig : 50000 < na ∨ 50000 < nb
  · go_wp2_with fail
    go_ret
    exact ⟨rfl, HB1.out⟩
  · have hna2 : na ≤ 50000 := by omega
    have hnb2 : nb ≤ 50000 := by omega
    go_wp2_with fail
    refine (get_c a0 xa na cap0 W1 HNA.out hcap hc63 (by omega) ((HXA.out.below HB1.out).more HB1.out.size)).mono ?_
    rintro e W2 ⟨hd, hb2⟩
    obtain ⟨Ap, np, cp, ep, rfl, hcp, HG2⟩ := gres_of hd
    have HB2 := Lib.hid (HB1.out.trans (hb2.mono HB1.out.size))
    clear hd hb2
    go_wp2_with fail
    refine (get_c a1 xb nb cap1 W2 HNB.out hcap2 hc632 (by omega) ((HXB.out.below HB2.out).more HB2.out.size)).mono ?_
    rintro e W3 ⟨hd, hb3⟩
    obtain ⟨Aq, nq, cq, eq, rfl, hcq, HG3⟩ := gres_of hd
    have HP3 := Lib.hid (HG2.out.grows hb3)
    have HB3 := Lib.hid (HB2.out.trans (hb3.mono HB2.out.size))
    have HS23 : Hid (W2.heap.size ≤ W3.heap.size) := hb3.size
    have HE3 := Lib.hid (own_empty W3 5)
    clear hd hb3 HG2
    go_wp2_with (first
      | (at_builtin; refine wpList_append_any _ rfl (.tmp 30) (.tmp 31) _ rfl W3.heap.size 5 i0 _ 1 1 Try.underlying26 hi0 hz0 hz1 hz2 rfl (by omega) (.slice (some ⟨W3.heap.size, 0, none⟩) 0 0) 0 [] rfl HE3.out w.heap.size a0 na cap0 (u8s xa) rfl (by have := (HXA.out.below HB3.out).alloc HB3.out.size (.cells #[] 5); unfold Byt at this; rw [← HNA.out] at this; exact this) (u8s_one _) (by simp only [maxLen]; omega) (by omega) (by simp) ?_; intro v4 w4 hown4 hg4 hat4; obtain ⟨n4, A4, c4, rfl, HN4, hnq4, hnc4, hc4, HO4, HB4⟩ := copied HB3.out hown4 HNA.out hg4; clear hown4 hg4 hat4)
      | (at_builtin; refine wpList_append_any _ rfl (.tmp 32) (.tmp 33) _ rfl W3.heap.size 5 i0 _ 1 1 Try.underlying26 hi0 hz0 hz1 hz2 rfl (by omega) (.slice A4 n4 c4) n4 (u8s xa) rfl HO4.out w.heap.size a1 nb cap1 (u8s xb) rfl (by have := HXB.out.below (HB3.out.trans (HB4.out.mono HB3.out.size)); unfold Byt at this; rw [← HNB.out] at this; exact this) (u8s_one _) (by simp only [maxLen]; omega) (by omega) HB4.out.size ?_; intro v5 w5 hown5 hg5 hat5; obtain ⟨A5, c5, rfl, hc5, hm5⟩ := own_slice hown5; have HO5 := Lib.hid hown5; have HB5 : Hid (Below W3.heap.size W3 w5) := HB4.out.grown hg5 HB4.out.size (fun b e => (HO4.out.lt b e).1); clear hown5 hg5 hat5))
    have HNZ : Hid (n4 + nb = (xa ++ xb).length) := by rw [List.length_append, ← HN4.out, ← HNB.out]; rfl
    have HZ5 : Hid (Byt w5 w5.heap.size A5 (xa ++ xb)) := by
      have := HO5.out
      rw [← u8s_append, HNZ.out] at this
      exact Reads.of_own this
    refine (get_c A5 (xa ++ xb) (n4 + nb) c5 w5 HNZ.out hc5 hm5 (by omega) HZ5.out).mono ?_
    rintro e W6 ⟨hd, hb6⟩
    obtain ⟨Az, nz, cz, ez, rfl, hcz, HG6⟩ := gres_of hd
    have HB36 := Lib.hid (HB5.out.trans (hb6.mono HB5.out.size))
    have HP6 := Lib.hid (HP3.out.grows HB36.out)
    have HQ6 := Lib.hid (HG3.out.grows HB36.out)
    have HB6 := Lib.hid (HB3.out.trans (HB36.out.mono HB3.out.size))
    have HS26 : Hid (W2.heap.size ≤ W6.heap.size) := Nat.le_trans HS23.out HB36.out.size
    clear hd hb6 HP3 HG3 HE3 HO4 HO5 HB4 HB5 HZ5
    rcases HP6.out with ⟨rfl, lp, hlp, hnp, hcp2, hop⟩ | ⟨hep, hlp, rfl⟩
    · have hen := enc_getL _ xa lp (Nat.le_refl _) hlp
      have hga : getL (xa ++ xb) = behind lp (getL xb) := by
        have := getL_append lp xb hen.1
        rwa [hen.2] at this
      have hszp : sizeL lp ≤ 50000 := by have h1 := size_le_enc lp; rw [hen.2, ← HNA.out] at h1; omega
      have hnp2 : np ≤ 20000 := by have := len_le_size lp; omega
      have HNP := Lib.hid hnp
      have HOP := Lib.hid hop
      have HSZP := Lib.hid hszp
      rcases HQ6.out with ⟨rfl, lq, hlq, hnq, hcq2, hoq⟩ | ⟨heq, hlq, rfl⟩
      · have hgz : getL (xa ++ xb) = .ok (lp ++ lq) := by rw [hga, hlq]; rfl
        have henq := enc_getL _ xb lq (Nat.le_refl _) hlq
        have hszq : sizeL lq ≤ 50000 := by have h1 := size_le_enc lq; rw [henq.2, ← HNB.out] at h1; omega
        have hnq2 : nq ≤ 20000 := by have := len_le_size lq; omega
        rcases HG6.out with ⟨rfl, lz, hlz, hnz, hcz2, hoz⟩ | ⟨_, hlz, _⟩
        · rw [hgz] at hlz
          injection hlz with hlz
          subst hlz
          have HNQ := Lib.hid hnq
          have HOQ := Lib.hid hoq
          have HNZZ := Lib.hid hnz
          have HOZ := Lib.hid hoz
          clear hlp hlq hgz hga hen henq hnp hop hszp hszq hnq hoq hnz hoz HP6 HQ6 HG6
          go_wp2_with fail
          refine (copy_any Ap lp np cp W6 HNP.out (by have := HSZP.out; omega) HOP.out.ps).mono ?_
          rintro e W7 ⟨⟨v7, rfl, ho7⟩, hb7⟩
          obtain ⟨A7, c7, rfl, h7a, h7b⟩ := ho7.slice
          rw [← HNP.out] at ho7 h7a ⊢
          obtain ⟨xs, hx, hxs⟩ := id (ho7.mono HS26.out)
          obtain ⟨xq, hq, hqs⟩ := id (HOQ.out.grows hb7)
          have HX := Lib.hid hx
          have HXS := Lib.hid hxs
          have HQ := Lib.hid hq
          have HQS := Lib.hid hqs
          have HX' : Hid (W7.ownsRow W2.heap.size 42 2 (.slice A7 np c7) np xs) := by have := hx; rw [← HNP.out] at this; exact this
          have HRQ : Hid (Reads W7 W7.heap.size 2 Aq nq xq) := by have h0 := hq; rw [← HNQ.out] at h0; exact Reads.of_own h0
          have HON : Hid (∀ u ∈ xq, u.oneCell' = true) := cells_one hq.1 hqs
          have HS7 : Hid (W2.heap.size ≤ W7.heap.size) := Nat.le_trans HS26.out hb7.size
          have HB67 := Lib.hid hb7
          have HA7 : Hid (∀ g, (Value.slice A7 np c7).ownBlock = some g → W6.heap.size ≤ g) := fun g hg => by obtain ⟨xs0, h0, _⟩ := id ho7; exact (h0.lt g hg).1
          have HB7 := Lib.hid (HB6.out.trans (hb7.mono HB6.out.size))
          clear ho7 hb7 hx hxs hq hqs
          go_wp2_with (at_builtin; refine wpList_append_want _ rfl (.tmp 60) (.tmp 61) _ rfl W2.heap.size 42 j0 _ 2 32 Try.underlying22 hj0 hjz0 hjz1 hjz2 rfl (by omega) (.slice A7 np c7) np xs rfl HX'.out W7.heap.size Aq nq cq xq rfl HRQ.out HON.out (by simp only [maxLen]; omega) (by omega) HS7.out ?_; intro v8 w8 hown8 hg8 hat8; obtain ⟨A8, c8, rfl, hc8, hm8⟩ := own_slice hown8; have HO8 : Hid (OwnPs w8 W2.heap.size (.slice A8 (np + nq) c8) (lp ++ lq)) := OwnPs.app (vq := .slice Aq nq cq) HX.out HXS.out HQ.out.1 HQS.out hg8 hown8 (by rw [← HNP.out, ← HNQ.out]); have HB8 : Hid (Below w.heap.size w w8) := HB7.out.grown hg8 HB7.out.size (fun b e => by have h1 := (HX'.out.lt b e).1; have h2 := HB2.out.size; omega); have HZ8 : Hid (Ps w8 w8.heap.size Az (lp ++ lq)) := (by have h9 : Below W6.heap.size W6 w8 := HB67.out.grown hg8 HB67.out.size (fun b e => HA7.out b e); exact (HOZ.out.grows h9).ps); clear hown8 hg8 hat8)
          refine (same_any Az A8 (lp ++ lq) (lp ++ lq) nz (np + nq) cz c8 _ _ w8 HNZZ.out (by rw [List.length_append, ← HNP.out, ← HNQ.out]) hcz2 hc8 hcz hm8 HZ8.out HO8.out.ps).mono ?_
          rintro e W9 ⟨he, m, rfl⟩
          obtain rfl : e = .returned (.bool true) := by rw [he]; simp
          go_wp2_with fail
          go_ret
          exact ⟨rfl, below_drewN HB8.out _⟩
        · rw [hgz] at hlz; cases hlz
      · have hgz : getL (xa ++ xb) = .error eq := by rw [hga, hlq]; rfl
        rcases HG6.out with ⟨_, lz, hlz, _⟩ | ⟨hez, hlz, rfl⟩
        · rw [hgz] at hlz; cases hlz
        · rw [hgz] at hlz
          injection hlz with hlz
          subst hlz
          have hk0 : ((eq : Nat) : Int) ≠ 0 := by omega
          have hk1 : (((eq : Nat) : Int) != 0) = true := by simpa using hk0
          have hk2 : (((eq : Nat) : Int) == ((eq : Nat) : Int)) = true := by simp
          clear hlp hlq hgz hga hen hnp hop hszp HP6 HQ6 HG6
          go_wp2_with fail
          go_ret
          exact ⟨rfl, HB6.out⟩
    · have hk0 : ((ep : Nat) : Int) ≠ 0 := by omega
      have hk1 : (((ep : Nat) : Int) != 0) = true := by simpa using hk0
      clear hlp HP6 HQ6 HG6
      go_wp2_with fail
      go_ret
      exact ⟨rfl, HB6.out⟩

/-! ### The row's step -/
set_option maxRecDepth 100000 in
theorem lifted (os : Os) (started : os.Started) (H : Type) (enc : TypeId × Value → H) :
    ReturnsInHanded {} Try.checked os 6 .any (Rows.paramJoinsSpec.pre6 enc Try.prog Try.f6 Rows.paramJoinsRow.domain false) (Rows.paramJoinsSpec.post enc Try.prog Try.f6 false true false false) := by
  refine returnsInHanded_of_change (C := Try.checked) own started (by kernel_rfl) Try.func6
    (ChangeSpec.witness6 (enc := enc) (C := Try.checked) false ⟨#[], #[.slice none 0 0, .slice none 0 0], []⟩ 8 (by kernel_rfl) (by kernel_rfl) (by kernel_rfl) (by kernel_rfl)) ?_
  intro W base args ds gs before hval0 hW hcnd _
  have hval : ∀ (j : Nat) t v, Try.f6.params[j]? = some t → args[j]? = some v → Value.okWide Try.prog W .any base t v := hval0
  have hW' := hW
  obtain ⟨p, q, hA0, hV, rfl, hfz, hnd⟩ := hW
  have hA : DataW.TrodAll enc Try.prog W 0 (fun _ => true) true Try.f6.params.toList args.toList ds p := hA0
  rw [Try.params6] at hA hval
  obtain ⟨v0, vs0, d0, ds0, p0, q0, hargs, rfl, rfl, h0, r0⟩ := trodAll_cons hA
  obtain ⟨v1, vs1, d1, ds1, p1, q1, rfl, rfl, rfl, h1, r1⟩ := trodAll_cons r0
  obtain ⟨rfl, rfl, rfl⟩ := trodAll_nil r1
  obtain rfl : args = #[v0, v1] := by cases args; simp_all
  obtain ⟨rfl, rfl⟩ := trodVars_none hV
  obtain ⟨a0, len0, cap0, rfl⟩ := okWide_slice Try.underlying26 (hval 0 26 v0 rfl rfl)
  have k0 := h0
  have lt0 : ∀ x ∈ p0, x.block < W.heap.size := by obtain ⟨m, hm⟩ := k0; exact DataW.trod_lt m _ _ _ hm
  obtain ⟨z0, w0⟩ : ∃ zs, IsRow .u8 W a0 len0 cap0 zs := by
    obtain ⟨fuel, hf⟩ := h0
    rcases open_ints Try.underlying26 Try.underlying5 (by kernel_rfl) hf with ⟨hcs, _⟩ | ⟨x, l, c, zs, hcs, _, hl, hm, hz, _, hcell, hwz⟩
    · simp [Value.cells] at hcs
      obtain ⟨rfl, rfl, rfl⟩ := hcs
      exact ⟨[], .inl ⟨rfl, rfl, rfl, rfl⟩⟩
    · simp [Value.cells] at hcs
      obtain ⟨rfl, rfl, rfl⟩ := hcs
      exact ⟨zs, .inr ⟨_, rfl, hl, hm, by simpa using hz, hcell, hwz⟩⟩
  obtain ⟨a1, len1, cap1, rfl⟩ := okWide_slice Try.underlying26 (hval 1 26 v1 rfl rfl)
  have k1 := h1
  have lt1 : ∀ x ∈ p1, x.block < W.heap.size := by obtain ⟨m, hm⟩ := k1; exact DataW.trod_lt m _ _ _ hm
  obtain ⟨z1, w1⟩ : ∃ zs, IsRow .u8 W a1 len1 cap1 zs := by
    obtain ⟨fuel, hf⟩ := h1
    rcases open_ints Try.underlying26 Try.underlying5 (by kernel_rfl) hf with ⟨hcs, _⟩ | ⟨x, l, c, zs, hcs, _, hl, hm, hz, _, hcell, hwz⟩
    · simp [Value.cells] at hcs
      obtain ⟨rfl, rfl, rfl⟩ := hcs
      exact ⟨[], .inl ⟨rfl, rfl, rfl, rfl⟩⟩
    · simp [Value.cells] at hcs
      obtain ⟨rfl, rfl, rfl⟩ := hcs
      exact ⟨zs, .inr ⟨_, rfl, hl, hm, by simpa using hz, hcell, hwz⟩⟩
  clear hA0 hval0
  refine (walk a0 len0 cap0 z0 a1 len1 cap1 z1 W w0 w1).mono fun e W' ⟨he, bel⟩ => ?_
  subst he
  exact ⟨_, rfl, _, _, _, [], _, [], hW', trodAll_mk1 (shut_bool Try.underlying4 _), (trodAll_cons_mk (Below.trod laidOut (by kernel_rfl) (of_decide_eq_true (by kernel_rfl)) k0 bel lt0) (trodAll_cons_mk (Below.trod laidOut (by kernel_rfl) (of_decide_eq_true (by kernel_rfl)) k1 bel lt1) trodAll_mk0)), rfl, bel.frame _, fun h => by cases h⟩

theorem over : Rows.paramJoinsRow.holds Try.pinned (OpenSpec.ofChange Rows.paramJoinsSpec) :=
  OpenClaim.holds_of_wide 6 Try.f6 rfl rfl rfl rfl rfl rfl rfl ⟨rfl, rfl, rfl, rfl, rfl⟩ rfl rfl rfl rfl rfl (by kernel_rfl) Try.func6 (by kernel_rfl)
    (of_decide_eq_true (by kernel_rfl)) (by unfold Func.isWrapper; first | (rw [if_pos (by decide +kernel)]; kernel_rfl) | (rw [if_neg (by decide +kernel)]; exact ⟨rfl, rfl⟩))
    (fun os started H enc _ => lifted os started H enc)

theorem proved : Rows.ParamJoinsSaid := over
#print axioms proved
end Go.Proofs.Ytanjlagaipkfmaa.paramJoins
