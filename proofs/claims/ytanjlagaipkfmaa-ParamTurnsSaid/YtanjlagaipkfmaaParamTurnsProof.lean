/-
  PROVED: ParamTurns of flumelaw05 answers true for every input, and its arguments read afterwards as before. CONDITIONS: none beside the form's own.
-/
import Derived.Test.YtanjlagaipkfmaaRows
import Derived.Test.YtanjlagaipkfmaaParG
import Derived.Test.YtanjlagaipkfmaaParLaw
import Derived.Test.YtanjlagaipkfmaaSees
import Derived.Test.YtanjlagaipkfmaaStage
import Derived.Test.YtanjlagaipkfmaaRegion
import Derived.WalkKit
import Derived.ProofKit
import Derived.OpenShut
import Derived.ShutString
import Derived.ChangeOld
import Derived.Below
namespace Go.Proofs.Ytanjlagaipkfmaa.paramTurns
open Go.ChangeShapes Go.WideShapes Go.ChangeAt Go.RowKit
open Go.ChangeMaps (open_string shut_string)
set_option linter.unusedVariables false
set_option linter.unusedSimpArgs false

theorem own : ownKnob Try.prog.godebug = none := by kernel_rfl
theorem laidOut : laidOutB Try.prog = true := by kernel_rfl

/-- What the walk is told of a slice of integers that came in. -/
def IsRow (k : IntKind) (w : World) (a : Option Addr) (len cap : Nat) (zs : List Int) : Prop :=
  (a = none ∧ len = 0 ∧ cap = 0 ∧ zs = []) ∨
  ∃ x, a = some x ∧ len ≤ cap ∧ cap ≤ maxLen ∧ zs.length = cap ∧ (∀ i, i < zs.length → w.cell? (x.add i) = some (.int k (zs.getD i 0))) ∧ ∀ n ∈ zs, (Lit.int k n).wf = true

/-! ### The walk -/
open Words Oct Par
theorem kinds_of {w : World} {B : Nat} {A : Option Addr} {ls : List Prm} (h : Ps w B A ls) : ∀ p ∈ ls, p.1 < 65536 := fun p hp => by
  obtain ⟨k, hk, rfl⟩ := List.mem_iff_getElem.1 hp
  obtain ⟨_, _, _, _, _, h3, _⟩ := h k _ (List.getElem?_eq_getElem hk)
  exact h3
set_option maxHeartbeats 4000000 in
set_option maxRecDepth 100000 in
theorem walk {H : Type} {enc : TypeId × Value → H} {base : Nat} (v0 : Value) (d0 : DataW H) (p0 : List MemPlace) (a1 : Int) (a2 : Int) (w : World) (o0 : Value.okWide Try.prog w .any base 22 v0) (k0 : DataW.Trod enc Try.prog w 0 (fun _ => true) true 22 v0 d0 p0) (w1 : (Lit.int .i64 a1).wf = true) (w2 : (Lit.int .u8 a2).wf = true) :
    Calls Try.prog 8 #[v0, .int .i64 a1, .int .u8 a2] w fun e w' => e = .returned (.bool true) ∧ Below w.heap.size w w' := by
  obtain ⟨A0, n0, c0, rfl⟩ := okWide_slice Try.underlying22 o0
  have hsee : Sees w (.slice PrmSh) [.slice A0 n0 c0] := sees_of (sh := .slice PrmSh) rfl prmSh_fits k0
  obtain ⟨A0', c0', ls, he, hc, hm, hps⟩ := ps_of hsee
  injection he with e1 e2 e3
  subst e1 e3
  obtain ⟨n, hn⟩ : ∃ n, n = n0 := ⟨_, rfl⟩
  have HN : Hid (n = ls.length) := by rw [hn]; exact e2
  rw [← e2, ← hn] at hc
  rw [← hn]
  have HP := Lib.hid hps
  have bt := bounds_u8' w2
  obtain ⟨t, ht⟩ : ∃ t : UInt8, a2 = (t.toNat : Int) := ⟨UInt8.ofNat a2.toNat, by rw [UInt8.toNat_ofNat']; omega⟩
  subst ht
  have ha1 := bounds_i64 w1
  clear e2 hn o0 k0 hsee hps w1 w2
  go_enter Try.func8, Try.ntmps8
  go_wp2_with fail
  refine (first_any put_c get_c w).mono ?_
  rintro e W1 ⟨rfl, hb1⟩
  have HB1 := Lib.hid hb1
  clear hb1
  go_wp2_with fail
  refine (size_any rfl A0 ls n c0 W1 HN.out hc hm ((HP.out.below HB1.out).more HB1.out.size)).mono ?_
  rintro e W2 ⟨rfl, hb2⟩
  have HB2 := Lib.hid (HB1.out.trans (hb2.mono HB1.out.size))
  clear hb2
  obtain ⟨sz, hsz⟩ : ∃ sz, sz = sizeF ls 0 := ⟨_, rfl⟩
  rw [← hsz]
  have HSZ := Lib.hid hsz
  clear hsz
  by_cases hbig : (20000 : Int) < (sz : Int)
  · go_wp2_with fail
    go_ret
    exact ⟨rfl, HB2.out⟩
  · by_cases ht0 : (t.toNat : Int) = 0
    · have ht1 : ((t.toNat : Int) == 0) = true := by simpa using ht0
      go_wp2_with fail
      go_ret
      exact ⟨rfl, HB2.out⟩
    · have ht1 : ((t.toNat : Int) == 0) = false := by simpa using ht0
      have HTN : Hid (t ≠ 0) := fun e => ht0 (by rw [e]; rfl)
      have HSL : Hid (sizeL ls ≤ 20000) := by
        have h1 := HSZ.out
        have := sizeF_eq ls 0 (by omega)
        show _ ≤ _
        omega
      go_wp2_with fail
      refine (put_c A0 ls n c0 W2 HN.out hc hm (by have := HSL.out; omega) ((HP.out.below HB2.out).more HB2.out.size)).mono ?_
      rintro e W3 ⟨hd, hb3⟩
      have HB3 := Lib.hid (HB2.out.trans (hb3.mono HB2.out.size))
      rcases hd with ⟨v3, rfl, ho3, hsm3⟩ | ⟨A3, c3, rfl, _⟩
      · obtain ⟨A3, c3, rfl, h3a, h3b⟩ := own_slice ho3
        have henl : (encL ls).length ≤ 40000 := by have h1 := encL_le ls; have := HSL.out; omega
        obtain ⟨nb, hnb⟩ : ∃ nb, nb = (encL ls).length := ⟨_, rfl⟩
        have HO3 : Hid (W3.ownsRow W2.heap.size 5 1 (.slice A3 nb c3) nb (u8s (encL ls))) := by have := ho3; unfold Own at this; rw [← hnb] at this; exact this
        rw [← hnb] at henl h3a ⊢
        have HNB := Lib.hid hnb
        have HOK : Hid (∀ p ∈ ls, okP p) := fun p hp => ⟨kinds_of HP.out p hp, hsm3 p hp⟩
        clear ho3 hb3 hsm3 hnb
        by_cases hz : (nb : Int) = 0
        · have hz1 : ((nb : Int) == 0) = true := by simpa using hz
          go_wp2_with fail
          go_ret
          exact ⟨rfl, HB3.out⟩
        · have hz1 : ((nb : Int) == 0) = false := by simpa using hz
          obtain ⟨k, hk, hkn⟩ := u64rem a1 (nb : Int) (by omega) (by omega)
          have hkb : k < nb := by omega
          obtain ⟨g, y, rfl, hg, hcell, hfr, hy, hst⟩ := flip_by t HO3.out HNB.out hkb
          have hwn : IntKind.u64.wrap (nb : Int) = (nb : Int) := by simp [IntKind.wrap, IntKind.bits, IntKind.signed]; omega
          have HST := Lib.hid hst
          have HSN : Hid ((encL ls).set k (y ^^^ t) ≠ encL ls) := set_ne hy HTN.out
          have HGG := Lib.hid hg
          have q1 : (0 : Int) ≤ (k : Int) := by omega
          have q2 : (k : Int) < (nb : Int) := by omega
          clear hst hy hg
          go_wp2_with fail
          obtain ⟨W4, hW4⟩ : ∃ W4, W4 = W3.setCell ⟨g, k, none⟩ (.int .u8 (bits .xor .u8 (y.toNat : Int) (t.toNat : Int))) := ⟨_, rfl⟩
          obtain ⟨z, hz'⟩ : ∃ z, z = (encL ls).set k (y ^^^ t) := ⟨_, rfl⟩
          have HO4 : Hid (W4.ownsRow W2.heap.size 5 1 (.slice (some ⟨g, 0, none⟩) nb c3) nb (u8s z)) := by rw [hW4, hz']; exact (HST.out _ rfl).out
          have HB4 : Hid (Below w.heap.size w W4) := by rw [hW4]; exact HB3.out.setCell (p := ⟨g, k, none⟩) (Nat.le_trans HB2.out.size HGG.out) _
          have HZN : Hid (z ≠ encL ls) := by rw [hz']; exact HSN.out
          have HZL : Hid (nb = z.length) := by rw [hz', List.length_set]; exact HNB.out
          rw [← hW4]
          clear hW4 hz' hcell hfr
          refine (get_c (some ⟨g, 0, none⟩) z nb c3 W4 HZL.out h3a h3b (by omega) (by have := HO4.out; rw [HZL.out] at this; exact Reads.of_own this)).mono ?_
          rintro e W5 ⟨hd, hb5⟩
          have HB5 := Lib.hid (HB4.out.trans (hb5.mono HB4.out.size))
          rcases hd with ⟨v5, ls5, hls5, rfl, ho5⟩ | ⟨kk, A5, c5, hkk, rfl, _⟩
          · have hne : ls5 ≠ ls := fun e => by
              subst e
              exact HZN.out (enc_getL z.length z ls5 (Nat.le_refl _) hls5).2.symm
            have HNE : Hid (decide (ls5 = ls) = false) := decide_eq_false hne
            obtain ⟨A5, c5, rfl, h5a, h5b⟩ := ho5.slice
            obtain ⟨n5, hn5⟩ : ∃ n5, n5 = ls5.length := ⟨_, rfl⟩
            rw [← hn5] at ho5 h5a ⊢
            have HN5 := Lib.hid hn5
            have HP5 := Lib.hid ho5.ps
            clear ho5 hb5 hls5 hn5 hne
            go_wp2_with fail
            refine (same_any A5 A0 ls5 ls n5 n c5 c0 W5.heap.size w.heap.size W5 HN5.out HN.out h5a hc h5b hm HP5.out (HP.out.below HB5.out)).mono ?_
            rintro e W6 ⟨he, m, rfl⟩
            rw [HNE.out] at he
            subst he
            go_wp2_with fail
            go_ret
            exact ⟨rfl, below_drewN HB5.out _⟩
          · have hk0 : (kk : Int) ≠ 0 := by have := getL_errs hkk; omega
            have hk1 : ((kk : Int) != 0) = true := by simpa using hk0
            clear hb5 hkk
            go_wp2_with fail
            go_ret
            exact ⟨rfl, HB5.out⟩
      · go_wp2_with fail
        go_ret
        exact ⟨rfl, HB3.out⟩

/-! ### The row's step -/
set_option maxRecDepth 100000 in
theorem lifted (os : Os) (started : os.Started) (H : Type) (enc : TypeId × Value → H) :
    ReturnsInHanded {} Try.checked os 8 .any (Rows.paramTurnsSpec.pre6 enc Try.prog Try.f8 Rows.paramTurnsRow.domain false) (Rows.paramTurnsSpec.post enc Try.prog Try.f8 false true false false) := by
  refine returnsInHanded_of_change (C := Try.checked) own started (by kernel_rfl) Try.func8
    (ChangeSpec.witness6 (enc := enc) (C := Try.checked) false ⟨#[], #[.slice none 0 0, .int .i64 0, .int .u8 0], []⟩ 8 (by kernel_rfl) (by kernel_rfl) (by kernel_rfl) (by kernel_rfl)) ?_
  intro W base args ds gs before hval0 hW hcnd _
  have hval : ∀ (j : Nat) t v, Try.f8.params[j]? = some t → args[j]? = some v → Value.okWide Try.prog W .any base t v := hval0
  have hW' := hW
  obtain ⟨p, q, hA0, hV, rfl, hfz, hnd⟩ := hW
  have hA : DataW.TrodAll enc Try.prog W 0 (fun _ => true) true Try.f8.params.toList args.toList ds p := hA0
  rw [Try.params8] at hA hval
  obtain ⟨v0, vs0, d0, ds0, p0, q0, hargs, rfl, rfl, h0, r0⟩ := trodAll_cons hA
  obtain ⟨v1, vs1, d1, ds1, p1, q1, rfl, rfl, rfl, h1, r1⟩ := trodAll_cons r0
  obtain ⟨v2, vs2, d2, ds2, p2, q2, rfl, rfl, rfl, h2, r2⟩ := trodAll_cons r1
  obtain ⟨rfl, rfl, rfl⟩ := trodAll_nil r2
  obtain rfl : args = #[v0, v1, v2] := by cases args; simp_all
  obtain ⟨rfl, rfl⟩ := trodVars_none hV
  have lt0 : ∀ x ∈ p0, x.block < W.heap.size := by obtain ⟨m, hm⟩ := h0; exact DataW.trod_lt m _ _ _ hm
  obtain ⟨a1, rfl, rfl, rfl, w1⟩ := open_int Try.underlying3 (hval 1 3 v1 rfl rfl) h1
  obtain ⟨a2, rfl, rfl, rfl, w2⟩ := open_int Try.underlying5 (hval 2 5 v2 rfl rfl) h2
  clear hA0 hval0
  refine (walk v0 d0 p0 a1 a2 W (hval 0 22 v0 rfl rfl) h0 w1 w2).mono fun e W' ⟨he, bel⟩ => ?_
  subst he
  exact ⟨_, rfl, _, _, _, [], _, [], hW', trodAll_mk1 (shut_bool Try.underlying4 _), (trodAll_cons_mk (Below.trod laidOut (by kernel_rfl) (of_decide_eq_true (by kernel_rfl)) h0 bel lt0) (trodAll_cons_mk (shut_int Try.underlying3 w1) (trodAll_cons_mk (shut_int Try.underlying5 w2) trodAll_mk0))), rfl, bel.frame _, fun h => by cases h⟩

theorem over : Rows.paramTurnsRow.holds Try.pinned (OpenSpec.ofChange Rows.paramTurnsSpec) :=
  OpenClaim.holds_of_wide 8 Try.f8 rfl rfl rfl rfl rfl rfl rfl ⟨rfl, rfl, rfl, rfl, rfl⟩ rfl rfl rfl rfl rfl (by kernel_rfl) Try.func8 (by kernel_rfl)
    (of_decide_eq_true (by kernel_rfl)) (by unfold Func.isWrapper; first | (rw [if_pos (by decide +kernel)]; kernel_rfl) | (rw [if_neg (by decide +kernel)]; exact ⟨rfl, rfl⟩))
    (fun os started H enc _ => lifted os started H enc)

theorem proved : Rows.ParamTurnsSaid := over
#print axioms proved
end Go.Proofs.Ytanjlagaipkfmaa.paramTurns
