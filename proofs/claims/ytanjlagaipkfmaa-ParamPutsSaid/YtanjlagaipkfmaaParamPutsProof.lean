/-
  PROVED: ParamPuts of flumelaw05 answers true for every input, and its arguments read afterwards as before. CONDITIONS: none beside the form's own.
-/
import Derived.Test.YtanjlagaipkfmaaRows
import Derived.Test.YtanjlagaipkfmaaParG
import Derived.Test.YtanjlagaipkfmaaParLaw
import Derived.Test.YtanjlagaipkfmaaSees
import Derived.Test.YtanjlagaipkfmaaStage
import Derived.Test.YtanjlagaipkfmaaRegion
import Derived.WalkKit
import Derived.ProofKit
import Derived.OpenShut
import Derived.ShutString
import Derived.ChangeOld
import Derived.Below
namespace Go.Proofs.Ytanjlagaipkfmaa.paramPuts
open Go.ChangeShapes Go.WideShapes Go.ChangeAt Go.RowKit
open Go.ChangeMaps (open_string shut_string)
set_option linter.unusedVariables false
set_option linter.unusedSimpArgs false

theorem own : ownKnob Try.prog.godebug = none := by kernel_rfl
theorem laidOut : laidOutB Try.prog = true := by kernel_rfl

/-- What the walk is told of a slice of integers that came in. -/
def IsRow (k : IntKind) (w : World) (a : Option Addr) (len cap : Nat) (zs : List Int) : Prop :=
  (a = none ∧ len = 0 ∧ cap = 0 ∧ zs = []) ∨
  ∃ x, a = some x ∧ len ≤ cap ∧ cap ≤ maxLen ∧ zs.length = cap ∧ (∀ i, i < zs.length → w.cell? (x.add i) = some (.int k (zs.getD i 0))) ∧ ∀ n ∈ zs, (Lit.int k n).wf = true

/-! ### The walk -/
open Words Oct Par
theorem kinds_of {w : World} {B : Nat} {A : Option Addr} {ls : List Prm} (h : Ps w B A ls) : ∀ p ∈ ls, p.1 < 65536 := fun p hp => by
  obtain ⟨k, hk, rfl⟩ := List.mem_iff_getElem.1 hp
  obtain ⟨_, _, _, _, _, h3, _⟩ := h k _ (List.getElem?_eq_getElem hk)
  exact h3
set_option maxHeartbeats 4000000 in
set_option maxRecDepth 100000 in
theorem walk {H : Type} {enc : TypeId × Value → H} {base : Nat} (v0 : Value) (d0 : DataW H) (p0 : List MemPlace) (w : World) (o0 : Value.okWide Try.prog w .any base 22 v0) (k0 : DataW.Trod enc Try.prog w 0 (fun _ => true) true 22 v0 d0 p0) :
    Calls Try.prog 3 #[v0] w fun e w' => e = .returned (.bool true) ∧ Below w.heap.size w w' := by
  obtain ⟨A0, n0, c0, rfl⟩ := okWide_slice Try.underlying22 o0
  have hsee : Sees w (.slice PrmSh) [.slice A0 n0 c0] := sees_of (sh := .slice PrmSh) rfl prmSh_fits k0
  obtain ⟨A0', c0', ls, he, hc, hm, hps⟩ := ps_of hsee
  injection he with e1 e2 e3
  subst e1 e3
  obtain ⟨n, hn⟩ : ∃ n, n = n0 := ⟨_, rfl⟩
  have HN : Hid (n = ls.length) := by rw [hn]; exact e2
  rw [← e2, ← hn] at hc
  rw [← hn]
  have HP := Lib.hid hps
  clear e2 hn o0 k0 hsee hps
  go_enter Try.func3, Try.ntmps3
  go_wp2_with fail
  refine (first_any put_c get_c w).mono ?_
  rintro e W1 ⟨rfl, hb1⟩
  have HB1 := Lib.hid hb1
  clear hb1
  go_wp2_with fail
  refine (size_any rfl A0 ls n c0 W1 HN.out hc hm ((HP.out.below HB1.out).more HB1.out.size)).mono ?_
  rintro e W2 ⟨rfl, hb2⟩
  have HB2 := Lib.hid (HB1.out.trans (hb2.mono HB1.out.size))
  clear hb2
  obtain ⟨sz, hsz⟩ : ∃ sz, sz = sizeF ls 0 := ⟨_, rfl⟩
  rw [← hsz]
  have HSZ := Lib.hid hsz
  clear hsz
  by_cases hbig : (100000 : Int) < (sz : Int)
  · go_wp2_with fail
    go_ret
    exact ⟨rfl, HB2.out⟩
  · have hsl : sizeL ls ≤ 100000 := by
      have h1 := HSZ.out
      have := sizeF_eq ls 0 (by omega)
      omega
    have HSL := Lib.hid hsl
    have hn25 : n ≤ 25000 := by have := len_le_size ls; have := HN.out; omega
    clear hsl
    go_wp2_with fail
    refine (copy_any A0 ls n c0 W2 HN.out (by have := HSL.out; omega) ((HP.out.below HB2.out).more HB2.out.size)).mono ?_
    rintro e W3 ⟨⟨v3, rfl, ho3⟩, hb3⟩
    obtain ⟨A3, c3, rfl, h3a, h3b⟩ := ho3.slice
    rw [← HN.out] at ho3 h3a ⊢
    have HB3 := Lib.hid (HB2.out.trans (hb3.mono HB2.out.size))
    have HO3 := Lib.hid ho3
    clear ho3 hb3
    go_wp2_with fail
    refine (put_c A3 ls n c3 W3 HN.out h3a h3b (by have := HSL.out; omega) HO3.out.ps).mono ?_
    rintro e W4 ⟨hd, hb4⟩
    have HB4 := Lib.hid (HB3.out.trans (hb4.mono HB3.out.size))
    have HB34 := Lib.hid hb4
    rcases hd with ⟨v4, rfl, ho4, hsm4⟩ | ⟨A4, c4, rfl, p, hp, hpl⟩
    · have henl : (encL ls).length ≤ 200000 := by have h1 := encL_le ls; have := HSL.out; omega
      obtain ⟨A4, c4, rfl, h4a, h4b⟩ := own_slice ho4
      obtain ⟨nb, hnb⟩ : ∃ nb, nb = (encL ls).length := ⟨_, rfl⟩
      rw [← hnb] at ho4 henl h4a ⊢
      have HNB := Lib.hid hnb
      have HO4 : Hid (W4.ownsRow W3.heap.size 5 1 (.slice A4 nb c4) nb (u8s (encL ls))) := by have := ho4; unfold Own at this; rw [← hnb] at this; exact this
      have HSM := Lib.hid hsm4
      have HG4 := Lib.hid (getL_enc ls (fun p hp => ⟨kinds_of HP.out p hp, hsm4 p hp⟩))
      clear ho4 hb4 hsm4 hnb
      go_wp2_with fail
      refine (rput_any A0 ls n c0 W4 HN.out (by have := HSL.out; omega) ((HP.out.below HB4.out).more HB4.out.size)).mono ?_
      rintro e W5 ⟨hd, hb5⟩
      have HB5 := Lib.hid (HB4.out.trans (hb5.mono HB4.out.size))
      have HB35 := Lib.hid (HB34.out.trans (hb5.mono HB34.out.size))
      rcases hd with ⟨v5, rfl, ho5, _⟩ | ⟨_, p, hp, hpl⟩
      · obtain ⟨A5, c5, rfl, h5a, h5b, HY5⟩ := own_as (n := nb) ho5 HNB.out
        have HO5 : Hid (W5.ownsRow W3.heap.size 5 1 (.slice A4 nb c4) nb (u8s (encL ls))) := (Fr.of_below hb5).own HO4.out (fun g hg hi => by have := (HO4.out.lt g hg).2; omega)
        clear ho5 hb5
        go_wp2_with fail
        refine (same_any A3 A0 ls ls n n c3 c0 W3.heap.size w.heap.size W5 HN.out HN.out h3a hc h3b hm (HO3.out.ps.below HB35.out) (HP.out.below HB5.out)).mono ?_
        rintro e W' ⟨he, m, rfl⟩
        obtain rfl : e = .returned (.bool true) := by rw [he]; simp
        obtain ⟨W6, hW6⟩ : ∃ W6, W6 = W5.drewN m := ⟨_, rfl⟩
        have HB6 : Hid (Below w.heap.size w W6) := by rw [hW6]; exact below_drewN HB5.out _
        have HY6 : Hid (Byt W6 W6.heap.size A5 (encL ls)) := by rw [hW6]; exact HY5.out.drewN m
        have HO6 : Hid (W6.ownsRow W3.heap.size 5 1 (.slice A4 nb c4) nb (u8s (encL ls))) := by rw [hW6]; exact ((Fr.refl (fun _ => False) W5).drewN m).own HO5.out (fun _ _ h => h)
        have HY4 : Hid (Byt W6 W6.heap.size A4 (encL ls)) := by have := HO6.out; rw [HNB.out] at this; exact Reads.of_own this
        rw [← hW6]
        have hst1 := run_str (P := Try.prog) HY4.out 26 9 5 Try.underlying26 Try.underlying5 Try.underlying9 nb c4 HNB.out
        have hst2 := run_str (P := Try.prog) HY6.out 26 9 5 Try.underlying26 Try.underlying5 Try.underlying9 nb c5 HNB.out
        clear he hW6 HO5 HO4
        go_wp2_with fail
        refine (get_c A4 (encL ls) nb c4 W6 HNB.out h4a h4b henl HY4.out).mono ?_
        rintro e W7 ⟨hd, hb7⟩
        have HB7 := Lib.hid (HB6.out.trans (hb7.mono HB6.out.size))
        rcases hd with ⟨v7, ls7, hls7, rfl, ho7⟩ | ⟨k, A7, c7, hk, _⟩
        · rw [HG4.out] at hls7
          injection hls7 with hls7
          subst hls7
          obtain ⟨A7, c7, rfl, h7a, h7b⟩ := ho7.slice
          rw [← HN.out] at ho7 h7a ⊢
          have HO7 : Hid (W7.ownsRow W3.heap.size 5 1 (.slice A4 nb c4) nb (u8s (encL ls))) := (Fr.of_below hb7).own HO6.out (fun g hg hi => by have := (HO6.out.lt g hg).2; omega)
          have HQ7 := Lib.hid ho7
          have HAG : Hid (∀ g, (Value.slice A4 nb c4).ownBlock = some g → w.heap.size ≤ g ∧ g < W6.heap.size) := fun g hg => by
            have h1 := HO6.out.lt g hg
            have h2 := HB3.out.size
            omega
          clear ho7 hb7 hst1 hst2
          go_wp2_with fail
          go_loopw [10, 57] (fun _ i wr => ∃ (k : Nat) (l' : List UInt8), k ≤ nb ∧ i = .int .i64 k ∧ Hid (nb = l'.length) ∧ Hid (wr.ownsRow W3.heap.size 5 1 (.slice A4 nb c4) nb (u8s l')) ∧ Hid (OwnPs wr W6.heap.size (.slice A7 n c7) ls) ∧ Hid (Below w.heap.size w wr)) (fun _ i _ => nb - (intOf i).toNat)
          case atStart => exact ⟨0, encL ls, by omega, rfl, HNB, HO7.out, HQ7.out, HB7.out⟩
          case round =>
            obtain ⟨k, l', hk, rfl, HN', HOr, HQr, HBr⟩ := hrel
            by_cases hlt : k < nb
            · obtain ⟨g, y, l2, rfl, hcell, hfr, hn2', hst⟩ := flip_at HOr.out HN'.out hlt
              have HN2' := Lib.hid hn2'
              have HST := Lib.hid hst
              have HGB := Lib.hid (HAG.out g rfl)
              have hyb := u8_bd y
              clear hn2' hst
              go_wp2_with fail
              go_roundw
              case rel => exact ⟨k + 1, l2, by omega, by go_num, HN2', (HST.out _ rfl).1, HQr.out.fr (HST.out _ rfl).2.out (fun i hi _ => by have e0 : i = g := (by injection hi); have := HGB.out.2; omega), HBr.out.setCell (p := ⟨g, k, none⟩) HGB.out.1 _⟩
              case measure => simp [intOf]; omega
            · obtain rfl : k = nb := by omega
              go_wp2_with fail
              refine (same_any A7 A0 ls ls n n c7 c0 wr.heap.size w.heap.size wr HN.out HN.out h7a hc h7b hm HQr.out.ps (HP.out.below HBr.out)).mono ?_
              rintro e W9 ⟨he, m, rfl⟩
              obtain rfl : e = .returned (.bool true) := by rw [he]; simp
              go_wp2_with fail
              go_ret
              exact ⟨rfl, below_drewN HBr.out _⟩
        · rw [HG4.out] at hk; cases hk
      · have := HSM.out p hp
        omega
    · have HPL : Hid (∃ p ∈ ls, 65531 < p.2.length) := ⟨p, hp, hpl⟩
      clear hb4 hp hpl
      go_wp2_with fail
      refine (rput_any A0 ls n c0 W4 HN.out (by have := HSL.out; omega) ((HP.out.below HB4.out).more HB4.out.size)).mono ?_
      rintro e W5 ⟨hd, hb5⟩
      have HB5 := Lib.hid (HB4.out.trans (hb5.mono HB4.out.size))
      have HB35 := Lib.hid (HB34.out.trans (hb5.mono HB34.out.size))
      rcases hd with ⟨v5, rfl, _, hsm⟩ | ⟨rfl, _⟩
      · obtain ⟨p, hp, hpl⟩ := HPL.out
        have := hsm p hp
        omega
      · clear hb5
        go_wp2_with fail
        refine (same_any A3 A0 ls ls n n c3 c0 W3.heap.size w.heap.size W5 HN.out HN.out h3a hc h3b hm (HO3.out.ps.below HB35.out) (HP.out.below HB5.out)).mono ?_
        rintro e W' ⟨he, m, rfl⟩
        obtain rfl : e = .returned (.bool true) := by rw [he]; simp
        go_wp2_with fail
        go_ret
        exact ⟨rfl, below_drewN HB5.out _⟩

/-! ### The row's step -/
set_option maxRecDepth 100000 in
theorem lifted (os : Os) (started : os.Started) (H : Type) (enc : TypeId × Value → H) :
    ReturnsInHanded {} Try.checked os 3 .any (Rows.paramPutsSpec.pre6 enc Try.prog Try.f3 Rows.paramPutsRow.domain false) (Rows.paramPutsSpec.post enc Try.prog Try.f3 false true false false) := by
  refine returnsInHanded_of_change (C := Try.checked) own started (by kernel_rfl) Try.func3
    (ChangeSpec.witness6 (enc := enc) (C := Try.checked) false ⟨#[], #[.slice none 0 0], []⟩ 8 (by kernel_rfl) (by kernel_rfl) (by kernel_rfl) (by kernel_rfl)) ?_
  intro W base args ds gs before hval0 hW hcnd _
  have hval : ∀ (j : Nat) t v, Try.f3.params[j]? = some t → args[j]? = some v → Value.okWide Try.prog W .any base t v := hval0
  have hW' := hW
  obtain ⟨p, q, hA0, hV, rfl, hfz, hnd⟩ := hW
  have hA : DataW.TrodAll enc Try.prog W 0 (fun _ => true) true Try.f3.params.toList args.toList ds p := hA0
  rw [Try.params3] at hA hval
  obtain ⟨v0, vs0, d0, ds0, p0, q0, hargs, rfl, rfl, h0, r0⟩ := trodAll_cons hA
  obtain ⟨rfl, rfl, rfl⟩ := trodAll_nil r0
  obtain rfl : args = #[v0] := by cases args; simp_all
  obtain ⟨rfl, rfl⟩ := trodVars_none hV
  have lt0 : ∀ x ∈ p0, x.block < W.heap.size := by obtain ⟨m, hm⟩ := h0; exact DataW.trod_lt m _ _ _ hm
  clear hA0 hval0
  refine (walk v0 d0 p0 W (hval 0 22 v0 rfl rfl) h0).mono fun e W' ⟨he, bel⟩ => ?_
  subst he
  exact ⟨_, rfl, _, _, _, [], _, [], hW', trodAll_mk1 (shut_bool Try.underlying4 _), (trodAll_cons_mk (Below.trod laidOut (by kernel_rfl) (of_decide_eq_true (by kernel_rfl)) h0 bel lt0) trodAll_mk0), rfl, bel.frame _, fun h => by cases h⟩

theorem over : Rows.paramPutsRow.holds Try.pinned (OpenSpec.ofChange Rows.paramPutsSpec) :=
  OpenClaim.holds_of_wide 3 Try.f3 rfl rfl rfl rfl rfl rfl rfl ⟨rfl, rfl, rfl, rfl, rfl⟩ rfl rfl rfl rfl rfl (by kernel_rfl) Try.func3 (by kernel_rfl)
    (of_decide_eq_true (by kernel_rfl)) (by unfold Func.isWrapper; first | (rw [if_pos (by decide +kernel)]; kernel_rfl) | (rw [if_neg (by decide +kernel)]; exact ⟨rfl, rfl⟩))
    (fun os started H enc _ => lifted os started H enc)

theorem proved : Rows.ParamPutsSaid := over
#print axioms proved
end Go.Proofs.Ytanjlagaipkfmaa.paramPuts
