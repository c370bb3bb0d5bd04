/-
  PROVED: PacketBundles of flumelaw07 answers true for every input, and its arguments read afterwards as before. CONDITIONS: none beside the form's own.
-/
import Derived.Test.YtpgklhecmafnbaaRows
import Derived.Test.YtpgklhecmafnbaaPkB
import Derived.Test.YtpgklhecmafnbaaSees
import Derived.WalkKit
import Derived.ProofKit
import Derived.OpenShut
import Derived.ShutString
import Derived.ChangeOld
import Derived.Below
namespace Go.Proofs.Ytpgklhecmafnbaa.packetBundles
open Go.ChangeShapes Go.WideShapes Go.ChangeAt Go.RowKit
open Go.ChangeMaps (open_string shut_string)
set_option linter.unusedVariables false
set_option linter.unusedSimpArgs false

theorem own : ownKnob Try.prog.godebug = none := by kernel_rfl
theorem laidOut : laidOutB Try.prog = true := by kernel_rfl

/-- What the walk is told of a slice of integers that came in. -/
def IsRow (k : IntKind) (w : World) (a : Option Addr) (len cap : Nat) (zs : List Int) : Prop :=
  (a = none ∧ len = 0 ∧ cap = 0 ∧ zs = []) ∨
  ∃ x, a = some x ∧ len ≤ cap ∧ cap ≤ maxLen ∧ zs.length = cap ∧ (∀ i, i < zs.length → w.cell? (x.add i) = some (.int k (zs.getD i 0))) ∧ ∀ n ∈ zs, (Lit.int k n).wf = true

/-! ### The walk -/
open Words Oct Par Chk
open Crc (sealL)
def AnyB (ls : List Ck) (kk : Nat) (gs : List (List Ck)) : Prop := (kk = 0 ∧ gs = bundleB ls ∧ AllFit ls) ∨ (gs = [] ∧ BadB ls kk)
theorem anyB_one {ls : List Ck} {k k' : Nat} {g g' : List (List Ck)} (h : AnyB ls k g) (h' : AnyB ls k' g') : k = k' ∧ g = g' := by
  rcases h with ⟨rfl, rfl, h⟩ | ⟨rfl, h⟩ <;> rcases h' with ⟨rfl, rfl, h'⟩ | ⟨rfl, h'⟩
  · exact ⟨rfl, rfl⟩
  · exact (badB_fit h' h).elim
  · exact (badB_fit h h').elim
  · exact ⟨badB_one h h', rfl⟩
theorem anyB_good {ls : List Ck} {k : Nat} {gs : List (List Ck)} (h : AnyB ls k gs) : ∀ g ∈ gs, GoodG ls g := by
  rcases h with ⟨rfl, rfl, h⟩ | ⟨rfl, h⟩
  · exact fun g hg => good_all h hg
  · exact fun g hg => by simp at hg
theorem bundle_any {w w' : World} {ls : List Ck} {e : Ending} (h : BundleDone w ls e w') : (∃ (kk : Nat) (v : Value) (gs : List (List Ck)), e = .returned (.tuple #[v, .int .i64 (kk : Int)]) ∧ OwnGs w' w.heap.size v gs ∧ AnyB ls kk gs) ∧ Below w.heap.size w w' := by
  obtain ⟨h | ⟨k, rfl, h⟩, hb⟩ := h
  · obtain ⟨v, rfl, h1, h2⟩ := h
    exact ⟨⟨0, v, _, rfl, h1, .inl ⟨rfl, rfl, h2⟩⟩, hb⟩
  · exact ⟨⟨k, _, [], rfl, OwnGs.nil _ _, .inr ⟨rfl, h⟩⟩, hb⟩
theorem rbundle_any {w w' : World} {ls : List Ck} {e : Ending} (h : RBundleDone w ls e w') : (∃ (kk : Nat) (v : Value) (gs : List (List Ck)), e = .returned (.tuple #[v, .int .i64 (kk : Int)]) ∧ RefGs w' w.heap.size v gs ∧ AnyB ls kk gs) ∧ Below w.heap.size w w' := by
  obtain ⟨h | ⟨k, rfl, h⟩, hb⟩ := h
  · obtain ⟨v, rfl, h1, h2⟩ := h
    exact ⟨⟨0, v, _, rfl, h1, .inl ⟨rfl, rfl, h2⟩⟩, hb⟩
  · exact ⟨⟨k, _, [], rfl, RefGs.nil _ _, .inr ⟨rfl, h⟩⟩, hb⟩
theorem ownGs_elem {w : World} {B n c k : Nat} {A : Option Addr} {gs : List (List Ck)} {g : List Ck} (h : OwnGs w B (.slice A n c) gs) (hg : gs[k]? = some g) : ∃ b A' c', A = some ⟨b, 0, none⟩ ∧ w.cell? ⟨b, k, none⟩ = some (.slice A' g.length c') ∧ OwnCks w B (.slice A' g.length c') g := by
  obtain ⟨xs, h1, h2⟩ := h
  obtain ⟨A', c', q1, _, _, q4⟩ := h2 k g hg
  have hk := (List.getElem?_eq_some_iff.1 hg).1
  obtain ⟨b, cap', hv, _, _⟩ := h1.form (by omega)
  injection hv with hv hn hc
  subst hv hn hc
  exact ⟨b, A', c', rfl, (h1.cellAt _ (by omega)).trans q1, q4⟩
theorem refGs_elem {w : World} {B n c k : Nat} {A : Option Addr} {gs : List (List Ck)} {g : List Ck} (h : RefGs w B (.slice A n c) gs) (hg : gs[k]? = some g) : ∃ b A' c', A = some ⟨b, 0, none⟩ ∧ w.cell? ⟨b, k, none⟩ = some (.slice A' g.length c') ∧ OwnRd w B (.slice A' g.length c') g := by
  obtain ⟨xs, h1, h2⟩ := h
  obtain ⟨A', c', q1, _, _, q4⟩ := h2 k g hg
  have hk := (List.getElem?_eq_some_iff.1 hg).1
  obtain ⟨b, cap', hv, _, _⟩ := h1.form (by omega)
  injection hv with hv hn hc
  subst hv hn hc
  exact ⟨b, A', c', rfl, (h1.cellAt _ (by omega)).trans q1, q4⟩
set_option maxHeartbeats 8000000 in
set_option maxRecDepth 100000 in
theorem walk {H : Type} {enc : TypeId × Value → H} {base : Nat} (v0 : Value) (d0 : DataW H) (p0 : List MemPlace) (w : World) (o0 : Value.okWide Try.prog w .any base 42 v0) (k0 : DataW.Trod enc Try.prog w 0 (fun _ => true) true 42 v0 d0 p0) :
    Calls Try.prog 6 #[v0] w fun e w' => e = .returned (.bool true) ∧ Below w.heap.size w w' := by
  obtain ⟨A0, n0, c0, rfl⟩ := okWide_slice Try.underlying42 o0
  have hsee : Sees w (.slice CkSh) [.slice A0 n0 c0] := sees_of (sh := .slice CkSh) rfl cksSh_fits k0
  obtain ⟨A0', c0', ls, he, hc, hm, hps⟩ := cks_of hsee
  injection he with e1 e2 e3
  subst e1 e3
  obtain ⟨n, hn⟩ : ∃ n, n = n0 := ⟨_, rfl⟩
  have HN : Hid (n = ls.length) := by rw [hn]; exact e2
  rw [← e2, ← hn] at hc
  rw [← hn]
  have HP := Lib.hid hps
  have hnm : n ≤ 9223372036854775807 := by omega
  clear e2 hn o0 k0 hsee hps
  go_enter Try.func6, Try.ntmps6
  go_wp2_with fail
  refine (first_p w).mono ?_
  rintro e W1 ⟨rfl, hb1⟩
  have HB1 := Lib.hid hb1
  clear hb1
  go_wp2_with fail
  refine (rsizeL_k (HP.out.below HB1.out) HB1.out.size HN.out hnm).mono ?_
  rintro e W2 ⟨⟨s, rfl, hs4, hs⟩, hb2⟩
  have HSS := Lib.hid hs
  have HB2 := Lib.hid (HB1.out.trans (hb2.mono HB1.out.size))
  clear hb2 HB1 hs
  by_cases hbig : (20000 : Int) < (s : Int)
  · go_wp2_with fail
    go_ret
    exact ⟨rfl, HB2.out⟩
  by_cases hlen : (300 : Int) < (n : Int)
  · go_wp2_with fail
    go_ret
    exact ⟨rfl, HB2.out⟩
  have HSC : Hid (sumC ls ≤ 20000) := by have := HSS.out (by omega); show _ ≤ _; omega
  clear HSS
  go_upto_region 5 with fail
  clear hbig hlen
  go_wp2_with fail
  refine (bundle_k ((HP.out.below HB2.out).more HB2.out.size) HN.out hc hm (by have := HSC.out; omega)).mono ?_
  intro e W3 hd3
  obtain ⟨⟨kk, v3, gs, rfl, ho3, ha3⟩, hb3⟩ := bundle_any hd3
  clear hd3
  have HB3 := Lib.hid (HB2.out.trans (hb3.mono HB2.out.size))
  have HO3 := Lib.hid ho3
  have HA3 := Lib.hid ha3
  obtain ⟨xs3, hx3, _⟩ := ho3
  obtain ⟨A3, c3, rfl, _, _⟩ := own_slice hx3
  obtain ⟨m, hmm⟩ : ∃ m, m = gs.length := ⟨_, rfl⟩
  rw [← hmm] at HO3 ⊢
  have HM := Lib.hid hmm
  have hm9 : m ≤ 9223372036854775807 := by omega
  clear hb3 ha3 hx3 hmm HB2
  go_wp2_with fail
  refine (rbundle_k ((HP.out.below HB3.out).more HB3.out.size) HN.out (by have := HSC.out; omega)).mono ?_
  intro e W4 hd4
  obtain ⟨⟨kk', v4, gs', rfl, ho4, ha4⟩, hb4⟩ := rbundle_any hd4
  clear hd4
  obtain ⟨rfl, rfl⟩ := anyB_one HA3.out ha4
  have HB4 := Lib.hid (HB3.out.trans (hb4.mono HB3.out.size))
  have HO4 := Lib.hid (HO3.out.grows hb4)
  have HR4 := Lib.hid ho4
  obtain ⟨xs4, hx4, _⟩ := ho4
  obtain ⟨A4, c4, rfl, _, _⟩ := own_slice hx4
  rw [← HM.out] at HR4 ⊢
  have HLW : Hid (W3.heap.size ≤ W4.heap.size) := hb4.size
  have HGD := Lib.hid (anyB_good HA3.out)
  clear hb4 ha4 hx4 HB3 HO3
  go_wp2_with fail
  go_loopw [7, 8, 9, 42] (fun _ _ _ i wr => ∃ (k : Nat), k ≤ m ∧ i = .int .i64 (k : Int) ∧ Hid (Below W4.heap.size W4 wr)) (fun _ _ _ i _ => m - (intOf i).toNat)
  case atStart => exact ⟨0, by omega, rfl, Below.refl _ _⟩
  case round =>
    obtain ⟨k, hk, rfl, HBK⟩ := hrel
    by_cases hlt : k < m
    · have hk2 : k < gs.length := by rw [← HM.out]; exact hlt
      obtain ⟨g, hg⟩ : ∃ g, g = gs[k] := ⟨_, rfl⟩
      have hgq : gs[k]? = some g := by rw [hg]; exact List.getElem?_eq_getElem hk2
      have HGG : Hid (GoodG ls g) := HGD.out g (by rw [hg]; exact List.getElem_mem _)
      have HOK := Lib.hid (HO4.out.grows HBK.out)
      have HRK := Lib.hid (HR4.out.grows HBK.out HLW.out)
      obtain ⟨b3, B3, d3, rfl, hc3, hk3⟩ := ownGs_elem HOK.out hgq
      obtain ⟨b4, B4, d4, rfl, hc4, hk4⟩ := refGs_elem HRK.out hgq
      have HBW := Lib.hid (HB4.out.trans (HBK.out.mono HB4.out.size))
      have HLR : Hid (W3.heap.size ≤ wr.heap.size) := Nat.le_trans HLW.out HBK.out.size
      obtain ⟨ng, hng⟩ : ∃ x, x = g.length := ⟨_, rfl⟩
      rw [← hng] at hc3 hk3 hc4 hk4
      have HNG := Lib.hid hng
      have hng9 : ng ≤ 64 := by rw [hng]; exact (fitsL_iff.1 HGG.out.1).2.1
      have HC3 : Hid (Cks wr wr.heap.size B3 g) := hk3.cks
      have HC4 : Hid (Cks wr wr.heap.size B4 g) := hk4.cks HLR.out
      have HCE3 := Lib.hid hc3
      have HCE4 := Lib.hid hc4
      have HSG : Hid (sumC g ≤ 20000) := Nat.le_trans (sumC_sub HGG.out.2.2.2) HSC.out
      have HAL : Hid (Alikes g g) := alikes_self (fun c hc => ⟨HC3.out.ok c hc, HGG.out.2.1 c hc, small_size (by have h1 := sumC_mem hc; have h2 := HSG.out; omega)⟩)
      have HST : Hid (Below wr.heap.size wr wr.drew) := Below.drew (Below.refl _ _)
      have hsz3 : b3 < wr.heap.size := by
        rcases Nat.lt_or_ge b3 wr.heap.size with h | h
        · exact h
        · rw [World.cell?, Array.getElem?_eq_none h] at hc3; cases hc3
      have hsz4 : b4 < wr.heap.size := by
        rcases Nat.lt_or_ge b4 wr.heap.size with h | h
        · exact h
        · rw [World.cell?, Array.getElem?_eq_none h] at hc4; cases hc4
      clear hg hgq hng hc3 hk3 hc4 hk4
      go_upto_region 12 with fail
      refine wp_region_stage (fun _ _ => True) (fun m V => Hid (Below wr.heap.size wr V)) [(false, .exact (.slice (some ⟨b3, 0, none⟩) m c3)),
          (false, .exact (.int .i64 (k : Int))),
          (false, .exact (.pointer (some ⟨b3, k, none⟩))),
          (false, .exact (.slice B3 ng d3)),
          (false, .exact (.slice (some ⟨b4, 0, none⟩) m c4)),
          (false, .exact (.int .i64 (k : Int))),
          (false, .exact (.pointer (some ⟨b4, k, none⟩))),
          (false, .exact (.slice B4 ng d4)),
          (false, .exact (.bool true)),
          (false, .exact (.bool false))] (by kernel_rfl) (by kernel_rfl) (by kernel_rfl) rfl ?lasts ?start ?walk
      case lasts => exact trivial
      case start => exact HST
      case walk =>
        refine stage_pure rfl (fun _ => trivial) (fun V m hS hl => by go_simp) ?_
        simp only [Act.put, List.setIfInBounds_toArray, List.set_cons_zero, List.set_cons_succ, List.cons_append, List.nil_append]
        refine stage_pure rfl (fun _ => trivial) (fun V m hS hl => by go_simp) ?_
        simp only [Act.put, List.setIfInBounds_toArray, List.set_cons_zero, List.set_cons_succ, List.cons_append, List.nil_append]
        refine stage_pure rfl (fun _ => trivial) (fun V m hS hl => by go_simp) ?_
        simp only [Act.put, List.setIfInBounds_toArray, List.set_cons_zero, List.set_cons_succ, List.cons_append, List.nil_append]
        refine stage_pure rfl (fun _ => trivial) (fun V m hS hl => by
            have hc : V.cell? ⟨b3, k, none⟩ = some (.slice B3 ng d3) := (hS.out.cell hsz3).trans HCE3.out
            go_simp) ?_
        simp only [Act.put, List.setIfInBounds_toArray, List.set_cons_zero, List.set_cons_succ, List.cons_append, List.nil_append]
        refine stage_pure rfl (fun _ => trivial) (fun V m hS hl => by go_simp) ?_
        simp only [Act.put, List.setIfInBounds_toArray, List.set_cons_zero, List.set_cons_succ, List.cons_append, List.nil_append]
        refine stage_pure rfl (fun _ => trivial) (fun V m hS hl => by go_simp) ?_
        simp only [Act.put, List.setIfInBounds_toArray, List.set_cons_zero, List.set_cons_succ, List.cons_append, List.nil_append]
        refine stage_pure rfl (fun _ => trivial) (fun V m hS hl => by go_simp) ?_
        simp only [Act.put, List.setIfInBounds_toArray, List.set_cons_zero, List.set_cons_succ, List.cons_append, List.nil_append]
        refine stage_pure rfl (fun _ => trivial) (fun V m hS hl => by
            have hc : V.cell? ⟨b4, k, none⟩ = some (.slice B4 ng d4) := (hS.out.cell hsz4).trans HCE4.out
            go_simp) ?_
        simp only [Act.put, List.setIfInBounds_toArray, List.set_cons_zero, List.set_cons_succ, List.cons_append, List.nil_append]
        refine stage_exact rfl (fun V m hS hl => by
            go_simp
            refine (rsameL_k ((HC3.out.below hS.out).more hS.out.size) ((HC4.out.below hS.out).more hS.out.size) (Nat.le_refl _) (Nat.le_refl _) HNG.out HNG.out HAL.out (by omega)).mono ?_
            rintro e V' ⟨rfl, hb⟩
            exact ⟨_, rfl, rfl, hS.out.trans (hb.mono hS.out.size)⟩) ?_
        simp only [Act.put, List.setIfInBounds_toArray, List.set_cons_zero, List.set_cons_succ, List.cons_append, List.nil_append]
        refine stage_pure rfl (fun _ => trivial) (fun V m hS hl => by go_simp) ?_
        simp only [Act.put, List.setIfInBounds_toArray, List.set_cons_zero, List.set_cons_succ, List.cons_append, List.nil_append]
        refine stage_nil (fun V2 hS hF => ?_)
        have HS2 := Lib.hid hS.out
        have hc : V2.cell? ⟨b3, k, none⟩ = some (.slice B3 ng d3) := (hS.out.cell hsz3).trans HCE3.out
        clear hS hF
        go_wp2_with (refine wpList_build_as rfl 44 _ rfl (pkV 0 0 0 (.slice B3 ng d3)) (pk_built_r _ ⟨_, _, _, rfl⟩) ?_)
        refine (put_p (f := 0) (t := 0) (g := 0) (n := ng) (c := d3) ((HC3.out.below HS2.out).more HS2.out.size) HNG.out (by have := HSG.out; omega) (by decide) (by decide) (by decide)).mono ?_
        rintro e W7 ⟨⟨k7, v7, l7, rfl, hk7, ho7, hp7⟩, hb7⟩
        obtain ⟨A7, c7, rfl, _, _⟩ := own_as ho7 rfl
        obtain rfl := good_put HGG.out hp7
        have HBN : Hid (Below W4.heap.size W4 W7) := HBK.out.trans ((HS2.out.trans (hb7.mono HS2.out.size)).mono HBK.out.size)
        clear hc hb7 ho7 hp7 hk7
        go_wp2_with fail
        go_roundw
        case rel => exact ⟨k + 1, by omega, by go_num, HBN⟩
        case measure => simp [intOf]; omega
    · obtain rfl : k = m := by omega
      have HBE := Lib.hid (HB4.out.trans (HBK.out.mono HB4.out.size))
      go_wp2_with fail
      refine (alone_any 2 (by decide) wr).mono ?_
      rintro e W8 ⟨rfl, rfl⟩
      go_wp2_with fail
      refine (alone_any 3 (by decide) wr).mono ?_
      rintro e W8 ⟨rfl, rfl⟩
      go_wp2_with fail
      go_ret
      exact ⟨ret_bool (by simp; rfl), HBE.out⟩

/-! ### The row's step -/
set_option maxRecDepth 100000 in
theorem lifted (os : Os) (started : os.Started) (H : Type) (enc : TypeId × Value → H) :
    ReturnsInHanded {} Try.checked os 6 .any (Rows.packetBundlesSpec.pre6 enc Try.prog Try.f6 Rows.packetBundlesRow.domain false) (Rows.packetBundlesSpec.post enc Try.prog Try.f6 false true false false) := by
  refine returnsInHanded_of_change (C := Try.checked) own started (by kernel_rfl) Try.func6
    (ChangeSpec.witness6 (enc := enc) (C := Try.checked) false ⟨#[], #[.slice none 0 0], []⟩ 8 (by kernel_rfl) (by kernel_rfl) (by kernel_rfl) (by kernel_rfl)) ?_
  intro W base args ds gs before hval0 hW hcnd _
  have hval : ∀ (j : Nat) t v, Try.f6.params[j]? = some t → args[j]? = some v → Value.okWide Try.prog W .any base t v := hval0
  have hW' := hW
  obtain ⟨p, q, hA0, hV, rfl, hfz, hnd⟩ := hW
  have hA : DataW.TrodAll enc Try.prog W 0 (fun _ => true) true Try.f6.params.toList args.toList ds p := hA0
  rw [Try.params6] at hA hval
  obtain ⟨v0, vs0, d0, ds0, p0, q0, hargs, rfl, rfl, h0, r0⟩ := trodAll_cons hA
  obtain ⟨rfl, rfl, rfl⟩ := trodAll_nil r0
  obtain rfl : args = #[v0] := by cases args; simp_all
  obtain ⟨rfl, rfl⟩ := trodVars_none hV
  have lt0 : ∀ x ∈ p0, x.block < W.heap.size := by obtain ⟨m, hm⟩ := h0; exact DataW.trod_lt m _ _ _ hm
  clear hA0 hval0
  refine (walk v0 d0 p0 W (hval 0 42 v0 rfl rfl) h0).mono fun e W' ⟨he, bel⟩ => ?_
  subst he
  exact ⟨_, rfl, _, _, _, [], _, [], hW', trodAll_mk1 (shut_bool Try.underlying4 _), (trodAll_cons_mk (Below.trod laidOut (by kernel_rfl) (of_decide_eq_true (by kernel_rfl)) h0 bel lt0) trodAll_mk0), rfl, bel.frame _, fun h => by cases h⟩

theorem over : Rows.packetBundlesRow.holds Try.pinned (OpenSpec.ofChange Rows.packetBundlesSpec) :=
  OpenClaim.holds_of_wide 6 Try.f6 rfl rfl rfl rfl rfl rfl rfl ⟨rfl, rfl, rfl, rfl, rfl⟩ rfl rfl rfl rfl rfl (by kernel_rfl) Try.func6 (by kernel_rfl)
    (of_decide_eq_true (by kernel_rfl)) (by unfold Func.isWrapper; first | (rw [if_pos (by decide +kernel)]; kernel_rfl) | (rw [if_neg (by decide +kernel)]; exact ⟨rfl, rfl⟩))
    (fun os started H enc _ => lifted os started H enc)

theorem proved : Rows.PacketBundlesSaid := over
#print axioms proved
end Go.Proofs.Ytpgklhecmafnbaa.packetBundles
