/-
  PROVED: PacketPuts of flumelaw07 answers true for every input, and its arguments read afterwards as before. CONDITIONS: none beside the form's own.
-/
import Derived.Test.YtpgklhecmafnbaaRows
import Derived.Test.YtpgklhecmafnbaaPkA
import Derived.Test.YtpgklhecmafnbaaPk4
import Derived.Test.YtpgklhecmafnbaaSees
import Derived.WalkKit
import Derived.ProofKit
import Derived.OpenShut
import Derived.ShutString
import Derived.ChangeOld
import Derived.Below
namespace Go.Proofs.Ytpgklhecmafnbaa.packetPuts
open Go.ChangeShapes Go.WideShapes Go.ChangeAt Go.RowKit
open Go.ChangeMaps (open_string shut_string)
set_option linter.unusedVariables false
set_option linter.unusedSimpArgs false

theorem own : ownKnob Try.prog.godebug = none := by kernel_rfl
theorem laidOut : laidOutB Try.prog = true := by kernel_rfl

/-- What the walk is told of a slice of integers that came in. -/
def IsRow (k : IntKind) (w : World) (a : Option Addr) (len cap : Nat) (zs : List Int) : Prop :=
  (a = none ∧ len = 0 ∧ cap = 0 ∧ zs = []) ∨
  ∃ x, a = some x ∧ len ≤ cap ∧ cap ≤ maxLen ∧ zs.length = cap ∧ (∀ i, i < zs.length → w.cell? (x.add i) = some (.int k (zs.getD i 0))) ∧ ∀ n ∈ zs, (Lit.int k n).wf = true

/-! ### The walk -/
open Words Oct Par Chk
open Crc (sealL)
set_option maxHeartbeats 8000000 in
set_option maxRecDepth 100000 in
theorem walk {H : Type} {enc : TypeId × Value → H} {base : Nat} (v0 : Value) (d0 : DataW H) (p0 : List MemPlace) (w : World) (o0 : Value.okWide Try.prog w .any base 44 v0) (k0 : DataW.Trod enc Try.prog w 0 (fun _ => true) true 44 v0 d0 p0) :
    Calls Try.prog 4 #[v0] w fun e w' => e = .returned (.bool true) ∧ Below w.heap.size w w' := by
  obtain ⟨cs, rfl, hsz⟩ := okWide_struct Try.underlying44 o0
  have hsee : Sees w PkSh cs.toList := sees_of (sh := PkSh) rfl pkSh_fits k0
  obtain ⟨f, t, g, A, cp, ls, rfl, hf, ht, hg, hnc, hcm, hck⟩ := pk_of hsee
  obtain ⟨n, hn⟩ : ∃ n, n = ls.length := ⟨_, rfl⟩
  rw [← hn] at hnc hsz hsee o0 k0 ⊢
  have HN := Lib.hid hn
  have HC := Lib.hid hck
  have hnm : n ≤ 9223372036854775807 := by omega
  have HBL := Lib.hid (Blk.new w 44 (pkV f t g (.slice A n cp)))
  have HB := Lib.hid ((Below.refl w.heap.size w).alloc (Nat.le_refl _) (.cells (pkV f t g (.slice A n cp)) 44))
  clear hsz hsee o0 k0 hck hn
  unfold pkV
  go_enter Try.func4, Try.ntmps4
  go_upto_region 1 with (fail)
  obtain ⟨W1, hW1⟩ : ∃ W1, W1 = w.alloc (.cells #[.int .u16 (f : Int), .int .u16 (t : Int), .int .u32 (g : Int), .slice A n cp] 44) := ⟨_, rfl⟩
  have hW1' : W1 = w.alloc (.cells (pkV f t g (.slice A n cp)) 44) := hW1
  rw [← hW1'] at HBL HB
  rw [← hW1]
  obtain ⟨g1, hg1⟩ : ∃ b, b = w.heap.size := ⟨_, rfl⟩
  have HP1 : Hid (Blk W1 g1 44 (pkV f t g (.slice A n cp))) := by rw [hg1]; exact HBL
  rw [← hg1]
  clear hW1 hW1' HBL hg1
  go_wp2_with fail
  refine (first_p W1).mono ?_
  rintro e W2 ⟨rfl, hb2⟩
  have HB2 := Lib.hid (HB.out.trans (hb2.mono HB.out.size))
  have HP2 : Hid (Blk W2 g1 44 (pkV f t g (.slice A n cp))) := HP1.out.below hb2 HP1.out.lt
  have x3 : W2.cell? ⟨g1, 3, none⟩ = some (.slice A n cp) := HP2.out.cell 3
  clear hb2 HP1 HB
  go_wp2_with fail
  refine (rsizeL_k (HC.out.below HB2.out) HB2.out.size HN.out hnm).mono ?_
  rintro e W3 ⟨⟨s, rfl, hs4, hs⟩, hb3⟩
  have HSS := Lib.hid hs
  have HB3 := Lib.hid (HB2.out.trans (hb3.mono HB2.out.size))
  have HP3 : Hid (Blk W3 g1 44 (pkV f t g (.slice A n cp))) := HP2.out.below hb3 HP2.out.lt
  clear hb3 HP2 HB2 x3 hs
  by_cases hbig : (100000 : Int) < (s : Int)
  · go_wp2_with fail
    go_ret
    exact ⟨rfl, HB3.out⟩
  have HSC : Hid (sumC ls ≤ 100000) := by have := HSS.out (by omega); show _ ≤ _; omega
  clear HSS
  go_upto_region 5 with fail
  clear hbig
  have HC3 : Hid (Cks W3 W3.heap.size A ls) := (HC.out.below HB3.out).more HB3.out.size
  have hcall := put_p (c := cp) HC3.out HN.out (by have := HSC.out; omega) hf ht hg
  have HCALL := Lib.hid hcall
  clear hcall
  go_wp2_with (refine wpList_load_pkW rfl _ rfl g1 rfl (pkV f t g (.slice A n cp)) HP3.out rfl ?_)
  refine HCALL.out.mono ?_
  rintro e W4 ⟨⟨kk, v4, l, rfl, hkk, ho4, hp4⟩, hb4⟩
  obtain ⟨n4, hn4⟩ : ∃ n, n = l.length := ⟨_, rfl⟩
  obtain ⟨A4, c4, rfl, h4a, h4b, HY4⟩ := own_as ho4 hn4
  have HN4 := Lib.hid hn4
  have HPP := Lib.hid hp4
  have HB4 := Lib.hid (HB3.out.trans (hb4.mono HB3.out.size))
  have HP4 : Hid (Blk W4 g1 44 (pkV f t g (.slice A n cp))) := HP3.out.below hb4 HP3.out.lt
  clear ho4 hp4 hb4 HP3 HB3 HC3 HCALL hn4
  have HC4 : Hid (Cks W4 W4.heap.size A ls) := (HC.out.below HB4.out).more HB4.out.size
  have hcall := rput_p (c := cp) HC4.out HN.out (by have := HSC.out; omega) hf ht hg
  have HCALL := Lib.hid hcall
  clear hcall
  go_wp2_with (refine wpList_load_pkW rfl _ rfl g1 rfl (pkV f t g (.slice A n cp)) HP4.out rfl ?_)
  refine HCALL.out.mono ?_
  rintro e W5 ⟨⟨kk', v5, l', rfl, hkk', ho5, hp5⟩, hb5⟩
  obtain ⟨rfl, rfl⟩ := putP_one HPP.out hp5
  obtain ⟨A5, c5, rfl, h5a, h5b, HY5⟩ := own_as ho5 HN4.out
  have HB5 := Lib.hid (HB4.out.trans (hb5.mono HB4.out.size))
  have HP5 : Hid (Blk W5 g1 44 (pkV f t g (.slice A n cp))) := HP4.out.below hb5 HP4.out.lt
  have HY45 : Hid (Byt W5 W5.heap.size A4 l) := (HY4.out.below hb5).more hb5.size
  have hst1 := run_str (P := Try.prog) HY45.out 22 9 5 Try.underlying22 Try.underlying5 Try.underlying9 n4 c4 HN4.out
  have hst2 := run_str (P := Try.prog) HY5.out 22 9 5 Try.underlying22 Try.underlying5 Try.underlying9 n4 c5 HN4.out
  clear ho5 hp5 hb5 HP4 HB4 HC4 HCALL HY4
  go_upto_region 9 with fail
  clear hst1 hst2
  by_cases hk0 : kk = 0
  rotate_left
  · have hz : n4 = 0 := by rw [HN4.out, putP_bad HPP.out hk0]; rfl
    have hkn : ((kk : Int) != 0) = true := by simp; omega
    subst hz
    clear hk0
    go_wp2_with fail
    go_ret
    exact ⟨ret_bool (by simp), HB5.out⟩
  subst hk0
  obtain ⟨hfit, hput, hbody, hl⟩ := putP_ok HPP.out
  have HPU := Lib.hid hput
  have HGET : Hid (getP l = .ok (f, t, g, ls.map strip)) := by rw [hl]; exact getP_put hf ht hg hfit hput HC.out.ok hbody
  have hcall := get_p HN4.out h4a h4b HY45.out
  have HCALL := Lib.hid hcall
  clear hfit hput hbody hl hcall HY5 HY45
  go_wp2_with fail
  refine HCALL.out.mono ?_
  rintro e W6 ⟨hb6, hd⟩
  rw [HGET.out] at hd
  rcases hd with ⟨f', t', g', v6, ls', he, rfl, ho6, _⟩ | ⟨k, he, _⟩
  rotate_left
  · cases he
  injection he with he
  simp only [Prod.mk.injEq] at he
  obtain ⟨rfl, rfl, rfl, rfl⟩ := he
  obtain ⟨A6, c6, hv6, h6a, h6b⟩ := ho6.slice
  rw [List.length_map, ← HN.out] at hv6 h6a
  subst hv6
  have HO6 := Lib.hid ho6
  have HB6 := Lib.hid (HB5.out.trans (hb6.mono HB5.out.size))
  have HP6 : Hid (Blk W6 g1 44 (pkV f t g (.slice A n cp))) := HP5.out.below hb6 HP5.out.lt
  clear hb6 ho6 HP5 HB5 HCALL
  go_upto_region 12 with (refine wpList_store_row rfl 44 _ _ rfl W6.heap.size (pkV f t g (.slice A6 n c6)) rfl rfl 44 _ (Blk.new W6 44 _) pk_info rfl (pk_one _ _ _ _ rfl) ?_)
  obtain ⟨W7, hW7, hp7, hb7⟩ := kept_pk W6 (pkV f t g (.slice A6 n c6))
  obtain ⟨g7, hg7⟩ : ∃ g, g = W6.heap.size := ⟨_, rfl⟩
  rw [← hg7] at hp7
  rw [← hW7, ← hg7]
  have HB7 := Lib.hid (HB6.out.trans (hb7.mono HB6.out.size))
  have HP7 : Hid (Blk W7 g1 44 (pkV f t g (.slice A n cp))) := HP6.out.below hb7 HP6.out.lt
  have HO7 := Lib.hid (HO6.out.grows hb7)
  have x0 : W7.cell? ⟨g1, 0, none⟩ = some (.int .u16 (f : Int)) := HP7.out.cell 0
  have x1 : W7.cell? ⟨g1, 1, none⟩ = some (.int .u16 (t : Int)) := HP7.out.cell 1
  have x2 : W7.cell? ⟨g1, 2, none⟩ = some (.int .u32 (g : Int)) := HP7.out.cell 2
  have x3 : W7.cell? ⟨g1, 3, none⟩ = some (.slice A n cp) := HP7.out.cell 3
  have y0 : W7.cell? ⟨g7, 0, none⟩ = some (.int .u16 (f : Int)) := hp7.cell 0
  have y1 : W7.cell? ⟨g7, 1, none⟩ = some (.int .u16 (t : Int)) := hp7.cell 1
  have y2 : W7.cell? ⟨g7, 2, none⟩ = some (.int .u32 (g : Int)) := hp7.cell 2
  have y3 : W7.cell? ⟨g7, 3, none⟩ = some (.slice A6 n c6) := hp7.cell 3
  have HAL : Hid (Alikes (ls.map strip) ls) := alikes_strip HPU.out HC.out.ok (fun c hc => ⟨by have h1 := sumC_mem hc; have h2 := HSC.out; unfold sizeC at h1; omega, strip_small (HC.out.ok c hc) (HPU.out c hc)⟩)
  clear hW7 hg7 hp7 hb7 HP6 HB6 HO6
  go_wp2_with fail
  refine (rsameL_k HO7.out.cks ((HC.out.below HB7.out).more HB7.out.size) (Nat.le_refl _) (Nat.le_refl _) (by rw [List.length_map]; exact HN.out) HN.out HAL.out hnm).mono ?_
  rintro e W8 ⟨rfl, hb8⟩
  have HB8 := Lib.hid (HB7.out.trans (hb8.mono HB7.out.size))
  clear hb8
  go_wp2_with fail
  go_ret
  exact ⟨ret_bool (by simp), HB8.out⟩

/-! ### The row's step -/
set_option maxRecDepth 100000 in
theorem lifted (os : Os) (started : os.Started) (H : Type) (enc : TypeId × Value → H) :
    ReturnsInHanded {} Try.checked os 4 .any (Rows.packetPutsSpec.pre6 enc Try.prog Try.f4 Rows.packetPutsRow.domain false) (Rows.packetPutsSpec.post enc Try.prog Try.f4 false true false false) := by
  refine returnsInHanded_of_change (C := Try.checked) own started (by kernel_rfl) Try.func4
    (ChangeSpec.witness6 (enc := enc) (C := Try.checked) false ⟨#[], #[.agg #[.int .u16 0, .int .u16 0, .int .u32 0, .slice none 0 0]], []⟩ 8 (by kernel_rfl) (by kernel_rfl) (by kernel_rfl) (by kernel_rfl)) ?_
  intro W base args ds gs before hval0 hW hcnd _
  have hval : ∀ (j : Nat) t v, Try.f4.params[j]? = some t → args[j]? = some v → Value.okWide Try.prog W .any base t v := hval0
  have hW' := hW
  obtain ⟨p, q, hA0, hV, rfl, hfz, hnd⟩ := hW
  have hA : DataW.TrodAll enc Try.prog W 0 (fun _ => true) true Try.f4.params.toList args.toList ds p := hA0
  rw [Try.params4] at hA hval
  obtain ⟨v0, vs0, d0, ds0, p0, q0, hargs, rfl, rfl, h0, r0⟩ := trodAll_cons hA
  obtain ⟨rfl, rfl, rfl⟩ := trodAll_nil r0
  obtain rfl : args = #[v0] := by cases args; simp_all
  obtain ⟨rfl, rfl⟩ := trodVars_none hV
  have lt0 : ∀ x ∈ p0, x.block < W.heap.size := by obtain ⟨m, hm⟩ := h0; exact DataW.trod_lt m _ _ _ hm
  clear hA0 hval0
  refine (walk v0 d0 p0 W (hval 0 44 v0 rfl rfl) h0).mono fun e W' ⟨he, bel⟩ => ?_
  subst he
  exact ⟨_, rfl, _, _, _, [], _, [], hW', trodAll_mk1 (shut_bool Try.underlying4 _), (trodAll_cons_mk (Below.trod laidOut (by kernel_rfl) (of_decide_eq_true (by kernel_rfl)) h0 bel lt0) trodAll_mk0), rfl, bel.frame _, fun h => by cases h⟩

theorem over : Rows.packetPutsRow.holds Try.pinned (OpenSpec.ofChange Rows.packetPutsSpec) :=
  OpenClaim.holds_of_wide 4 Try.f4 rfl rfl rfl rfl rfl rfl rfl ⟨rfl, rfl, rfl, rfl, rfl⟩ rfl rfl rfl rfl rfl (by kernel_rfl) Try.func4 (by kernel_rfl)
    (of_decide_eq_true (by kernel_rfl)) (by unfold Func.isWrapper; first | (rw [if_pos (by decide +kernel)]; kernel_rfl) | (rw [if_neg (by decide +kernel)]; exact ⟨rfl, rfl⟩))
    (fun os started H enc _ => lifted os started H enc)

theorem proved : Rows.PacketPutsSaid := over
#print axioms proved
end Go.Proofs.Ytpgklhecmafnbaa.packetPuts
