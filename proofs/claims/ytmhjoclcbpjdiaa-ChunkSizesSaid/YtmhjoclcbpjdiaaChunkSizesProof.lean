/-
  PROVED: ChunkSizes of flumelaw06 answers true for every input, and its arguments read afterwards as before. CONDITIONS: none beside the form's own.
-/
import Derived.Test.YtmhjoclcbpjdiaaRows
import Derived.Test.YtmhjoclcbpjdiaaChOpen
import Derived.Test.YtmhjoclcbpjdiaaChSz
import Derived.Test.YtmhjoclcbpjdiaaSees
import Derived.WalkKit
import Derived.ProofKit
import Derived.OpenShut
import Derived.ShutString
import Derived.ChangeOld
import Derived.Below
namespace Go.Proofs.Ytmhjoclcbpjdiaa.chunkSizes
open Go.ChangeShapes Go.WideShapes Go.ChangeAt Go.RowKit
open Go.ChangeMaps (open_string shut_string)
set_option linter.unusedVariables false
set_option linter.unusedSimpArgs false

theorem own : ownKnob Try.prog.godebug = none := by kernel_rfl
theorem laidOut : laidOutB Try.prog = true := by kernel_rfl

/-- What the walk is told of a slice of integers that came in. -/
def IsRow (k : IntKind) (w : World) (a : Option Addr) (len cap : Nat) (zs : List Int) : Prop :=
  (a = none ∧ len = 0 ∧ cap = 0 ∧ zs = []) ∨
  ∃ x, a = some x ∧ len ≤ cap ∧ cap ≤ maxLen ∧ zs.length = cap ∧ (∀ i, i < zs.length → w.cell? (x.add i) = some (.int k (zs.getD i 0))) ∧ ∀ n ∈ zs, (Lit.int k n).wf = true

/-! ### The walk -/
open Words Oct Par Chk
set_option maxHeartbeats 4000000 in
set_option maxRecDepth 100000 in
theorem walk {H : Type} {enc : TypeId × Value → H} {base : Nat} (v0 : Value) (d0 : DataW H) (p0 : List MemPlace) (w : World) (o0 : Value.okWide Try.prog w .any base 31 v0) (k0 : DataW.Trod enc Try.prog w 0 (fun _ => true) true 31 v0 d0 p0) :
    Calls Try.prog 7 #[v0] w fun e w' => e = .returned (.bool true) ∧ Below w.heap.size w w' := by
  obtain ⟨cs, rfl, hsz⟩ := okWide_struct Try.underlying31 o0
  have hsee : Sees w CkSh cs.toList := sees_of (sh := CkSh) rfl ckSh_fits k0
  obtain ⟨c, hat⟩ := ck_of hsee
  have HAT := Lib.hid hat
  have HSZ := Lib.hid hat.size
  have hk := hat.ok.kind
  obtain ⟨_, _, _, _, _, hcells, _⟩ := hat.parts
  have e0 := hcells.c0
  have HBL := Lib.hid (Blk.new w 31 cs)
  have HB := Lib.hid ((Below.refl w.heap.size w).alloc (Nat.le_refl _) (.cells cs 31))
  clear hsz hsee o0 k0 hat hcells
  go_enter Try.func7, Try.ntmps7
  go_upto_region 1 with (fail)
  obtain ⟨W0, hW0⟩ : ∃ W0, W0 = w.alloc (.cells cs 31) := ⟨_, rfl⟩
  rw [← hW0] at HBL HB ⊢
  obtain ⟨g0, hg0⟩ : ∃ g0, g0 = w.heap.size := ⟨_, rfl⟩
  rw [← hg0]
  have HG0 : Hid (CkBlk W0 g0 cs) := by rw [hg0]; exact HBL
  clear hW0 HBL hg0
  go_wp2_with fail
  refine (first_any W0).mono ?_
  rintro e W1 ⟨rfl, hb1⟩
  have HB1 := Lib.hid (HB.out.trans (hb1.mono HB.out.size))
  have HG1 : Hid (CkBlk W1 g0 cs) := HG0.out.below hb1 HG0.out.lt
  clear hb1 HG0 HB
  go_wp2_with (refine wpList_load_row rfl 31 _ rfl g0 rfl 31 cs (0, 0) _ HG1.out Try.underlying31 rfl (by rw [HSZ.out]; exact chunk_info) ?_)
  refine (size_k HB1.out.size (HAT.out.below HB1.out)).mono ?_
  rintro e W2 ⟨⟨s, rfl, hs⟩, hb2⟩
  have HS := Lib.hid hs
  have HB2 := Lib.hid (HB1.out.trans (hb2.mono HB1.out.size))
  have HG2 : Hid (CkBlk W2 g0 cs) := HG1.out.below hb2 HG1.out.lt
  clear hb2 HG1 HB1 hs
  by_cases hbig : (400000 : Int) < (s : Int)
  · go_wp2_with fail
    go_ret
    exact ⟨rfl, HB2.out⟩
  have HSM : Hid (Small c) := by
    have h1 := HS.out (by omega)
    unfold sizeC at h1
    exact ⟨by omega, by omega, by omega⟩
  go_wp2_with (refine wpList_load_row rfl 31 _ rfl g0 rfl 31 cs (0, 0) _ HG2.out Try.underlying31 rfl (by rw [HSZ.out]; exact chunk_info) ?_)
  refine (put_k HSM.out ((HAT.out.below HB2.out).more HB2.out.size)).mono ?_
  rintro e W3 ⟨hd, hb3⟩
  have HB3 := Lib.hid (HB2.out.trans (hb3.mono HB2.out.size))
  have HG3 : Hid (CkBlk W3 g0 cs) := HG2.out.below hb3 HG2.out.lt
  rcases hd with ⟨v, hp, rfl, ho⟩ | ⟨k, hk, rfl⟩
  · have hcl : (cont c).length + 4 < 65536 := by
      have := hp.short
      unfold tooLong at this
      omega
    obtain ⟨m, hm⟩ : ∃ m, m = (cont c).length + 4 := ⟨_, rfl⟩
    rw [← hm] at hcl
    have HM := Lib.hid hm
    obtain ⟨nb, hnb⟩ : ∃ nb, nb = (bytesC c).length := ⟨_, rfl⟩
    have hnl := bytes_len c
    rw [← hnb, ← hm] at hnl
    have hmod : nb % 4 = 0 := by rw [hnl, hm]; unfold padC; omega
    have hpad3 : padC (cont c).length ≤ 3 := by unfold padC; omega
    obtain ⟨z, hz'⟩ : ∃ z, z = padC (cont c).length := ⟨_, rfl⟩
    rw [← hz'] at hnl hpad3
    have HNL := Lib.hid hnl
    have hnl1 : m ≤ nb := by omega
    have hnl2 : 4 ≤ m := by omega
    have HNB := Lib.hid hnb
    obtain ⟨A3, c3, rfl, h3a, h3b⟩ := own_slice ho
    have ho2 : W3.ownsRow W2.heap.size 5 1 (.slice A3 nb c3) nb (u8s (bytesC c)) := by have := ho; unfold Own at this; rw [← hnb] at this; exact this
    rw [← hnb] at h3a ⊢
    obtain ⟨gb, cap, hA, hg1, hg2⟩ := ho2.form (by omega)
    injection hA with hA _ hcc
    subst hA hcc
    have HO := Lib.hid ho2
    have hcell : ∀ i, i < nb → W3.cell? ⟨gb, i, none⟩ = (u8s (bytesC c))[i]? := fun i hi => ho2.cellAt i (by omega)
    have HCELL := Lib.hid hcell
    obtain ⟨b2, hb2'⟩ : ∃ b2, b2 = (byteAt m 1).toNat := ⟨_, rfl⟩
    obtain ⟨b3, hb3'⟩ : ∃ b3, b3 = (byteAt m 0).toNat := ⟨_, rfl⟩
    have hsum : 256 * b2 + b3 = m := by rw [hb2', hb3']; exact len_bytes hcl
    have c2 : W3.cell? ⟨gb, 2, none⟩ = some (.int .u8 (b2 : Int)) := by rw [hcell 2 (by omega), bytes_cons, ← hm, hb2']; rfl
    have c3' : W3.cell? ⟨gb, 3, none⟩ = some (.int .u8 (b3 : Int)) := by rw [hcell 3 (by omega), bytes_cons, ← hm, hb3']; rfl
    have c0 : W3.cell? ⟨gb, 0, none⟩ = some (.int .u8 (c.kind : Int)) := by
      rw [hcell 0 (by omega), bytes_cons]
      show some (Value.int .u8 ((byteAt c.kind 0).toNat : Int)) = _
      rw [byte_toNat hk]
    have f0 := CkBlk.at HG3.out e0
    have hz : ∀ i, m + i < nb → W3.cell? ⟨gb, m + i, none⟩ = some (.int .u8 0) := fun i hi => by
      have h1 : (bytesC c)[m + i]? = some 0 := by
        have h2 := congrArg (fun l : List UInt8 => l[i]?) (bytes_drop c)
        simp only [List.getElem?_drop] at h2
        rw [hm, h2, List.getElem?_replicate, if_pos (by rw [← hz']; omega)]
      rw [hcell (m + i) hi, u8s_get, h1]; rfl
    have HZ := Lib.hid hz
    have q1 : (2 : Int) < (nb : Int) := by omega
    have q2 : (3 : Int) < (nb : Int) := by omega
    have w1 : IntKind.i64.wrap (b2 : Int) = (b2 : Int) := IntWalk.i64_in _ (by omega)
    have w2 : IntKind.i64.wrap (b3 : Int) = (b3 : Int) := IntWalk.i64_in _ (by omega)
    have w3 : IntKind.i64.wrap (256 * (b2 : Int)) = 256 * (b2 : Int) := IntWalk.i64_in _ (by omega)
    have w4 : IntKind.i64.wrap (256 * (b2 : Int) + (b3 : Int)) = (m : Int) := by rw [show 256 * (b2 : Int) + (b3 : Int) = (m : Int) by omega]; exact IntWalk.i64_in _ (by omega)
    have w5 : 256 * (b2 : Int) + (b3 : Int) = (m : Int) := by omega
    have hmodi : (nb : Int) % 4 = 0 := by omega
    have HMI := Lib.hid hmodi
    have hz3i : (z : Int) < 4 := by omega
    have hzi : (nb : Int) - (m : Int) = (z : Int) := by omega
    have HZI := Lib.hid hzi
    have hcap : m ≤ c3 := by omega
    clear hm hnb ho ho2 hcell hz hb2' hb3' hp hb3 HG2 HSM HS hnl hz' hmodi hmod hzi hsum
    go_wp2_with fail
    go_quiet (fail)
    obtain ⟨W4, hW4⟩ : ∃ W4, W4 = W3.drewN nq := ⟨_, rfl⟩
    have HB4 : Hid (Below w.heap.size w W4) := by rw [hW4]; exact below_drewN HB3.out nq
    have HZ4 : Hid (∀ i, m + i < nb → W4.cell? ⟨gb, m + i, none⟩ = some (.int .u8 0)) := by rw [hW4]; exact HZ.out
    have c04 : W4.cell? ⟨gb, 0, none⟩ = some (.int .u8 (c.kind : Int)) := by rw [hW4]; exact c0
    have f04 : W4.cell? ⟨g0, 0, none⟩ = some (.int .u8 (c.kind : Int)) := by rw [hW4]; exact f0
    rw [← hW4]
    clear hW4 c0 c2 c3' f0 w1 w2 w3 w4 w5 q1 q2 HZ HB3
    have p2 : (m : Int) ≤ (nb : Int) := by omega
    have hzn : nb - m = z := by have := HNL.out; omega
    have FIN : Hid (∀ q, Below w.heap.size w (W4.drewN q)) := fun q => below_drewN HB4.out q
    by_cases hcm : c3 = m
    · have hz0 : z = 0 := by have := HNL.out; omega
      subst hz0
      obtain rfl : nb = c3 := by omega
      subst hcm
      go_wp2_with fail
      refine wp_loop_rounds 1 ?_
      rw [rounds_succ]
      have r1 : (((nb : Int).tmod 4) == 0) = true := by
        have := HMI.out
        rw [Int.tmod_eq_emod_of_nonneg (by omega), this]; rfl
      have r1' : (((nb : Int) % 4) == 0) = true := by rw [HMI.out]; rfl
      have r2 : decide ((4 : Int) ≤ (nb : Int)) = true := by
        rw [decide_eq_true_eq]; omega
      have r6 : (0 : Int) < (nb : Int) := by omega
      go_wp2_with fail
      go_quiet (fail)
      go_wp2_with fail
      go_ret
      exact ⟨ret_bool (by simp), FIN.out _⟩
    · go_wp2_with fail
      go_loop [7, 37] (fun _ i => ∃ k : Nat, k ≤ z ∧ i = .int .i64 k) (fun _ i => z - (intOf i).toNat)
      case atStart => exact ⟨0, by omega, rfl⟩
      case round =>
        obtain ⟨k, hk', rfl⟩ := hrel
        by_cases hlt : k < z
        · have hc' : W4.cell? ⟨gb, m + k, none⟩ = some (.int .u8 0) := HZ4.out k (by have := HNL.out; omega)
          go_wp2_with fail
          go_round
          case rel => exact ⟨k + 1, by omega, by go_num⟩
          case measure => simp [intOf]; omega
        · obtain rfl : k = z := by omega
          have r1 : (((nb : Int).tmod 4) == 0) = true := by
            have := HMI.out
            rw [Int.tmod_eq_emod_of_nonneg (by omega), this]; rfl
          have r1' : (((nb : Int) % 4) == 0) = true := by rw [HMI.out]; rfl
          have r2 : decide ((4 : Int) ≤ (m : Int)) = true := by
            rw [decide_eq_true_eq]; omega
          have r3 : IntKind.i64.wrap ((nb : Int) - (m : Int)) = (k : Int) := by rw [HZI.out]; exact IntWalk.i64_in _ (by omega)
          have r3' : (nb : Int) - (m : Int) = (k : Int) := HZI.out
          have r4 : decide ((k : Int) < 4) = true := by
            rw [decide_eq_true_eq]; exact hz3i
          have r5 : decide ((m : Int) ≤ (nb : Int)) = true := by
            rw [decide_eq_true_eq]; omega
          have r6 : (0 : Int) < (nb : Int) := by omega
          go_wp2_with fail
          go_quiet (fail)
          go_wp2_with fail
          go_ret
          exact ⟨ret_bool (by simp), FIN.out _⟩
  · have hk0 : ((k : Int) != 0) = true := by rcases hk with ⟨rfl, _⟩ | ⟨rfl, _⟩ | ⟨rfl, _⟩ <;> rfl
    clear hb3 hk
    go_wp2_with fail
    go_ret
    exact ⟨rfl, HB3.out⟩

/-! ### The row's step -/
set_option maxRecDepth 100000 in
theorem lifted (os : Os) (started : os.Started) (H : Type) (enc : TypeId × Value → H) :
    ReturnsInHanded {} Try.checked os 7 .any (Rows.chunkSizesSpec.pre6 enc Try.prog Try.f7 Rows.chunkSizesRow.domain false) (Rows.chunkSizesSpec.post enc Try.prog Try.f7 false true false false) := by
  refine returnsInHanded_of_change (C := Try.checked) own started (by kernel_rfl) Try.func7
    (ChangeSpec.witness6 (enc := enc) (C := Try.checked) false ⟨#[], #[.agg #[.int .u8 0, .bool false, .bool false, .bool false, .bool false, .int .u32 0, .int .u16 0, .int .u32 0, .int .u32 0, .int .u32 0, .int .u32 0, .int .u32 0, .int .u16 0, .int .u16 0, .slice none 0 0, .slice none 0 0, .slice none 0 0, .slice none 0 0, .slice none 0 0]], []⟩ 8 (by kernel_rfl) (by kernel_rfl) (by kernel_rfl) (by kernel_rfl)) ?_
  intro W base args ds gs before hval0 hW hcnd _
  have hval : ∀ (j : Nat) t v, Try.f7.params[j]? = some t → args[j]? = some v → Value.okWide Try.prog W .any base t v := hval0
  have hW' := hW
  obtain ⟨p, q, hA0, hV, rfl, hfz, hnd⟩ := hW
  have hA : DataW.TrodAll enc Try.prog W 0 (fun _ => true) true Try.f7.params.toList args.toList ds p := hA0
  rw [Try.params7] at hA hval
  obtain ⟨v0, vs0, d0, ds0, p0, q0, hargs, rfl, rfl, h0, r0⟩ := trodAll_cons hA
  obtain ⟨rfl, rfl, rfl⟩ := trodAll_nil r0
  obtain rfl : args = #[v0] := by cases args; simp_all
  obtain ⟨rfl, rfl⟩ := trodVars_none hV
  have lt0 : ∀ x ∈ p0, x.block < W.heap.size := by obtain ⟨m, hm⟩ := h0; exact DataW.trod_lt m _ _ _ hm
  clear hA0 hval0
  refine (walk v0 d0 p0 W (hval 0 31 v0 rfl rfl) h0).mono fun e W' ⟨he, bel⟩ => ?_
  subst he
  exact ⟨_, rfl, _, _, _, [], _, [], hW', trodAll_mk1 (shut_bool Try.underlying4 _), (trodAll_cons_mk (Below.trod laidOut (by kernel_rfl) (of_decide_eq_true (by kernel_rfl)) h0 bel lt0) trodAll_mk0), rfl, bel.frame _, fun h => by cases h⟩

theorem over : Rows.chunkSizesRow.holds Try.pinned (OpenSpec.ofChange Rows.chunkSizesSpec) :=
  OpenClaim.holds_of_wide 7 Try.f7 rfl rfl rfl rfl rfl rfl rfl ⟨rfl, rfl, rfl, rfl, rfl⟩ rfl rfl rfl rfl rfl (by kernel_rfl) Try.func7 (by kernel_rfl)
    (of_decide_eq_true (by kernel_rfl)) (by unfold Func.isWrapper; first | (rw [if_pos (by decide +kernel)]; kernel_rfl) | (rw [if_neg (by decide +kernel)]; exact ⟨rfl, rfl⟩))
    (fun os started H enc _ => lifted os started H enc)

theorem proved : Rows.ChunkSizesSaid := over
#print axioms proved
end Go.Proofs.Ytmhjoclcbpjdiaa.chunkSizes
