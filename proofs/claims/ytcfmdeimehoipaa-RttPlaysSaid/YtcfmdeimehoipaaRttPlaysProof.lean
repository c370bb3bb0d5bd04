/-
  PROVED: RttPlays of flumelaw10 answers true for every input, and its arguments read afterwards as before. CONDITIONS: none beside the form's own.
-/
import Derived.Test.YtcfmdeimehoipaaRows
import Derived.Test.YtcfmdeimehoipaaRttLaw
import Derived.WalkKit
import Derived.ProofKit
import Derived.OpenShut
import Derived.ShutString
import Derived.ChangeOld
import Derived.Below
namespace Go.Proofs.Ytcfmdeimehoipaa.rttPlays
open Go.ChangeShapes Go.WideShapes Go.ChangeAt Go.RowKit
open Go.ChangeMaps (open_string shut_string)
set_option linter.unusedVariables false
set_option linter.unusedSimpArgs false

theorem own : ownKnob Try.prog.godebug = none := by kernel_rfl
theorem laidOut : laidOutB Try.prog = true := by kernel_rfl

/-- What the walk is told of a slice of integers that came in. -/
def IsRow (k : IntKind) (w : World) (a : Option Addr) (len cap : Nat) (zs : List Int) : Prop :=
  (a = none ∧ len = 0 ∧ cap = 0 ∧ zs = []) ∨
  ∃ x, a = some x ∧ len ≤ cap ∧ cap ≤ maxLen ∧ zs.length = cap ∧ (∀ i, i < zs.length → w.cell? (x.add i) = some (.int k (zs.getD i 0))) ∧ ∀ n ∈ zs, (Lit.int k n).wf = true

/-! ### The walk -/
open Words Rtt
/-- The program's estimate and the document's, beside each other. -/
structure S3 (w wr : World) (p r : Nat) (x y : Es) : Prop where
  a : S1 w wr p x
  f : EsR wr r y
  le : w.heap.size ≤ r
  ne : p ≠ r
theorem S3.pstep {w wr w' : World} {p r : Nat} {x y z : Es} (h : S3 w wr p r x y) (he : EsP w' p z) (hf : Fr (At p) wr w') : S3 w w' p r z y :=
  ⟨h.a.step he hf, h.f.fr hf (fun e => h.ne (show r = p from e).symm), h.le, h.ne⟩
theorem S3.rstep {w wr w' : World} {p r : Nat} {x y z : Es} (h : S3 w wr p r x y) (he : EsR w' r z) (hf : Fr (At r) wr w') : S3 w w' p r x z :=
  ⟨⟨h.a.e.fr hf (fun e => h.ne e), at_below h.a.b h.le hf, h.a.le⟩, he, h.le, h.ne⟩
theorem S3.drewN {w wr : World} {p r : Nat} {x y : Es} (h : S3 w wr p r x y) (n : Nat) : S3 w (wr.drewN n) p r x y := ⟨h.a.drewN n, h.f.drewN n, h.le, h.ne⟩
theorem S3.double {w wr : World} {p r : Nat} {x y : Es} (h : S3 w wr p r x y) : Calls Try.prog 9 #[ptr p] wr fun e w' => e = .returned (.tuple #[]) ∧ Hid (S3 w w' p r (dbl x) y) :=
  (double_any h.a.e).mono (by rintro e w' ⟨rfl, h1, h2⟩; exact ⟨rfl, h.pstep h1 h2⟩)
theorem S3.clear {w wr : World} {p r : Nat} {x y : Es} (h : S3 w wr p r x y) : Calls Try.prog 10 #[ptr p] wr fun e w' => e = .returned (.tuple #[]) ∧ Hid (S3 w w' p r (clr x) y) :=
  (clear_any h.a.e).mono (by rintro e w' ⟨rfl, h1, h2⟩; exact ⟨rfl, h.pstep h1 h2⟩)
theorem S3.wait {w wr : World} {p r : Nat} {x y : Es} (h : S3 w wr p r x y) : Calls Try.prog 14 #[ptr p] wr fun e w' => e = .returned (.int .i64 (Rtt.wait x : Int)) ∧ Hid (S3 w w' p r x y) :=
  (wait_any h.a.e).mono (by rintro e w' ⟨rfl, n, rfl⟩; exact ⟨rfl, h.drewN n⟩)
theorem S3.rwait {w wr : World} {p r : Nat} {x y : Es} (h : S3 w wr p r x y) : Calls Try.prog 15 #[ptr r] wr fun e w' => e = .returned (.int .i64 (Rtt.wait y : Int)) ∧ Hid (S3 w w' p r x y) :=
  (rwait_any h.f).mono (by rintro e w' ⟨rfl, n, rfl⟩; exact ⟨rfl, h.drewN n⟩)
theorem S3.smooth {w wr : World} {p r : Nat} {x y : Es} (h : S3 w wr p r x y) : Calls Try.prog 13 #[ptr p] wr fun e w' => e = .returned (.tuple #[.int .i64 (x.s : Int), .int .i64 (x.d : Int)]) ∧ Hid (S3 w w' p r x y) :=
  (smooth_any h.a.e).mono (by rintro e w' ⟨rfl, n, rfl⟩; exact ⟨rfl, h.drewN n⟩)
theorem S3.sample {w wr : World} {p r : Nat} {x y : Es} (h : S3 w wr p r x y) {n : Nat} (hn : n ≤ 60000) : Calls Try.prog 11 #[ptr p, .int .i64 (n : Int)] wr fun e w' => e = .returned (.bool true) ∧ Hid (S3 w w' p r (samp x n) y) :=
  (sample_yes h.a.e hn).mono (by rintro e w' ⟨rfl, h1, h2⟩; exact ⟨rfl, h.pstep h1 h2⟩)
theorem S3.sample_no {w wr : World} {p r : Nat} {x y : Es} (h : S3 w wr p r x y) {n : Int} (hn : n < 0 ∨ 60000 < n) : Calls Try.prog 11 #[ptr p, .int .i64 n] wr fun e w' => e = .returned (.bool false) ∧ Hid (S3 w w' p r x y) :=
  (Rtt.sample_no hn).mono (by rintro e w' ⟨rfl, rfl⟩; exact ⟨rfl, h⟩)
theorem S3.rsample {w wr : World} {p r : Nat} {x y : Es} (h : S3 w wr p r x y) {n : Nat} (hn : n ≤ 60000) : Calls Try.prog 12 #[ptr r, .int .i64 (n : Int)] wr fun e w' => e = .returned (.bool true) ∧ Hid (S3 w w' p r x (samp y n)) :=
  (rsample_yes h.f hn).mono (by rintro e w' ⟨rfl, h1, h2⟩; exact ⟨rfl, h.rstep h1 h2⟩)
theorem S3.rsample_no {w wr : World} {p r : Nat} {x y : Es} (h : S3 w wr p r x y) {n : Int} (hn : n < 0 ∨ 60000 < n) : Calls Try.prog 12 #[ptr r, .int .i64 n] wr fun e w' => e = .returned (.bool false) ∧ Hid (S3 w w' p r x y) :=
  (Rtt.rsample_no hn).mono (by rintro e w' ⟨rfl, rfl⟩; exact ⟨rfl, h⟩)
theorem S3.sampleI {w wr : World} {p r : Nat} {x y : Es} (h : S3 w wr p r x y) {n : Int} (hn : 0 ≤ n ∧ n ≤ 60000) : Calls Try.prog 11 #[ptr p, .int .i64 n] wr fun e w' => e = .returned (.bool true) ∧ Hid (S3 w w' p r (samp x n.toNat) y) := by
  obtain ⟨m, rfl⟩ : ∃ m : Nat, n = m := ⟨n.toNat, by omega⟩
  exact h.sample (by omega)
theorem S3.rsampleI {w wr : World} {p r : Nat} {x y : Es} (h : S3 w wr p r x y) {n : Int} (hn : 0 ≤ n ∧ n ≤ 60000) : Calls Try.prog 12 #[ptr r, .int .i64 n] wr fun e w' => e = .returned (.bool true) ∧ Hid (S3 w w' p r x (samp y n.toNat)) := by
  obtain ⟨m, rfl⟩ : ∃ m : Nat, n = m := ⟨n.toNat, by omega⟩
  exact h.rsample (by omega)
/-- The document's doublings, set. -/
theorem S3.setK {w wr : World} {p r : Nat} {x y : Es} (h : S3 w wr p r x y) (k : Nat) (hk : k ≤ 1000) (K : Int) (hK : K = k) : S3 w (wr.setCell ⟨r, 3, none⟩ (.int .i64 K)) p r x (kk y k) := by
  subst hK
  refine h.rstep ⟨?_, ⟨h.f.ok.s, h.f.ok.d, h.f.ok.z⟩, hk⟩ ((Fr.refl (At r) wr).setCell (p := ⟨r, 3, none⟩) (.inl rfl) _)
  have := h.f.blk.set_ 3 (.int .i64 (k : Int))
  simpa [kk] using this
/-- The document's are as many or more; the program counts up to six. -/
structure Like (x y : Es) : Prop where
  k : x.k = min y.k 6
  e : kk x y.k = y
theorem Like.wait {x y : Es} (h : Like x y) : Rtt.wait x = Rtt.wait y := by
  have h1 : kk x (min y.k 6) = x := by rw [← h.k]; rfl
  rw [← h1, wait_six, h.e]
theorem Like.s {x y : Es} (h : Like x y) : x.s = y.s := by rw [← h.e]; rfl
theorem Like.d {x y : Es} (h : Like x y) : x.d = y.d := by rw [← h.e]; rfl
theorem Like.double {x y : Es} (h : Like x y) : Like (dbl x) (kk y (y.k + 1)) := by
  refine ⟨?_, ?_⟩
  · show min (x.k + 1) 6 = min (y.k + 1) 6
    have := h.k
    omega
  · rw [← h.e]; rfl
theorem Like.clear {x y : Es} (h : Like x y) : Like (clr x) (kk y 0) := ⟨rfl, by rw [← h.e]; rfl⟩
theorem Like.sample {x y : Es} (h : Like x y) (n : Nat) : Like (samp x n) (samp y n) := by
  have e : samp y n = samp x n := by rw [← h.e]; rfl
  rw [e]
  exact ⟨by rw [samp_k]; rfl, rfl⟩
set_option maxHeartbeats 4000000 in
set_option maxRecDepth 100000 in
theorem walk (a0 : Option Addr) (len0 cap0 : Nat) (z0 : List Int) (w : World) (w0 : IsRow .i64 w a0 len0 cap0 z0) :
    Calls Try.prog 3 #[.slice a0 len0 cap0] w fun e w' => e = .returned (.bool true) ∧ Below w.heap.size w w' := by
  obtain ⟨hcap, hlen, hrow⟩ := row_of w0
  have HR := Lib.hid hrow
  clear hrow w0
  go_enter Try.func3, Try.ntmps3
  go_wp2_with fail
  refine (first_any w).mono ?_
  rintro e W1 ⟨rfl, hb1⟩
  have H0 := Lib.hid (S1.new hb1)
  go_wp2_with fail
  obtain ⟨W2, hW2⟩ : ∃ W2, W2 = (W1.alloc (.cells #[.bool false, .int .i64 0, .int .i64 0, .int .i64 0] 25)).alloc (.cells #[.int .i64 0, .int .i64 0, .bool false, .int .i64 0] 28) := ⟨_, rfl⟩
  have H1 : Hid (S3 w W2 W1.heap.size (W1.heap.size + 1) es0 es0) := by
    rw [hW2]
    have h := H0.out
    have hs : (W1.alloc (.cells #[.bool false, .int .i64 0, .int .i64 0, .int .i64 0] 25)).heap.size = W1.heap.size + 1 := by simp
    have hr := Blk.new (W1.alloc (.cells #[.bool false, .int .i64 0, .int .i64 0, .int .i64 0] 25)) 28 #[.int .i64 0, .int .i64 0, .bool false, .int .i64 0]
    rw [hs] at hr
    exact ⟨⟨⟨h.e.blk.alloc _, h.e.ok, h.e.k⟩, h.b.alloc h.b.size _, h.le⟩, ⟨hr, ⟨Nat.zero_le _, Nat.zero_le _, fun _ => ⟨rfl, rfl⟩⟩, Nat.zero_le _⟩, by have := hb1.size; omega, by omega⟩
  rw [← hW2]
  clear hW2 hb1 H0
  obtain ⟨p, hp⟩ : ∃ p, p = W1.heap.size := ⟨_, rfl⟩
  obtain ⟨r, hr⟩ : ∃ r, r = p + 1 := ⟨_, rfl⟩
  rw [← hp] at H1 ⊢
  rw [← hr] at H1 ⊢
  clear hp hr
  go_loopw [15] (fun i wr => ∃ k : Nat, k ≤ len0 ∧ i = .int .i64 k ∧ ∃ x y, Hid (S3 w wr p r x y) ∧ Hid (Like x y) ∧ Hid (y.k ≤ k)) (fun i _ => len0 - (intOf i).toNat)
  case atStart => exact ⟨0, Nat.zero_le _, rfl, _, _, H1, ⟨rfl, rfl⟩, Nat.le_refl _⟩
  case round =>
    obtain ⟨k, hk, rfl, x, y, HX, HL, HK⟩ := hrel
    by_cases hlt : k < len0
    · obtain ⟨a, q, rfl, hc1, hz1, hz2⟩ := elem HR.out HX.out.a.b hlt
      by_cases h200 : k < 200
      · go_upto_if 24 with (fail)
        obtain ⟨u, hu⟩ : ∃ u, u = (q.tmod 5 == 4) := ⟨_, rfl⟩
        rw [← hu]
        clear hu
        go_cut [] from 25 to 46 (fun wx => ∃ x y, Hid (S3 w wx p r x y) ∧ Hid (Like x y) ∧ Hid (y.k ≤ k + 1))
        case first =>
          cases u
          · by_cases h7 : q.tmod 7 = 5
            · have e7 : (q.tmod 7 == 5) = true := by simp [h7]
              clear h7
              go_wp2_with fail
              refine HX.out.clear.mono ?_
              rintro e w2 ⟨rfl, H2⟩
              have c3 : w2.cell? ⟨r, 3, none⟩ = some (.int .i64 (y.k : Int)) := H2.out.f.blk.cell 3
              have f3 := H2.out.f.blk.frozen 3
              obtain ⟨K, hK⟩ : ∃ K, K = y.k := ⟨_, rfl⟩
              rw [← hK] at c3
              clear hK
              go_wp2_with fail
              go_meet
              exact ⟨_, _, H2.out.setK 0 (by omega) 0 rfl, HL.out.clear, Nat.zero_le _⟩
            · have e7 : (q.tmod 7 == 5) = false := by simpa using h7
              clear h7
              by_cases g : 0 ≤ q ∧ q ≤ 60000
              · have G := Lib.hid g
                clear g
                go_wp2_with fail
                refine (HX.out.sampleI G.out).mono ?_
                rintro e w2 ⟨rfl, H2⟩
                go_wp2_with fail
                refine (H2.out.rsampleI G.out).mono ?_
                rintro e w3 ⟨rfl, H3⟩
                go_wp2_with fail
                go_meet
                exact ⟨_, _, H3, HL.out.sample q.toNat, by show (samp y q.toNat).k ≤ _; rw [samp_k]; omega⟩
              · go_wp2_with fail
                refine (HX.out.sample_no (n := q) (by omega)).mono ?_
                rintro e w2 ⟨rfl, H2⟩
                go_wp2_with fail
                refine (H2.out.rsample_no (n := q) (by omega)).mono ?_
                rintro e w3 ⟨rfl, H3⟩
                go_wp2_with fail
                go_meet
                exact ⟨_, _, H3, HL, Nat.le_succ_of_le HK.out⟩
          · go_wp2_with fail
            refine HX.out.double.mono ?_
            rintro e w2 ⟨rfl, H2⟩
            have c3 : w2.cell? ⟨r, 3, none⟩ = some (.int .i64 (y.k : Int)) := H2.out.f.blk.cell 3
            have f3 := H2.out.f.blk.frozen 3
            have hyk := HK.out
            obtain ⟨K, hK⟩ : ∃ K, K = y.k := ⟨_, rfl⟩
            rw [← hK] at c3 hyk
            have HK' := Lib.hid hK
            clear hK
            go_wp2_with fail
            go_meet
            exact ⟨_, _, H2.out.setK (y.k + 1) (by have := HK'.out; omega) _ (by rw [← HK'.out]; omega), HL.out.double, by show y.k + 1 ≤ k + 1; rw [← HK'.out]; omega⟩
        case rest =>
          obtain ⟨x2, y2, H2, L2, K2⟩ := hcut
          go_wp2_with fail
          refine H2.out.smooth.mono ?_
          rintro e w4 ⟨rfl, H4⟩
          go_wp2_with fail
          refine H4.out.wait.mono ?_
          rintro e w5 ⟨rfl, H5⟩
          rw [L2.out.wait, L2.out.s, L2.out.d]
          go_wp2_with fail
          refine H5.out.rwait.mono ?_
          rintro e w6 ⟨rfl, H6⟩
          have c0 : w6.cell? ⟨r, 0, none⟩ = some (.int .i64 (y2.s : Int)) := H6.out.f.blk.cell 0
          have c1 : w6.cell? ⟨r, 1, none⟩ = some (.int .i64 (y2.d : Int)) := H6.out.f.blk.cell 1
          go_wp2_with fail
          go_roundw
          case rel => exact ⟨k + 1, by omega, by go_num, _, _, H6, L2, K2⟩
          case measure => simp [intOf]; omega
      · go_wp2_with fail
        go_ret
        exact ⟨rfl, HX.out.a.b⟩
    · obtain rfl : k = len0 := by omega
      go_wp2_with fail
      go_ret
      exact ⟨rfl, HX.out.a.b⟩

/-! ### The row's step -/
set_option maxRecDepth 100000 in
theorem lifted (os : Os) (started : os.Started) (H : Type) (enc : TypeId × Value → H) :
    ReturnsInHanded {} Try.checked os 3 .any (Rows.rttPlaysSpec.pre6 enc Try.prog Try.f3 Rows.rttPlaysRow.domain false) (Rows.rttPlaysSpec.post enc Try.prog Try.f3 false true false false) := by
  refine returnsInHanded_of_change (C := Try.checked) own started (by kernel_rfl) Try.func3
    (ChangeSpec.witness6 (enc := enc) (C := Try.checked) false ⟨#[], #[.slice none 0 0], []⟩ 8 (by kernel_rfl) (by kernel_rfl) (by kernel_rfl) (by kernel_rfl)) ?_
  intro W base args ds gs before hval0 hW hcnd _
  have hval : ∀ (j : Nat) t v, Try.f3.params[j]? = some t → args[j]? = some v → Value.okWide Try.prog W .any base t v := hval0
  have hW' := hW
  obtain ⟨p, q, hA0, hV, rfl, hfz, hnd⟩ := hW
  have hA : DataW.TrodAll enc Try.prog W 0 (fun _ => true) true Try.f3.params.toList args.toList ds p := hA0
  rw [Try.params3] at hA hval
  obtain ⟨v0, vs0, d0, ds0, p0, q0, hargs, rfl, rfl, h0, r0⟩ := trodAll_cons hA
  obtain ⟨rfl, rfl, rfl⟩ := trodAll_nil r0
  obtain rfl : args = #[v0] := by cases args; simp_all
  obtain ⟨rfl, rfl⟩ := trodVars_none hV
  obtain ⟨a0, len0, cap0, rfl⟩ := okWide_slice Try.underlying22 (hval 0 22 v0 rfl rfl)
  have k0 := h0
  have lt0 : ∀ x ∈ p0, x.block < W.heap.size := by obtain ⟨m, hm⟩ := k0; exact DataW.trod_lt m _ _ _ hm
  obtain ⟨z0, w0⟩ : ∃ zs, IsRow .i64 W a0 len0 cap0 zs := by
    obtain ⟨fuel, hf⟩ := h0
    rcases open_ints Try.underlying22 Try.underlying3 (by kernel_rfl) hf with ⟨hcs, _⟩ | ⟨x, l, c, zs, hcs, _, hl, hm, hz, _, hcell, hwz⟩
    · simp [Value.cells] at hcs
      obtain ⟨rfl, rfl, rfl⟩ := hcs
      exact ⟨[], .inl ⟨rfl, rfl, rfl, rfl⟩⟩
    · simp [Value.cells] at hcs
      obtain ⟨rfl, rfl, rfl⟩ := hcs
      exact ⟨zs, .inr ⟨_, rfl, hl, hm, by simpa using hz, hcell, hwz⟩⟩
  clear hA0 hval0
  refine (walk a0 len0 cap0 z0 W w0).mono fun e W' ⟨he, bel⟩ => ?_
  subst he
  exact ⟨_, rfl, _, _, _, [], _, [], hW', trodAll_mk1 (shut_bool Try.underlying4 _), (trodAll_cons_mk (Below.trod laidOut (by kernel_rfl) (of_decide_eq_true (by kernel_rfl)) k0 bel lt0) trodAll_mk0), rfl, bel.frame _, fun h => by cases h⟩

theorem over : Rows.rttPlaysRow.holds Try.pinned (OpenSpec.ofChange Rows.rttPlaysSpec) :=
  OpenClaim.holds_of_wide 3 Try.f3 rfl rfl rfl rfl rfl rfl rfl ⟨rfl, rfl, rfl, rfl, rfl⟩ rfl rfl rfl rfl rfl (by kernel_rfl) Try.func3 (by kernel_rfl)
    (of_decide_eq_true (by kernel_rfl)) (by unfold Func.isWrapper; first | (rw [if_pos (by decide +kernel)]; kernel_rfl) | (rw [if_neg (by decide +kernel)]; exact ⟨rfl, rfl⟩))
    (fun os started H enc _ => lifted os started H enc)

theorem proved : Rows.RttPlaysSaid := over
#print axioms proved
end Go.Proofs.Ytcfmdeimehoipaa.rttPlays
