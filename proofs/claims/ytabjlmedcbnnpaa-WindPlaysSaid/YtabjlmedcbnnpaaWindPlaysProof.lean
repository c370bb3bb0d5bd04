/-
  PROVED: WindPlays of flumelaw11 answers true for every input, and its arguments read afterwards as before. CONDITIONS: none beside the form's own.
-/
import Derived.Test.YtabjlmedcbnnpaaRows
import Derived.Test.YtabjlmedcbnnpaaWndLaw
import Derived.WalkKit
import Derived.ProofKit
import Derived.OpenShut
import Derived.ShutString
import Derived.ChangeOld
import Derived.Below
namespace Go.Proofs.Ytabjlmedcbnnpaa.windPlays
open Go.ChangeShapes Go.WideShapes Go.ChangeAt Go.RowKit
open Go.ChangeMaps (open_string shut_string)
set_option linter.unusedVariables false
set_option linter.unusedSimpArgs false

theorem own : ownKnob Try.prog.godebug = none := by kernel_rfl
theorem laidOut : laidOutB Try.prog = true := by kernel_rfl

/-- What the walk is told of a slice of integers that came in. -/
def IsRow (k : IntKind) (w : World) (a : Option Addr) (len cap : Nat) (zs : List Int) : Prop :=
  (a = none ∧ len = 0 ∧ cap = 0 ∧ zs = []) ∨
  ∃ x, a = some x ∧ len ≤ cap ∧ cap ≤ maxLen ∧ zs.length = cap ∧ (∀ i, i < zs.length → w.cell? (x.add i) = some (.int k (zs.getD i 0))) ∧ ∀ n ∈ zs, (Lit.int k n).wf = true

/-! ### The walk -/
open Words Wnd
/-- The program's window and the document's, beside each other, and the round's act. -/
structure S2 (w wr : World) (p r : Nat) (x : Wi) : Prop where
  a : S1 w wr p x
  f : R_ wr wr r x
  le : w.heap.size ≤ r
  ne : p ≠ r
structure S2o (w wr : World) (p r : Nat) (x y : Wi) (g : Nat) (K N F : Int) (b : Bool) : Prop where
  a : S1 w wr p x
  f : R_ wr wr r y
  le : w.heap.size ≤ r
  ne : p ≠ r
  o : Blk wr g 29 #[.int .i64 K, .int .i64 N, .int .i64 F, .bool b]
  gp : g ≠ p
  gr : g ≠ r
section
variable {w wr w' : World} {p r g k : Nat} {x y z : Wi} {K N F : Int} {b : Bool}
theorem S2o.new (h : S2 w wr p r x) (K N F : Int) (b : Bool) : S2o w (wr.alloc (.cells #[.int .i64 K, .int .i64 N, .int .i64 F, .bool b] 29)) p r x x wr.heap.size K N F b :=
  ⟨h.a.alloc _, ⟨h.f.blk.alloc _, Fr.refl _ _⟩, h.le, h.ne, Blk.new _ _ _, by have := h.a.e.blk.lt; omega, by have := h.f.blk.lt; omega⟩
theorem S2o.back (h : S2o w wr p r x x g K N F b) : S2 w wr p r x := ⟨h.a, h.f, h.le, h.ne⟩
theorem S2o.pstep (h : S2o w wr p r x y g K N F b) (k : P_ wr w' p z) : S2o w w' p r z y g K N F b :=
  ⟨h.a.step k, ⟨k.fr.blk h.f.blk (fun e => h.ne (show r = p from e).symm), Fr.refl _ _⟩, h.le, h.ne, k.fr.blk h.o h.gp, h.gp, h.gr⟩
theorem S2o.rstep (h : S2o w wr p r x y g K N F b) (k : R_ wr w' r z) : S2o w w' p r x z g K N F b :=
  ⟨⟨⟨k.fr.blk h.a.e.blk (fun e => h.ne e), Fr.refl _ _⟩, at_below h.a.b h.le k.fr, h.a.le⟩, k.now, h.le, h.ne, k.fr.blk h.o h.gr, h.gp, h.gr⟩
theorem S2o.drewN (h : S2o w wr p r x y g K N F b) (q : Nat) : S2o w (wr.drewN q) p r x y g K N F b := ⟨h.a.drewN q, (h.f.drewN q).now, h.le, h.ne, h.o.drewN q, h.gp, h.gr⟩
theorem S2o.acked (h : S2o w wr p r x y g K N F b) (ok : x.Ok k) (n f : Int) (hn : -9223372036854775808 ≤ n ∧ n ≤ 9223372036854775807) (on : Bool) : Calls Try.prog 10 #[ptr p, .int .i64 n, .int .i64 f, .bool on] wr fun e w' => e = .returned (.tuple #[]) ∧ Hid (S2o w w' p r (ack x n f on) y g K N F b) :=
  (acked_any h.a.e ok n f hn on).mono (by rintro e w' ⟨rfl, h1⟩; exact ⟨rfl, h.pstep h1⟩)
theorem S2o.racked (h : S2o w wr p r x y g K N F b) (ok : y.Ok k) (n f : Int) (on : Bool) : Calls Try.prog 11 #[ptr r, .int .i64 n, .int .i64 f, .bool on] wr fun e w' => e = .returned (.tuple #[]) ∧ Hid (S2o w w' p r x (ack y n f on) g K N F b) :=
  (racked_any h.f ok n f on).mono (by rintro e w' ⟨rfl, h1⟩; exact ⟨rfl, h.rstep h1⟩)
theorem S2o.lost (h : S2o w wr p r x y g K N F b) (ok : x.Ok k) : Calls Try.prog 12 #[ptr p] wr fun e w' => e = .returned (.tuple #[]) ∧ Hid (S2o w w' p r (Wnd.lost x) y g K N F b) :=
  (lost_any h.a.e ok).mono (by rintro e w' ⟨rfl, h1⟩; exact ⟨rfl, h.pstep h1⟩)
theorem S2o.late (h : S2o w wr p r x y g K N F b) (ok : x.Ok k) : Calls Try.prog 14 #[ptr p] wr fun e w' => e = .returned (.tuple #[]) ∧ Hid (S2o w w' p r (Wnd.late x) y g K N F b) :=
  (late_any h.a.e ok).mono (by rintro e w' ⟨rfl, h1⟩; exact ⟨rfl, h.pstep h1⟩)
theorem S2o.rest (h : S2o w wr p r x y g K N F b) (ok : x.Ok k) : Calls Try.prog 15 #[ptr p] wr fun e w' => e = .returned (.tuple #[]) ∧ Hid (S2o w w' p r (Wnd.rest x) y g K N F b) :=
  (rest_any h.a.e ok).mono (by rintro e w' ⟨rfl, h1⟩; exact ⟨rfl, h.pstep h1⟩)
theorem S2o.size (h : S2o w wr p r x y g K N F b) : Calls Try.prog 16 #[ptr p] wr fun e w' => e = .returned (.tuple #[.int .i64 x.s, .int .i64 x.t, .int .i64 x.c]) ∧ Hid (S2o w w' p r x y g K N F b) :=
  (size_any h.a.e).mono (by rintro e w' ⟨rfl, q, rfl⟩; exact ⟨rfl, h.drewN q⟩)
theorem S2o.half (h : S2o w wr p r x y g K N F b) (ok : y.Ok k) : Calls Try.prog 13 #[ptr r] wr fun e w' => e = .returned (.int .i64 (Wnd.half y)) ∧ wr = w' :=
  half_any h.f (by have := ok.s1; have := ok.s2; omega)
end
set_option maxHeartbeats 4000000 in
set_option maxRecDepth 100000 in
theorem walk {H : Type} {enc : TypeId × Value → H} {base : Nat} (v0 : Value) (d0 : DataW H) (p0 : List MemPlace) (w : World) (o0 : Value.okWide Try.prog w .any base 22 v0) (k0 : DataW.Trod enc Try.prog w 0 (fun _ => true) true 22 v0 d0 p0) :
    Calls Try.prog 3 #[v0] w fun e w' => e = .returned (.bool true) ∧ Below w.heap.size w w' := by
  obtain ⟨A1, ns, cs1, rfl⟩ := okWide_slice Try.underlying22 o0
  have hsee : Sees w (.slice ActSh) [.slice A1 ns cs1] := sees_of (sh := .slice ActSh) rfl (by kernel_rfl) k0
  obtain ⟨A1', ns', cs1', he, hcs1, hcs63, hel⟩ := Sees.elems hsee
  injection he with e1 e2 e3
  subst e1 e2 e3
  have HA : Hid (∀ i, i < ns → ∃ ad K N F b, A1 = some ad ∧ ActAt w ad i K N F b) := actAt_of hel
  clear o0 k0 hsee hel
  go_enter Try.func3, Try.ntmps3
  go_wp2_with fail
  refine (first_any w).mono ?_
  rintro e W1 ⟨rfl, hb1⟩
  have H0 := Lib.hid (new_any hb1)
  clear hb1
  go_wp2_with fail
  refine H0.out.mono ?_
  rintro e W2 ⟨rfl, h2⟩
  have H2 := Lib.hid h2
  clear h2 H0
  obtain ⟨p, hp⟩ : ∃ p, p = W1.heap.size := ⟨_, rfl⟩
  rw [← hp] at H2 ⊢
  clear hp
  go_wp2_with fail
  refine rnew_any.mono ?_
  rintro e W3 ⟨rfl, h3, hf3⟩
  have H3 : Hid (S2 w W3 p W2.heap.size wi0) := ⟨⟨⟨hf3.out.blk H2.out.e.blk id, Fr.refl _ _⟩, below_fr H2.out.b hf3.out (Nat.le_refl _) (fun _ h => h.elim), H2.out.le⟩, h3, H2.out.b.size, by have := H2.out.e.blk.lt; omega⟩
  clear h3 hf3 H2
  obtain ⟨r, hr⟩ : ∃ r, r = W2.heap.size := ⟨_, rfl⟩
  rw [← hr] at H3 ⊢
  clear hr
  go_wp2_with fail
  go_loopw [17] (fun i wr => ∃ k : Nat, k ≤ ns ∧ i = .int .i64 k ∧ ∃ x, Hid (S2 w wr p r x) ∧ Hid (x.Ok (min k 200))) (fun i _ => ns - (intOf i).toNat)
  case atStart => exact ⟨0, Nat.zero_le _, rfl, _, H3, wi0_ok⟩
  case round =>
    obtain ⟨k, hk, rfl, x, HX, OK⟩ := hrel
    by_cases hlt : k < ns
    · obtain ⟨ad, K, N, F, b, rfl, hat⟩ := HA.out k hlt
      obtain ⟨c1, c2, c3, c4, hK, hN, hF⟩ := hat.keep HX.out.a.b
      have HN := Lib.hid hN
      go_upto_region 7 with (fail)
      have HO := Lib.hid (S2o.new HX.out K N F b)
      obtain ⟨Wo, hWo⟩ : ∃ Wo, Wo = wr.alloc (.cells #[.int .i64 K, .int .i64 N, .int .i64 F, .bool b] 29) := ⟨_, rfl⟩
      obtain ⟨g, hg⟩ : ∃ g, g = wr.heap.size := ⟨_, rfl⟩
      rw [← hWo, ← hg] at HO
      rw [← hWo, ← hg]
      clear hWo hg c1 c2 c3 c4
      have o0 : Wo.cell? ⟨g, 0, none⟩ = some (.int .i64 K) := HO.out.o.cell 0
      by_cases h200 : k < 200
      · have hs1 := OK.out.s1
        have hs2 := OK.out.s2
        go_upto_block 2 with (fail)
        obtain ⟨m, hm⟩ : ∃ m, m = (IntKind.u64.wrap K).tmod 4 := ⟨_, rfl⟩
        rw [← hm]
        clear hm o0
        go_cut [] from 28 to 94 (fun wx => ∃ y, Hid (S2o w wx p r y y g K N F b) ∧ Hid (y.Ok (min k 200 + 1)))
        case first =>
          by_cases m0 : m = 0
          · have e0 : (m == 0) = true := by simp [m0]
            clear m0
            have o1 : Wo.cell? ⟨g, 1, none⟩ = some (.int .i64 N) := HO.out.o.cell 1
            have o2 : Wo.cell? ⟨g, 2, none⟩ = some (.int .i64 F) := HO.out.o.cell 2
            have o3 : Wo.cell? ⟨g, 3, none⟩ = some (.bool b) := HO.out.o.cell 3
            go_wp2_with fail
            refine (HO.out.acked OK.out N F HN.out b).mono ?_
            rintro e w4 ⟨rfl, H4⟩
            have o1' : w4.cell? ⟨g, 1, none⟩ = some (.int .i64 N) := H4.out.o.cell 1
            have o2' : w4.cell? ⟨g, 2, none⟩ = some (.int .i64 F) := H4.out.o.cell 2
            have o3' : w4.cell? ⟨g, 3, none⟩ = some (.bool b) := H4.out.o.cell 3
            go_wp2_with fail
            refine (H4.out.racked OK.out N F b).mono ?_
            rintro e w5 ⟨rfl, H5⟩
            go_wp2_with fail
            go_meet
            exact ⟨_, H5, ack_ok OK.out _ _ _ (by omega)⟩
          · have e0 : (m == 0) = false := by simpa using m0
            clear m0
            by_cases m1 : m = 1
            · have e1 : (m == 1) = true := by simp [m1]
              clear m1
              go_wp2_with fail
              refine (HO.out.lost OK.out).mono ?_
              rintro e w4 ⟨rfl, H4⟩
              have f0 := H4.out.f.blk.frozen 0
              have f1 := H4.out.f.blk.frozen 1
              have f2 := H4.out.f.blk.frozen 2
              have c0 := H4.out.f.c0
              have c1 := H4.out.f.c1
              have c2 := H4.out.f.c2
              have HH := Lib.hid (H4.out.half OK.out)
              have HE : Hid (∃ y, Hid (S2o w (((w4.setCell ⟨r, 1, none⟩ (.int .i64 (half x))).setCell ⟨r, 0, none⟩ (.int .i64 (half x))).setCell ⟨r, 2, none⟩ (.int .i64 0)) p r y y g K N F b) ∧ Hid (y.Ok (min k 200 + 1))) :=
                ⟨lost x, H4.out.rstep (((H4.out.f.set1 _).set0 _).set2 _), (lost_ok OK.out).more (by omega) (by omega)⟩
              obtain ⟨z, hz⟩ : ∃ z, z = half x := ⟨_, rfl⟩
              rw [← hz] at HH HE
              clear hz
              go_wp2_with fail
              refine HH.out.mono ?_
              rintro e w5 ⟨rfl, rfl⟩
              go_wp2_with fail
              go_meet
              exact HE.out
            · have e1 : (m == 1) = false := by simpa using m1
              clear m1
              by_cases m2 : m = 2
              · have e2 : (m == 2) = true := by simp [m2]
                clear m2
                go_wp2_with fail
                refine (HO.out.late OK.out).mono ?_
                rintro e w4 ⟨rfl, H4⟩
                have f0 := H4.out.f.blk.frozen 0
                have f1 := H4.out.f.blk.frozen 1
                have f2 := H4.out.f.blk.frozen 2
                have c0 := H4.out.f.c0
                have c1 := H4.out.f.c1
                have c2 := H4.out.f.c2
                have HH := Lib.hid (H4.out.half OK.out)
                have HE : Hid (∃ y, Hid (S2o w (((w4.setCell ⟨r, 1, none⟩ (.int .i64 (half x))).setCell ⟨r, 0, none⟩ (.int .i64 1200)).setCell ⟨r, 2, none⟩ (.int .i64 0)) p r y y g K N F b) ∧ Hid (y.Ok (min k 200 + 1))) :=
                  ⟨late x, H4.out.rstep (((H4.out.f.set1 _).set0 _).set2 _), (late_ok OK.out).more (by omega) (by omega)⟩
                obtain ⟨z, hz⟩ : ∃ z, z = half x := ⟨_, rfl⟩
                rw [← hz] at HH HE
                clear hz
                go_wp2_with fail
                refine HH.out.mono ?_
                rintro e w5 ⟨rfl, rfl⟩
                go_wp2_with fail
                go_meet
                exact HE.out
              · have e2 : (m == 2) = false := by simpa using m2
                clear m2
                go_wp2_with fail
                refine (HO.out.rest OK.out).mono ?_
                rintro e w4 ⟨rfl, H4⟩
                have f0 := H4.out.f.blk.frozen 0
                have f2 := H4.out.f.blk.frozen 2
                have c0 := H4.out.f.c0
                have c2 := H4.out.f.c2
                have HH := Lib.hid ((H4.out.drewN 1).half OK.out)
                have HE : Hid (∀ q, q = min x.s (half x) → ∃ y, Hid (S2o w (((w4.setCell ⟨r, 0, none⟩ (.int .i64 q)).setCell ⟨r, 2, none⟩ (.int .i64 0)).drewN 1) p r y y g K N F b) ∧ Hid (y.Ok (min k 200 + 1))) := by
                  rintro q rfl
                  refine ⟨rest x, (H4.out.rstep ?_).drewN 1, (rest_ok OK.out).more (by omega) (by omega)⟩
                  exact ((H4.out.f.set0 _).set2 _).as_ (Int.min_comm _ _) rfl rfl
                obtain ⟨z, hz⟩ : ∃ z, z = half x := ⟨_, rfl⟩
                rw [← hz] at HH HE
                clear hz
                obtain ⟨s, hse⟩ : ∃ s, s = x.s := ⟨_, rfl⟩
                rw [← hse] at HE c0 hs1 hs2
                clear hse
                go_upto_region 10 with (fail)
                go_region_with (go_at_call 13; refine HH.out.mono ?_; rintro e w5 ⟨rfl, rfl⟩)
                all_goals
                  go_wp2_with fail
                  all_goals
                    go_meet
                    exact HE.out _ (by omega)
        case rest =>
          obtain ⟨y, H6, OK6⟩ := hcut
          go_wp2_with fail
          refine H6.out.size.mono ?_
          rintro e w7 ⟨rfl, H7⟩
          have o2 : w7.cell? ⟨g, 2, none⟩ = some (.int .i64 F) := H7.out.o.cell 2
          have HRM := Lib.hid (room_any H7.out.a.e OK6.out F (by omega))
          have c0 := H7.out.f.c0
          have c1 := H7.out.f.c1
          have c2 := H7.out.f.c2
          have ys1 := OK6.out.s1
          have ys2 := OK6.out.s2
          obtain ⟨s, t, c⟩ := y
          simp only at c0 c1 c2 ys1 ys2 HRM ⊢
          clear hs1 hs2
          have hm : (F < 0 ∧ max (s - max F 0) 0 = s) ∨ (0 ≤ F ∧ F ≤ s ∧ max (s - max F 0) 0 = s - F) ∨ (s < F ∧ F ≤ 1073741824 ∧ max (s - max F 0) 0 = 0) ∨ (1073741824 < F ∧ max (s - max F 0) 0 = 0) := by omega
          obtain ⟨v, hv⟩ : ∃ v, v = max (s - max F 0) 0 := ⟨_, rfl⟩
          rw [← hv] at hm HRM
          clear hv
          go_wp2_with fail
          refine HRM.out.mono ?_
          rintro e w8 ⟨rfl, rfl⟩
          go_upto_region 24 with (fail)
          go_cut [148] from 105 to 147 (fun u wx => u = .bool false ∧ Hid (S2 w wx p r ⟨s, t, c⟩))
          case first =>
            have ew : ∀ z : Int, -9223372036854775808 ≤ z → z ≤ 9223372036854775807 → IntKind.i64.wrap z = z := fun z h1 h2 => IntWalk.i64_in _ ⟨h1, h2⟩
            have w1 : IntKind.i64.wrap s = s := ew _ (by omega) (by omega)
            have w2 : 0 ≤ F → F ≤ 1073741824 → IntKind.i64.wrap (s - F) = s - F := fun _ _ => ew _ (by omega) (by omega)
            have w3 : IntKind.i64.wrap (s - 1073741824) = s - 1073741824 := ew _ (by omega) (by omega)
            clear ew
            rcases hm with ⟨h1, rfl⟩ | ⟨h1, h2, rfl⟩ | ⟨h1, h2, rfl⟩ | ⟨h1, rfl⟩
            all_goals
              try have w2 := w2 (by omega) (by omega)
              go_quiet (fail)
              go_wp2_with fail
              all_goals
                go_meet
                refine ⟨congrArg Value.bool ?_, (H7.out.drewN _).back⟩
                simp
                omega
          case rest =>
            obtain ⟨rfl, H8⟩ := hcut
            go_wp2_with fail
            go_roundw
            case rel => exact ⟨k + 1, by omega, by go_num, _, H8, by rw [show min (k + 1) 200 = min k 200 + 1 by omega]; exact OK6⟩
            case measure => simp [intOf]; omega
      · go_wp2_with fail
        go_ret
        exact ⟨rfl, HO.out.a.b⟩
    · obtain rfl : k = ns := by omega
      go_wp2_with fail
      go_ret
      exact ⟨rfl, HX.out.a.b⟩

/-! ### The row's step -/
set_option maxRecDepth 100000 in
theorem lifted (os : Os) (started : os.Started) (H : Type) (enc : TypeId × Value → H) :
    ReturnsInHanded {} Try.checked os 3 .any (Rows.windPlaysSpec.pre6 enc Try.prog Try.f3 Rows.windPlaysRow.domain false) (Rows.windPlaysSpec.post enc Try.prog Try.f3 false true false false) := by
  refine returnsInHanded_of_change (C := Try.checked) own started (by kernel_rfl) Try.func3
    (ChangeSpec.witness6 (enc := enc) (C := Try.checked) false ⟨#[], #[.slice none 0 0], []⟩ 8 (by kernel_rfl) (by kernel_rfl) (by kernel_rfl) (by kernel_rfl)) ?_
  intro W base args ds gs before hval0 hW hcnd _
  have hval : ∀ (j : Nat) t v, Try.f3.params[j]? = some t → args[j]? = some v → Value.okWide Try.prog W .any base t v := hval0
  have hW' := hW
  obtain ⟨p, q, hA0, hV, rfl, hfz, hnd⟩ := hW
  have hA : DataW.TrodAll enc Try.prog W 0 (fun _ => true) true Try.f3.params.toList args.toList ds p := hA0
  rw [Try.params3] at hA hval
  obtain ⟨v0, vs0, d0, ds0, p0, q0, hargs, rfl, rfl, h0, r0⟩ := trodAll_cons hA
  obtain ⟨rfl, rfl, rfl⟩ := trodAll_nil r0
  obtain rfl : args = #[v0] := by cases args; simp_all
  obtain ⟨rfl, rfl⟩ := trodVars_none hV
  have lt0 : ∀ x ∈ p0, x.block < W.heap.size := by obtain ⟨m, hm⟩ := h0; exact DataW.trod_lt m _ _ _ hm
  clear hA0 hval0
  refine (walk v0 d0 p0 W (hval 0 22 v0 rfl rfl) h0).mono fun e W' ⟨he, bel⟩ => ?_
  subst he
  exact ⟨_, rfl, _, _, _, [], _, [], hW', trodAll_mk1 (shut_bool Try.underlying4 _), (trodAll_cons_mk (Below.trod laidOut (by kernel_rfl) (of_decide_eq_true (by kernel_rfl)) h0 bel lt0) trodAll_mk0), rfl, bel.frame _, fun h => by cases h⟩

theorem over : Rows.windPlaysRow.holds Try.pinned (OpenSpec.ofChange Rows.windPlaysSpec) :=
  OpenClaim.holds_of_wide 3 Try.f3 rfl rfl rfl rfl rfl rfl rfl ⟨rfl, rfl, rfl, rfl, rfl⟩ rfl rfl rfl rfl rfl (by kernel_rfl) Try.func3 (by kernel_rfl)
    (of_decide_eq_true (by kernel_rfl)) (by unfold Func.isWrapper; first | (rw [if_pos (by decide +kernel)]; kernel_rfl) | (rw [if_neg (by decide +kernel)]; exact ⟨rfl, rfl⟩))
    (fun os started H enc _ => lifted os started H enc)

theorem proved : Rows.WindPlaysSaid := over
#print axioms proved
end Go.Proofs.Ytabjlmedcbnnpaa.windPlays
