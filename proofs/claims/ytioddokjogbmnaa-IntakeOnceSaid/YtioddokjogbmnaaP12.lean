/-
  Of the texts IntakeOnceWalk: what the laws reach.
-/
import Derived.Test.YtioddokjogbmnaaRows
import Derived.Test.YtioddokjogbmnaaP11
import Derived.WalkKit
import Derived.ProofKit
import Derived.OpenShut
import Derived.ShutString
import Derived.ChangeOld
import Derived.Below

namespace Go.Proofs.Ytioddokjogbmnaa.intakeOnce
open Go.ChangeShapes Go.WideShapes Go.ChangeAt Go.RowKit
open Go.ChangeMaps (open_string shut_string)
set_option linter.unusedVariables false
set_option linter.unusedSimpArgs false
theorem own : ownKnob Try.prog.godebug = none := by kernel_rfl
theorem laidOut : laidOutB Try.prog = true := by kernel_rfl
/-- What the walk is told of a slice of integers that came in. -/
def IsRow (k : IntKind) (w : World) (a : Option Addr) (len cap : Nat) (zs : List Int) : Prop :=
  (a = none ∧ len = 0 ∧ cap = 0 ∧ zs = []) ∨
  ∃ x, a = some x ∧ len ≤ cap ∧ cap ≤ maxLen ∧ zs.length = cap ∧ (∀ i, i < zs.length → w.cell? (x.add i) = some (.int k (zs.getD i 0))) ∧ ∀ n ∈ zs, (Lit.int k n).wf = true
open Words Oct Par Chk In
theorem most_eq (k l : Nat) (hl : l ≤ 2000) (hk : k < 100) : wrap64 (wrap64 (1 + (k : Int)) + (l : Int) / 40) = ((1 + k + l / 40 : Nat) : Int) := by
  rw [IntWalk.wrap64_in (1 + (k : Int)) (by omega), IntWalk.wrap64_in _ (by omega)]
  omega
theorem np_40 {l K : Nat} (h : 1 + l / 40 ≤ K) : np l K ≤ 40 := by
  have h1 := not_congr (np_lt (n := l) (most := K) (i := 40) (by omega))
  omega
theorem add_gc (gc k j : Nat) : (⟨gc, k, none⟩ : Addr).add j = ⟨gc, k + j, none⟩ := by
  unfold Addr.add
  by_cases hj : j = 0 <;> simp [hj]
set_option maxHeartbeats 1600000 in
set_option maxRecDepth 100000 in
theorem walk {R : World → (Nat → Prop) → Nat → Bool → In.IS → Prop} (I : In.InI R) {H : Type} {enc : TypeId × Value → H} {base : Nat} (a0 : Option Addr) (len0 cap0 : Nat) (z0 : List Int) (a1 : Option Addr) (len1 cap1 : Nat) (z1 : List Int) (v2 : Value) (d2 : DataW H) (p2 : List MemPlace) (w : World) (w0 : IsRow .u8 w a0 len0 cap0 z0) (w1 : IsRow .i64 w a1 len1 cap1 z1) (o2 : Value.okWide Try.prog w .any base 24 v2) (k2 : DataW.Trod enc Try.prog w 0 (fun _ => true) true 24 v2 d2 p2) :
    Calls Try.prog 8 #[.slice a0 len0 cap0, .slice a1 len1 cap1, v2] w fun e w' => e = .returned (.bool true) ∧ Below w.heap.size w w' := by
  obtain ⟨b, hb0, hbc, hb63, hby⟩ := bytes_of w0
  obtain ⟨x0, x1, x2, rfl, hx0, hx1, hx2⟩ := open_array3 Try.underlying24 (by kernel_rfl) Try.underlying3 (by kernel_rfl) o2 k2
  have hx0 := bounds_i64 hx0
  have hx1 := bounds_i64 hx1
  have hx2 := bounds_i64 hx2
  have keep : ∀ {V : World}, Below w.heap.size w V → ∀ {p : Addr} {u : Value}, w.cell? p = some u → V.cell? p = some u := fun {V} hb {p u} h => (hb.cell (World.block_lt_of_cell? w _ h)).trans h
  have HZ : Hid (∀ {V : World}, Below w.heap.size w V → ∀ i, i < len1 → ∃ a z, a1 = some a ∧ V.cell? (a.add i) = some (.int .i64 z) ∧ (Lit.int .i64 z).wf = true) := fun {V} hb i hi => by
    rcases w1 with ⟨_, h2, _⟩ | ⟨x, h1, h2, h3, h4, h5, h6⟩
    · omega
    · have hl : i < z1.length := by omega
      refine ⟨x, z1.getD i 0, h1, keep hb (h5 i hl), h6 _ ?_⟩
      rw [List.getD_eq_getElem?_getD, List.getElem?_eq_getElem hl]
      exact List.getElem_mem hl
  have hlen : len1 ≤ 9223372036854775807 := by
    rcases w1 with ⟨_, h2, _⟩ | ⟨x, h1, h2, h3, _⟩
    · omega
    · unfold maxLen at h3; omega
  have HBY := Lib.hid hby
  have HBL := Lib.hid hb0
  have hcap : len0 ≤ cap0 := by omega
  obtain ⟨m, hm⟩ : ∃ m, m = min len1 100 := ⟨_, rfl⟩
  have hmin : ∀ W : World, (Builtin.min_ #[3, 3] 3 #[.int .i64 (len1 : Int), .int .i64 100]).run Try.prog W = .ok (.int .i64 (m : Int)) W := fun W => by
    rw [run_min_int2, show (m : Int) = if (100 : Int) < (len1 : Int) then 100 else (len1 : Int) by split <;> omega]
  have hm1 : m ≤ 100 := by omega
  have hm2 : m ≤ len1 := by omega
  clear w1 keep o2 k2 hby hb0 hbc w0 hm
  go_enter Try.func8, Try.ntmps8
  go_upto_region 1 with (fail)
  obtain ⟨W1, hW1⟩ : ∃ W1, W1 = w.alloc (.cells #[.int .i64 x0, .int .i64 x1, .int .i64 x2] 24) := ⟨_, rfl⟩
  obtain ⟨ga, hga⟩ : ∃ ga, ga = w.heap.size := ⟨_, rfl⟩
  have HB1 : Hid (Below w.heap.size w W1) := by rw [hW1]; exact below_one w _
  have HA1 : Hid (Blk W1 ga 24 #[.int .i64 x0, .int .i64 x1, .int .i64 x2]) := by rw [hW1, hga]; exact Blk.new _ _ _
  rw [← hW1, ← hga]
  clear hW1 hga
  go_wp2_with fail
  refine (first_i I W1).mono ?_
  rintro e W2 ⟨rfl, hb2⟩
  have HA2 := Lib.hid (blk_below HA1.out hb2 HA1.out.lt)
  have HB2 := Lib.hid (HB1.out.trans (hb2.mono HB1.out.size))
  clear hb2 HA1 HB1
  by_cases h0 : len0 = 0
  · have h0' : (len0 : Int) = 0 := by omega
    go_wp2_with fail
    go_ret
    exact ⟨rfl, HB2.out⟩
  · have h0' : ¬ (len0 : Int) = 0 := by omega
    by_cases h2k : 2000 < len0
    · have h2k' : (2000 : Int) < (len0 : Int) := by omega
      go_wp2_with fail
      go_ret
      exact ⟨rfl, HB2.out⟩
    · have hor : ((len0 : Int) == 0 || decide ((2000 : Int) < (len0 : Int))) = false := by
        rw [Bool.or_eq_false_iff]
        exact ⟨by simpa using h0, decide_eq_false (by omega)⟩
      have hz0 : ((len0 : Int) == 0) = false := by simpa using h0
      have c0 : W2.cell? ⟨ga, 0, none⟩ = some (.int .i64 x0) := HA2.out.cell 0
      have c1 : W2.cell? ⟨ga, 1, none⟩ = some (.int .i64 x1) := HA2.out.cell 1
      have c2 : W2.cell? ⟨ga, 2, none⟩ = some (.int .i64 x2) := HA2.out.cell 2
      go_wp2_with fail
      obtain ⟨inter, hin⟩ : ∃ b, b = (x0.tmod 2 == 0) := ⟨_, rfl⟩
      obtain ⟨lo, hlo⟩ : ∃ b, b = (x2.tmod 2 == 0) := ⟨_, rfl⟩
      rw [← hin, ← hlo]
      generalize x0.tmod 2 = r0
      generalize x2.tmod 2 = r2
      clear hin hlo c0 c1 c2 HA2
      obtain ⟨k1, e1, h1⟩ := u64rem x1 100 (by omega) (by omega)
      rw [e1]
      have hme := most_eq k1 len0 (by omega) (by omega)
      obtain ⟨K, hK⟩ : ∃ K, K = 1 + k1 + len0 / 40 := ⟨_, rfl⟩
      rw [hme, ← hK]
      have hlen0 : len0 = b.length := HBL.out
      have hbne : b ≠ [] := fun e => by rw [e] at hlen0; exact h0 hlen0
      have hK1 : 1 ≤ K := by omega
      have hK2 : K ≤ 150 := by omega
      have hK40 : 1 + b.length / 40 ≤ K := by rw [hK, hlen0]; omega
      have HK40 := Lib.hid hK40
      clear hK40
      have hbl : b.length ≤ 2000 := by omega
      obtain ⟨x, hx⟩ : ∃ x : Cx, x = ⟨inter, lo, b, K⟩ := ⟨_, rfl⟩
      have hxo : x.ok := by rw [hx]; exact ⟨hK1, hK2, hbne, few_on hK1 hbl⟩
      have HX := Lib.hid hx
      have HXO := Lib.hid hxo
      have hce := cutE_on inter lo hK1 hK2 hbne hbl
      have hcut := cut_c (m := onM lo b) (most := (K : Int)) (inter := inter) (onM_ok lo b) hlen0 hcap hb63 ((HBY.out.below HB2.out).more HB2.out.size) (by omega)
      have HCUT := Lib.hid hcut
      have HCE := Lib.hid hce
      clear e1 h1 hme hK hbne hx hxo hce hcut hlen0 hK1 hK2 hbl
      refine HCUT.out.mono ?_
      rintro e W3 ⟨A, n, c, rfl, hnc, hc63, hn, hown, hb3⟩
      rw [HCE.out] at hn hown
      have HN : Hid (n = x.n) := by rw [HX.out]; exact hn
      have HOW : Hid (OwnCks W3 W2.heap.size (.slice A n c) (cutF (onM x.lo x.b) x.K x.inter)) := by rw [HX.out]; exact hown
      have HB3 := Lib.hid hb3.out
      clear hn hown hb3 HCUT
      go_wp2_with fail
      have hnew := I.new W3 M9 inter (by unfold M9; omega)
      have hnew2 : Calls Try.prog 22 #[.int .u32 4294967293, .bool inter] W3 fun e w' => ∃ G p, e = .returned (jptr p) ∧ R w' G p inter ⟨M9, [], js0, []⟩ ∧ (∀ i, G i → W3.heap.size ≤ i) ∧ Hid (Below W3.heap.size W3 w') := hnew
      have HNEW := Lib.hid hnew2
      clear hnew hnew2
      refine HNEW.out.mono ?_
      rintro e W4 ⟨G0, p, rfl, hr, hg, hb4⟩
      have hr' : R W4 G0 p x.inter ⟨M9, [], js0, []⟩ := by rw [HX.out]; exact hr
      obtain ⟨gc, L, rfl, hT⟩ := TgS.new I HXO.out HN.out HOW.out HB3.out hr' hg hb4.out
      have HT := Lib.hid hT
      clear hr hr' hg hb4 hT HNEW HOW
      have hn0 : 0 < n := by
        have h1 : n = np x.b.length x.K := HN.out
        have h2 := (np_lt (n := x.b.length) (i := 0) HXO.out.hK).2 (by have := List.length_pos_iff.2 HXO.out.ne; omega)
        omega
      have hn2 : n ≤ 40 := by
        have h1 : n = np x.b.length x.K := HN.out
        have h2 := np_40 HK40.out
        have h3 : np x.b.length x.K = np b.length K := by rw [HX.out]
        omega
      go_wp2_with fail
      obtain ⟨wo, rfl⟩ : ∃ wo : World, wo = W4 := ⟨_, rfl⟩
      go_loopw [57] (fun v57 wr => ∃ (i : Nat), v57 = .int .i64 (i : Int) ∧ i ≤ n ∧ Hid (TgS x R W2 L gc p i wr)) (fun v57 _ => n - (intOf v57).toNat)
      case atStart => exact ⟨0, rfl, by omega, HT⟩
      case round =>
        clear HT
        obtain ⟨i, rfl, hi, HT⟩ := hrel
        by_cases hlt : i < n
        · obtain ⟨⟨u, hu⟩, hz⟩ := HT.out.cell (show i < np x.b.length x.K by have h1 : n = np x.b.length x.K := HN.out; omega)
          have hT2 := Lib.hid (HT.out.step I (show i < np x.b.length x.K by have h1 : n = np x.b.length x.K := HN.out; omega))
          have hti : (4294967294 + (i : Int)) % 4294967296 = ((onT i : Nat) : Int) := by unfold onT; omega
          have HTI := Lib.hid hti
          go_upto_region 12 with (fail)
          obtain ⟨W5, hW5⟩ : ∃ W5, W5 = wr.setCell ⟨gc, i * 19 + 5, none⟩ (.int .u32 ((onT i : Nat) : Int)) := ⟨_, rfl⟩
          rw [← hW5] at hT2 ⊢
          clear hW5 hu hz HT
          go_wp2_with fail
          go_roundw
          case rel => exact ⟨i + 1, by go_num, by omega, hT2⟩
          case measure => simp [intOf]; omega
        · have hie : i = np x.b.length x.K := by have h1 : n = np x.b.length x.K := HN.out; omega
          have HS0 : Hid (OnS x R W2 L gc p 0 0 (fun _ _ => false) wr) := by
            have h1 := HT.out
            rw [hie] at h1
            exact h1.done I HXO.out
          clear HT hie
          go_wp2_with fail
          obtain ⟨wo2, rfl⟩ : ∃ wo2 : World, wo2 = wr := ⟨_, rfl⟩
          go_loopw [12, 74] (fun v12 v74 wr => ∃ (j g : Nat) (S : Nat → Nat → Bool), v12 = .int .i64 (g : Int) ∧ v74 = .int .i64 (j : Int) ∧ j ≤ m + n ∧ g ≤ j ∧ Hid (OnS x R W2 L gc p j g S wr) ∧ Hid (∀ f, f + m < j → S 0 f = true)) (fun _ v74 _ => m + n - (intOf v74).toNat)
          case atStart => exact ⟨0, 0, _, rfl, rfl, by omega, by omega, HS0, fun f h => by omega⟩
          case round =>
            clear HS0
            obtain ⟨j, g, S, rfl, rfl, hj, hg, HS, HF⟩ := hrel
            by_cases hlt : j < m + n
            · go_upto_if 83 with (fail)
              have HB4 : Hid (Below w.heap.size w wr) := HB2.out.trans (HS.out.bel.mono HB2.out.size)
              have hdt : decide ((j : Int) < (m : Int) + (n : Int)) = true := decide_eq_true (by omega)
              rw [hdt]
              clear hdt
              go_cut [14] from 83 to 93 (fun v14 wx => ∃ f : Nat, v14 = .int .i64 (f : Int) ∧ f < n ∧ Hid (m ≤ j → f = j - m) ∧ wr = wx)
              case first =>
                by_cases hjm : j < m
                · have hneg : (j : Int) - (m : Int) < 0 := by omega
                  obtain ⟨a, z, rfl, cz, hz⟩ := HZ.out HB4.out j (by omega)
                  have hz := bounds_i64 hz
                  obtain ⟨f, hf1, hf⟩ := u64rem z (n : Int) (by omega) (by omega)
                  have hf : f < n := by omega
                  go_wp2_with fail
                  go_meet
                  refine ⟨f, ?_, hf, fun h => by omega, rfl⟩
                  first | rw [hf1] | (congr 1; exact hf1) | trace_state
                · have hneg : ¬ (j : Int) - (m : Int) < 0 := by omega
                  go_wp2_with fail
                  go_meet
                  exact ⟨j - m, by go_num, by omega, fun _ => rfl, rfl⟩
              case rest =>
                obtain ⟨f, rfl, hf, HFJ, rfl⟩ := hcut
                obtain ⟨W6, hW6⟩ : ∃ W6, W6 = wr := ⟨_, rfl⟩
                rw [← hW6] at HS HB4 ⊢
                clear hW6
                have hfx : f < x.n := by have h1 : n = np x.b.length x.K := HN.out; show f < np x.b.length x.K; omega
                obtain ⟨cs, hpz, hcs, hcl⟩ := HS.out.row.load hfx
                have HPUT := Lib.hid (HS.out.put I HXO.out (by omega) hfx hpz)
                have HCL := Lib.hid hcl
                have HSZ := Lib.hid hcs
                clear hpz hcl hcs hfx
                go_wp2_with (refine wpList_load_any rfl 41 _ rfl ⟨gc, f * 19, none⟩ rfl cs _ (fun j u hu => by rw [add_gc]; exact HCL.out j u hu) Try.underlying41 rfl (by rw [HSZ.out]; exact chunk_info) ?_)
                refine HPUT.out.mono ?_
                rintro e W7 ⟨nn, rfl, HM⟩
                have HTK := Lib.hid (HM.out.take I HXO.out)
                clear HPUT HCL HSZ HM HS
                go_wp2_with fail
                refine HTK.out.mono ?_
                rintro e W8 ⟨mg, A8, nb, cp8, tk, g', rfl, HS8, hnb1, hnb2, HNB, HY8, HT8⟩
                clear HTK
                obtain ⟨y1, y2, y3, y4, y5⟩ := mg
                simp only [mCells]
                go_upto_region 22 with (fail)
                obtain ⟨W9, hW9⟩ : ∃ W9, W9 = W8.alloc (.cells #[.int .u16 (y1 : Int), .bool y2, .int .u32 (y3 : Int), .int .u32 (y4 : Int), .slice A8 nb cp8] 43) := ⟨_, rfl⟩
                obtain ⟨gm, hgm⟩ : ∃ gm, gm = W8.heap.size := ⟨_, rfl⟩
                have hb9 : Below W8.heap.size W8 W9 := by rw [hW9]; exact below_one _ _
                have hm9 : Blk W9 gm 43 #[.int .u16 (y1 : Int), .bool y2, .int .u32 (y3 : Int), .int .u32 (y4 : Int), .slice A8 nb cp8] := by rw [hW9, hgm]; exact Blk.new _ _ _
                have HS9 := Lib.hid (HS8.out.grows I hb9)
                have HY9 : Hid (Byt W9 W9.heap.size A8 y5) := (HY8.out.below hb9).more hb9.size
                have HF9 : Hid (∀ f', f' + m < j + 1 → Jo.put1 S 0 f 0 f' = true) := fun f' h => by
                  by_cases e : f' + m < j
                  · exact Jo.put1_of (HF.out f' e)
                  · have hff := HFJ.out (by omega)
                    have : f' = f := by omega
                    rw [this]
                    exact Jo.put1_at S 0 f
                rw [← hW9, ← hgm]
                clear hW9 hgm hb9 HS8 HY8 HF HFJ
                rcases HT8.out with ⟨ht, hg'⟩ | ⟨ht, hg', hbd, hst⟩
                · rw [hg'] at HS9
                  rw [ht]
                  clear ht hg' hm9
                  go_wp2_with fail
                  go_roundw
                  case rel => exact ⟨j + 1, g, _, rfl, by go_num, by omega, by omega, HS9, HF9⟩
                  case measure => simp [intOf]; omega
                · rw [hg'] at HS9
                  rw [ht]
                  have hst' : y1 = 3 := hst
                  have hbd' : y5 = b := by
                    have h1 : y5 = x.b := hbd
                    rw [h1, HX.out]
                  subst hst' hbd'
                  have k0 : W9.cell? ⟨gm, 0, none⟩ = some (.int .u16 3) := hm9.cell 0
                  have k4 : W9.cell? ⟨gm, 4, none⟩ = some (.slice A8 nb cp8) := hm9.cell 4
                  have hbb : Byt W9 w.heap.size a0 y5 := HBY.out.below (HB2.out.trans (HS9.out.bel.mono HB2.out.size))
                  have st1 := run_str (P := Try.prog) HY9.out 39 9 5 Try.underlying39 Try.underlying5 Try.underlying9 nb cp8 HNB.out
                  have st2 := run_str (P := Try.prog) hbb 39 9 5 Try.underlying39 Try.underlying5 Try.underlying9 len0 cap0 HBL.out
                  obtain ⟨sx, hsx⟩ : ∃ sx : ByteArray, sx = ⟨y5.toArray⟩ := ⟨_, rfl⟩
                  rw [← hsx] at st1 st2
                  clear ht hg' hm9 hbd hst hsx hbb HY9
                  go_wp2_with fail
                  go_roundw
                  case rel => exact ⟨j + 1, g + 1, _, by go_num, by go_num, by omega, by omega, HS9, HF9⟩
                  case measure => simp [intOf]; omega
            · have hje : j = m + n := by omega
              have hd := HS.out.done HXO.out (fun f hf => HF.out f (by have h1 : n = np x.b.length x.K := HN.out; have h2 : f < np x.b.length x.K := hf; omega))
              obtain ⟨hg1, G, s, h1, h2, h3, h4⟩ := hd
              have HI := Lib.hid h1
              have HMK := Lib.hid h2
              have HRS := Lib.hid h3
              have HHD := Lib.hid h4
              rw [hg1]
              clear h1 h2 h3 h4 hg1 hje HS HF
              go_wp2_with fail
              refine (HI.out.sack I).mono ?_
              rintro e W7 ⟨cs, ck, G7, rfl, HAT, _, HWN, HGP, _, HI7, _⟩
              have hcs : cs.size = 19 := HAT.out.size
              have HS1 : Hid ((Try.prog.info? 41).map (·.size) = some cs.size) := by rw [hcs]; exact chunk_info
              have HS2 : Hid ((ckArr (zeroC 0) nilV nilV nilV nilV nilV).size = cs.size) := by rw [hcs]; rfl
              go_upto_region 28 with (first
                | (with_reducible refine wpList_alloc_run _ rfl 41 rfl (alloc_zk _) ?_)
                | (refine wpList_store_row rfl 41 _ _ rfl _ cs rfl rfl 41 (ckArr (zeroC 0) nilV nilV nilV nilV nilV) (Blk.new _ _ _) HS1.out HS2.out HAT.out.one ?_))
              simp only [Act.put, List.setIfInBounds_toArray, List.set_cons_zero, List.set_cons_succ]
              obtain ⟨W8, hW8⟩ : ∃ W8, W8 = (W7.alloc (.cells (ckArr (zeroC 0) nilV nilV nilV nilV nilV) 41)).setRow W7.heap.size cs := ⟨_, rfl⟩
              obtain ⟨gs, hgs⟩ : ∃ gs, gs = W7.heap.size := ⟨_, rfl⟩
              have hb8 : Below W7.heap.size W7 W8 := by rw [hW8]; exact below_setRow (below_one W7 _) (Nat.le_refl _) _
              have HK8 : Hid (CkBlk W8 gs cs) := by rw [hW8, hgs]; exact setRow_heap _ _ _ _ _ _ (Blk.new W7 _ _)
              have HI8 := Lib.hid (HI7.out.grows I hb8)
              obtain ⟨gh, dh, s0, p0, b0, C, Ls⟩ := HAT.out.parts
              have hgl : ck.gaps.length = 0 := by rw [HGP.out, HRS.out]; rfl
              have hwn : (ck.win : Int) = 131072 := by rw [HWN.out, HHD.out]; rfl
              have k14 : W8.cell? ⟨gs, 14, none⟩ = some (.slice gh.A 0 gh.cap) := by rw [HK8.out.cell 14, C.c14, hgl]
              have k11 : W8.cell? ⟨gs, 11, none⟩ = some (.int .u32 131072) := by rw [HK8.out.cell 11, C.c11, hwn]
              have HMC := Lib.hid (I.mark HI8.out.rep)
              have hmk : s.mark = (4294967293 + (n : Int)) % 4294967296 := by
                have h1 : n = np x.b.length x.K := HN.out
                have h2 : s.mark = Span.adr M9 (np x.b.length x.K) := HMK.out
                rw [h2, ← h1]; rfl
              have HMM := Lib.hid hmk
              rw [← hW8, ← hgs]
              clear hW8 hgs hb8 hcs HS1 HS2 HI7 HI HAT C Ls hgl hwn hmk HK8
              go_wp2_with fail
              refine HMC.out.mono ?_
              rintro e W10 ⟨rfl, hb10⟩
              have HI10 := Lib.hid (HI8.out.grows I hb10)
              have hmm : (IS.mark { mark := s.mark, rs := s.rs, js := s.js, dups := [] }) = (4294967293 + (n : Int)) % 4294967296 := HMM.out
              have k14' : W10.cell? ⟨gs, 14, none⟩ = some (.slice gh.A 0 gh.cap) := (hb10.cell (World.block_lt_of_cell? W8 _ k14)).trans k14
              have k11' : W10.cell? ⟨gs, 11, none⟩ = some (.int .u32 131072) := (hb10.cell (World.block_lt_of_cell? W8 _ k11)).trans k11
              clear k14 k11
              go_wp2_with fail
              go_ret
              exact ⟨rfl, HB2.out.trans (HI10.out.bel.mono HB2.out.size)⟩
end Go.Proofs.Ytioddokjogbmnaa.intakeOnce
