/-
  Of the texts JoinOrdersWalk: what the laws reach.
-/
import Derived.Test.YtioddokjogbmnaaRows
import Derived.Test.YtioddokjogbmnaaQ6
import Derived.WalkKit
import Derived.ProofKit
import Derived.OpenShut
import Derived.ShutString
import Derived.ChangeOld
import Derived.Below

namespace Go.Proofs.Ytioddokjogbmnaa.joinOrders
open Go.ChangeShapes Go.WideShapes Go.ChangeAt Go.RowKit
open Go.ChangeMaps (open_string shut_string)
set_option linter.unusedVariables false
set_option linter.unusedSimpArgs false
theorem own : ownKnob Try.prog.godebug = none := by kernel_rfl
theorem laidOut : laidOutB Try.prog = true := by kernel_rfl
/-- What the walk is told of a slice of integers that came in. -/
def IsRow (k : IntKind) (w : World) (a : Option Addr) (len cap : Nat) (zs : List Int) : Prop :=
  (a = none ∧ len = 0 ∧ cap = 0 ∧ zs = []) ∨
  ∃ x, a = some x ∧ len ≤ cap ∧ cap ≤ maxLen ∧ zs.length = cap ∧ (∀ i, i < zs.length → w.cell? (x.add i) = some (.int k (zs.getD i 0))) ∧ ∀ n ∈ zs, (Lit.int k n).wf = true
open Words Oct Par Chk
set_option maxHeartbeats 1600000 in
set_option maxRecDepth 100000 in
theorem walk {JRep : World → (Nat → Prop) → Nat → Bool → Jo.JS → Prop} (joinI : JoinI JRep) {H : Type} {enc : TypeId × Value → H} {base : Nat} (v0 : Value) (d0 : DataW H) (p0 : List MemPlace) (a1 : Option Addr) (len1 cap1 : Nat) (z1 : List Int) (v2 : Value) (d2 : DataW H) (p2 : List MemPlace) (w : World) (o0 : Value.okWide Try.prog w .any base 22 v0) (k0 : DataW.Trod enc Try.prog w 0 (fun _ => true) true 22 v0 d0 p0) (w1 : IsRow .i64 w a1 len1 cap1 z1) (o2 : Value.okWide Try.prog w .any base 24 v2) (k2 : DataW.Trod enc Try.prog w 0 (fun _ => true) true 24 v2 d2 p2) :
    Calls Try.prog 3 #[v0, .slice a1 len1 cap1, v2] w fun e w' => e = .returned (.bool true) ∧ Below w.heap.size w w' := by
  obtain ⟨A0, nB, cB, rfl⟩ := okWide_slice Try.underlying22 o0
  have hsee : Sees w (.slice Sh.bytes) [.slice A0 nB cB] := sees_of (sh := .slice Sh.bytes) rfl (by kernel_rfl) k0
  obtain ⟨Bs, hBn, hBc, hB63, hbods⟩ := bods_of hsee
  obtain ⟨x0, x1, x2, rfl, hx0, hx1, hx2⟩ := open_array3 Try.underlying24 (by kernel_rfl) Try.underlying3 (by kernel_rfl) o2 k2
  have hx0 := bounds_i64 hx0
  have hx1 := bounds_i64 hx1
  have hx2 := bounds_i64 hx2
  have keep : ∀ {V : World}, Below w.heap.size w V → ∀ {p : Addr} {u : Value}, w.cell? p = some u → V.cell? p = some u := fun {V} hb {p u} h => (hb.cell (World.block_lt_of_cell? w _ h)).trans h
  have HZ : Hid (∀ {V : World}, Below w.heap.size w V → ∀ i, i < len1 → ∃ a z, a1 = some a ∧ V.cell? (a.add i) = some (.int .i64 z) ∧ (Lit.int .i64 z).wf = true) := fun {V} hb i hi => by
    rcases w1 with ⟨_, h2, _⟩ | ⟨x, h1, h2, h3, h4, h5, h6⟩
    · omega
    · have hl : i < z1.length := by omega
      refine ⟨x, z1.getD i 0, h1, keep hb (h5 i hl), h6 _ ?_⟩
      rw [List.getD_eq_getElem?_getD, List.getElem?_eq_getElem hl]
      exact List.getElem_mem hl
  have hlen : len1 ≤ 9223372036854775807 := by
    rcases w1 with ⟨_, h2, _⟩ | ⟨x, h1, h2, h3, _⟩
    · omega
    · unfold maxLen at h3; omega
  have hcap1 : len1 ≤ cap1 ∧ cap1 ≤ 9223372036854775807 := by
    rcases w1 with ⟨_, h2, h3, _⟩ | ⟨x, h1, h2, h3, _⟩
    · omega
    · unfold maxLen at h3; omega
  have HBN := Lib.hid hBn
  have HBO := Lib.hid hbods
  clear w1 keep hsee o0 k0 o2 k2 hBn hbods
  go_enter Try.func3, Try.ntmps3
  go_upto_region 1 with (fail)
  obtain ⟨W1, hW1⟩ : ∃ W1, W1 = w.alloc (.cells #[.int .i64 x0, .int .i64 x1, .int .i64 x2] 24) := ⟨_, rfl⟩
  obtain ⟨ga, hga⟩ : ∃ ga, ga = w.heap.size := ⟨_, rfl⟩
  have HB1 : Hid (Below w.heap.size w W1) := by rw [hW1]; exact (Below.refl _ _).alloc (Nat.le_refl _) _
  have HA1 : Hid (Blk W1 ga 24 #[.int .i64 x0, .int .i64 x1, .int .i64 x2]) := by rw [hW1, hga]; exact Blk.new _ _ _
  rw [← hW1, ← hga]
  clear hW1 hga
  go_wp2_with fail
  refine (first_j joinI W1).mono ?_
  rintro e W2 ⟨rfl, hb2⟩
  have HA2 := Lib.hid (blk_below HA1.out hb2 HA1.out.lt)
  have HB2 := Lib.hid (HB1.out.trans (hb2.mono HB1.out.size))
  clear hb2 HA1 HB1
  have c0 : W2.cell? ⟨ga, 0, none⟩ = some (.int .i64 x0) := HA2.out.cell 0
  have c1 : W2.cell? ⟨ga, 1, none⟩ = some (.int .i64 x1) := HA2.out.cell 1
  go_wp2_with fail
  obtain ⟨inter, hin⟩ : ∃ b, b = (x0.tmod 2 == 0) := ⟨_, rfl⟩
  rw [← hin]
  generalize x0.tmod 2 = r0
  clear hin c0 c1 HA2
  refine (sent_any cut_c HBN.out hBc hB63 ((HBO.out.below HB2.out).more HB2.out.size) hx1).mono ?_
  rintro e W3 ⟨K, hK1, hK2, N, A, n, cp, hfine, _, rfl, hnc, hc63, HNL, HOC, HB3⟩
  have HF := Lib.hid hfine
  have HCK := Lib.hid HOC.out.cks
  have hn3 : n ≤ 3000 := by have := sentN_length (inter := inter) (lo := false) hK1 hfine; have := fine_le hfine; have := HNL.out; omega
  have HB3' := Lib.hid (HB2.out.trans (HB3.out.mono HB2.out.size))
  clear hfine HOC HB3
  go_wp2_with fail
  refine (joinI.new W3 inter).mono ?_
  rintro e W4 ⟨G0, p, rfl, hr, hg, hb4⟩
  have HS0 : Hid (SeJ JRep W3 W4 G0 p inter js0 (.slice none 0 0) 0 (fun _ => false)) := SeJ.new ⟨hr, hg, hb4.out⟩
  clear hr hg hb4
  obtain ⟨t0, ht0, htz0, htz1, htz2⟩ := info_parts3 int_info
  go_upto_region 6 with (fail)
  go_cut [10] from 10 to 10 (fun v wx => v = .slice none 0 0 ∧ W4 = wx)
  case first =>
    go_wp2_with fail
    go_meet
    exact ⟨rfl, rfl⟩
  case rest =>
    obtain ⟨rfl, rfl⟩ := hcut
    go_step
    go_step
    go_cut [10, 34] from 32 to 39 (fun v10 _ wx => ∃ (c' : Nat) (As : Option Addr), v10 = .slice As n c' ∧ n ≤ c' ∧ c' ≤ 9223372036854775807 ∧ Hid (SeJ JRep W3 wx G0 p inter js0 (.slice As n c') n (fun _ => false)))
    case first =>
      go_upto_region 8 with (fail)
      obtain ⟨wo, rfl⟩ : ∃ wo : World, wo = W4 := ⟨_, rfl⟩
      go_loopw [10, 34] (fun v10 v35 wr => ∃ (i c' : Nat) (As : Option Addr), v10 = .slice As i c' ∧ v35 = .int .i64 (i : Int) ∧ i ≤ n ∧ i ≤ c' ∧ c' ≤ 9223372036854775807 ∧ Hid (SeJ JRep W3 wr G0 p inter js0 (.slice As i c') i (fun _ => false))) (fun _ v35 _ => n - (intOf v35).toNat)
      case atStart => exact ⟨0, 0, none, rfl, rfl, by omega, by omega, by omega, HS0⟩
      case round =>
        clear HS0
        obtain ⟨i, c', As, rfl, rfl, hi, hic, hc', HS⟩ := hrel
        by_cases hlt : i < n
        · have hBs : W3.heap.size ≤ (wr.alloc (.cells #[.int .i64 0] 3)).heap.size := Nat.le_trans HS.out.bel.size (by simp)
          have HRW := Lib.hid HS.out.row
          go_wp2_with (at_builtin; refine wpList_append_any _ rfl (.tmp 36) (.tmp 37) _ rfl W3.heap.size 3 t0 _ 1 8 Try.underlying23 ht0 htz0 htz1 htz2 rfl (by omega) (.slice As i c') i _ rfl (HRW.out.alloc _) (wr.heap.size + 1) (some ⟨wr.heap.size, 0, none⟩) 1 1 [.int .i64 0] rfl (blk_reads (Blk.new wr 3 #[.int .i64 0]) rfl) (by simp [Value.oneCell']) (by simp only [maxLen]; omega) (by omega) hBs ?_; intro v7 w7 hown7 hg7 hat7; have HG := Lib.hid (HS.out.append joinI hown7 hg7 hat7); obtain ⟨A7, c7, rfl, h7a, h7b⟩ := own_slice hown7; clear hown7 hg7 hat7)
          go_roundw
          case rel => exact ⟨i + 1, c7, A7, rfl, by go_num, by omega, h7a, h7b, HG⟩
          case measure => simp [intOf]; omega
        · have hie : n = i := by omega
          subst hie
          go_wp2_with fail
          go_meet
          exact ⟨c', As, rfl, hic, hc', HS⟩
    case rest =>
      obtain ⟨c', As, rfl, hic, hc', HS1⟩ := hcut
      have HO1 : Hid (OJ Bs K inter N (fun _ => false) js0) := sent_oj hK1 HF.out
      clear HS0
      go_step
      go_step
      go_cut [12, 13, 46] from 40 to 77 (fun _ _ _ wx => ∃ (G : Nat → Prop) (s : Jo.JS) (b : Nat → Bool), Hid (SeJ JRep W3 wx G p inter s (.slice As n c') n b) ∧ Hid (OJ Bs K inter N b s))
      case first =>
        go_step
        go_cut [43, 44, 45, 46] from 40 to 46 (fun v43 v44 v45 v46 wx => ∃ m : Nat, v44 = .slice a1 m cap1 ∧ v45 = .int .i64 (m : Int) ∧ v46 = .int .i64 0 ∧ m ≤ 200 ∧ m ≤ len1 ∧ wc = wx)
        case first =>
          by_cases h60 : 200 < len1
          · have h60' : (200 : Int) < (len1 : Int) := by omega
            go_wp2_with fail
            go_meet
            exact ⟨200, rfl, rfl, rfl, by omega, by omega, rfl⟩
          · have h60' : ¬ (200 : Int) < (len1 : Int) := by omega
            go_wp2_with fail
            go_meet
            exact ⟨len1, rfl, rfl, rfl, by omega, by omega, rfl⟩
        obtain ⟨m, rfl, rfl, rfl, hm1, hml, rfl⟩ := hcut
        go_upto_region 12 with (fail)
        obtain ⟨wo, rfl⟩ : ∃ wo : World, wo = wc := ⟨_, rfl⟩
        go_loopw [12, 13, 46] (fun _ _ v46 wr => ∃ (i : Nat) (G : Nat → Prop) (s : Jo.JS) (b : Nat → Bool), v46 = .int .i64 (i : Int) ∧ i ≤ m ∧ Hid (SeJ JRep W3 wr G p inter s (.slice As n c') n b) ∧ Hid (OJ Bs K inter N b s)) (fun _ _ v46 _ => m - (intOf v46).toNat)
        case atStart => exact ⟨0, G0, js0, _, rfl, by omega, HS1, HO1⟩
        case round =>
          clear HS1 HO1
          obtain ⟨i, G, s, b, rfl, hi, HS, HO⟩ := hrel
          by_cases hlt : i < m
          · obtain ⟨a, z, rfl, cz, hz⟩ := HZ.out (HB3'.out.trans (HS.out.bel.mono HB3'.out.size)) i (by omega)
            have hz := bounds_i64 hz
            by_cases hn0 : n = 0
            · have hnz : (n : Int) = 0 := by omega
              go_wp2_with fail
              go_meet
              exact ⟨G, s, b, HS, HO⟩
            · have hnz : (n : Int) ≠ 0 := by omega
              go_upto_region 16 with (fail)
              obtain ⟨k, hk1, hk⟩ := u64rem z (n : Int) (by omega) (by omega)
              have hk : k < n := by omega
              rw [hk1]
              clear hk1
              obtain ⟨g, c2, hv, hc1, hc2, cs, zs⟩ := HS.out.flag hk
              injection hv with hv _ hv2
              subst hv hv2
              obtain ⟨fv, hfv⟩ : ∃ fv : Int, fv = if b k = true then 1 else 0 := ⟨_, rfl⟩
              rw [← hfv] at cs
              have HFV := Lib.hid hfv
              clear hfv
              go_upto_if 64 with (fail)
              cases hbk : b k
              · have hf0 : (fv == 0) = true := by rw [HFV.out, hbk]; rfl
                obtain ⟨pj, pf, hpie⟩ := pie_of (inter := inter) (lo := false) hK1 hK2 HF.out (i := k) (by rw [← HNL.out]; exact hk)
                have HPIE := Lib.hid hpie
                have HBK := Lib.hid hbk
                clear hpie hbk cs zs
                obtain ⟨ad, cks, rfl, hsz, hck, hcl⟩ := piece_at HCK.out HS.out.bel HPIE.out
                have HSZ := Lib.hid hsz
                have HCKA := Lib.hid hck
                have HCL := Lib.hid hcl
                clear hsz hck hcl
                go_wp2_with (refine wpList_load_any rfl 41 _ rfl (ad.add (k * 19)) rfl cks _ HCL.out Try.underlying41 rfl (by rw [HSZ.out]; exact chunk_info) ?_)
                refine (HS.out.put joinI HPIE.out.kind HCKA.out HPIE.out.body (by have := HO.out.small hK1 hK2 HF.out; have := HPIE.out.small; omega)).mono ?_
                rintro e W6 ⟨r, s6, G6, rfl, H6, HP6⟩
                have HO6 := Lib.hid (HO.out.put hK1 HF.out HPIE.out HBK.out HP6.out)
                obtain ⟨g6, c6, hv, _, _, cs6, zs6⟩ := H6.out.flag hk
                injection hv with hv _ hv2
                injection hv with hv
                injection hv with hv
                subst hv hv2
                have H7 := Lib.hid (H6.out.mark joinI hk)
                rw [HBK.out, if_neg (by decide)] at cs6
                clear HP6 HO HCL HCKA HSZ HS H6 HFV
                go_wp2_with fail
                go_roundw
                case rel => exact ⟨i + 1, G6, s6, _, by go_num, by omega, H7, HO6⟩
                case measure => simp [intOf]; omega
              · have hf1 : (fv == 0) = false := by rw [HFV.out, hbk]; rfl
                clear hbk
                go_wp2_with fail
                go_roundw
                case rel => exact ⟨i + 1, G, s, b, by go_num, by omega, HS, HO⟩
                case measure => simp [intOf]; omega
          · go_wp2_with fail
            go_meet
            exact ⟨G, s, b, HS, HO⟩
      case rest =>
        obtain ⟨G2, s2, b2, HS2, HO2⟩ := hcut
        clear HS1 HO1
        go_step
        go_step
        go_cut [14, 15, 80] from 78 to 99 (fun _ _ _ wx => ∃ (G : Nat → Prop), Hid (TkJ JRep W3 wx G p inter (msFrom Bs K inter N 0)))
        case first =>
          go_upto_region 21 with (fail)
          have HOS := Lib.hid (HO2.out.as_ (bAt_zero b2 n))
          obtain ⟨wo, rfl⟩ : ∃ wo : World, wo = wc := ⟨_, rfl⟩
          go_loopw [14, 15, 80] (fun _ _ v80 wr => ∃ (i : Nat) (G : Nat → Prop) (s : Jo.JS), v80 = .int .i64 (i : Int) ∧ i ≤ n ∧ Hid (SeJ JRep W3 wr G p inter s (.slice As n c') n b2) ∧ Hid (OJ Bs K inter N (bAt b2 n i) s)) (fun _ _ v80 _ => n - (intOf v80).toNat)
          case atStart => exact ⟨0, G2, s2, rfl, by omega, HS2, HOS⟩
          case round =>
            clear HS2 HO2 HOS
            obtain ⟨i, G, s, rfl, hi, HS, HO⟩ := hrel
            by_cases hlt : i < n
            · obtain ⟨k, hkn⟩ : ∃ k, n = i + k + 1 := ⟨n - i - 1, by omega⟩
              have hk : k < n := by omega
              have hki : (n : Int) - 1 - (i : Int) = (k : Int) := by omega
              obtain ⟨g, c2, hv, hc1, hc2, cs, zs⟩ := HS.out.flag hk
              injection hv with hv _ hv2
              subst hv hv2
              obtain ⟨fv, hfv⟩ : ∃ fv : Int, fv = if b2 k = true then 1 else 0 := ⟨_, rfl⟩
              rw [← hfv] at cs
              have HFV := Lib.hid hfv
              have HKN := Lib.hid hkn
              clear hfv hkn
              go_upto_if 92 with (fail)
              cases hbk : b2 k
              · have hf0 : (fv == 0) = true := by rw [HFV.out, hbk]; rfl
                obtain ⟨pj, pf, hpie⟩ := pie_of (inter := inter) (lo := false) hK1 hK2 HF.out (i := k) (by rw [← HNL.out]; exact hk)
                have HPIE := Lib.hid hpie
                have HBK := Lib.hid hbk
                clear hpie hbk cs zs
                obtain ⟨ad, cks, rfl, hsz, hck, hcl⟩ := piece_at HCK.out HS.out.bel HPIE.out
                have HSZ := Lib.hid hsz
                have HCKA := Lib.hid hck
                have HCL := Lib.hid hcl
                clear hsz hck hcl
                go_wp2_with (refine wpList_load_any rfl 41 _ rfl (ad.add (k * 19)) rfl cks _ HCL.out Try.underlying41 rfl (by rw [HSZ.out]; exact chunk_info) ?_)
                refine (HS.out.put joinI HPIE.out.kind HCKA.out HPIE.out.body (by have := HO.out.small hK1 hK2 HF.out; have := HPIE.out.small; omega)).mono ?_
                rintro e W6 ⟨r, s6, G6, rfl, H6, HP6⟩
                have HO6 := Lib.hid ((HO.out.put hK1 HF.out HPIE.out (bAt_off HKN.out HBK.out) HP6.out).as_ (bAt_put HKN.out))
                clear HP6 HO HCL HCKA HSZ HS HFV
                go_wp2_with fail
                go_roundw
                case rel => exact ⟨i + 1, G6, s6, by go_num, by omega, H6, HO6⟩
                case measure => simp [intOf]; omega
              · have hf1 : (fv == 0) = false := by rw [HFV.out, hbk]; rfl
                have HO6 := Lib.hid (HO.out.as_ (bAt_no HKN.out hbk))
                clear hbk
                go_wp2_with fail
                go_roundw
                case rel => exact ⟨i + 1, G, s, by go_num, by omega, HS, HO6⟩
                case measure => simp [intOf]; omega
            · have hie : n = i := by omega
              have HT := Lib.hid (HS.out.full HO.out (fun x hx => by rw [← HNL.out] at hx; rw [← hie]; exact bAt_full hx))
              clear hie
              go_wp2_with fail
              go_meet
              exact ⟨G, HT⟩
        case rest =>
          obtain ⟨G3, HT3⟩ := hcut
          clear HS2 HO2
          go_upto_region 28 with (fail)
          obtain ⟨wo, rfl⟩ : ∃ wo : World, wo = wc := ⟨_, rfl⟩
          go_loopw [16, 17, 18] (fun v16 _ _ wr => ∃ (t : Nat) (G : Nat → Prop), v16 = .int .i64 (t : Int) ∧ t ≤ N ∧ Hid (TkJ JRep W3 wr G p inter (msFrom Bs K inter N t))) (fun v16 _ _ _ => N - (intOf v16).toNat)
          case atStart => exact ⟨0, G3, rfl, by omega, HT3⟩
          case round =>
            clear HT3
            obtain ⟨t, G, rfl, ht, HI⟩ := hrel
            by_cases hlt : t < N
            · rw [msFrom_succ hlt] at HI
              have hN10 := fine_le HF.out
              have HTK := Lib.hid (HI.out.take joinI)
              go_wp2_with fail
              refine HTK.out.mono ?_
              rintro e W5 ⟨m, A5, nb, cp5, tt, G5, rfl, H5, hm, hnb, hcp1, hcp2, hy⟩
              have hms : Jo.M (kS Bs K) (pS Bs K inter false) t = msOf m ∧ tt = true := by
                rcases hm.out with ⟨h, _⟩ | ⟨h, h2⟩
                · cases h
                · exact ⟨Option.some.inj h, h2⟩
              obtain ⟨h, rfl⟩ := hms
              obtain ⟨e1, e2, e3, e4, e5⟩ := msFrom_msg hK1 HF.out hlt h
              clear e1 e2
              have H5' : Hid (TkJ JRep W3 W5 G5 p inter (msFrom Bs K inter N (t + 1))) := H5
              have hfin := HF.out t hlt
              obtain ⟨x, hx⟩ : ∃ x, x = bodyAt Bs t := ⟨_, rfl⟩
              have HNX : Hid (nb = x.length) := by show nb = _; rw [hnb.out, e5, hx]
              have HY5 : Hid (Byt W5 W5.heap.size A5 x) := by have := hy.out; rw [e5, ← hx] at this; exact this
              have htB : t < nB := by rw [HBN.out]; exact hfin.2.1
              have hbt : Bs[t]? = some x := by
                rw [hx]
                unfold bodyAt
                rw [List.getD_eq_getElem?_getD, List.getElem?_eq_getElem hfin.2.1]
                rfl
              have hnb3 : nb ≤ 300 := by rw [HNX.out, hx]; exact hfin.2.2.2
              have HBT := Lib.hid hbt
              clear h hm hnb hy H5 HTK hfin hx hbt HI
              obtain ⟨y1, y2, y3, y4, y5⟩ := m
              simp only at e3 e4
              have e3 := e3.symm
              have e4 := e4.symm
              subst e3 e4
              clear e5
              simp only [mCells]
              go_upto_region 29 with (fail)
              obtain ⟨W6, hW6⟩ : ∃ W6, W6 = W5.alloc (.cells #[.int .u16 (y1 : Int), .bool y2, .int .u32 (t : Int), .int .u32 (t : Int), .slice A5 nb cp5] 43) := ⟨_, rfl⟩
              obtain ⟨gm, hgm⟩ : ∃ gm, gm = W5.heap.size := ⟨_, rfl⟩
              have hb6 : Below W5.heap.size W5 W6 := by rw [hW6]; exact below_one _ _
              have H6 := Lib.hid (H5'.out.grows joinI hb6)
              have hm6 : Blk W6 gm 43 #[.int .u16 (y1 : Int), .bool y2, .int .u32 (t : Int), .int .u32 (t : Int), .slice A5 nb cp5] := by rw [hW6, hgm]; exact Blk.new _ _ _
              have m2 : W6.cell? ⟨gm, 2, none⟩ = some (.int .u32 (t : Int)) := hm6.cell 2
              have m3 : W6.cell? ⟨gm, 3, none⟩ = some (.int .u32 (t : Int)) := hm6.cell 3
              have m4 : W6.cell? ⟨gm, 4, none⟩ = some (.slice A5 nb cp5) := hm6.cell 4
              have hy6 := (HY5.out.below hb6).more hb6.size
              obtain ⟨ad0, Ab, cb, rfl, _, hcb, hlb, _, hyb⟩ := (HBO.out.below (HB3'.out.trans (H6.out.bel.mono HB3'.out.size))) t _ HBT.out
              rw [← HNX.out] at hcb hlb
              have st1 := fun q => run_str (P := Try.prog) (hy6.drewN q) 39 9 5 Try.underlying39 Try.underlying5 Try.underlying9 nb cp5 HNX.out
              have st2 := fun q => run_str (P := Try.prog) ((hyb.keep (w' := W6.drewN q) fun _ _ => rfl)) 39 9 5 Try.underlying39 Try.underlying5 Try.underlying9 nb cb HNX.out
              obtain ⟨sx, hsx⟩ : ∃ sx : ByteArray, sx = ⟨x.toArray⟩ := ⟨_, rfl⟩
              rw [← hsx] at st1 st2
              have ht1 : ¬ (nB : Int) ≤ (t : Int) := by omega
              have ht2 : (t : Int) % 4294967296 = (t : Int) := by omega
              have htN : t < 10 := by omega
              rw [← hW6, ← hgm]
              clear hW6 hgm hm6 hb6 hy6 hyb hsx H5' HY5 HNX HBT
              go_upto_if 106 with (fail)
              go_upto_region 30 with (fail)
              go_cut [135] from 107 to 135 (fun u wx => u = .bool false ∧ Below W6.heap.size W6 wx)
              case first =>
                go_quiet (fail)
                go_wp2_with fail
                go_meet
                exact ⟨by simp, below_drewN (Below.refl _ _) _⟩
              case rest =>
                obtain ⟨rfl, hb7⟩ := hcut
                have H7 := Lib.hid (H6.out.grows joinI hb7)
                clear hb7 H6 st1 st2
                go_wp2_with fail
                go_roundw
                case rel => exact ⟨t + 1, G5, by go_num, by omega, H7⟩
                case measure => simp [intOf]; omega
            · have hie : t = N := by omega
              rw [hie, msFrom_end] at HI
              have HTK := Lib.hid (HI.out.take joinI)
              go_wp2_with fail
              refine HTK.out.mono ?_
              rintro e W5 ⟨m, A5, nb, cp5, tt, G5, rfl, H5, hm, hnb, hcp1, hcp2, hy⟩
              have ht : tt = false := by
                rcases hm.out with ⟨_, h, _⟩ | ⟨h, _⟩
                · exact h
                · cases h
              subst ht
              have H5' : Hid (TkJ JRep W3 W5 G5 p inter []) := H5
              clear hm hnb hy H5 HTK
              obtain ⟨x1', x2', x3, x4, x5⟩ := m
              simp only [mCells]
              go_upto_region 29 with (fail)
              obtain ⟨W6, hW6⟩ : ∃ W6, W6 = W5.alloc (.cells #[.int .u16 (x1' : Int), .bool x2', .int .u32 (x3 : Int), .int .u32 (x4 : Int), .slice A5 nb cp5] 43) := ⟨_, rfl⟩
              have H6 : Hid (TkJ JRep W3 W6 G5 p inter []) := by rw [hW6]; exact H5'.out.grows joinI (below_one _ _)
              rw [← hW6]
              clear hW6 H5'
              have HHC := Lib.hid (H6.out.held joinI)
              have hN10 := fine_le HF.out
              have hnN := sent_nil (inter := inter) (lo := false) hK1 HF.out
              rw [← HNL.out] at hnN
              go_wp2_with fail
              refine HHC.out.mono ?_
              rintro e W7 ⟨rfl, H7⟩
              by_cases hn0 : n = 0
              · have hN0 : N = 0 := hnN.1 hn0
                have hn0' : (n : Int) = 0 := by omega
                have hN0' : (N : Int) = 0 := by omega
                go_wp2_with fail
                go_ret
                exact ⟨rfl, HB3'.out.trans (H7.out.bel.mono HB3'.out.size)⟩
              · have hN0 : ¬ N = 0 := fun e => hn0 (hnN.2 e)
                obtain ⟨pj, pf, hpie⟩ := pie_of (inter := inter) (lo := false) hK1 hK2 HF.out (i := n - 1) (by rw [← HNL.out]; omega)
                have hpj := pie_last hK1 HF.out hpie (by rw [← HNL.out]; omega)
                obtain ⟨ad, cks, rfl, hsz, hck, hcl⟩ := piece_at HCK.out H7.out.bel hpie
                obtain ⟨_, _, _, _, _, pb, _⟩ := hck.parts
                have cb := hcl 8 _ pb.c8
                rw [hpie.pp] at cb
                obtain ⟨k, rfl⟩ : ∃ k, n = k + 1 := ⟨n - 1, by omega⟩
                rw [Nat.add_sub_cancel] at cb
                have cb2 := cb
                rw [add_lit _ (by omega)] at cb2
                clear hsz hck hcl pb hpie
                have z1 : ((N : Int) == 0) = false := by simp; omega
                have z2 : ((k : Int) + 1 == 0) = false := by simp; omega
                have z3 : ((pj : Int) == (N : Int) - 1) = true := by simp; omega
                go_wp2_with fail
                go_ret
                exact ⟨rfl, HB3'.out.trans (H7.out.bel.mono HB3'.out.size)⟩
end Go.Proofs.Ytioddokjogbmnaa.joinOrders
