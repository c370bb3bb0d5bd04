/-
  Of the texts JoinLooseWalk: what the laws reach.
-/
import Derived.Test.YtioddokjogbmnaaRows
import Derived.Test.YtioddokjogbmnaaQ6
import Derived.WalkKit
import Derived.ProofKit
import Derived.OpenShut
import Derived.ShutString
import Derived.ChangeOld
import Derived.Below

namespace Go.Proofs.Ytioddokjogbmnaa.joinLoose
open Go.ChangeShapes Go.WideShapes Go.ChangeAt Go.RowKit
open Go.ChangeMaps (open_string shut_string)
set_option linter.unusedVariables false
set_option linter.unusedSimpArgs false
theorem own : ownKnob Try.prog.godebug = none := by kernel_rfl
theorem laidOut : laidOutB Try.prog = true := by kernel_rfl
/-- What the walk is told of a slice of integers that came in. -/
def IsRow (k : IntKind) (w : World) (a : Option Addr) (len cap : Nat) (zs : List Int) : Prop :=
  (a = none ∧ len = 0 ∧ cap = 0 ∧ zs = []) ∨
  ∃ x, a = some x ∧ len ≤ cap ∧ cap ≤ maxLen ∧ zs.length = cap ∧ (∀ i, i < zs.length → w.cell? (x.add i) = some (.int k (zs.getD i 0))) ∧ ∀ n ∈ zs, (Lit.int k n).wf = true
open Words Oct Par Chk
set_option maxHeartbeats 1600000 in
set_option maxRecDepth 100000 in
theorem walk {JRep : World → (Nat → Prop) → Nat → Bool → Jo.JS → Prop} (joinI : JoinI JRep) {H : Type} {enc : TypeId × Value → H} {base : Nat} (v0 : Value) (d0 : DataW H) (p0 : List MemPlace) (a1 : Option Addr) (len1 cap1 : Nat) (z1 : List Int) (v2 : Value) (d2 : DataW H) (p2 : List MemPlace) (w : World) (o0 : Value.okWide Try.prog w .any base 22 v0) (k0 : DataW.Trod enc Try.prog w 0 (fun _ => true) true 22 v0 d0 p0) (w1 : IsRow .i64 w a1 len1 cap1 z1) (o2 : Value.okWide Try.prog w .any base 24 v2) (k2 : DataW.Trod enc Try.prog w 0 (fun _ => true) true 24 v2 d2 p2) :
    Calls Try.prog 4 #[v0, .slice a1 len1 cap1, v2] w fun e w' => e = .returned (.bool true) ∧ Below w.heap.size w w' := by
  obtain ⟨A0, nB, cB, rfl⟩ := okWide_slice Try.underlying22 o0
  have hsee : Sees w (.slice Sh.bytes) [.slice A0 nB cB] := sees_of (sh := .slice Sh.bytes) rfl (by kernel_rfl) k0
  obtain ⟨Bs, hBn, hBc, hB63, hbods⟩ := bods_of hsee
  obtain ⟨x0, x1, x2, rfl, hx0, hx1, hx2⟩ := open_array3 Try.underlying24 (by kernel_rfl) Try.underlying3 (by kernel_rfl) o2 k2
  have hx0 := bounds_i64 hx0
  have hx1 := bounds_i64 hx1
  have hx2 := bounds_i64 hx2
  have keep : ∀ {V : World}, Below w.heap.size w V → ∀ {p : Addr} {u : Value}, w.cell? p = some u → V.cell? p = some u := fun {V} hb {p u} h => (hb.cell (World.block_lt_of_cell? w _ h)).trans h
  have HZ : Hid (∀ {V : World}, Below w.heap.size w V → ∀ i, i < len1 → ∃ a z, a1 = some a ∧ V.cell? (a.add i) = some (.int .i64 z) ∧ (Lit.int .i64 z).wf = true) := fun {V} hb i hi => by
    rcases w1 with ⟨_, h2, _⟩ | ⟨x, h1, h2, h3, h4, h5, h6⟩
    · omega
    · have hl : i < z1.length := by omega
      refine ⟨x, z1.getD i 0, h1, keep hb (h5 i hl), h6 _ ?_⟩
      rw [List.getD_eq_getElem?_getD, List.getElem?_eq_getElem hl]
      exact List.getElem_mem hl
  have hlen : len1 ≤ 9223372036854775807 := by
    rcases w1 with ⟨_, h2, _⟩ | ⟨x, h1, h2, h3, _⟩
    · omega
    · unfold maxLen at h3; omega
  have hcap1 : len1 ≤ cap1 ∧ cap1 ≤ 9223372036854775807 := by
    rcases w1 with ⟨_, h2, h3, _⟩ | ⟨x, h1, h2, h3, _⟩
    · omega
    · unfold maxLen at h3; omega
  have HBN := Lib.hid hBn
  have HBO := Lib.hid hbods
  clear w1 keep hsee o0 k0 o2 k2 hBn hbods
  go_enter Try.func4, Try.ntmps4
  go_upto_region 1 with (fail)
  obtain ⟨W1, hW1⟩ : ∃ W1, W1 = w.alloc (.cells #[.int .i64 x0, .int .i64 x1, .int .i64 x2] 24) := ⟨_, rfl⟩
  obtain ⟨ga, hga⟩ : ∃ ga, ga = w.heap.size := ⟨_, rfl⟩
  have HB1 : Hid (Below w.heap.size w W1) := by rw [hW1]; exact (Below.refl _ _).alloc (Nat.le_refl _) _
  have HA1 : Hid (Blk W1 ga 24 #[.int .i64 x0, .int .i64 x1, .int .i64 x2]) := by rw [hW1, hga]; exact Blk.new _ _ _
  rw [← hW1, ← hga]
  clear hW1 hga
  go_wp2_with fail
  refine (first_j joinI W1).mono ?_
  rintro e W2 ⟨rfl, hb2⟩
  have HA2 := Lib.hid (blk_below HA1.out hb2 HA1.out.lt)
  have HB2 := Lib.hid (HB1.out.trans (hb2.mono HB1.out.size))
  clear hb2 HA1 HB1
  have c0 : W2.cell? ⟨ga, 0, none⟩ = some (.int .i64 x0) := HA2.out.cell 0
  have c1 : W2.cell? ⟨ga, 1, none⟩ = some (.int .i64 x1) := HA2.out.cell 1
  go_wp2_with fail
  obtain ⟨inter, hin⟩ : ∃ b, b = (x0.tmod 2 == 0) := ⟨_, rfl⟩
  rw [← hin]
  generalize x0.tmod 2 = r0
  clear hin c0 c1 HA2
  refine (sent_any cut_c HBN.out hBc hB63 ((HBO.out.below HB2.out).more HB2.out.size) hx1).mono ?_
  rintro e W3 ⟨K, hK1, hK2, N, A, n, cp, hfine, _, rfl, hnc, hc63, HNL, HOC, HB3⟩
  have HF := Lib.hid hfine
  have HCK := Lib.hid HOC.out.cks
  have hn3 : n ≤ 3000 := by have := sentN_length (inter := inter) (lo := true) hK1 hfine; have := fine_le hfine; have := HNL.out; omega
  have HB3' := Lib.hid (HB2.out.trans (HB3.out.mono HB2.out.size))
  clear hfine HOC HB3
  have hmm := @run_makeMap Try.prog
  go_wp2_with fail
  refine (joinI.new W3 inter).mono ?_
  rintro e W4 ⟨G0, p, rfl, hr, hg, hb4⟩
  have HS0 := Lib.hid (LoJ.new joinI (w := W3) ⟨hr, hg, hb4.out⟩)
  clear hr hg hb4
  go_upto_region 7 with (fail)
  go_cut [11] from 11 to 11 (fun v wx => ∃ gm, v = .pointer (some ⟨gm + 1, 0, none⟩) ∧ gm = W4.heap.size ∧ Hid (LoJ JRep W3 wx G0 p inter js0 gm 0 (fun _ => false) (fun _ => 0)))
  case first =>
    go_wp2_with fail
    go_meet
    exact ⟨_, rfl, rfl, HS0⟩
  case rest =>
    obtain ⟨gm, rfl, hgm, HS1⟩ := hcut
    rw [← hgm]
    clear HS0 hgm
    have HS2 : Hid (LoJ JRep W3 wc G0 p inter js0 gm 0 (fun _ => false) (leftN Bs K inter N (fun y => decide (0 ≤ y)))) := HS1.out.as_ (fun x => (left_all (fun _ _ => decide_eq_true (Nat.zero_le _)) x).symm)
    clear HS1
    go_step
    go_step
    go_cut [13, 39] from 37 to 50 (fun _ _ wx => Hid (LoJ JRep W3 wx G0 p inter js0 gm 0 (fun _ => false) (leftN Bs K inter N (fun _ => false))))
    case first =>
      go_upto_region 9 with (fail)
      obtain ⟨wo, rfl⟩ : ∃ wo : World, wo = wc := ⟨_, rfl⟩
      go_loopw [13, 39] (fun _ v39 wr => ∃ (i : Nat), v39 = .int .i64 (i : Int) ∧ i ≤ n ∧ Hid (LoJ JRep W3 wr G0 p inter js0 gm 0 (fun _ => false) (leftN Bs K inter N (fun y => decide (i ≤ y))))) (fun _ v39 _ => n - (intOf v39).toNat)
      case atStart => exact ⟨0, rfl, by omega, HS2⟩
      case round =>
        clear HS2
        obtain ⟨i, rfl, hi, HS⟩ := hrel
        by_cases hlt : i < n
        · obtain ⟨pj, pf, hpie⟩ := pie_of (inter := inter) (lo := true) hK1 hK2 HF.out (i := i) (by rw [← HNL.out]; exact hlt)
          have HPIE := Lib.hid hpie
          obtain ⟨ad, cks, rfl, hsz, hck, hcl⟩ := piece_at HCK.out HS.out.bel HPIE.out
          obtain ⟨_, _, _, _, _, pb, _⟩ := hck.parts
          have p8 := pb.c8
          rw [hpie.pp] at p8
          have HP8 := Lib.hid p8
          have HSZ := Lib.hid hsz
          have HONE := Lib.hid hck.one
          have HCL := Lib.hid hcl
          have hpj : pj < 10 := Nat.lt_of_lt_of_le hpie.hj (fine_le HF.out)
          clear hsz hck hcl pb p8 hpie
          go_upto_region 11 with (first
            | (refine wpList_load_any rfl 41 _ rfl (ad.add (i * 19)) rfl cks _ HCL.out Try.underlying41 rfl (by rw [HSZ.out]; exact chunk_info) ?_)
            | (refine wpList_store_row rfl 41 _ _ rfl wr.heap.size cks rfl rfl 41 _ (Blk.new wr 41 _) (by rw [HSZ.out]; exact chunk_info) (by rw [HSZ.out]; rfl) HONE.out ?_))
          obtain ⟨W6, hW6, HC6, HB6⟩ := kept_var wr cks
          obtain ⟨g0, hg0⟩ : ∃ g0, g0 = wr.heap.size := ⟨_, rfl⟩
          rw [← hg0] at HC6
          rw [← hW6, ← hg0]
          have H6 := Lib.hid (HS.out.grows joinI HB6)
          have f8 := CkBlk.at HC6 HP8.out
          obtain ⟨lv, hlv⟩ : ∃ lv, lv = leftN Bs K inter N (fun y => decide (i ≤ y)) pj := ⟨_, rfl⟩
          have cl := H6.out.left.at_ hpj
          rw [← hlv] at cl
          have zl := Blk.frozen H6.out.left pj
          have hlv3 : lv ≤ 300 := by rw [hlv]; exact left_le hK1 HF.out _ _
          have hnx := left_next hK1 HF.out HPIE.out
          have hnj : leftN Bs K inter N (fun y => decide (i + 1 ≤ y)) pj = lv + 1 := by rw [hnx pj, if_pos rfl, hlv]
          have H7 := Lib.hid (H6.out.setL joinI hpj (L' := leftN Bs K inter N (fun y => decide (i + 1 ≤ y))) (fun x hx => by rw [hnx x, if_neg hx]))
          rw [hnj] at H7
          have HH7 : Hid (LoJ JRep W3 (W6.setCell ⟨gm + 1, pj, none⟩ (.int .i64 ((lv : Int) + 1))) G0 p inter js0 gm 0 (fun _ => false) (leftN Bs K inter N (fun y => decide (i + 1 ≤ y)))) := H7.out
          have hp10 : (pj : Int).tmod 10 = (pj : Int) := by rw [Int.tmod_eq_emod_of_nonneg (by omega)]; omega
          clear hW6 hg0 HC6 HB6 H6 H7 hlv hnx hnj HCL HSZ HONE HP8 HS
          go_wp2_with fail
          go_roundw
          case rel => exact ⟨i + 1, by go_num, by omega, HH7⟩
          case measure => simp [intOf]; omega
        · have hie : n = i := by omega
          subst hie
          have HE : Hid (LoJ JRep W3 wr G0 p inter js0 gm 0 (fun _ => false) (leftN Bs K inter N (fun _ => false))) := HS.out.as_ (left_as (fun x hx => decide_eq_false (by rw [← HNL.out] at hx; omega)))
          go_wp2_with fail
          go_meet
          exact HE
    case rest =>
      have HS3 := Lib.hid hcut.out
      clear hcut
      have HL3 : Hid (LJ Bs K inter N (fun _ => false) 0 js0) := sent_lj hK1 HF.out
      clear HS2
      go_step
      go_step
      go_cut [14] from 14 to 14 (fun v wx => v = .int .i64 0 ∧ wc = wx)
      case first =>
        go_wp2_with fail
        go_meet
        exact ⟨rfl, rfl⟩
      case rest =>
        obtain ⟨rfl, rfl⟩ := hcut
        go_step
        go_step
        go_cut [15] from 51 to 55 (fun v wx => ∃ m : Nat, v = .slice a1 m cap1 ∧ m ≤ 200 ∧ m ≤ len1 ∧ wc = wx)
        case first =>
          by_cases h60 : 200 < len1
          · have h60' : (200 : Int) < (len1 : Int) := by omega
            go_wp2_with fail
            go_meet
            exact ⟨200, rfl, by omega, by omega, rfl⟩
          · have h60' : ¬ (200 : Int) < (len1 : Int) := by omega
            go_wp2_with fail
            go_meet
            exact ⟨len1, rfl, by omega, by omega, rfl⟩
        case rest =>
          obtain ⟨m, rfl, hm2, hml, rfl⟩ := hcut
          go_step
          go_step
          go_cut [14, 16, 17, 18, 19, 20, 61] from 56 to 156 (fun v14 _ _ _ _ _ _ wx => ∃ (gt q : Nat) (G : Nat → Prop) (s : Jo.JS) (b : Nat → Bool), v14 = .int .i64 (gt : Int) ∧ Hid (LoJ JRep W3 wx G p inter s gm q b (fun _ => 0)) ∧ Hid (Jo.held s = 0) ∧ Hid (gt = 0 ↔ n = 0))
          case first =>
            go_upto_region 16 with (fail)
            obtain ⟨wo, rfl⟩ : ∃ wo : World, wo = wc := ⟨_, rfl⟩
            go_loopw [14, 16, 17, 18, 19, 20, 61] (fun v14 _ _ _ _ _ v61 wr => ∃ (i gt q : Nat) (G : Nat → Prop) (s : Jo.JS) (b : Nat → Bool), v14 = .int .i64 (gt : Int) ∧ v61 = .int .i64 (i : Int) ∧ i ≤ m + n ∧ gt ≤ i ∧ q ≤ i ∧ Hid (LoJ JRep W3 wr G p inter s gm q b (leftN Bs K inter N b)) ∧ Hid (LJ Bs K inter N b gt s) ∧ Hid (n = 0 → gt = 0) ∧ Hid (∀ x, m + n ≤ x + i → x < n → b x = true)) (fun _ _ _ _ _ _ v61 _ => m + n - (intOf v61).toNat)
            case atStart => exact ⟨0, 0, 0, G0, js0, _, rfl, rfl, by omega, by omega, by omega, HS3, HL3, fun _ => rfl, fun x h1 h2 => by omega⟩
            case round =>
              clear HS3 HL3
              obtain ⟨i, gt, q, G, s, b, rfl, rfl, hi, hgi, hqi, HS, HL, HG0, HBX⟩ := hrel
              by_cases hlt : i < m + n
              · by_cases hn0 : n = 0
                · have hnz : (n : Int) = 0 := by omega
                  have hlen0 : (sentN Bs K inter true N).length = 0 := by rw [← HNL.out]; exact hn0
                  have HE := Lib.hid (HS.out.as_ (fun x => left_none b hlen0))
                  have HD := Lib.hid (HL.out.done hK1 HF.out (fun x hx => by omega)).1
                  have HGG : Hid (gt = 0 ↔ n = 0) := ⟨fun _ => hn0, fun _ => HG0.out hn0⟩
                  clear hn0 hlen0
                  go_wp2_with fail
                  go_meet
                  exact ⟨gt, q, G, s, b, rfl, HE, HD, HGG⟩
                · have hnz : (n : Int) ≠ 0 := by omega
                  have hzi : ∃ a z : _, i < m → a1 = some a ∧ wr.cell? (a.add i) = some (.int .i64 z) ∧ (Lit.int .i64 z).wf = true := by
                    by_cases h : i < m
                    · obtain ⟨a, z, h1, h2, h3⟩ := HZ.out (HB3'.out.trans (HS.out.bel.mono HB3'.out.size)) i (by omega)
                      exact ⟨a, z, fun _ => ⟨h1, h2, h3⟩⟩
                    · exact ⟨⟨0, 0, none⟩, 0, fun h' => absurd h' h⟩
                  obtain ⟨a, z, hzi⟩ := hzi
                  have HZI := Lib.hid hzi
                  clear hzi
                  go_upto_if 78 with (fail)
                  generalize decide ((i : Int) < (m : Int) + (n : Int)) = d5
                  generalize ((n : Int) == 0) = d6
                  go_cut [17] from 78 to 88 (fun v17 wx => ∃ k : Nat, v17 = .int .i64 (k : Int) ∧ k < n ∧ Hid (m ≤ i → k + i + 1 = m + n) ∧ wr = wx)
                  case first =>
                    by_cases him : i < m
                    · obtain ⟨rfl, cz, hz⟩ := HZI.out him
                      have hz := bounds_i64 hz
                      obtain ⟨k, hk1, hk⟩ := u64rem z (n : Int) (by omega) (by omega)
                      have hk : k < n := by omega
                      have HK1 := Lib.hid hk1
                      have HIM : Hid (m ≤ i → k + i + 1 = m + n) := fun h => by omega
                      clear hk1
                      go_wp2_with fail
                      rw [HK1.out]
                      go_meet
                      exact ⟨k, rfl, hk, HIM, rfl⟩
                    · obtain ⟨k, hkn⟩ : ∃ k, k + i + 1 = m + n := ⟨m + n - i - 1, by omega⟩
                      have HKN := Lib.hid hkn
                      have hk : k < n := by omega
                      clear hkn
                      go_wp2_with fail
                      go_meet
                      exact ⟨k, congrArg _ (by have := HKN.out; omega), hk, fun _ => HKN.out, rfl⟩
                  case rest =>
                    obtain ⟨k, rfl, hk, HKI, rfl⟩ := hcut
                    have hk4 : k < 4294967296 := by omega
                    have HBX2 : Hid (b k = true → ∀ x, m + n ≤ x + (i + 1) → x < n → b x = true) := fun hb x h1 h2 => by
                      by_cases e : m + n ≤ x + i
                      · exact HBX.out x e h2
                      · have := HKI.out (by omega)
                        rw [show x = k by omega]
                        exact hb
                    have HBX3 : Hid (∀ x, m + n ≤ x + (i + 1) → x < n → upd b k x = true) := fun x h1 h2 => by
                      by_cases e : x = k
                      · rw [e]; exact upd_at b k
                      · rw [upd_ne b e]
                        refine HBX.out x ?_ h2
                        rcases Nat.lt_or_ge i m with e2 | e2
                        · omega
                        · have := HKI.out e2
                          omega
                    have hl := HS.out.had.look hk4
                    clear HKI HBX HZI
                    cases hbk : b k
                    · rw [hbk, if_neg (by decide)] at hl
                      obtain ⟨pj, pf, hpie⟩ := pie_of (inter := inter) (lo := true) hK1 hK2 HF.out (i := k) (by rw [← HNL.out]; exact hk)
                      have HPIE := Lib.hid hpie
                      have HBK := Lib.hid hbk
                      have hpj : pj < 10 := Nat.lt_of_lt_of_le hpie.hj (fine_le HF.out)
                      obtain ⟨w5, hrun5, h5⟩ := HS.out.store joinI hk4 (by omega)
                      have H5 := Lib.hid h5
                      clear hpie hbk h5
                      go_upto_region 24 with (fail)
                      clear hrun5 hl
                      obtain ⟨ad, cks, rfl, hsz, hck, hcl⟩ := piece_at HCK.out H5.out.bel HPIE.out
                      have HSZ := Lib.hid hsz
                      have HCKA := Lib.hid hck
                      have HCL := Lib.hid hcl
                      clear hsz hck hcl HS
                      go_wp2_with (refine wpList_load_any rfl 41 _ rfl (ad.add (k * 19)) rfl cks _ HCL.out Try.underlying41 rfl (by rw [HSZ.out]; exact chunk_info) ?_)
                      refine (H5.out.put joinI HPIE.out.kind HCKA.out HPIE.out.body (by have := HL.out.small hK1 hK2 HF.out; have := HPIE.out.small; omega)).mono ?_
                      rintro e W6 ⟨r, s6, G6, rfl, H6, HP6⟩
                      obtain rfl := HL.out.yes hK1 HF.out HPIE.out HBK.out HP6.out
                      obtain ⟨ad', cks6, he6, hsz6, hck6, hcl6⟩ := piece_at HCK.out H6.out.bel HPIE.out
                      injection he6 with he6
                      subst he6
                      obtain ⟨_, _, _, _, _, pb, _⟩ := hck6.parts
                      have cb := hcl6 8 _ pb.c8
                      rw [HPIE.out.pp] at cb
                      have cb2 := cb
                      rw [add_lit _ (by omega)] at cb2
                      obtain ⟨lv, hlv⟩ : ∃ lv, lv = leftN Bs K inter N (upd b k) pj := ⟨_, rfl⟩
                      have hup := left_upd hK1 HF.out HPIE.out HBK.out
                      have cl := H6.out.left.at_ hpj
                      rw [hup pj, if_pos rfl, ← hlv] at cl
                      have cl : W6.cell? ⟨gm + 1, pj, none⟩ = some (.int .i64 ((lv : Int) + 1)) := cl
                      have zl := Blk.frozen H6.out.left pj
                      have hlv3 : lv ≤ 300 := by rw [hlv]; exact left_le hK1 HF.out _ _
                      have H7 := Lib.hid (H6.out.setL joinI hpj (L' := leftN Bs K inter N (upd b k)) (fun x hx => by rw [hup x, if_neg hx]))
                      rw [← hlv] at H7
                      have hp10 : (pj : Int).tmod 10 = (pj : Int) := by rw [Int.tmod_eq_emod_of_nonneg (by omega)]; omega
                      have HLV := Lib.hid hlv
                      clear hsz6 hck6 hcl6 pb hup hlv HCL HCKA HSZ H5 H6
                      go_upto_region 28 with (fail)
                      obtain ⟨W7, hW7⟩ : ∃ W7, W7 = W6.setCell ⟨gm + 1, pj, none⟩ (.int .i64 (lv : Int)) := ⟨_, rfl⟩
                      rw [← hW7] at H7 ⊢
                      clear hW7 cb cb2 cl zl
                      have HTK := Lib.hid (H7.out.take joinI)
                      go_wp2_with fail
                      refine HTK.out.mono ?_
                      rintro e W8 ⟨m8, A8, nb, cp8, t, s8, G8, rfl, H8, hm8, hnb8, hcp1, hcp2, hy8⟩
                      obtain ⟨_, hcase⟩ := HL.out.put hK1 HF.out HPIE.out HBK.out HP6.out hm8.out
                      rw [← HLV.out] at hcase
                      have HCASE := Lib.hid hcase
                      have HY8 := Lib.hid hy8.out
                      have HNB := Lib.hid hnb8.out
                      clear hcase hm8 hnb8 hy8 HTK H7 HP6 HL HBK
                      obtain ⟨y1, y2, y3, y4, y5⟩ := m8
                      simp only [mCells]
                      go_upto_region 29 with (fail)
                      obtain ⟨W9, hW9⟩ : ∃ W9, W9 = W8.alloc (.cells #[.int .u16 (y1 : Int), .bool y2, .int .u32 (y3 : Int), .int .u32 (y4 : Int), .slice A8 nb cp8] 43) := ⟨_, rfl⟩
                      obtain ⟨gv, hgv⟩ : ∃ gv, gv = W8.heap.size := ⟨_, rfl⟩
                      have hb9 : Below W8.heap.size W8 W9 := by rw [hW9]; exact below_one _ _
                      have H9 := Lib.hid (H8.out.grows joinI hb9)
                      have hm9 : Blk W9 gv 43 #[.int .u16 (y1 : Int), .bool y2, .int .u32 (y3 : Int), .int .u32 (y4 : Int), .slice A8 nb cp8] := by rw [hW9, hgv]; exact Blk.new _ _ _
                      have m3 : W9.cell? ⟨gv, 3, none⟩ = some (.int .u32 (y4 : Int)) := hm9.cell 3
                      have m4 : W9.cell? ⟨gv, 4, none⟩ = some (.slice A8 nb cp8) := hm9.cell 4
                      have hy9 := (HY8.out.below hb9).more hb9.size
                      have HY9 := Lib.hid hy9
                      have cl9 := H9.out.left.at_ hpj
                      rw [← HLV.out] at cl9
                      have hpjN := HPIE.out.hj
                      have hfin := HF.out pj hpjN
                      have hpB : pj < nB := by rw [HBN.out]; exact hfin.2.1
                      have hpB' : ¬ (nB : Int) ≤ (pj : Int) := by omega
                      rw [← hW9, ← hgv]
                      clear hW9 hgv hb9 hm9 hy9 H8 HY8 HLV HPIE
                      rcases HCASE.out with ⟨rfl, rfl, e4, e5, hl9⟩ | ⟨hlv0, rfl, hl9⟩
                      · have HL9 := Lib.hid hl9
                        simp only at e4 e5
                        obtain ⟨x, hx⟩ : ∃ x, x = bodyAt Bs pj := ⟨_, rfl⟩
                        have HNX : Hid (nb = x.length) := by show nb = _; rw [hx, ← e5]; exact HNB.out
                        have HYX : Hid (Byt W9 W9.heap.size A8 x) := by rw [hx, ← e5]; exact HY9.out
                        have hbt : Bs[pj]? = some x := by
                          rw [hx]
                          unfold bodyAt
                          rw [List.getD_eq_getElem?_getD, List.getElem?_eq_getElem hfin.2.1]
                          rfl
                        have hnb3 : nb ≤ 300 := by rw [HNX.out, hx]; exact hfin.2.2.2
                        obtain ⟨ad0, Ab, cb, rfl, _, hcb, hlb, _, hyb⟩ := (HBO.out.below (HB3'.out.trans (H9.out.bel.mono HB3'.out.size))) pj _ hbt
                        rw [← HNX.out] at hcb hlb
                        have st1 := fun q => run_str (P := Try.prog) (HYX.out.drewN q) 39 9 5 Try.underlying39 Try.underlying5 Try.underlying9 nb cp8 HNX.out
                        have st2 := fun q => run_str (P := Try.prog) ((hyb.keep (w' := W9.drewN q) fun _ _ => rfl)) 39 9 5 Try.underlying39 Try.underlying5 Try.underlying9 nb cb HNX.out
                        obtain ⟨sx, hsx⟩ : ∃ sx : ByteArray, sx = ⟨x.toArray⟩ := ⟨_, rfl⟩
                        rw [← hsx] at st1 st2
                        rw [e4] at m3
                        have HG9 : Hid (n = 0 → gt + 1 = 0) := fun e => absurd e hn0
                        clear hl9 e4 e5 hx hbt hyb hsx HNX HYX HCASE HY9 HNB hfin
                        go_quiet (fail)
                        go_wp2_with fail
                        go_roundw
                        case rel => exact ⟨i + 1, gt + 1, q + 1, G8, s8, upd b k, by go_num, by go_num, by omega, by omega, by omega, Lib.hid (H9.out.grows joinI (below_drewN (Below.refl _ _) _)), HL9, HG9, HBX3⟩
                        case measure => simp [intOf]; omega
                      · have HL9 := Lib.hid hl9
                        have z0 : ((lv : Int) == 0) = false := by simp; omega
                        clear hl9 HCASE HY9 HNB hfin
                        go_quiet (fail)
                        go_wp2_with fail
                        go_roundw
                        case rel => exact ⟨i + 1, gt, q + 1, G8, s8, upd b k, rfl, by go_num, by omega, by omega, by omega, Lib.hid (H9.out.grows joinI (below_drewN (Below.refl _ _) _)), HL9, HG0, HBX3⟩
                        case measure => simp [intOf]; omega
                    · rw [hbk, if_pos rfl] at hl
                      have HBY := Lib.hid (HBX2.out hbk)
                      clear hbk
                      go_wp2_with fail
                      go_roundw
                      case rel => exact ⟨i + 1, gt, q, G, s, b, rfl, by go_num, by omega, by omega, by omega, HS, HL, HG0, HBY⟩
                      case measure => simp [intOf]; omega
              · have hie : i = m + n := by omega
                have hall : ∀ x, x < (sentN Bs K inter true N).length → b x = true := fun x hx => HBX.out x (by omega) (by rw [HNL.out]; exact hx)
                have HE := Lib.hid (HS.out.as_ (fun x => left_all hall x))
                obtain ⟨hd, hN⟩ := HL.out.done hK1 HF.out hall
                have HD := Lib.hid hd
                have HGG : Hid (gt = 0 ↔ n = 0) := ⟨fun e => by rw [HNL.out]; exact (sent_nil hK1 HF.out).2 (hN e), HG0.out⟩
                clear hie hall hd hN
                go_wp2_with fail
                go_meet
                exact ⟨gt, q, G, s, b, rfl, HE, HD, HGG⟩
          case rest =>
            obtain ⟨gt, q4, G4, s4, b4, rfl, HS4, HD4, HG4⟩ := hcut
            have HLB : Hid (Blk wc (gm + 1) 49 #[.int .i64 0, .int .i64 0, .int .i64 0, .int .i64 0, .int .i64 0, .int .i64 0, .int .i64 0, .int .i64 0, .int .i64 0, .int .i64 0]) := HS4.out.left
            have HHC := Lib.hid (HS4.out.held joinI)
            rw [HD4.out] at HHC
            go_upto_region 35 with (refine wpList_load_row rfl 49 _ rfl (gm + 1) rfl 49 #[.int .i64 0, .int .i64 0, .int .i64 0, .int .i64 0, .int .i64 0, .int .i64 0, .int .i64 0, .int .i64 0, .int .i64 0, .int .i64 0] (0, 0) _ HLB.out Try.underlying49 rfl (by kernel_rfl) ?_)
            have x0 : ∀ w : World, (Instr.index 49 (.agg #[.int .i64 0, .int .i64 0, .int .i64 0, .int .i64 0, .int .i64 0, .int .i64 0, .int .i64 0, .int .i64 0, .int .i64 0, .int .i64 0]) (.int .i64 0)).run Try.prog w = .ok (.int .i64 0) w := fun _ => by kernel_rfl
            have x1 : ∀ w : World, (Instr.index 49 (.agg #[.int .i64 0, .int .i64 0, .int .i64 0, .int .i64 0, .int .i64 0, .int .i64 0, .int .i64 0, .int .i64 0, .int .i64 0, .int .i64 0]) (.int .i64 1)).run Try.prog w = .ok (.int .i64 0) w := fun _ => by kernel_rfl
            have x2 : ∀ w : World, (Instr.index 49 (.agg #[.int .i64 0, .int .i64 0, .int .i64 0, .int .i64 0, .int .i64 0, .int .i64 0, .int .i64 0, .int .i64 0, .int .i64 0, .int .i64 0]) (.int .i64 2)).run Try.prog w = .ok (.int .i64 0) w := fun _ => by kernel_rfl
            have x3 : ∀ w : World, (Instr.index 49 (.agg #[.int .i64 0, .int .i64 0, .int .i64 0, .int .i64 0, .int .i64 0, .int .i64 0, .int .i64 0, .int .i64 0, .int .i64 0, .int .i64 0]) (.int .i64 3)).run Try.prog w = .ok (.int .i64 0) w := fun _ => by kernel_rfl
            have x4 : ∀ w : World, (Instr.index 49 (.agg #[.int .i64 0, .int .i64 0, .int .i64 0, .int .i64 0, .int .i64 0, .int .i64 0, .int .i64 0, .int .i64 0, .int .i64 0, .int .i64 0]) (.int .i64 4)).run Try.prog w = .ok (.int .i64 0) w := fun _ => by kernel_rfl
            have x5 : ∀ w : World, (Instr.index 49 (.agg #[.int .i64 0, .int .i64 0, .int .i64 0, .int .i64 0, .int .i64 0, .int .i64 0, .int .i64 0, .int .i64 0, .int .i64 0, .int .i64 0]) (.int .i64 5)).run Try.prog w = .ok (.int .i64 0) w := fun _ => by kernel_rfl
            have x6 : ∀ w : World, (Instr.index 49 (.agg #[.int .i64 0, .int .i64 0, .int .i64 0, .int .i64 0, .int .i64 0, .int .i64 0, .int .i64 0, .int .i64 0, .int .i64 0, .int .i64 0]) (.int .i64 6)).run Try.prog w = .ok (.int .i64 0) w := fun _ => by kernel_rfl
            have x7 : ∀ w : World, (Instr.index 49 (.agg #[.int .i64 0, .int .i64 0, .int .i64 0, .int .i64 0, .int .i64 0, .int .i64 0, .int .i64 0, .int .i64 0, .int .i64 0, .int .i64 0]) (.int .i64 7)).run Try.prog w = .ok (.int .i64 0) w := fun _ => by kernel_rfl
            have x8 : ∀ w : World, (Instr.index 49 (.agg #[.int .i64 0, .int .i64 0, .int .i64 0, .int .i64 0, .int .i64 0, .int .i64 0, .int .i64 0, .int .i64 0, .int .i64 0, .int .i64 0]) (.int .i64 8)).run Try.prog w = .ok (.int .i64 0) w := fun _ => by kernel_rfl
            have x9 : ∀ w : World, (Instr.index 49 (.agg #[.int .i64 0, .int .i64 0, .int .i64 0, .int .i64 0, .int .i64 0, .int .i64 0, .int .i64 0, .int .i64 0, .int .i64 0, .int .i64 0]) (.int .i64 9)).run Try.prog w = .ok (.int .i64 0) w := fun _ => by kernel_rfl
            refine wp_loop_rounds 11 ?_
            iterate 11
              rw [rounds_succ]
              go_wp2_with fail
            refine HHC.out.mono ?_
            rintro e W5 ⟨rfl, H5⟩
            by_cases hn0 : n = 0
            · have z1 : ((gt : Int) == 0) = true := by simp [HG4.out.2 hn0]
              have z2 : ((n : Int) == 0) = true := by simp [hn0]
              go_wp2_with fail
              go_ret
              exact ⟨rfl, HB3'.out.trans (H5.out.bel.mono HB3'.out.size)⟩
            · have z1 : ((gt : Int) == 0) = false := by
                have := fun e => hn0 (HG4.out.1 e)
                simp; omega
              have z2 : ((n : Int) == 0) = false := by simp; omega
              go_wp2_with fail
              go_ret
              exact ⟨rfl, HB3'.out.trans (H5.out.bel.mono HB3'.out.size)⟩
end Go.Proofs.Ytioddokjogbmnaa.joinLoose
