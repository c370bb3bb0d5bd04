/-
  Contracts of the document's answers for layer 8: Hash.
-/
import Derived.Test.YtmbgjijajakgeaaDoorMacRB
set_option linter.unusedVariables false
set_option linter.unusedSimpArgs false
namespace Go.Proofs.YtmbgjijajakgeaaDoor.Sha
open Go.ChangeShapes Go.WideShapes Go.ChangeAt Go.RowKit Go.Proofs.YtmbgjijajakgeaaDoor.Words

set_option maxHeartbeats 40000000 in
set_option maxRecDepth 20000 in
theorem rhash_any {a : Option Addr} {n c : Nat} {m : List UInt8} {w : World} (hn : n = m.length) (hm : n ≤ 2000) (hby : Byt w w.heap.size a m) :
    Calls Tryd.prog 37 #[.slice a n c] w fun e w' => e = .returned (.agg (V (hash m))) ∧ Below w.heap.size w w' := by
  obtain ⟨N, hN⟩ : ∃ N, N = w.heap.size := ⟨_, rfl⟩
  obtain ⟨L, hL⟩ : ∃ L, L = full m := ⟨_, rfl⟩
  obtain ⟨z, hz⟩ : ∃ z, z = zerosN n := ⟨_, rfl⟩
  have hz64 : z < 64 := by rw [hz]; exact zerosN_lt n
  have HLL : Hid (L.length = n + 9 + z) := by show L.length = _; rw [hL, full_length, hz, hn]
  obtain ⟨W1, hW1⟩ : ∃ W1, W1 = w.alloc (.cells (V (Zb 32)) 41) := ⟨_, rfl⟩
  have hb1 : Below w.heap.size w W1 := by rw [hW1]; exact below_new w _
  have hs1 : W1.heap.size = N + 1 := by rw [hW1, hN]; simp
  have HR1 : Hid (Blk W1 N 41 (V (Zb 32))) := by show Blk _ _ _ _; rw [hW1, hN]; exact Blk.new w _ _
  obtain ⟨D1, hD1⟩ : ∃ D1, D1 = W1.alloc (.cells #[] 5) := ⟨_, rfl⟩
  have hbd1 : Below W1.heap.size W1 D1 := by rw [hD1]; exact below_new W1 _
  have hr0 : RowL (N + 1) L 0 (.slice (some ⟨N + 1, 0, none⟩) 0 0) D1 := by rw [hD1, ← hs1]; exact RowL.new W1 (by omega)
  have hrm : Reads D1 N 1 a n (u8s ((L.drop 0).take n)) := by
    have e : (L.drop 0).take n = m := by rw [List.drop_zero, hL, hn, full_take]
    rw [e]
    have h1 := (hby.below hb1).below (hbd1.mono (by omega))
    unfold Byt at h1
    rw [← hn, ← hN] at h1
    exact h1
  obtain ⟨v2, D2, hrun2, hr2, hg2⟩ := app_row (c := c) hr0 (show N + 1 ≤ D1.heap.size by have := hbd1.size; omega) (by have := HLL.out; omega) (by have := HLL.out; omega) hrm 22
  rw [Nat.zero_add] at hr2
  have hb2 : Below (N + 1) W1 D2 := (hbd1.mono (by omega)).trans hg2.below
  obtain ⟨v3, D3, hrun3, hr3, hb3⟩ := push_row (b := 128) hr2 (show N + 1 ≤ D2.heap.size by have := hb2.size; omega) (by have := HLL.out; omega) (by rw [hL, hn]; exact (full_get m).1)
  have HR3 : Hid (RowL (N + 1) L (n + 1) v3 D3) := hr3
  have HB3 : Hid (Below (N + 1) W1 D3) := hb2.trans hb3
  have HRUN2 := Lib.hid hrun2
  have HRUN3 := Lib.hid hrun3
  have HFG : Hid ((∀ j, j < z → L[n + 1 + j]? = some 0) ∧ ∀ i, i < 8 → L[n + 1 + z + i]? = (be8 (8 * n))[i]?) := by
    show _ ∧ _
    rw [hL, hz, hn]; exact (full_get m).2
  have HN := Lib.hid hN
  have HB1 : Hid (Below w.heap.size w W1) := hb1
  have HH : Hid (hash m = out (feed (L.length / 64) h0 L)) := by show hash m = _; rw [hL]; exact hash_full m
  have HZ := Lib.hid hz
  have HF := Lib.hid hL
  have HW1 := Lib.hid hW1
  have HD1 := Lib.hid hD1
  have HS1 := Lib.hid hs1
  clear hr0 hrm hrun2 hr2 hg2 hb2 hrun3 hr3 hb3 hbd1 hb1 hs1 hW1 hD1 hL hby hn hN hz
  go_enter Tryd.func37, Tryd.ntmps37
  go_upto_block 0 with (first
    | (with_reducible refine wpList_alloc_run _ rfl 41 rfl (alloc_b32 _) ?_; rw [← HW1.out])
    | (at_builtin; refine Lib.wpList_append_run _ rfl (.tmp 21) (.tmp 22) _ _ rfl _ _ rfl rfl v2 D2 (by rw [HS1.out, ← HD1.out]; exact HRUN2.out) ?_)
    | (at_builtin; refine Lib.wpList_append_run _ rfl (.tmp 24) (.tmp 25) _ _ rfl _ _ rfl rfl v3 D3 HRUN3.out ?_))
  clear HRUN2 HRUN3 HD1 HW1
  try simp only [Act.put, List.setIfInBounds_toArray, List.set_cons_succ, List.set_cons_zero]
  go_cut [3] from 27 to 33 (fun s3 wx => ∃ g p c3, s3 = .slice (some ⟨g, 0, none⟩) p c3 ∧ p = n + 1 + z ∧ Hid (RowL (N + 1) L p (.slice (some ⟨g, 0, none⟩) p c3) wx ∧ Below (N + 1) W1 wx))
  case first => as_aux_lemma =>
    go_wp2
    go_loopw [3] (fun v wr => ∃ p : Nat, n + 1 ≤ p ∧ p ≤ n + 1 + z ∧ Hid (RowL (N + 1) L p v wr ∧ Below (N + 1) W1 wr)) (fun v _ => 3000 - lenV v)
    case atStart => exact ⟨n + 1, Nat.le_refl _, by omega, HR3.out, HB3.out⟩
    case round =>
      obtain ⟨p, hp1, hp2, hs⟩ := hrel
      obtain ⟨g, cap, cur, rfl, _⟩ := hs.out.1
      have hzs := zeros_stop n (p - (n + 1)) (by rw [← HZ.out]; omega)
      rw [← HZ.out] at hzs
      by_cases hlt : p < n + 1 + z
      · have hq : ¬ ((p : Int) % 64 = 56) := by omega
        obtain ⟨v4, D4, hrun4, hr4, hb4⟩ := push_row (b := 0) hs.out.1 (show N + 1 ≤ wr.heap.size by have := hs.out.2.size; have := HS1.out; omega) (by have := HLL.out; omega) (by have := HFG.out.1 (p - (n + 1)) (by omega); rwa [show n + 1 + (p - (n + 1)) = p by omega] at this)
        have HRUN4 := Lib.hid hrun4
        have HE : Hid (RowL (N + 1) L (p + 1) v4 D4 ∧ Below (N + 1) W1 D4) := ⟨hr4, hs.out.2.trans hb4⟩
        clear hrun4 hr4 hb4 hs hzs
        go_wp2_with (at_builtin; refine Lib.wpList_append_run _ rfl (.tmp 31) (.tmp 32) _ _ rfl _ _ rfl rfl v4 D4 HRUN4.out ?_)
        go_roundw
        case rel => exact ⟨p + 1, by omega, by omega, HE⟩
        case measure =>
          obtain ⟨g', cap', cur', rfl, _⟩ := HE.out.1
          simp only [lenV]
          omega
      · obtain rfl : p = n + 1 + z := by omega
        have hq : ((n : Int) + 1 + (z : Int)) % 64 = 56 := by omega
        have H0 := Lib.hid hs.out
        clear hs hzs
        go_wp2
        go_meet
        exact ⟨g, _, cap, rfl, rfl, H0⟩
  case rest =>
    obtain ⟨g, p, cap, rfl, hp, hs0⟩ := hcut
    clear HR3 HB3
    go_upto_block 2 with (fail)
    try simp only [Act.put, List.setIfInBounds_toArray, List.set_cons_succ, List.set_cons_zero]
    go_cut [3, 4] from 34 to 49 (fun s3 s4 wx => ∃ g3 p3 c3, s3 = .slice (some ⟨g3, 0, none⟩) p3 c3 ∧ s4 = .int .i64 (-1) ∧ Hid (p3 = L.length) ∧ Hid (RowL (N + 1) L p3 (.slice (some ⟨g3, 0, none⟩) p3 c3) wx) ∧ Hid (Below (N + 1) W1 wx))
    case first => as_aux_lemma =>
      go_wp2
      go_loopw [3, 4] (fun v i wr => ∃ k : Nat, k ≤ 8 ∧ i = .int .i64 (7 - (k : Int)) ∧ Hid (RowL (N + 1) L (n + 1 + z + k) v wr ∧ Below (N + 1) W1 wr)) (fun _ i _ => (intOf i + 1).toNat)
      case atStart => exact ⟨0, Nat.zero_le _, rfl, by rw [← hp]; exact hs0⟩
      case round =>
        obtain ⟨k, hk, rfl, hs⟩ := hrel
        by_cases hlt : k < 8
        · obtain ⟨b, hb, hv⟩ := be8_at n (7 - k) (by omega) (by omega)
          obtain ⟨v4, D4, hrun4, hr4, hb4⟩ := push_row (b := b) hs.out.1 (show N + 1 ≤ wr.heap.size by have := hs.out.2.size; have := HS1.out; omega) (by have := HLL.out; omega) (by rw [HFG.out.2 k hlt, ← hb]; congr 1; omega)
          have HRUN4 := Lib.hid hrun4
          have HE : Hid (RowL (N + 1) L (n + 1 + z + (k + 1)) v4 D4 ∧ Below (N + 1) W1 D4) := ⟨hr4, hs.out.2.trans hb4⟩
          have HV := Lib.hid hv
          obtain ⟨g', cap', cur, rfl, _⟩ := hs.out.1
          clear hrun4 hr4 hb4 hs hv hb hs0
          have h8 : k = 0 ∨ k = 1 ∨ k = 2 ∨ k = 3 ∨ k = 4 ∨ k = 5 ∨ k = 6 ∨ k = 7 := by omega
          rcases h8 with rfl | rfl | rfl | rfl | rfl | rfl | rfl | rfl
          -- EIGHT
          · go_wp2_with (at_builtin; refine Lib.wpList_append_run _ rfl (.tmp 38) (.tmp 48) _ _ rfl _ _ rfl rfl v4 D4 (push_eq HRUN4.out (by have h := HV.out _ rfl; simp only [Nat.reduceMul, Nat.reduceSub, Int.reducePow] at h; first | exact h | omega)) ?_)
            go_roundw
            case rel => exact ⟨_, by omega, by first | rfl | simp | go_num, HE⟩
            case measure => simp [intOf]
          · go_wp2_with (at_builtin; refine Lib.wpList_append_run _ rfl (.tmp 38) (.tmp 48) _ _ rfl _ _ rfl rfl v4 D4 (push_eq HRUN4.out (by have h := HV.out _ rfl; simp only [Nat.reduceMul, Nat.reduceSub, Int.reducePow] at h; first | exact h | omega)) ?_)
            go_roundw
            case rel => exact ⟨_, by omega, by first | rfl | simp | go_num, HE⟩
            case measure => simp [intOf]
          · go_wp2_with (at_builtin; refine Lib.wpList_append_run _ rfl (.tmp 38) (.tmp 48) _ _ rfl _ _ rfl rfl v4 D4 (push_eq HRUN4.out (by have h := HV.out _ rfl; simp only [Nat.reduceMul, Nat.reduceSub, Int.reducePow] at h; first | exact h | omega)) ?_)
            go_roundw
            case rel => exact ⟨_, by omega, by first | rfl | simp | go_num, HE⟩
            case measure => simp [intOf]
          · go_wp2_with (at_builtin; refine Lib.wpList_append_run _ rfl (.tmp 38) (.tmp 48) _ _ rfl _ _ rfl rfl v4 D4 (push_eq HRUN4.out (by have h := HV.out _ rfl; simp only [Nat.reduceMul, Nat.reduceSub, Int.reducePow] at h; first | exact h | omega)) ?_)
            go_roundw
            case rel => exact ⟨_, by omega, by first | rfl | simp | go_num, HE⟩
            case measure => simp [intOf]
          · go_wp2_with (at_builtin; refine Lib.wpList_append_run _ rfl (.tmp 38) (.tmp 48) _ _ rfl _ _ rfl rfl v4 D4 (push_eq HRUN4.out (by have h := HV.out _ rfl; simp only [Nat.reduceMul, Nat.reduceSub, Int.reducePow] at h; first | exact h | omega)) ?_)
            go_roundw
            case rel => exact ⟨_, by omega, by first | rfl | simp | go_num, HE⟩
            case measure => simp [intOf]
          · go_wp2_with (at_builtin; refine Lib.wpList_append_run _ rfl (.tmp 38) (.tmp 48) _ _ rfl _ _ rfl rfl v4 D4 (push_eq HRUN4.out (by have h := HV.out _ rfl; simp only [Nat.reduceMul, Nat.reduceSub, Int.reducePow] at h; first | exact h | omega)) ?_)
            go_roundw
            case rel => exact ⟨_, by omega, by first | rfl | simp | go_num, HE⟩
            case measure => simp [intOf]
          · go_wp2_with (at_builtin; refine Lib.wpList_append_run _ rfl (.tmp 38) (.tmp 48) _ _ rfl _ _ rfl rfl v4 D4 (push_eq HRUN4.out (by have h := HV.out _ rfl; simp only [Nat.reduceMul, Nat.reduceSub, Int.reducePow] at h; first | exact h | omega)) ?_)
            go_roundw
            case rel => exact ⟨_, by omega, by first | rfl | simp | go_num, HE⟩
            case measure => simp [intOf]
          · go_wp2_with (at_builtin; refine Lib.wpList_append_run _ rfl (.tmp 38) (.tmp 48) _ _ rfl _ _ rfl rfl v4 D4 (push_eq HRUN4.out (by have h := HV.out _ rfl; simp only [Nat.reduceMul, Nat.reduceSub, Int.reducePow] at h; first | exact h | omega)) ?_)
            go_roundw
            case rel => exact ⟨_, by omega, by first | rfl | simp | go_num, HE⟩
            case measure => simp [intOf]
        · obtain rfl : k = 8 := by omega
          have hpp : n + 1 + z + 8 = L.length := by have := HLL.out; omega
          rw [hpp] at hs
          obtain ⟨g3, c3, cur, rfl, _⟩ := hs.out.1
          clear hs0
          go_wp2
          go_meet
          exact ⟨g3, _, c3, rfl, by simp, rfl, hs.out.1, hs.out.2⟩
    case rest =>
      obtain ⟨g3, p3, c3, rfl, rfl, HP3, HRW, HBW⟩ := hcut
      have hby : Byt wc wc.heap.size (some ⟨g3, 0, none⟩) L := by
        obtain ⟨a', n', c', e, _, _, _, hb⟩ := HRW.out.ptv HP3.out
        cases e
        exact hb
      obtain ⟨H, hH⟩ : ∃ H, H = wc.heap.size := ⟨_, rfl⟩
      obtain ⟨W2, hW2⟩ : ∃ W2, W2 = wc.alloc (.cells (U h0) 80) := ⟨_, rfl⟩
      have HH2 : Hid (Blk W2 H 80 (U h0)) := by show Blk _ _ _ _; rw [hW2, hH]; exact Blk.new wc _ _
      have hb2 : Below wc.heap.size wc W2 := by rw [hW2]; exact below_new wc _
      have HB2 : Hid (Below (N + 1) W1 W2) := HBW.out.trans (hb2.mono (by have := HBW.out.size; have := HS1.out; omega))
      have HL2 : Hid (Byt W2 H (some ⟨g3, 0, none⟩) L) := by show Byt _ _ _ _; rw [hH]; exact hby.below hb2
      have hHW : H ≤ W2.heap.size := by rw [hH]; exact hb2.size
      have hNH : N + 1 ≤ H := by rw [hH]; have := HBW.out.size; have := HS1.out; omega
      obtain ⟨K, hK⟩ : ∃ K, K = L.length / 64 := ⟨_, rfl⟩
      have HKK : Hid (L.length = 64 * K) := by
        show _ = _
        have h1 := full_whole m
        have h2 : L.length % 64 = 0 := by rw [HF.out]; exact h1
        omega
      have HKD := Lib.hid hK
      have HWW := Lib.hid hW2
      have HHH := Lib.hid hH
      clear hK hW2 hH hb2 hby HRW HBW HZ HFG hp hs0
      go_upto_block 4 with (fail)
      change Code.wp _ _ _ _ (wc.alloc (.cells (U h0) 80))
      rw [← HWW.out, ← HHH.out]
      have hp3b : p3 ≤ 3000 := by have := HP3.out; have := HLL.out; omega
      have hp3K : (p3 : Int) = 64 * (K : Int) := by have := HP3.out; have := HKK.out; omega
      clear HWW HHH
      go_cut [6, 7, 8, 9, 10, 11, 12, 13, 14, 15, 16, 17, 18] from 51 to 234 (fun _ _ _ _ _ _ _ _ _ _ _ _ _ wx => Hid (WSt W2 wx H 80 (feed K h0 L)))
      case first => as_aux_lemma =>
        go_wp2
        go_loopw [6] (fun i wr => ∃ k : Nat, k ≤ K ∧ i = .int .i64 (64 * (k : Int)) ∧ Hid (WSt W2 wr H 80 (feed k h0 L))) (fun i _ => (64 * (K : Int) - intOf i).toNat)
        case atStart => exact ⟨0, Nat.zero_le _, rfl, HH2.out, Below.refl _ _⟩
        case round =>
          obtain ⟨k, hk, rfl, hs⟩ := hrel
          by_cases hlt : k < K
          · obtain ⟨l, hl⟩ : ∃ l, l = (L.drop (64 * k)).take 64 := ⟨_, rfl⟩
            have HLN : Hid (l.length = 64) := by show _ = _; rw [hl, List.length_take, List.length_drop]; have := HKK.out; omega
            have HLG : Hid (∀ i, i < 64 → l.getD i 0 = L.getD (64 * k + i) 0) := by
              show ∀ i, _
              intro i hi
              rw [hl, List.getD_eq_getElem?_getD, List.getD_eq_getElem?_getD, List.getElem?_take, if_pos hi, List.getElem?_drop]
            have HFD : Hid (feed (k + 1) h0 L = mix (feed k h0 L) l) := by show _ = _; rw [feed_snoc, hl]
            have h8 := W8.feed k L W8.h0
            obtain ⟨s, hsd⟩ : ∃ s, s = feed k h0 L := ⟨_, rfl⟩
            rw [← hsd] at hs HFD h8
            have HW8 := Lib.hid h8
            obtain ⟨G, hG⟩ : ∃ G, G = wr.heap.size := ⟨_, rfl⟩
            obtain ⟨W3, hW3⟩ : ∃ W3, W3 = wr.alloc (.cells (U (Zs 64)) 91) := ⟨_, rfl⟩
            have hHG : H < G := by rw [hG]; exact hs.out.1.lt
            have HG3 : Hid (Blk W3 G 91 (U (Zs 64))) := by show Blk _ _ _ _; rw [hW3, hG]; exact Blk.new wr _ _
            have hb3 : Below G wr W3 := by rw [hW3, hG]; exact below_new wr _
            have HS3 : Hid (WSt W2 W3 H 80 s) := ⟨hs.out.1.below hb3 hHG, hs.out.2.trans (hb3.mono (by omega))⟩
            have HL3 : Hid (Byt W3 H (some ⟨g3, 0, none⟩) L) := HL2.out.below HS3.out.2
            have hGW : G < W3.heap.size := HG3.out.lt
            have HW3 := Lib.hid hW3
            have HGG := Lib.hid hG
            clear hs hb3 hW3 hG hl hsd h8
            go_upto_block 6 with (with_reducible refine wpList_alloc_run _ rfl 91 rfl (alloc_w64 _) ?_; rw [← HW3.out, ← HGG.out])
            try simp only [Act.put, List.setIfInBounds_toArray, List.set_cons_succ, List.set_cons_zero]
            go_cut [8, 9, 10, 11] from 57 to 132 (fun _ _ _ _ wx => Hid (WSt W3 wx G 91 (extN 48 (words l))))
            case first => as_aux_lemma =>
              go_wp2
              go_loopw [8] (fun i wr => ∃ t : Nat, t ≤ 64 ∧ i = .int .i64 (t : Int) ∧ Hid (WSt W3 wr G 91 (WP l t))) (fun i _ => 64 - (intOf i).toNat)
              case atStart => exact ⟨0, Nat.zero_le _, rfl, by rw [WP_zero]; exact HG3.out, Below.refl _ _⟩
              case round =>
                obtain ⟨t, ht, rfl, hs⟩ := hrel
                by_cases h16 : t < 16
                · rw [WP_small (by omega)] at hs
                  have H0 : Hid (WSt W3 wr G 91 (pad 64 (words (l.take (4 * t + 0))))) := hs
                  clear hs
                  go_wp2
                  go_loopw [9] (fun i wr => ∃ q : Nat, q ≤ 4 ∧ i = .int .i64 (q : Int) ∧ Hid (WSt W3 wr G 91 (pad 64 (words (l.take (4 * t + q)))))) (fun i _ => 4 - (intOf i).toNat)
                  case atStart => exact ⟨0, Nat.zero_le _, rfl, H0⟩
                  case round =>
                    obtain ⟨q, hq, rfl, hs⟩ := hrel
                    by_cases hlt4 : q < 4
                    · have HT := Lib.hid (take_words (l := l) (k := 4 * t + q) (by rw [HLN.out]; omega) 64 (by omega))
                      rw [show (4 * t + q) / 4 = t by omega, HLG.out (4 * t + q) (by omega)] at HT
                      obtain ⟨b, hb⟩ : ∃ b, b = L.getD (64 * k + (4 * t + q)) 0 := ⟨_, rfl⟩
                      obtain ⟨x, hx⟩ : ∃ x, x = (pad 64 (words (l.take (4 * t + q)))).getD t 0 := ⟨_, rfl⟩
                      rw [← hb, ← hx] at HT
                      have hc := hs.out.1.cell t
                      rw [U_at HT.out.2.2, ← hx] at hc
                      have hcb := byt_at (HL3.out.below (hs.out.2.mono (by omega))) (i := 64 * k + (4 * t + q)) (by have := HKK.out; omega)
                      rw [← hb] at hcb
                      have hfz := hs.out.1.frozen t
                      have hx24 := HT.out.2.1
                      have hb8 := u8_bd b
                      have hw0 : IntKind.u32.wrap (b.toNat : Int) = (b.toNat : Int) := by rw [IntKind.wrap_u32]; omega
                      obtain ⟨y, hy⟩ : ∃ y : Nat, y = x * 256 + b.toNat := ⟨_, rfl⟩
                      have hv : (256 * (x : Int) + (b.toNat : Int)) = (y : Int) := by rw [hy]; omega
                      have HE : Hid (WSt W3 (wr.setCell ⟨G, t, none⟩ (.int .u32 (y : Int))).drew G 91 (pad 64 (words (l.take (4 * t + (q + 1)))))) := by
                        show WSt _ _ _ _ _
                        rw [show 4 * t + (q + 1) = 4 * t + q + 1 by omega, HT.out.1, ← hy]
                        exact (hs.out.set (by omega) _ _).drew 1
                      have i1 : (0 : Int) ≤ 64 * (k : Int) + 4 * (t : Int) + (q : Int) := by omega
                      have i2 : 64 * (k : Int) + 4 * (t : Int) + (q : Int) < (p3 : Int) := by omega
                      have i3 : (64 * (k : Int) + 4 * (t : Int) + (q : Int)).toNat = 64 * k + (4 * t + q) := by omega
                      clear hs hy hx hb
                      go_wp2
                      go_region
                      go_wp2
                      go_roundw
                      case rel => exact ⟨q + 1, by omega, by go_num, HE⟩
                      case measure => simp [intOf]; omega
                    · obtain rfl : q = 4 := by omega
                      have HE : Hid (WSt W3 wr G 91 (WP l (t + 1))) := by
                        show WSt _ _ _ _ _
                        rw [WP_small (by omega), show 4 * (t + 1) = 4 * t + 4 by omega]; exact hs.out
                      clear hs
                      go_wp2
                      exact ⟨⟨t + 1, by omega, by go_num, HE⟩, by simp [intOf]; omega⟩
                · by_cases h64 : t < 64
                  · obtain ⟨q, rfl⟩ : ∃ q, t = q + 16 := ⟨t - 16, by omega⟩
                    rw [WP_big HLN.out (by omega), Nat.add_sub_cancel] at hs
                    obtain ⟨x2, x7, x15, x16, b2, b7, b15, b16, hlen, e2, e7, e15, e16, hst⟩ := ext_step HLN.out (show q < 48 by omega)
                    have HST := Lib.hid hst
                    have E2 := Lib.hid e2
                    have E7 := Lib.hid e7
                    have E16 := Lib.hid e16
                    have HLE := Lib.hid hlen
                    have c15 := hs.out.1.cell (q + 1)
                    rw [U_get, e15] at c15
                    obtain ⟨n1, n2, n3, n4, m1, m2, r1, r2, q1, q2, HQ, hn4⟩ := nearV b2
                    obtain ⟨f1, f2, f3, f4, g1, g2, p1, p2, o1, o2, HO, hf4⟩ := farV b15
                    clear hst e2 e7 e16 hlen
                    have HE15 := Lib.hid e15
                    have HP1 := Lib.hid p1
                    have HP2 := Lib.hid p2
                    have HO1 := Lib.hid o1
                    have HO2 := Lib.hid o2
                    have HJ : Hid (IntKind.i64.wrap (((q + 16 : Nat) : Int) - 15) = ((q + 1 : Nat) : Int)) := by show _ = _; rw [IntKind.wrap_i64]; omega
                    have HJL : Hid (q + 1 < 64) := by show _ < _; omega
                    have HCE : Hid (∀ V, Hid (WSt W3 V G 91 (pad 64 (extN q (words l)))) → V.cell? ⟨G, q + 1, none⟩ = some (.int .u32 (x15 : Int))) := by
                      show ∀ V, _
                      intro V hV
                      have c := hV.out.1.cell (q + 1)
                      rw [U_get, HE15.out] at c
                      exact c
                    have HR1 := Lib.hid r1
                    have HR2 := Lib.hid r2
                    clear e15 p1 p2 r1 r2 c15
                    go_upto_region 22 with (fail)
                    have HST0 : Hid (WSt W3 wr.drew G 91 (pad 64 (extN q (words l)))) := hs.out.drew 1
                    clear hs
                    refine wp_region_stage (fun _ _ => True) (fun m V => Hid (WSt W3 V G 91 (pad 64 (extN q (words l))))) [(false, .exact (.int .i64 ((q + 16 : Nat) : Int))),
                        (false, .exact (.int .i64 ((q + 1 : Nat) : Int))),
                        (false, .exact (.pointer (some ⟨G, q + 1, none⟩))),
                        (false, .exact (.int .u32 (x15 : Int))),
                        (false, .exact (.int .u32 (f1 : Int))),
                        (false, .exact (.int .i64 ((q + 16 : Nat) : Int))),
                        (false, .exact (.int .i64 ((q + 1 : Nat) : Int))),
                        (false, .exact (.pointer (some ⟨G, q + 1, none⟩))),
                        (false, .exact (.int .u32 (x15 : Int))),
                        (false, .exact (.int .u32 (f2 : Int))),
                        (false, .exact (.int .u32 (f3 : Int))),
                        (false, .exact (.int .i64 ((q + 16 : Nat) : Int))),
                        (false, .exact (.int .i64 ((q + 1 : Nat) : Int))),
                        (false, .exact (.pointer (some ⟨G, q + 1, none⟩))),
                        (false, .exact (.int .u32 (x15 : Int))),
                        (false, .exact (.int .u32 ((x15 : Int) / 8))),
                        (false, .exact (.int .u32 (f4 : Int))),
                        (false, .exact (.int .u32 (f4 : Int)))] (by kernel_rfl) (by kernel_rfl) (by kernel_rfl) rfl ?lasts ?start ?walk
                    case lasts => exact trivial
                    case start => exact HST0
                    case walk =>
                      refine stage_pure rfl (fun _ => trivial) (fun V m hS hl => by go_simp) ?_
                      simp only [Act.put, List.setIfInBounds_toArray, List.set_cons_zero, List.set_cons_succ, List.cons_append, List.nil_append]
                      refine stage_pure rfl (fun _ => trivial) (fun V m hS hl => by exact exec_sub _ _ _ rfl rfl rfl HJ.out) ?_
                      simp only [Act.put, List.setIfInBounds_toArray, List.set_cons_zero, List.set_cons_succ, List.cons_append, List.nil_append]
                      refine stage_pure rfl (fun _ => trivial) (fun V m hS hl => by exact exec_ixa _ rfl rfl rfl Tryd.underlying91 (by kernel_rfl) rfl HJL.out) ?_
                      simp only [Act.put, List.setIfInBounds_toArray, List.set_cons_zero, List.set_cons_succ, List.cons_append, List.nil_append]
                      refine stage_pure rfl (fun _ => trivial) (fun V m hS hl => by exact exec_ldc rfl rfl (HCE.out V hS) ⟨_, Tryd.underlying23, rfl⟩) ?_
                      simp only [Act.put, List.setIfInBounds_toArray, List.set_cons_zero, List.set_cons_succ, List.cons_append, List.nil_append]
                      refine stage_exact rfl (fun V m hS hl => by
                          go_simp
                          refine Calls.mono (HP1.out V) ?_
                          rintro e V' ⟨rfl, rfl⟩
                          exact ⟨_, rfl, rfl, hS⟩) ?_
                      simp only [Act.put, List.setIfInBounds_toArray, List.set_cons_zero, List.set_cons_succ, List.cons_append, List.nil_append]
                      refine stage_pure rfl (fun _ => trivial) (fun V m hS hl => by go_simp) ?_
                      simp only [Act.put, List.setIfInBounds_toArray, List.set_cons_zero, List.set_cons_succ, List.cons_append, List.nil_append]
                      refine stage_pure rfl (fun _ => trivial) (fun V m hS hl => by exact exec_sub _ _ _ rfl rfl rfl HJ.out) ?_
                      simp only [Act.put, List.setIfInBounds_toArray, List.set_cons_zero, List.set_cons_succ, List.cons_append, List.nil_append]
                      refine stage_pure rfl (fun _ => trivial) (fun V m hS hl => by exact exec_ixa _ rfl rfl rfl Tryd.underlying91 (by kernel_rfl) rfl HJL.out) ?_
                      simp only [Act.put, List.setIfInBounds_toArray, List.set_cons_zero, List.set_cons_succ, List.cons_append, List.nil_append]
                      refine stage_pure rfl (fun _ => trivial) (fun V m hS hl => by exact exec_ldc rfl rfl (HCE.out V hS) ⟨_, Tryd.underlying23, rfl⟩) ?_
                      simp only [Act.put, List.setIfInBounds_toArray, List.set_cons_zero, List.set_cons_succ, List.cons_append, List.nil_append]
                      refine stage_exact rfl (fun V m hS hl => by
                          go_simp
                          refine Calls.mono (HP2.out V) ?_
                          rintro e V' ⟨rfl, rfl⟩
                          exact ⟨_, rfl, rfl, hS⟩) ?_
                      simp only [Act.put, List.setIfInBounds_toArray, List.set_cons_zero, List.set_cons_succ, List.cons_append, List.nil_append]
                      refine stage_pure rfl (fun _ => trivial) (fun V m hS hl => by exact exec_xor _ _ _ rfl rfl rfl HO1.out) ?_
                      simp only [Act.put, List.setIfInBounds_toArray, List.set_cons_zero, List.set_cons_succ, List.cons_append, List.nil_append]
                      refine stage_pure rfl (fun _ => trivial) (fun V m hS hl => by go_simp) ?_
                      simp only [Act.put, List.setIfInBounds_toArray, List.set_cons_zero, List.set_cons_succ, List.cons_append, List.nil_append]
                      refine stage_pure rfl (fun _ => trivial) (fun V m hS hl => by exact exec_sub _ _ _ rfl rfl rfl HJ.out) ?_
                      simp only [Act.put, List.setIfInBounds_toArray, List.set_cons_zero, List.set_cons_succ, List.cons_append, List.nil_append]
                      refine stage_pure rfl (fun _ => trivial) (fun V m hS hl => by exact exec_ixa _ rfl rfl rfl Tryd.underlying91 (by kernel_rfl) rfl HJL.out) ?_
                      simp only [Act.put, List.setIfInBounds_toArray, List.set_cons_zero, List.set_cons_succ, List.cons_append, List.nil_append]
                      refine stage_pure rfl (fun _ => trivial) (fun V m hS hl => by exact exec_ldc rfl rfl (HCE.out V hS) ⟨_, Tryd.underlying23, rfl⟩) ?_
                      simp only [Act.put, List.setIfInBounds_toArray, List.set_cons_zero, List.set_cons_succ, List.cons_append, List.nil_append]
                      refine stage_pure rfl (fun _ => trivial) (fun V m hS hl => by exact exec_shr x15 3 _ b15 (by omega) rfl rfl rfl (by rw [show (2 : Int) ^ 3 = 8 by decide])) ?_
                      simp only [Act.put, List.setIfInBounds_toArray, List.set_cons_zero, List.set_cons_succ, List.cons_append, List.nil_append]
                      refine stage_pure rfl (fun _ => trivial) (fun V m hS hl => by exact exec_xor _ _ _ rfl rfl rfl HO2.out) ?_
                      simp only [Act.put, List.setIfInBounds_toArray, List.set_cons_zero, List.set_cons_succ, List.cons_append, List.nil_append]
                      refine stage_pure rfl (fun _ => trivial) (fun V m hS hl => by go_simp) ?_
                      simp only [Act.put, List.setIfInBounds_toArray, List.set_cons_zero, List.set_cons_succ, List.cons_append, List.nil_append]
                      refine stage_nil (fun V2 hS hF => ?_)
                      clear HST0 hF
                      go_upto_region 23 with (fail)
                      have HST1 : Hid (WSt W3 V2.drew G 91 (pad 64 (extN q (words l)))) := hS.out.drew 1
                      have HQ1 := Lib.hid q1
                      have HQ2 := Lib.hid q2
                      have HK14 : Hid (IntKind.i64.wrap (((q + 16 : Nat) : Int) - 2) = ((q + 14 : Nat) : Int)) := by show _ = _; rw [IntKind.wrap_i64]; omega
                      have HK14L : Hid (q + 14 < 64) := by show _ < _; omega
                      have HCE2 : Hid (∀ V, Hid (WSt W3 V G 91 (pad 64 (extN q (words l)))) → V.cell? ⟨G, q + 14, none⟩ = some (.int .u32 (x2 : Int))) := by
                        show ∀ V, _
                        intro V hV
                        have c := hV.out.1.cell (q + 14)
                        rw [U_get, E2.out] at c
                        exact c
                      clear hS q1 q2 o1 o2 HP1 HP2 HCE HJ HJL
                      refine wp_region_stage (fun _ _ => True) (fun m V => Hid (WSt W3 V G 91 (pad 64 (extN q (words l))))) [(false, .exact (.int .i64 ((q + 16 : Nat) : Int))),
                          (false, .exact (.int .i64 ((q + 14 : Nat) : Int))),
                          (false, .exact (.pointer (some ⟨G, q + 14, none⟩))),
                          (false, .exact (.int .u32 (x2 : Int))),
                          (false, .exact (.int .u32 (n1 : Int))),
                          (false, .exact (.int .i64 ((q + 16 : Nat) : Int))),
                          (false, .exact (.int .i64 ((q + 14 : Nat) : Int))),
                          (false, .exact (.pointer (some ⟨G, q + 14, none⟩))),
                          (false, .exact (.int .u32 (x2 : Int))),
                          (false, .exact (.int .u32 (n2 : Int))),
                          (false, .exact (.int .u32 (n3 : Int))),
                          (false, .exact (.int .i64 ((q + 16 : Nat) : Int))),
                          (false, .exact (.int .i64 ((q + 14 : Nat) : Int))),
                          (false, .exact (.pointer (some ⟨G, q + 14, none⟩))),
                          (false, .exact (.int .u32 (x2 : Int))),
                          (false, .exact (.int .u32 ((x2 : Int) / 1024))),
                          (false, .exact (.int .u32 (n4 : Int))),
                          (false, .exact (.int .u32 (n4 : Int)))] (by kernel_rfl) (by kernel_rfl) (by kernel_rfl) rfl ?lasts ?start ?walk
                      case lasts => exact trivial
                      case start => exact HST1
                      case walk =>
                        refine stage_pure rfl (fun _ => trivial) (fun V m hS hl => by go_simp) ?_
                        simp only [Act.put, List.setIfInBounds_toArray, List.set_cons_zero, List.set_cons_succ, List.cons_append, List.nil_append]
                        refine stage_pure rfl (fun _ => trivial) (fun V m hS hl => by exact exec_sub _ _ _ rfl rfl rfl HK14.out) ?_
                        simp only [Act.put, List.setIfInBounds_toArray, List.set_cons_zero, List.set_cons_succ, List.cons_append, List.nil_append]
                        refine stage_pure rfl (fun _ => trivial) (fun V m hS hl => by exact exec_ixa _ rfl rfl rfl Tryd.underlying91 (by kernel_rfl) rfl HK14L.out) ?_
                        simp only [Act.put, List.setIfInBounds_toArray, List.set_cons_zero, List.set_cons_succ, List.cons_append, List.nil_append]
                        refine stage_pure rfl (fun _ => trivial) (fun V m hS hl => by exact exec_ldc rfl rfl (HCE2.out V hS) ⟨_, Tryd.underlying23, rfl⟩) ?_
                        simp only [Act.put, List.setIfInBounds_toArray, List.set_cons_zero, List.set_cons_succ, List.cons_append, List.nil_append]
                        refine stage_exact rfl (fun V m hS hl => by
                            go_simp
                            refine Calls.mono (HR1.out V) ?_
                            rintro e V' ⟨rfl, rfl⟩
                            exact ⟨_, rfl, rfl, hS⟩) ?_
                        simp only [Act.put, List.setIfInBounds_toArray, List.set_cons_zero, List.set_cons_succ, List.cons_append, List.nil_append]
                        refine stage_pure rfl (fun _ => trivial) (fun V m hS hl => by go_simp) ?_
                        simp only [Act.put, List.setIfInBounds_toArray, List.set_cons_zero, List.set_cons_succ, List.cons_append, List.nil_append]
                        refine stage_pure rfl (fun _ => trivial) (fun V m hS hl => by exact exec_sub _ _ _ rfl rfl rfl HK14.out) ?_
                        simp only [Act.put, List.setIfInBounds_toArray, List.set_cons_zero, List.set_cons_succ, List.cons_append, List.nil_append]
                        refine stage_pure rfl (fun _ => trivial) (fun V m hS hl => by exact exec_ixa _ rfl rfl rfl Tryd.underlying91 (by kernel_rfl) rfl HK14L.out) ?_
                        simp only [Act.put, List.setIfInBounds_toArray, List.set_cons_zero, List.set_cons_succ, List.cons_append, List.nil_append]
                        refine stage_pure rfl (fun _ => trivial) (fun V m hS hl => by exact exec_ldc rfl rfl (HCE2.out V hS) ⟨_, Tryd.underlying23, rfl⟩) ?_
                        simp only [Act.put, List.setIfInBounds_toArray, List.set_cons_zero, List.set_cons_succ, List.cons_append, List.nil_append]
                        refine stage_exact rfl (fun V m hS hl => by
                            go_simp
                            refine Calls.mono (HR2.out V) ?_
                            rintro e V' ⟨rfl, rfl⟩
                            exact ⟨_, rfl, rfl, hS⟩) ?_
                        simp only [Act.put, List.setIfInBounds_toArray, List.set_cons_zero, List.set_cons_succ, List.cons_append, List.nil_append]
                        refine stage_pure rfl (fun _ => trivial) (fun V m hS hl => by exact exec_xor _ _ _ rfl rfl rfl HQ1.out) ?_
                        simp only [Act.put, List.setIfInBounds_toArray, List.set_cons_zero, List.set_cons_succ, List.cons_append, List.nil_append]
                        refine stage_pure rfl (fun _ => trivial) (fun V m hS hl => by go_simp) ?_
                        simp only [Act.put, List.setIfInBounds_toArray, List.set_cons_zero, List.set_cons_succ, List.cons_append, List.nil_append]
                        refine stage_pure rfl (fun _ => trivial) (fun V m hS hl => by exact exec_sub _ _ _ rfl rfl rfl HK14.out) ?_
                        simp only [Act.put, List.setIfInBounds_toArray, List.set_cons_zero, List.set_cons_succ, List.cons_append, List.nil_append]
                        refine stage_pure rfl (fun _ => trivial) (fun V m hS hl => by exact exec_ixa _ rfl rfl rfl Tryd.underlying91 (by kernel_rfl) rfl HK14L.out) ?_
                        simp only [Act.put, List.setIfInBounds_toArray, List.set_cons_zero, List.set_cons_succ, List.cons_append, List.nil_append]
                        refine stage_pure rfl (fun _ => trivial) (fun V m hS hl => by exact exec_ldc rfl rfl (HCE2.out V hS) ⟨_, Tryd.underlying23, rfl⟩) ?_
                        simp only [Act.put, List.setIfInBounds_toArray, List.set_cons_zero, List.set_cons_succ, List.cons_append, List.nil_append]
                        refine stage_pure rfl (fun _ => trivial) (fun V m hS hl => by exact exec_shr x2 10 _ b2 (by omega) rfl rfl rfl (by rw [show (2 : Int) ^ 10 = 1024 by decide])) ?_
                        simp only [Act.put, List.setIfInBounds_toArray, List.set_cons_zero, List.set_cons_succ, List.cons_append, List.nil_append]
                        refine stage_pure rfl (fun _ => trivial) (fun V m hS hl => by exact exec_xor _ _ _ rfl rfl rfl HQ2.out) ?_
                        simp only [Act.put, List.setIfInBounds_toArray, List.set_cons_zero, List.set_cons_succ, List.cons_append, List.nil_append]
                        refine stage_pure rfl (fun _ => trivial) (fun V m hS hl => by go_simp) ?_
                        simp only [Act.put, List.setIfInBounds_toArray, List.set_cons_zero, List.set_cons_succ, List.cons_append, List.nil_append]
                        refine stage_nil (fun V3 hS hF => ?_)
                        clear HST1 hF HR1 HR2 HQ1 HQ2 HCE2 HK14 HK14L
                        go_upto_region 24 with (fail)
                        simp only [Int.natCast_add, Int.cast_ofNat_Int]
                        have c7 := hS.out.1.cell (q + 9)
                        rw [U_get, E7.out] at c7
                        have c16 := hS.out.1.cell q
                        rw [U_get, E16.out] at c16
                        have hfz := hS.out.1.frozen (q + 16)
                        have hcs := hS.out.1.cell (q + 16)
                        rw [U_at (by rw [HLE.out]; omega)] at hcs
                        have i7 : (0 : Int) ≤ (q : Int) + 16 - 7 := by omega
                        have j7 : (q : Int) + 16 - 7 < 64 := by omega
                        have t7 : ((q : Int) + 16 - 7).toNat = q + 9 := by omega
                        have i16 : (0 : Int) ≤ (q : Int) + 16 - 16 := by omega
                        have j16 : (q : Int) + 16 - 16 < 64 := by omega
                        have t16 : ((q : Int) + 16 - 16).toNat = q := by omega
                        have i0 : (0 : Int) ≤ (q : Int) + 16 := by omega
                        have j0 : (q : Int) + 16 < 64 := by omega
                        have t0 : ((q : Int) + 16).toNat = q + 16 := by omega
                        obtain ⟨y, hy⟩ : ∃ y : Nat, y = (near x2 + x7 + far x15 + x16) % 4294967296 := ⟨_, rfl⟩
                        have hyi : ((n4 : Int) + (x7 : Int) + (f4 : Int) + (x16 : Int)) % 4294967296 = (y : Int) := by
                          rw [hy, ← HQ.out, ← HO.out]
                          simp only [Int.natCast_emod, Int.natCast_add]
                          rfl
                        have HN2 : Hid (WSt W3 (V3.setCell ⟨G, q + 16, none⟩ (.int .u32 (y : Int))).drew G 91 (WP l (q + 16 + 1))) := by
                          show WSt _ _ _ _ _
                          rw [WP_big HLN.out (by omega), show q + 16 + 1 - 16 = q + 1 by omega, HST.out, ← hy]
                          exact (hS.out.set (by omega) _ _).drew 1
                        clear hy
                        go_region
                        go_wp2
                        go_roundw
                        case rel => exact ⟨q + 16 + 1, by omega, by go_num, HN2⟩
                        case measure => simp [intOf]; omega
                  · obtain rfl : t = 64 := by omega
                    rw [WP_big HLN.out (by omega)] at hs
                    have hp : pad 64 (extN (64 - 16) (words l)) = extN 48 (words l) := by
                      have h1 : (extN 48 (words l)).length = 64 := by rw [extN_length, words_length, HLN.out]
                      show pad 64 (extN 48 (words l)) = _
                      simp [pad, h1]
                    rw [hp] at hs
                    go_wp2
                    go_meet
                    exact hs
            case rest =>
              have HWS := hcut
              obtain ⟨ws, hws⟩ : ∃ ws, ws = extN 48 (words l) := ⟨_, rfl⟩
              rw [← hws] at HWS
              have hlw : ws.length = 64 := by rw [hws, extN_length, words_length, HLN.out]
              have HWD := Lib.hid hws
              have HLW := Lib.hid hlw
              have HL8 : Hid (s.length = 8) := HW8.out.1
              obtain ⟨R, hR⟩ : ∃ R, R = wc.heap.size := ⟨_, rfl⟩
              have hGR : G < R := by rw [hR]; exact HWS.out.1.lt
              have HSc : Hid (Blk wc H 80 (U s)) := HS3.out.1.below HWS.out.2 hHG
              have HBc : Hid (Below H W2 wc) := HS3.out.2.trans (HWS.out.2.mono (by omega))
              obtain ⟨W4, hW4⟩ : ∃ W, W = (wc.alloc (.cells (U (Zs 8)) 80)).setRow R (U s) := ⟨_, rfl⟩
              have HR4 : Hid (Blk W4 R 80 (U s)) := by show Blk _ _ _ _; rw [hW4]; exact setRow_heap _ R _ _ _ _ (by rw [hR]; exact Blk.new wc _ _)
              have hb4 : Below wc.heap.size wc W4 := by rw [hW4]; exact below_setRow ((Below.refl _ _).alloc (Nat.le_refl _) _) (by omega) _
              have HG4 : Hid (Blk W4 G 91 (U ws)) := HWS.out.1.below hb4 (by omega)
              have HS4 : Hid (WSt W2 W4 H 80 s) := ⟨HSc.out.below hb4 (by omega), HBc.out.trans (hb4.mono (by omega))⟩
              clear hws hlw hb4 hcut HL3 HS3 HBc HWS
              go_upto_block 10 with (first
                | (with_reducible refine wpList_alloc_run _ rfl 80 rfl (alloc_w8 _) ?_)
                | (refine wpList_store_row rfl 80 _ _ rfl R (U s) (by rw [hR]; rfl) rfl 80 (U (Zs 8)) (by rw [hR]; exact Blk.new wc _ _) (by rw [U_size, HL8.out]; exact size_w8) (by rw [U_size, U_size, HL8.out]; rfl) (U_one _) ?_; rw [← hR, ← hW4])
                | (refine wpList_load_row rfl 80 _ rfl H rfl 80 (U s) (0, 0) _ HSc.out Tryd.underlying80 rfl (by rw [U_size, HL8.out]; exact size_w8) ?_))
              try rw [← hR]
              try rw [← hW4]
              clear hW4 hR HSc
              try simp only [Act.put, List.setIfInBounds_toArray, List.set_cons_succ, List.set_cons_zero]
              go_cut [13, 14, 15, 16, 17] from 134 to 222 (fun _ _ _ _ _ wx => Hid (WSt W4 wx R 80 (rounds s ks ws)))
              case first => as_aux_lemma =>
                go_wp2
                go_loopw [13] (fun i wr => ∃ j : Nat, j ≤ 64 ∧ i = .int .i64 (j : Int) ∧ Hid (WSt W4 wr R 80 (rounds s (ks.take j) (ws.take j)))) (fun i _ => 64 - (intOf i).toNat)
                case atStart => exact ⟨0, Nat.zero_le _, rfl, HR4.out, Below.refl _ _⟩
                case round =>
                  obtain ⟨j, hj, rfl, hs⟩ := hrel
                  by_cases hltj : j < 64
                  · have hkk : ks[j]? = some (ks.getD j 0) := by rw [List.getD_eq_getElem?_getD, List.getElem?_eq_getElem hltj]; rfl
                    have hwk : ws[j]? = some (ws.getD j 0) := by rw [List.getD_eq_getElem?_getD, List.getElem?_eq_getElem (by rw [HLW.out]; exact hltj)]; rfl
                    have HT := Lib.hid (rounds_take (s := s) hkk hwk)
                    have htb := table_any j hltj
                    obtain ⟨kk, hkd⟩ : ∃ x, x = ks.getD j 0 := ⟨_, rfl⟩
                    obtain ⟨wk, hwd⟩ : ∃ x, x = ws.getD j 0 := ⟨_, rfl⟩
                    rw [← hkd] at HT htb
                    rw [← hwd] at hwk HT
                    have HTB := Lib.hid htb
                    have HWK := Lib.hid hwk
                    have h8 := W8.rounds (ks.take j) (ws.take j) HW8.out
                    obtain ⟨t, ht⟩ : ∃ t, t = rounds s (ks.take j) (ws.take j) := ⟨_, rfl⟩
                    rw [← ht] at h8 hs HT
                    clear ht hkd hwd hkk hwk htb
                    obtain ⟨x0, x1, x2, x3, x4, x5, x6, x7, rfl⟩ : ∃ x0 x1 x2 x3 x4 x5 x6 x7, t = [x0, x1, x2, x3, x4, x5, x6, x7] := by
                      match t, h8.1 with
                      | [a, b, c, d, e, f, g, h], _ => exact ⟨_, _, _, _, _, _, _, _, rfl⟩
                    have b0 : x0 < 4294967296 := h8.lt 0
                    have b1 : x1 < 4294967296 := h8.lt 1
                    have b2 : x2 < 4294967296 := h8.lt 2
                    have b3 : x3 < 4294967296 := h8.lt 3
                    have b4 : x4 < 4294967296 := h8.lt 4
                    have b5 : x5 < 4294967296 := h8.lt 5
                    have b6 : x6 < 4294967296 := h8.lt 6
                    clear h8
                    obtain ⟨p1, pn, p2, ch, e1, e2, e3, e4, bn, bch, HCH⟩ := chV b4 b5 b6
                    obtain ⟨q1, q2, q3, q4, mj, f1, f2, f3, f4, f5, bmj, HMJ⟩ := majV b0 b1 b2
                    obtain ⟨y1, y2, y3, z1, z2, a1, a2, a3, o1, r1, r2, r3, g1, g2, g3', g4, g5, g6, bo1, HO1⟩ := oneV (x7 := x7) (c := ch) (k := kk) (w := wk) b4
                    obtain ⟨u1, u2, u3, v1, v2, o2, t1, t2, t3, h1, h2, h3, bo2, HO2⟩ := twoV (c := mj) b0
                    rw [HCH.out] at HO1
                    rw [HMJ.out] at HO2
                    have HU := Lib.hid (U_step x0 x1 x2 x3 x4 x5 x6 x7 kk wk o1 o2 HO1.out HO2.out)
                    have R1 := Lib.hid r1
                    have R2 := Lib.hid r2
                    have R3 := Lib.hid r3
                    have G1 := Lib.hid g1
                    have G2 := Lib.hid g2
                    have G3 := Lib.hid g3'
                    have G4 := Lib.hid g4
                    have G5 := Lib.hid g5
                    have G6 := Lib.hid g6
                    have T1 := Lib.hid t1
                    have T2 := Lib.hid t2
                    have T3 := Lib.hid t3
                    have H1 := Lib.hid h1
                    have H2 := Lib.hid h2
                    have H3 := Lib.hid h3
                    have HJL : Hid (j < 64) := hltj
                    have HWC : Hid (∀ V, Hid (WSt W4 V R 80 (U8 x0 x1 x2 x3 x4 x5 x6 x7)) → V.cell? ⟨G, j, none⟩ = some (.int .u32 (wk : Int))) := by
                      show ∀ V, _
                      intro V hV
                      have c := (HG4.out.below hV.out.2 hGR).cell j
                      rw [U_get, HWK.out] at c
                      exact c
                    clear r1 r2 r3 g1 g2 g3' g4 g5 g6 t1 t2 t3 h1 h2 h3 HCH HMJ HO1 HO2
                    have HST : Hid (WSt W4 wr R 80 (U8 x0 x1 x2 x3 x4 x5 x6 x7)) := hs
                    clear hs
                    have c0 := wst_at (i := 0) HST rfl
                    have c1 := wst_at (i := 1) HST rfl
                    have c2 := wst_at (i := 2) HST rfl
                    have c4 := wst_at (i := 4) HST rfl
                    have c5 := wst_at (i := 5) HST rfl
                    have c6 := wst_at (i := 6) HST rfl
                    go_upto_region 31 with (fail)
                    have HST0 : Hid (WSt W4 wr.drew R 80 (U8 x0 x1 x2 x3 x4 x5 x6 x7)) := HST.out.drew 1
                    clear HST c0 c1 c2 c4 c5 c6 e1 e2 e3 e4 f1 f2 f3 f4 f5
                    refine wp_region_stage (fun V V' => Below V.heap.size V V') (fun m V => Hid (WSt W4 V R 80 (U8 x0 x1 x2 x3 x4 x5 x6 x7))) [(false, .exact (.pointer (some ⟨R, 7, none⟩))),
                        (false, .exact (.int .u32 (x7 : Int))),
                        (false, .exact (.pointer (some ⟨R, 4, none⟩))),
                        (false, .exact (.int .u32 (x4 : Int))),
                        (false, .exact (.int .u32 (y1 : Int))),
                        (false, .exact (.pointer (some ⟨R, 4, none⟩))),
                        (false, .exact (.int .u32 (x4 : Int))),
                        (false, .exact (.int .u32 (y2 : Int))),
                        (false, .exact (.int .u32 (z1 : Int))),
                        (false, .exact (.pointer (some ⟨R, 4, none⟩))),
                        (false, .exact (.int .u32 (x4 : Int))),
                        (false, .exact (.int .u32 (y3 : Int))),
                        (false, .exact (.int .u32 (z2 : Int))),
                        (false, .exact (.int .u32 (a1 : Int))),
                        (false, .exact (.int .u32 (ch : Int))),
                        (false, .exact (.int .u32 (a2 : Int))),
                        (false, .exact (.int .i64 (j : Int))),
                        (false, .exact (.int .u32 (kk : Int))),
                        (false, .exact (.int .u32 (a3 : Int))),
                        (false, .exact (.int .i64 (j : Int))),
                        (false, .exact (.pointer (some ⟨G, j, none⟩))),
                        (false, .exact (.int .u32 (wk : Int))),
                        (false, .exact (.int .u32 (o1 : Int))),
                        (false, .exact (.int .u32 (o1 : Int)))] (by kernel_rfl) (by kernel_rfl) (by kernel_rfl) rfl ?lasts ?start ?walk
                    case lasts => exact trivial
                    case start => exact HST0
                    case walk =>
                      refine stage_pure rfl (fun V => Below.refl _ V) (fun V m hS hl => by exact exec_ixa _ rfl rfl rfl Tryd.underlying80 (by kernel_rfl) rfl (show 7 < 8 by decide)) ?_
                      simp only [Act.put, List.setIfInBounds_toArray, List.set_cons_zero, List.set_cons_succ, List.cons_append, List.nil_append]
                      refine stage_pure rfl (fun V => Below.refl _ V) (fun V m hS hl => by exact exec_ldc rfl rfl (wst_at (i := 7) hS rfl) ⟨_, Tryd.underlying23, rfl⟩) ?_
                      simp only [Act.put, List.setIfInBounds_toArray, List.set_cons_zero, List.set_cons_succ, List.cons_append, List.nil_append]
                      refine stage_pure rfl (fun V => Below.refl _ V) (fun V m hS hl => by exact exec_ixa _ rfl rfl rfl Tryd.underlying80 (by kernel_rfl) rfl (show 4 < 8 by decide)) ?_
                      simp only [Act.put, List.setIfInBounds_toArray, List.set_cons_zero, List.set_cons_succ, List.cons_append, List.nil_append]
                      refine stage_pure rfl (fun V => Below.refl _ V) (fun V m hS hl => by exact exec_ldc rfl rfl (wst_at (i := 4) hS rfl) ⟨_, Tryd.underlying23, rfl⟩) ?_
                      simp only [Act.put, List.setIfInBounds_toArray, List.set_cons_zero, List.set_cons_succ, List.cons_append, List.nil_append]
                      refine stage_exact rfl (fun V m hS hl => by
                          go_simp
                          refine Calls.mono (R1.out V) ?_
                          rintro e V' ⟨rfl, rfl⟩
                          exact ⟨_, rfl, Below.refl _ _, rfl, hS⟩) ?_
                      simp only [Act.put, List.setIfInBounds_toArray, List.set_cons_zero, List.set_cons_succ, List.cons_append, List.nil_append]
                      refine stage_pure rfl (fun V => Below.refl _ V) (fun V m hS hl => by exact exec_ixa _ rfl rfl rfl Tryd.underlying80 (by kernel_rfl) rfl (show 4 < 8 by decide)) ?_
                      simp only [Act.put, List.setIfInBounds_toArray, List.set_cons_zero, List.set_cons_succ, List.cons_append, List.nil_append]
                      refine stage_pure rfl (fun V => Below.refl _ V) (fun V m hS hl => by exact exec_ldc rfl rfl (wst_at (i := 4) hS rfl) ⟨_, Tryd.underlying23, rfl⟩) ?_
                      simp only [Act.put, List.setIfInBounds_toArray, List.set_cons_zero, List.set_cons_succ, List.cons_append, List.nil_append]
                      refine stage_exact rfl (fun V m hS hl => by
                          go_simp
                          refine Calls.mono (R2.out V) ?_
                          rintro e V' ⟨rfl, rfl⟩
                          exact ⟨_, rfl, Below.refl _ _, rfl, hS⟩) ?_
                      simp only [Act.put, List.setIfInBounds_toArray, List.set_cons_zero, List.set_cons_succ, List.cons_append, List.nil_append]
                      refine stage_pure rfl (fun V => Below.refl _ V) (fun V m hS hl => by exact exec_xor _ _ _ rfl rfl rfl G1.out) ?_
                      simp only [Act.put, List.setIfInBounds_toArray, List.set_cons_zero, List.set_cons_succ, List.cons_append, List.nil_append]
                      refine stage_pure rfl (fun V => Below.refl _ V) (fun V m hS hl => by exact exec_ixa _ rfl rfl rfl Tryd.underlying80 (by kernel_rfl) rfl (show 4 < 8 by decide)) ?_
                      simp only [Act.put, List.setIfInBounds_toArray, List.set_cons_zero, List.set_cons_succ, List.cons_append, List.nil_append]
                      refine stage_pure rfl (fun V => Below.refl _ V) (fun V m hS hl => by exact exec_ldc rfl rfl (wst_at (i := 4) hS rfl) ⟨_, Tryd.underlying23, rfl⟩) ?_
                      simp only [Act.put, List.setIfInBounds_toArray, List.set_cons_zero, List.set_cons_succ, List.cons_append, List.nil_append]
                      refine stage_exact rfl (fun V m hS hl => by
                          go_simp
                          refine Calls.mono (R3.out V) ?_
                          rintro e V' ⟨rfl, rfl⟩
                          exact ⟨_, rfl, Below.refl _ _, rfl, hS⟩) ?_
                      simp only [Act.put, List.setIfInBounds_toArray, List.set_cons_zero, List.set_cons_succ, List.cons_append, List.nil_append]
                      refine stage_pure rfl (fun V => Below.refl _ V) (fun V m hS hl => by exact exec_xor _ _ _ rfl rfl rfl G2.out) ?_
                      simp only [Act.put, List.setIfInBounds_toArray, List.set_cons_zero, List.set_cons_succ, List.cons_append, List.nil_append]
                      refine stage_pure rfl (fun V => Below.refl _ V) (fun V m hS hl => by exact exec_add _ _ _ rfl rfl rfl G3.out) ?_
                      simp only [Act.put, List.setIfInBounds_toArray, List.set_cons_zero, List.set_cons_succ, List.cons_append, List.nil_append]
                      refine stage_pure rfl (fun V => Below.refl _ V) (fun V m hS hl => by go_simp) ?_
                      simp only [Act.put, List.setIfInBounds_toArray, List.set_cons_zero, List.set_cons_succ, List.cons_append, List.nil_append]
                      refine stage_pure rfl (fun V => Below.refl _ V) (fun V m hS hl => by exact exec_add _ _ _ rfl rfl rfl G4.out) ?_
                      simp only [Act.put, List.setIfInBounds_toArray, List.set_cons_zero, List.set_cons_succ, List.cons_append, List.nil_append]
                      refine stage_pure rfl (fun V => Below.refl _ V) (fun V m hS hl => by go_simp) ?_
                      simp only [Act.put, List.setIfInBounds_toArray, List.set_cons_zero, List.set_cons_succ, List.cons_append, List.nil_append]
                      refine stage_exact rfl (fun V m hS hl => by
                          go_simp
                          refine Calls.mono (HTB.out V) ?_
                          rintro e V' ⟨rfl, hb⟩
                          exact ⟨_, rfl, hb, rfl, wst_grow hS hb⟩) ?_
                      simp only [Act.put, List.setIfInBounds_toArray, List.set_cons_zero, List.set_cons_succ, List.cons_append, List.nil_append]
                      refine stage_pure rfl (fun V => Below.refl _ V) (fun V m hS hl => by exact exec_add _ _ _ rfl rfl rfl G5.out) ?_
                      simp only [Act.put, List.setIfInBounds_toArray, List.set_cons_zero, List.set_cons_succ, List.cons_append, List.nil_append]
                      refine stage_pure rfl (fun V => Below.refl _ V) (fun V m hS hl => by go_simp) ?_
                      simp only [Act.put, List.setIfInBounds_toArray, List.set_cons_zero, List.set_cons_succ, List.cons_append, List.nil_append]
                      refine stage_pure rfl (fun V => Below.refl _ V) (fun V m hS hl => by exact exec_ixa _ rfl rfl rfl Tryd.underlying91 (by kernel_rfl) rfl HJL.out) ?_
                      simp only [Act.put, List.setIfInBounds_toArray, List.set_cons_zero, List.set_cons_succ, List.cons_append, List.nil_append]
                      refine stage_pure rfl (fun V => Below.refl _ V) (fun V m hS hl => by exact exec_ldc rfl rfl (HWC.out V hS) ⟨_, Tryd.underlying23, rfl⟩) ?_
                      simp only [Act.put, List.setIfInBounds_toArray, List.set_cons_zero, List.set_cons_succ, List.cons_append, List.nil_append]
                      refine stage_pure rfl (fun V => Below.refl _ V) (fun V m hS hl => by exact exec_add _ _ _ rfl rfl rfl G6.out) ?_
                      simp only [Act.put, List.setIfInBounds_toArray, List.set_cons_zero, List.set_cons_succ, List.cons_append, List.nil_append]
                      refine stage_pure rfl (fun V => Below.refl _ V) (fun V m hS hl => by go_simp) ?_
                      simp only [Act.put, List.setIfInBounds_toArray, List.set_cons_zero, List.set_cons_succ, List.cons_append, List.nil_append]
                      refine stage_nil (fun V2 hS hF => ?_)
                      clear HST0 hF R1 R2 R3 G1 G2 G3 G4 G5 G6 HTB HWC
                      go_upto_region 32 with (fail)
                      have HST1 : Hid (WSt W4 V2.drew R 80 (U8 x0 x1 x2 x3 x4 x5 x6 x7)) := hS.out.drew 1
                      clear hS
                      refine wp_region_stage (fun V V' => Below V.heap.size V V') (fun m V => Hid (WSt W4 V R 80 (U8 x0 x1 x2 x3 x4 x5 x6 x7))) [(false, .exact (.pointer (some ⟨R, 0, none⟩))),
                          (false, .exact (.int .u32 (x0 : Int))),
                          (false, .exact (.int .u32 (u1 : Int))),
                          (false, .exact (.pointer (some ⟨R, 0, none⟩))),
                          (false, .exact (.int .u32 (x0 : Int))),
                          (false, .exact (.int .u32 (u2 : Int))),
                          (false, .exact (.int .u32 (v1 : Int))),
                          (false, .exact (.pointer (some ⟨R, 0, none⟩))),
                          (false, .exact (.int .u32 (x0 : Int))),
                          (false, .exact (.int .u32 (u3 : Int))),
                          (false, .exact (.int .u32 (v2 : Int))),
                          (false, .exact (.int .u32 (mj : Int))),
                          (false, .exact (.int .u32 (o2 : Int))),
                          (false, .exact (.int .u32 (o2 : Int)))] (by kernel_rfl) (by kernel_rfl) (by kernel_rfl) rfl ?lasts ?start ?walk
                      case lasts => exact trivial
                      case start => exact HST1
                      case walk =>
                        refine stage_pure rfl (fun V => Below.refl _ V) (fun V m hS hl => by exact exec_ixa _ rfl rfl rfl Tryd.underlying80 (by kernel_rfl) rfl (show 0 < 8 by decide)) ?_
                        simp only [Act.put, List.setIfInBounds_toArray, List.set_cons_zero, List.set_cons_succ, List.cons_append, List.nil_append]
                        refine stage_pure rfl (fun V => Below.refl _ V) (fun V m hS hl => by exact exec_ldc rfl rfl (wst_at (i := 0) hS rfl) ⟨_, Tryd.underlying23, rfl⟩) ?_
                        simp only [Act.put, List.setIfInBounds_toArray, List.set_cons_zero, List.set_cons_succ, List.cons_append, List.nil_append]
                        refine stage_exact rfl (fun V m hS hl => by
                            go_simp
                            refine Calls.mono (T1.out V) ?_
                            rintro e V' ⟨rfl, rfl⟩
                            exact ⟨_, rfl, Below.refl _ _, rfl, hS⟩) ?_
                        simp only [Act.put, List.setIfInBounds_toArray, List.set_cons_zero, List.set_cons_succ, List.cons_append, List.nil_append]
                        refine stage_pure rfl (fun V => Below.refl _ V) (fun V m hS hl => by exact exec_ixa _ rfl rfl rfl Tryd.underlying80 (by kernel_rfl) rfl (show 0 < 8 by decide)) ?_
                        simp only [Act.put, List.setIfInBounds_toArray, List.set_cons_zero, List.set_cons_succ, List.cons_append, List.nil_append]
                        refine stage_pure rfl (fun V => Below.refl _ V) (fun V m hS hl => by exact exec_ldc rfl rfl (wst_at (i := 0) hS rfl) ⟨_, Tryd.underlying23, rfl⟩) ?_
                        simp only [Act.put, List.setIfInBounds_toArray, List.set_cons_zero, List.set_cons_succ, List.cons_append, List.nil_append]
                        refine stage_exact rfl (fun V m hS hl => by
                            go_simp
                            refine Calls.mono (T2.out V) ?_
                            rintro e V' ⟨rfl, rfl⟩
                            exact ⟨_, rfl, Below.refl _ _, rfl, hS⟩) ?_
                        simp only [Act.put, List.setIfInBounds_toArray, List.set_cons_zero, List.set_cons_succ, List.cons_append, List.nil_append]
                        refine stage_pure rfl (fun V => Below.refl _ V) (fun V m hS hl => by exact exec_xor _ _ _ rfl rfl rfl H1.out) ?_
                        simp only [Act.put, List.setIfInBounds_toArray, List.set_cons_zero, List.set_cons_succ, List.cons_append, List.nil_append]
                        refine stage_pure rfl (fun V => Below.refl _ V) (fun V m hS hl => by exact exec_ixa _ rfl rfl rfl Tryd.underlying80 (by kernel_rfl) rfl (show 0 < 8 by decide)) ?_
                        simp only [Act.put, List.setIfInBounds_toArray, List.set_cons_zero, List.set_cons_succ, List.cons_append, List.nil_append]
                        refine stage_pure rfl (fun V => Below.refl _ V) (fun V m hS hl => by exact exec_ldc rfl rfl (wst_at (i := 0) hS rfl) ⟨_, Tryd.underlying23, rfl⟩) ?_
                        simp only [Act.put, List.setIfInBounds_toArray, List.set_cons_zero, List.set_cons_succ, List.cons_append, List.nil_append]
                        refine stage_exact rfl (fun V m hS hl => by
                            go_simp
                            refine Calls.mono (T3.out V) ?_
                            rintro e V' ⟨rfl, rfl⟩
                            exact ⟨_, rfl, Below.refl _ _, rfl, hS⟩) ?_
                        simp only [Act.put, List.setIfInBounds_toArray, List.set_cons_zero, List.set_cons_succ, List.cons_append, List.nil_append]
                        refine stage_pure rfl (fun V => Below.refl _ V) (fun V m hS hl => by exact exec_xor _ _ _ rfl rfl rfl H2.out) ?_
                        simp only [Act.put, List.setIfInBounds_toArray, List.set_cons_zero, List.set_cons_succ, List.cons_append, List.nil_append]
                        refine stage_pure rfl (fun V => Below.refl _ V) (fun V m hS hl => by go_simp) ?_
                        simp only [Act.put, List.setIfInBounds_toArray, List.set_cons_zero, List.set_cons_succ, List.cons_append, List.nil_append]
                        refine stage_pure rfl (fun V => Below.refl _ V) (fun V m hS hl => by exact exec_add _ _ _ rfl rfl rfl H3.out) ?_
                        simp only [Act.put, List.setIfInBounds_toArray, List.set_cons_zero, List.set_cons_succ, List.cons_append, List.nil_append]
                        refine stage_pure rfl (fun V => Below.refl _ V) (fun V m hS hl => by go_simp) ?_
                        simp only [Act.put, List.setIfInBounds_toArray, List.set_cons_zero, List.set_cons_succ, List.cons_append, List.nil_append]
                        refine stage_nil (fun V3 hS hF => ?_)
                        clear HST1 hF T1 T2 T3 H1 H2 H3
                        obtain ⟨n4, ha4⟩ : ∃ a : Nat, a = (x3 + o1) % 4294967296 := ⟨_, rfl⟩
                        obtain ⟨n0, ha0⟩ : ∃ a : Nat, a = (o1 + o2) % 4294967296 := ⟨_, rfl⟩
                        have i4 : ((x3 : Int) + (o1 : Int)) % 4294967296 = (n4 : Int) := by omega
                        have i0 : ((o1 : Int) + (o2 : Int)) % 4294967296 = (n0 : Int) := by omega
                        have c0 := wst_at (i := 0) hS rfl
                        have c1 := wst_at (i := 1) hS rfl
                        have c2 := wst_at (i := 2) hS rfl
                        have c3 := wst_at (i := 3) hS rfl
                        have c4 := wst_at (i := 4) hS rfl
                        have c5 := wst_at (i := 5) hS rfl
                        have c6 := wst_at (i := 6) hS rfl
                        have HBR : Hid (Blk V3 R 80 (U (U8 x0 x1 x2 x3 x4 x5 x6 x7))) := hS.out.1
                        have HE : Hid (WSt W4 (V3.setRow R (U (U8 n0 x0 x1 x2 n4 x4 x5 x6))) R 80 (rounds s (ks.take (j + 1)) (ws.take (j + 1)))) := by
                          show WSt _ _ _ _ _
                          rw [HT.out, HU.out, ← ha4, ← ha0]
                          exact (wst_setRow hS _).out
                        clear ha4 ha0 hS HT HU
                        have I0 : IntKind.u32.wrap ((o1 : Int) + (o2 : Int)) = (n0 : Int) := by rw [IntKind.wrap_u32]; exact i0
                        have I4 : IntKind.u32.wrap ((x3 : Int) + (o1 : Int)) = (n4 : Int) := by rw [IntKind.wrap_u32]; exact i4
                        go_upto_region 33 with (fail)
                        refine wp_region_list ?_
                        refine wpList_val rfl (exec_mv (.int .u32 (o1 : Int)) rfl rfl) ?_
                        simp only [Act.put, List.setIfInBounds_toArray, List.set_cons_succ, List.set_cons_zero]
                        refine wpList_val rfl (exec_mv (.int .u32 (o2 : Int)) rfl rfl) ?_
                        simp only [Act.put, List.setIfInBounds_toArray, List.set_cons_succ, List.set_cons_zero]
                        refine wpList_val rfl (exec_add _ _ _ rfl rfl rfl I0) ?_
                        simp only [Act.put, List.setIfInBounds_toArray, List.set_cons_succ, List.set_cons_zero]
                        refine wpList_val (v := .pointer (some ⟨R, 0, none⟩)) rfl (exec_ixa (0 : Int) rfl rfl rfl Tryd.underlying80 (by kernel_rfl) rfl (show 0 < 8 by decide)) ?_
                        simp only [Act.put, List.setIfInBounds_toArray, List.set_cons_succ, List.set_cons_zero]
                        refine wpList_val rfl (exec_ldc rfl rfl c0 ⟨_, Tryd.underlying23, rfl⟩) ?_
                        simp only [Act.put, List.setIfInBounds_toArray, List.set_cons_succ, List.set_cons_zero]
                        refine wpList_val (v := .pointer (some ⟨R, 1, none⟩)) rfl (exec_ixa (1 : Int) rfl rfl rfl Tryd.underlying80 (by kernel_rfl) rfl (show 1 < 8 by decide)) ?_
                        simp only [Act.put, List.setIfInBounds_toArray, List.set_cons_succ, List.set_cons_zero]
                        refine wpList_val rfl (exec_ldc rfl rfl c1 ⟨_, Tryd.underlying23, rfl⟩) ?_
                        simp only [Act.put, List.setIfInBounds_toArray, List.set_cons_succ, List.set_cons_zero]
                        refine wpList_val (v := .pointer (some ⟨R, 2, none⟩)) rfl (exec_ixa (2 : Int) rfl rfl rfl Tryd.underlying80 (by kernel_rfl) rfl (show 2 < 8 by decide)) ?_
                        simp only [Act.put, List.setIfInBounds_toArray, List.set_cons_succ, List.set_cons_zero]
                        refine wpList_val rfl (exec_ldc rfl rfl c2 ⟨_, Tryd.underlying23, rfl⟩) ?_
                        simp only [Act.put, List.setIfInBounds_toArray, List.set_cons_succ, List.set_cons_zero]
                        refine wpList_val (v := .pointer (some ⟨R, 3, none⟩)) rfl (exec_ixa (3 : Int) rfl rfl rfl Tryd.underlying80 (by kernel_rfl) rfl (show 3 < 8 by decide)) ?_
                        simp only [Act.put, List.setIfInBounds_toArray, List.set_cons_succ, List.set_cons_zero]
                        refine wpList_val rfl (exec_ldc rfl rfl c3 ⟨_, Tryd.underlying23, rfl⟩) ?_
                        simp only [Act.put, List.setIfInBounds_toArray, List.set_cons_succ, List.set_cons_zero]
                        refine wpList_val rfl (exec_mv (.int .u32 (o1 : Int)) rfl rfl) ?_
                        simp only [Act.put, List.setIfInBounds_toArray, List.set_cons_succ, List.set_cons_zero]
                        refine wpList_val rfl (exec_add _ _ _ rfl rfl rfl I4) ?_
                        simp only [Act.put, List.setIfInBounds_toArray, List.set_cons_succ, List.set_cons_zero]
                        refine wpList_val (v := .pointer (some ⟨R, 4, none⟩)) rfl (exec_ixa (4 : Int) rfl rfl rfl Tryd.underlying80 (by kernel_rfl) rfl (show 4 < 8 by decide)) ?_
                        simp only [Act.put, List.setIfInBounds_toArray, List.set_cons_succ, List.set_cons_zero]
                        refine wpList_val rfl (exec_ldc rfl rfl c4 ⟨_, Tryd.underlying23, rfl⟩) ?_
                        simp only [Act.put, List.setIfInBounds_toArray, List.set_cons_succ, List.set_cons_zero]
                        refine wpList_val (v := .pointer (some ⟨R, 5, none⟩)) rfl (exec_ixa (5 : Int) rfl rfl rfl Tryd.underlying80 (by kernel_rfl) rfl (show 5 < 8 by decide)) ?_
                        simp only [Act.put, List.setIfInBounds_toArray, List.set_cons_succ, List.set_cons_zero]
                        refine wpList_val rfl (exec_ldc rfl rfl c5 ⟨_, Tryd.underlying23, rfl⟩) ?_
                        simp only [Act.put, List.setIfInBounds_toArray, List.set_cons_succ, List.set_cons_zero]
                        refine wpList_val (v := .pointer (some ⟨R, 6, none⟩)) rfl (exec_ixa (6 : Int) rfl rfl rfl Tryd.underlying80 (by kernel_rfl) rfl (show 6 < 8 by decide)) ?_
                        simp only [Act.put, List.setIfInBounds_toArray, List.set_cons_succ, List.set_cons_zero]
                        refine wpList_val rfl (exec_ldc rfl rfl c6 ⟨_, Tryd.underlying23, rfl⟩) ?_
                        simp only [Act.put, List.setIfInBounds_toArray, List.set_cons_succ, List.set_cons_zero]
                        refine wpList_build8 rfl _ _ _ _ _ _ _ _ rfl n0 x0 x1 x2 n4 x4 x5 x6 rfl rfl rfl rfl rfl rfl rfl rfl ?_
                        simp only [Act.put, List.setIfInBounds_toArray, List.set_cons_succ, List.set_cons_zero]
                        refine wpList_store_row rfl 80 _ _ rfl R (U (U8 n0 x0 x1 x2 n4 x4 x5 x6)) rfl rfl 80 (U (U8 x0 x1 x2 x3 x4 x5 x6 x7)) HBR.out size_w8 rfl (U_one _) ?_
                        refine wpList_nil ?_
                        clear c0 c1 c2 c3 c4 c5 c6 I0 I4
                        go_wp2
                        go_roundw
                        case rel => exact ⟨j + 1, by omega, by go_num, HE⟩
                        case measure => simp [intOf]; omega
                  · obtain rfl : j = 64 := by omega
                    have h := hs.out
                    rw [show ks.take 64 = ks by rfl, show ws.take 64 = ws by rw [← HLW.out]; exact List.take_length] at h
                    have HE : Hid (WSt W4 wr R 80 (rounds s ks ws)) := h
                    clear hs h
                    go_wp2
                    go_meet
                    exact HE
              case rest =>
                have hHR : H < R := by omega
                obtain ⟨v, hv⟩ : ∃ v, v = rounds s ks ws := ⟨_, rfl⟩
                have h8 := W8.rounds ks ws HW8.out
                rw [← hv] at hcut h8
                have HVL : Hid (v.length = 8) := h8.1
                have HVR : Hid (Blk wc R 80 (U v)) := hcut.out.1
                have HSH : Hid (Blk wc H 80 (U (addP s v 0))) := by show Blk _ _ _ _; rw [addP_zero]; exact HS4.out.1.below hcut.out.2 hHR
                have HBH : Hid (Below H W2 wc) := HS4.out.2.trans (hcut.out.2.mono (by omega))
                have hHS : H ≤ wc.heap.size := by have := HSH.out.lt; omega
                have HMX : Hid (addP s v 8 = feed (k + 1) h0 L) := by
                  show _ = _
                  rw [HFD.out]
                  have e := addP_all (t := s) (s := v) (by rw [HL8.out, h8.1])
                  rw [HL8.out] at e
                  rw [e, addW_comm, hv, HWD.out]
                  rfl
                clear hcut hv h8 HG4 HS4 HR4 HW8 HWD HLW HFD HLG HLN
                go_wp2
                go_loopw [18] (fun i wr => ∃ j : Nat, j ≤ 8 ∧ i = .int .i64 (j : Int) ∧ Hid (Blk wr H 80 (U (addP s v j)) ∧ Fr (fun q => q = H) wc wr)) (fun i _ => 8 - (intOf i).toNat)
                case atStart => exact ⟨0, Nat.zero_le _, rfl, HSH.out, Fr.refl _ _⟩
                case round =>
                  obtain ⟨j, hj, rfl, hs⟩ := hrel
                  by_cases hltj : j < 8
                  · obtain ⟨e1, e2, e3, e4⟩ := addP_step (t := s) (s := v) (by rw [HL8.out, HVL.out]) (i := j) (by rw [HL8.out]; exact hltj)
                    obtain ⟨x, hx⟩ : ∃ x, x = s.getD j 0 := ⟨_, rfl⟩
                    obtain ⟨y, hy⟩ : ∃ x, x = v.getD j 0 := ⟨_, rfl⟩
                    rw [← hx, ← hy] at e1
                    rw [← hx] at e3
                    rw [← hy] at e4
                    have c1 := hs.out.1.cell j
                    rw [U_get, e3] at c1
                    have c2 := (hs.out.2.blk HVR.out (by show ¬ (R = H); omega)).cell j
                    rw [U_get, e4] at c2
                    simp only [Option.map_some] at c1 c2
                    have hfz := hs.out.1.frozen j
                    obtain ⟨z, hz⟩ : ∃ z : Nat, z = (x + y) % 4294967296 := ⟨_, rfl⟩
                    have hzi : ((x : Int) + (y : Int)) % 4294967296 = (z : Int) := by omega
                    have HE : Hid (Blk (wr.setCell ⟨H, j, none⟩ (.int .u32 (z : Int))).drew H 80 (U (addP s v (j + 1))) ∧ Fr (fun q => q = H) wc (wr.setCell ⟨H, j, none⟩ (.int .u32 (z : Int))).drew) := by
                      refine ⟨?_, (hs.out.2.setCell (p := ⟨H, j, none⟩) (.inl rfl) _).drew⟩
                      rw [e1, ← hz, ← U_set]
                      exact hs.out.1.set_ j _
                    clear hx hy e1 e3 e4 hz hs
                    go_wp2
                    go_region
                    go_wp2
                    go_roundw
                    case rel => exact ⟨j + 1, by omega, by go_num, HE⟩
                    case measure => simp [intOf]; omega
                  · obtain rfl : j = 8 := by omega
                    have HE : Hid (WSt W2 wr H 80 (feed (k + 1) h0 L)) := by
                      refine ⟨?_, below_fr HBH.out hs.out.2 hHW (fun q hq => by omega)⟩
                      rw [← HMX.out]
                      exact hs.out.1
                    clear hs
                    go_wp2
                    exact ⟨⟨k + 1, by omega, by go_num, HE⟩, by simp [intOf]; omega⟩
          · obtain rfl : k = K := by omega
            go_wp2
            go_meet
            exact hs
      case rest =>
        obtain ⟨h, hh⟩ : ∃ h, h = feed K h0 L := ⟨_, rfl⟩
        have h8 := W8.feed K L W8.h0
        rw [← hh] at hcut h8
        have HHL : Hid (h.length = 8) := h8.1
        have HHD : Hid (out h = hash m) := by show _ = _; rw [HH.out, hh, HKD.out]
        obtain ⟨O, hO⟩ : ∃ O, O = wc.heap.size := ⟨_, rfl⟩
        have hHO : H < O := by rw [hO]; exact hcut.out.1.lt
        obtain ⟨W5, hW5⟩ : ∃ W5, W5 = wc.alloc (.cells (V (Zb 32)) 41) := ⟨_, rfl⟩
        have hb5 : Below O wc W5 := by rw [hW5, hO]; exact below_new wc _
        have HO5 : Hid (Blk W5 O 41 (V (outP h 0))) := by show Blk _ _ _ _; rw [hW5, hO, outP_zero]; exact Blk.new wc _ _
        have HH5 : Hid (Blk W5 H 80 (U h)) := hcut.out.1.below hb5 hHO
        have HRN : Hid (Blk W5 N 41 (V (Zb 32))) := ((HR1.out.below HB2.out (by omega)).below hcut.out.2 (by omega)).below hb5 (by omega)
        have HBN : Hid (Below (N + 1) W1 W5) := (HB2.out.trans (hcut.out.2.mono hNH)).trans (hb5.mono (by omega))
        have HW5 := Lib.hid hW5
        have HOO := Lib.hid hO
        clear hcut hh h8 hW5 hO hb5 HR1 HB2 HH2 HL2 HH HKD HKK HF
        go_upto_block 14 with (with_reducible refine wpList_alloc_run _ rfl 41 rfl (alloc_b32 _) ?_; rw [← HW5.out, ← HOO.out])
        try simp only [Act.put, List.setIfInBounds_toArray, List.set_cons_succ, List.set_cons_zero]
        clear HW5 HOO
        go_cut [20] from 235 to 251 (fun _ wx => Hid (Blk wx O 41 (V (out h)) ∧ Below O W5 wx))
        case first => as_aux_lemma =>
          go_wp2
          go_loopw [20] (fun i wr => ∃ j : Nat, j ≤ 32 ∧ i = .int .i64 (j : Int) ∧ Hid (Blk wr O 41 (V (outP h j)) ∧ Below O W5 wr)) (fun i _ => 32 - (intOf i).toNat)
          case atStart => exact ⟨0, Nat.zero_le _, rfl, HO5.out, Below.refl _ _⟩
          case round =>
            obtain ⟨j, hj, rfl, hs⟩ := hrel
            by_cases hltj : j < 32
            · obtain ⟨b, hb, hv⟩ := out_at HHL.out (i := j / 4) (j := j % 4) (by omega) (by omega)
              rw [show 4 * (j / 4) + j % 4 = j by omega] at hb
              have hst := outP_step HHL.out hb
              have c1 := (HH5.out.below hs.out.2 hHO).cell (j / 4)
              rw [U_at (by rw [HHL.out]; omega)] at c1
              obtain ⟨x, hx⟩ : ∃ x, x = h.getD (j / 4) 0 := ⟨_, rfl⟩
              rw [← hx] at c1 hv
              have hfz := hs.out.1.frozen j
              have co := hs.out.1.cell j
              rw [V_at (by rw [outP_length HHL.out (by omega)]; omega)] at co
              have HE : Hid (Blk (wr.setCell ⟨O, j, none⟩ (.int .u8 (b.toNat : Int))) O 41 (V (outP h (j + 1))) ∧ Below O W5 (wr.setCell ⟨O, j, none⟩ (.int .u8 (b.toNat : Int)))) := by
                refine ⟨?_, hs.out.2.setCell (p := ⟨O, j, none⟩) (Nat.le_refl _) _⟩
                rw [hst, ← V_set]
                exact hs.out.1.set_ j _
              have hr4 : j % 4 = 0 ∨ j % 4 = 1 ∨ j % 4 = 2 ∨ j % 4 = 3 := by omega
              clear hb hst hx hs
              rcases hr4 with hr | hr | hr | hr
              all_goals
                rw [hr] at hv
                have HV := Lib.hid (hv _ rfl)
                have i4 : (j : Int) % 4 = ((j % 4 : Nat) : Int) := by omega
                rw [hr] at i4
                clear hv hr
                go_wp2
                go_roundw
                case rel => exact ⟨j + 1, by omega, by go_num, stD HE _ (by have h := HV.out; simp only [Nat.reduceMul, Nat.reduceSub, Int.reducePow] at h; first | exact h | omega)⟩
                case measure => simp [intOf]; omega
            · obtain rfl : j = 32 := by omega
              have HE : Hid (Blk wr O 41 (V (out h)) ∧ Below O W5 wr) := by
                have := hs.out
                rw [outP_all HHL.out] at this
                exact this
              clear hs
              go_wp2
              go_meet
              exact HE
        case rest =>
          have HO6 : Hid (Blk wc O 41 (V (out h))) := hcut.out.1
          have HR6 : Hid (Blk wc w.heap.size 41 (V (Zb 32))) := by show Blk _ _ _ _; rw [← HN.out]; exact HRN.out.below hcut.out.2 (by omega)
          have HB6 : Hid (Below (N + 1) W1 wc) := HBN.out.trans (hcut.out.2.mono (by omega))
          have HOL : Hid ((out h).length = 32) := out_length HHL.out
          clear hcut HO5 HH5 HRN HBN
          go_wp2_with (first
            | (refine wpList_load_row rfl 41 _ rfl O rfl 41 (V (out h)) (0, 0) _ HO6.out Tryd.underlying41 rfl (by rw [V_size, HOL.out]; exact size_b32) ?_)
            | (refine wpList_store_row rfl 41 _ _ rfl w.heap.size (V (out h)) rfl rfl 41 (V (Zb 32)) HR6.out (by rw [V_size, HOL.out]; exact size_b32) (by rw [V_size, V_size, HOL.out]; rfl) (V_one _) ?_))
          refine bodyPost_ret (results_cell_row Tryd.results37 _ _ w.heap.size 41 (V (out h)) (0, 0) _ rfl (setRow_heap wc w.heap.size _ _ _ _ HR6.out) Tryd.underlying41 rfl (by rw [V_size, HOL.out]; exact size_b32)) rfl ?_
          refine ⟨by rw [HHD.out], ?_⟩
          exact below_setRow (HB1.out.trans (HB6.out.mono (by have := HN.out; omega))) (Nat.le_refl _) _
end Go.Proofs.YtmbgjijajakgeaaDoor.Sha
