/-
  Contracts of the document's answers for layer 8: Seal.
-/
import Derived.Test.YtmbgjijajakgeaaDoorMacR2
import Derived.Test.YtmbgjijajakgeaaDoorMacR3P
set_option linter.unusedVariables false
set_option linter.unusedSimpArgs false
namespace Go.Proofs.YtmbgjijajakgeaaDoor.Sha
open Go.ChangeShapes Go.WideShapes Go.ChangeAt Go.RowKit Go.Proofs.YtmbgjijajakgeaaDoor.Words

set_option maxRecDepth 20000 in
set_option maxHeartbeats 4000000 in
theorem rseal_any {Ak A : Option Addr} {nk ck n c : Nat} {kb m : List UInt8} {w : World} (hnk : nk = kb.length) (hk2 : nk ≤ 500) (hkb : Byt w w.heap.size Ak kb) (hn : n = m.length) (hm : n ≤ 1000) (hby : Byt w w.heap.size A m) :
    Calls Tryd.prog 19 #[.slice Ak nk ck, .slice A n c] w fun e w' => e = .returned (.agg (V (seal_ kb m))) ∧ Below w.heap.size w w' := by
  obtain ⟨N, hN⟩ : ∃ N, N = w.heap.size := ⟨_, rfl⟩
  obtain ⟨W2, hW2⟩ : ∃ Wn, Wn = (w.alloc (.cells (V (Zb 32)) 41)).alloc (.cells (V (Zb 64)) 67) := ⟨_, rfl⟩
  have hb2 : Below w.heap.size w W2 := by rw [hW2]; exact ((Below.refl _ _).alloc (Nat.le_refl _) _).alloc (by simp) _
  have hs2 : W2.heap.size = N + 2 := by rw [hW2, hN]; simp
  have HR2 : Hid (Blk W2 N 41 (V (Zb 32))) := by
    show Blk _ _ _ _
    rw [hW2, hN]; exact (Blk.new w _ _).alloc _
  have HD2 : Hid (Blk W2 (N + 1) 67 (V (Zb 64))) := by
    show Blk _ _ _ _
    rw [hW2, hN]; simpa using Blk.new (w.alloc (.cells (V (Zb 32)) 41)) 67 (V (Zb 64))
  have HM2 : Hid (Byt W2 N A m) := by rw [hN]; exact hby.below hb2
  have HKB2 : Hid (Byt W2 N Ak kb) := by rw [hN]; exact hkb.below hb2
  have HB2 : Hid (Below w.heap.size w W2) := hb2
  have HNK := Lib.hid hnk
  have HNM := Lib.hid hn
  have HN := Lib.hid hN
  have HW2 := Lib.hid hW2
  have HS2 := Lib.hid hs2
  clear hkb hby hb2 hN hnk hn hW2 hs2
  go_enter Tryd.func19, Tryd.ntmps19
  go_upto_if 16 with (first | (with_reducible refine wpList_alloc_run _ rfl 41 rfl (alloc_b32 _) ?_) | (with_reducible refine wpList_alloc_run _ rfl 67 rfl (alloc_b64 _) ?_))
  rw [← HW2.out, ← HN.out]
  try simp only [Act.put, List.setIfInBounds_toArray, List.set_cons_succ, List.set_cons_zero]
  go_cut [6, 7, 8] from 16 to 39 (fun _ _ _ wx => Hid (Blk wx (N + 1) 67 (V (key64 kb)) ∧ Below (N + 1) W2 wx))
  case first => as_aux_lemma =>
    by_cases h64 : 64 < nk
    · have hks : keyS kb = hash kb := by unfold keyS; rw [if_pos (by rw [← HNK.out]; exact h64)]
      have hall := keyP_all (kb := kb)
      have hlh := hash_length kb
      have hHA := rhash_any (w := W2) (c := ck) HNK.out (by omega) (HKB2.out.more (by have := HS2.out; omega))
      rw [hks, hlh] at hall
      obtain ⟨h, hh⟩ : ∃ h, h = hash kb := ⟨_, rfl⟩
      rw [← hh] at hall hHA hlh
      have HALL := Lib.hid hall
      have HLH := Lib.hid hlh
      have HHA := Lib.hid hHA
      clear hks hall hlh hHA hh
      go_wp2_with fail
      refine HHA.out.mono ?_
      rintro e W3 ⟨rfl, hb3⟩
      obtain ⟨G, hG⟩ : ∃ G, G = W3.heap.size := ⟨_, rfl⟩
      obtain ⟨W4, hW4⟩ : ∃ Wn, Wn = (W3.alloc (.cells (V (Zb 32)) 41)).setRow G (V h) := ⟨_, rfl⟩
      have hb4 : Below W3.heap.size W3 W4 := by rw [hW4]; exact below_setRow ((Below.refl _ _).alloc (Nat.le_refl _) _) (by omega) _
      have hb24 : Below W2.heap.size W2 W4 := hb3.trans (hb4.mono hb3.size)
      have HG4 : Hid (Blk W4 G 41 (V h)) := by
        show Blk _ _ _ _
        rw [hW4]; exact setRow_heap _ G _ _ _ _ (by rw [hG]; exact Blk.new W3 _ _)
      have hNG : N + 1 < G := by rw [hG]; have := hb3.size; have := HS2.out; omega
      have HD4 : Hid (Blk W4 (N + 1) 67 (V (keyP h 0))) := by
        show Blk _ _ _ _
        rw [keyP_zero]; exact HD2.out.below hb24 (by have := HS2.out; omega)
      have HB4 : Hid (Below (N + 1) W2 W4) := hb24.mono (by have := HS2.out; omega)
      have HGG := Lib.hid hG
      have HW4 := Lib.hid hW4
      clear hb3 hb4 hb24 hG hW4 HHA HD2 HR2 HKB2 HM2
      go_upto_block 0 with (first
        | (with_reducible refine wpList_alloc_run _ rfl 41 rfl (alloc_b32 _) ?_)
        | (refine wpList_store_row rfl 41 _ _ rfl W3.heap.size (V h) rfl rfl 41 (V (Zb 32)) (Blk.new W3 _ _) (by rw [V_size, HLH.out]; exact size_b32) (by rw [V_size, V_size, HLH.out]; rfl) (V_one _) ?_; rw [← HGG.out, ← HW4.out]))
      try rw [← HGG.out, ← HW4.out]
      try rw [← HGG.out]
      clear HGG HW4
      go_wp2
      go_loopw [7] (fun i wr => ∃ j : Nat, j ≤ 32 ∧ i = .int .i64 (j : Int) ∧ Hid (Blk wr (N + 1) 67 (V (keyP h j)) ∧ Fr (fun q => q = N + 1) W4 wr)) (fun i _ => 32 - (intOf i).toNat)
      case atStart => exact ⟨0, Nat.zero_le _, rfl, HD4.out, Fr.refl _ _⟩
      case round =>
        obtain ⟨j, hj, rfl, hs⟩ := hrel
        by_cases hlt : j < 32
        · have c1 := (hs.out.2.blk HG4.out (by show ¬ (G = N + 1); omega)).cell j
          rw [V_at (by rw [HLH.out]; exact hlt)] at c1
          have hst := keyP_step (s := h) (i := j) (by rw [HLH.out]; exact hlt) (by rw [HLH.out]; omega)
          have c2 := hs.out.1.cell j
          rw [V_at (by rw [keyP_length (by rw [HLH.out]; omega) (by rw [HLH.out]; omega)]; omega)] at c2
          have z1 := hs.out.1.frozen j
          obtain ⟨b, hb⟩ : ∃ b, b = h.getD j 0 := ⟨_, rfl⟩
          rw [← hb] at c1 hst
          have HE : Hid (Blk (wr.setCell ⟨N + 1, j, none⟩ (.int .u8 (b.toNat : Int))) (N + 1) 67 (V (keyP h (j + 1))) ∧ Fr (fun q => q = N + 1) W4 (wr.setCell ⟨N + 1, j, none⟩ (.int .u8 (b.toNat : Int)))) := by
            rw [hst, ← V_set]
            exact ⟨hs.out.1.set_ _ _, hs.out.2.setCell (p := ⟨N + 1, j, none⟩) (.inl rfl) _⟩
          clear hb hst hs
          go_wp2
          go_roundw
          case rel => exact ⟨j + 1, by omega, by go_num, HE⟩
          case measure => simp [intOf]; omega
        · obtain rfl : j = 32 := by omega
          have HE : Hid (Blk wr (N + 1) 67 (V (key64 kb)) ∧ Below (N + 1) W2 wr) := by
            rw [← HALL.out]
            exact ⟨hs.out.1, below_fr HB4.out hs.out.2 (by have := HS2.out; omega) (fun q hq => by omega)⟩
          clear hs
          go_wp2
          go_meet
          exact HE
    · have hks : keyS kb = kb := by unfold keyS; rw [if_neg (by rw [← HNK.out]; exact h64)]
      have hall := keyP_all (kb := kb)
      rw [hks, ← HNK.out] at hall
      have HALL := Lib.hid hall
      have HD4 : Hid (Blk W2 (N + 1) 67 (V (keyP kb 0))) := by
        show Blk _ _ _ _
        rw [keyP_zero]; exact HD2.out
      clear hks hall HD2 HR2 HM2
      go_wp2
      go_loopw [8] (fun i wr => ∃ j : Nat, j ≤ nk ∧ i = .int .i64 (j : Int) ∧ Hid (Blk wr (N + 1) 67 (V (keyP kb j)) ∧ Fr (fun q => q = N + 1) W2 wr)) (fun i _ => nk - (intOf i).toNat)
      case atStart => exact ⟨0, Nat.zero_le _, rfl, HD4.out, Fr.refl _ _⟩
      case round =>
        obtain ⟨j, hj, rfl, hs⟩ := hrel
        by_cases hlt : j < nk
        · have hkb := HKB2.out
          obtain ⟨ad, rfl, hadb, hcl⟩ := hkb.2 (by rw [← HNK.out]; omega)
          have c1 := hcl j (.int .u8 ((kb.getD j 0).toNat : Int)) (by rw [u8s_get, List.getElem?_eq_getElem (by rw [← HNK.out]; exact hlt), List.getD_eq_getElem?_getD, List.getElem?_eq_getElem (by rw [← HNK.out]; exact hlt)]; rfl)
          have c1 : wr.cell? (ad.add j) = some (.int .u8 ((kb.getD j 0).toNat : Int)) := (World.cell?_of_block (hs.out.2.block _ (by rw [block_of_add]; have := HS2.out; omega) (by rw [block_of_add]; omega))).trans c1
          have hst := keyP_step (s := kb) (i := j) (by rw [← HNK.out]; exact hlt) (by rw [← HNK.out]; omega)
          have c2 := hs.out.1.cell j
          rw [V_at (by rw [keyP_length (by rw [← HNK.out]; omega) (by rw [← HNK.out]; omega)]; omega)] at c2
          have z1 := hs.out.1.frozen j
          obtain ⟨b, hb⟩ : ∃ b, b = kb.getD j 0 := ⟨_, rfl⟩
          rw [← hb] at c1 hst
          have HE : Hid (Blk (wr.setCell ⟨N + 1, j, none⟩ (.int .u8 (b.toNat : Int))) (N + 1) 67 (V (keyP kb (j + 1))) ∧ Fr (fun q => q = N + 1) W2 (wr.setCell ⟨N + 1, j, none⟩ (.int .u8 (b.toNat : Int)))) := by
            rw [hst, ← V_set]
            exact ⟨hs.out.1.set_ _ _, hs.out.2.setCell (p := ⟨N + 1, j, none⟩) (.inl rfl) _⟩
          clear hb hst hs hkb hcl
          go_wp2
          go_roundw
          case rel => exact ⟨j + 1, by omega, by go_num, HE⟩
          case measure => simp [intOf]; omega
        · obtain rfl : j = nk := by omega
          have HE : Hid (Blk wr (N + 1) 67 (V (key64 kb)) ∧ Below (N + 1) W2 wr) := by
            rw [← HALL.out]
            exact ⟨hs.out.1, below_fr (Below.refl _ _) hs.out.2 (by have := HS2.out; omega) (fun q hq => by omega)⟩
          clear hs
          go_wp2
          go_meet
          exact HE
  case rest =>
    obtain ⟨Wo, rfl⟩ : ∃ Wo : World, Wo = wc := ⟨_, rfl⟩
    have hkl := key64_length kb
    obtain ⟨k6, hk6⟩ : ∃ k6, k6 = key64 kb := ⟨_, rfl⟩
    rw [← hk6] at hcut hkl
    have hWo := hcut.out.2.size
    obtain ⟨B, hB⟩ : ∃ B, B = Wo.heap.size := ⟨_, rfl⟩
    have hNB : N + 1 < B := by rw [hB]; have := hcut.out.1.lt; omega
    have HDc : Hid (Blk Wo (N + 1) 67 (V k6)) := hcut.out.1
    have HRc : Hid (Blk Wo N 41 (V (Zb 32))) := HR2.out.below hcut.out.2 (by omega)
    have HMc : Hid (Byt Wo N A m) := HM2.out.below (hcut.out.2.mono (by omega))
    have HBc : Hid (Below w.heap.size w Wo) := HB2.out.trans (hcut.out.2.mono (by have := HN.out; omega))
    have HK6 := Lib.hid hk6
    have HKL := Lib.hid hkl
    have HBB := Lib.hid hB
    clear hcut hk6 hkl hB HR2 HD2 HM2 HKB2 HB2 hWo
    go_upto_block 4 with (fail)
    try simp only [Act.put, List.setIfInBounds_toArray, List.set_cons_succ, List.set_cons_zero]
    go_cut [9, 10, 11] from 40 to 57 (fun v1 v2 _ wx => Hid (TwoR B (mask 0x36 k6) (mask 0x5c k6) v1 v2 wx ∧ Below B Wo wx))
    case first => as_aux_lemma =>
      go_wp2
      go_loopw [9, 10, 11] (fun v1 v2 i wr => ∃ j : Nat, j ≤ 64 ∧ i = .int .i64 (j : Int) ∧ Hid (TwoR B (mask 0x36 (k6.take j)) (mask 0x5c (k6.take j)) v1 v2 wr ∧ Below B Wo wr)) (fun _ _ i _ => 64 - (intOf i).toNat)
      case atStart => exact ⟨0, Nat.zero_le _, rfl, TwoR.nil (by rw [HBB.out]; exact Nat.le_refl _), Below.refl _ _⟩
      case round =>
        obtain ⟨j, hj, rfl, hs⟩ := hrel
        by_cases hlt : j < 64
        · have e1 := mask_snoc 0x36 (k := k6) (j := j) (by rw [HKL.out]; exact hlt)
          have e2 := mask_snoc 0x5c (k := k6) (j := j) (by rw [HKL.out]; exact hlt)
          have hml : ∀ m : UInt8, (mask m (k6.take j)).length ≤ 10000 := fun m => by simp [mask]; omega
          obtain ⟨b, hb⟩ : ∃ b, b = k6.getD j 0 := ⟨_, rfl⟩
          obtain ⟨v1', D1, hr1, ht1, hd1, _⟩ := hs.out.1.push (b ^^^ 0x36) (hml _) 22
          obtain ⟨v2', D2, hr2, ht2, hd2, _⟩ := ht1.swap.push (b ^^^ 0x5c) (hml _) 22
          have c1 := (HDc.out.below hs.out.2 hNB).cell j
          rw [V_at (by rw [HKL.out]; exact hlt), ← hb] at c1
          have c2 := (HDc.out.below (hs.out.2.trans hd1) hNB).cell j
          rw [V_at (by rw [HKL.out]; exact hlt), ← hb] at c2
          have x1 := xor_u8 b 0x36
          have x2 := xor_u8 b 0x5c
          simp only [show ((0x36 : UInt8).toNat : Int) = 54 from rfl] at x1
          simp only [show ((0x5c : UInt8).toNat : Int) = 92 from rfl] at x2
          have HE : Hid (TwoR B (mask 0x36 (k6.take (j + 1))) (mask 0x5c (k6.take (j + 1))) v1' v2' D2 ∧ Below B Wo D2) := by
            rw [e1, e2, ← hb]
            exact ⟨ht2.swap, (hs.out.2.trans hd1).trans hd2⟩
          obtain ⟨y1, hy1⟩ : ∃ y, y = b ^^^ 0x36 := ⟨_, rfl⟩
          obtain ⟨y2, hy2⟩ : ∃ y, y = b ^^^ 0x5c := ⟨_, rfl⟩
          rw [← hy1] at hr1 x1
          rw [← hy2] at hr2 x2
          have HRUN1 := Lib.hid hr1
          have HRUN2 := Lib.hid hr2
          clear e1 e2 hml hb hr1 ht1 hd1 hr2 ht2 hd2 hs hy1 hy2
          go_wp2_with (first
            | (at_builtin; refine Lib.wpList_append_run _ rfl (.tmp 44) (.tmp 49) _ _ rfl _ _ rfl rfl v1' D1 HRUN1.out ?_)
            | (at_builtin; refine Lib.wpList_append_run _ rfl (.tmp 51) (.tmp 56) _ _ rfl _ _ rfl rfl v2' D2 HRUN2.out ?_))
          go_roundw
          case rel => exact ⟨j + 1, by omega, by go_num, HE⟩
          case measure => simp [intOf]; omega
        · obtain rfl : j = 64 := by omega
          have e : k6.take 64 = k6 := List.take_of_length_le (by rw [HKL.out]; exact Nat.le_refl _)
          rw [e] at hs
          go_wp2
          go_meet
          exact hs
    case rest =>
      obtain ⟨iv, p1, p2, ht, hbc⟩ : ∃ (iv : Unit) (p1 p2 : Value), TwoR B (mask 0x36 k6) (mask 0x5c k6) u9 u10 wc ∧ Below B Wo wc := ⟨(), u9, u10, hcut.out⟩
      have hml : ∀ m : UInt8, (mask m k6).length = 64 := fun m => by simp [mask, HKL.out]
      have hMw : Byt wc N A m := HMc.out.below (hbc.mono (by omega))
      obtain ⟨v3, W5, hr3, ht3, hd3, _⟩ := ht.add (c := c) HNM.out hMw (by rw [hml, ← HNM.out]; omega) 22
      obtain ⟨A3, c3, hv3, hc31, hc32, hby3⟩ := ht3.byt1
      obtain ⟨L, hL⟩ : ∃ L, L = mask 0x36 k6 ++ m := ⟨_, rfl⟩
      rw [← hL] at ht3 hv3 hc31 hby3
      have hLL : L.length = 64 + n := by rw [hL, List.length_append, hml, ← HNM.out]
      obtain ⟨nl, hnl⟩ : ∃ nl, nl = L.length := ⟨_, rfl⟩
      rw [← hnl] at hv3 hc31
      subst hv3
      have hHA := rhash_any (c := c3) hnl (by omega) hby3
      have HHA := Lib.hid hHA
      have HRUN3 := Lib.hid hr3
      have HT3 := Lib.hid ht3
      have HB3 : Hid (Below B Wo W5) := hbc.trans hd3
      have HL := Lib.hid hL
      have hB5 : B ≤ W5.heap.size := ht3.le
      have hnl2 : nl ≤ 2000 := by omega
      clear hcut ht hbc hml hMw hr3 ht3 hd3 hL hHA hby3 hLL hnl
      go_wp2_with (at_builtin; refine Lib.wpList_append_run _ rfl (.tmp 58) (.tmp 59) _ _ rfl _ _ rfl rfl _ W5 HRUN3.out ?_)
      refine HHA.out.mono ?_
      rintro e W6 ⟨rfl, hb6⟩
      have hlh := hash_length L
      obtain ⟨h, hh⟩ : ∃ h, h = hash L := ⟨_, rfl⟩
      rw [← hh] at hlh ⊢
      obtain ⟨G, hG⟩ : ∃ G, G = W6.heap.size := ⟨_, rfl⟩
      obtain ⟨W7, hW7⟩ : ∃ Wn, Wn = (W6.alloc (.cells (V (Zb 32)) 41)).setRow G (V h) := ⟨_, rfl⟩
      have hb7 : Below W6.heap.size W6 W7 := by rw [hW7]; exact below_setRow ((Below.refl _ _).alloc (Nat.le_refl _) _) (by omega) _
      have hb57 : Below W5.heap.size W5 W7 := hb6.trans (hb7.mono hb6.size)
      have HG7 : Hid (Blk W7 G 41 (V h)) := by
        show Blk _ _ _ _
        rw [hW7]; exact setRow_heap _ G _ _ _ _ (by rw [hG]; exact Blk.new W6 _ _)
      have HT7 : Hid (TwoR B (mask 0x5c k6 ++ h.take 0) L u10 (.slice A3 nl c3) W7) := by
        show TwoR _ _ _ _ _ _
        rw [List.take_zero, List.append_nil]
        exact (HT3.out.grows hb57).swap
      have HB7 : Hid (Below B Wo W7) := HB3.out.trans (hb57.mono hB5)
      have HHD := Lib.hid hh
      have HLH := Lib.hid hlh
      have HGG := Lib.hid hG
      have HW7 := Lib.hid hW7
      clear HHA HRUN3 HT3 HB3 hb6 hb7 hb57 hh hlh hG hW7
      go_upto_block 6 with (first
        | (with_reducible refine wpList_alloc_run _ rfl 41 rfl (alloc_b32 _) ?_)
        | (refine wpList_store_row rfl 41 _ _ rfl W6.heap.size (V h) rfl rfl 41 (V (Zb 32)) (Blk.new W6 _ _) (by rw [V_size, HLH.out]; exact size_b32) (by rw [V_size, V_size, HLH.out]; rfl) (V_one _) ?_; rw [← HGG.out, ← HW7.out]))
      try rw [← HGG.out, ← HW7.out]
      try rw [← HGG.out]
      clear HGG HW7
      go_wp2
      go_loopw [10, 13] (fun v2 i wr => ∃ j : Nat, j ≤ 32 ∧ i = .int .i64 (j : Int) ∧ Hid (TwoR B (mask 0x5c k6 ++ h.take j) L v2 (.slice A3 nl c3) wr ∧ Below B Wo wr ∧ Blk wr G 41 (V h))) (fun _ i _ => 32 - (intOf i).toNat)
      case atStart => exact ⟨0, Nat.zero_le _, rfl, HT7.out, HB7.out, HG7.out⟩
      case round =>
        obtain ⟨j, hj, rfl, hs⟩ := hrel
        have hml : (mask 0x5c k6).length = 64 := by simp [mask, HKL.out]
        by_cases hlt : j < 32
        · have e2 := take_snoc 0 (k := h) (j := j) (by rw [HLH.out]; exact hlt)
          obtain ⟨b, hb⟩ : ∃ b, b = h.getD j 0 := ⟨_, rfl⟩
          obtain ⟨v2', D2, hr2, ht2, hd2, hf2⟩ := hs.out.1.push b (by rw [List.length_append, hml, List.length_take]; omega) 22
          have c1 := hs.out.2.2.cell j
          rw [V_at (by rw [HLH.out]; exact hlt), ← hb] at c1
          have HE : Hid (TwoR B (mask 0x5c k6 ++ h.take (j + 1)) L v2' (.slice A3 nl c3) D2 ∧ Below B Wo D2 ∧ Blk D2 G 41 (V h)) := by
            rw [e2, ← hb, ← List.append_assoc]
            exact ⟨ht2, hs.out.2.1.trans hd2, hf2.blk hs.out.2.2 (fun e => hs.out.1.ne_blk hs.out.2.2 (by decide) e.symm)⟩
          have HRUN2 := Lib.hid hr2
          clear e2 hb hr2 ht2 hd2 hf2 hs hml
          go_wp2_with (at_builtin; refine Lib.wpList_append_run _ rfl (.tmp 66) (.tmp 70) _ _ rfl _ _ rfl rfl v2' D2 HRUN2.out ?_)
          go_roundw
          case rel => exact ⟨j + 1, by omega, by go_num, HE⟩
          case measure => simp [intOf]; omega
        · obtain rfl : j = 32 := by omega
          have e2 : h.take 32 = h := List.take_of_length_le (by rw [HLH.out]; exact Nat.le_refl _)
          rw [e2] at hs
          obtain ⟨A4, c4, rfl, hc41, hc42, hby4⟩ := hs.out.1.byt1
          obtain ⟨n4, hn4⟩ : ∃ nl, nl = (mask 0x5c k6 ++ h).length := ⟨_, rfl⟩
          have hn4b : n4 ≤ 2000 := by rw [hn4, List.length_append, hml, HLH.out]; omega
          have hHA := rhash_any (n := n4) (c := c4) hn4 hn4b hby4
          rw [show hash (mask 0x5c k6 ++ h) = seal_ kb m by rw [HHD.out, HL.out, HK6.out]; rfl] at hHA
          have HHA := Lib.hid hHA
          have HBW : Hid (Below B Wo wr) := hs.out.2.1
          rw [← hn4]
          clear e2 hs hml hn4 hHA hby4 hc41
          go_wp2_with fail
          refine HHA.out.mono ?_
          rintro e W8 ⟨rfl, hb8⟩
          have hb8' : Below B Wo W8 := HBW.out.trans (hb8.mono (by have := HBW.out.size; rw [HBB.out]; exact this))
          have hlh := seal_length kb m
          have HR8 : Hid (Blk W8 N 41 (V (Zb 32))) := HRc.out.below hb8' (by omega)
          have HB8 : Hid (Below w.heap.size w W8) := HBc.out.trans (hb8'.mono (by have := HN.out; omega))
          have HLS := Lib.hid hlh
          clear hb8 hb8' hlh HHA
          go_wp2_with (refine wpList_store_row rfl 41 _ _ rfl N (V (seal_ kb m)) rfl rfl 41 (V (Zb 32)) HR8.out (by rw [V_size, HLS.out]; exact size_b32) (by rw [V_size, V_size, HLS.out]; rfl) (V_one _) ?_)
          refine bodyPost_ret (results_cell_row Tryd.results19 _ _ N 41 (V (seal_ kb m)) (0, 0) _ rfl (setRow_heap W8 N _ _ _ _ HR8.out) Tryd.underlying41 rfl (by rw [V_size, HLS.out]; exact size_b32)) rfl ?_
          exact ⟨rfl, below_setRow HB8.out (by rw [HN.out]; exact Nat.le_refl _) _⟩
end Go.Proofs.YtmbgjijajakgeaaDoor.Sha
