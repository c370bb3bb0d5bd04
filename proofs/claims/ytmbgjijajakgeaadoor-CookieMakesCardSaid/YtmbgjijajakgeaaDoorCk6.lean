/-
  Package cookie: Open.
-/
import Derived.Test.YtmbgjijajakgeaaDoorCk5
set_option linter.unusedVariables false
set_option linter.unusedSimpArgs false
namespace Go.Proofs.YtmbgjijajakgeaaDoor.Cok
open Go.ChangeShapes Go.WideShapes Go.ChangeAt Go.RowKit Go.Proofs.YtmbgjijajakgeaaDoor.Words Go.Proofs.YtmbgjijajakgeaaDoor.Oct Go.Proofs.YtmbgjijajakgeaaDoor.Sha

theorem built0 : Tryd.prog.built 26 [] = some (ckA zeroCK) := by kernel_rfl
theorem wpList_build0 {ops : Array Oper} {rest : List Oper} {o : Oper} {A : Act} {w : World} {Q : Exit → Act → World → Prop} (hg : o.guard = none) (ho : o.op = .build 26 #[])
    (k : wpList Tryd.prog ops Q rest (A.put o.dst (.agg (ckA zeroCK))) w) : wpList Tryd.prog ops Q (o :: rest) A w := by
  refine wpList_build hg _ _ ho ?_ ?_
  · simp only [List.map_toArray, List.map_nil, built0]; rfl
  · simp only [List.map_toArray, List.map_nil, built0]; exact k
theorem open_short {kb b : List UInt8} {now : Nat} (h : b.length < 70) : openP kb b now = (zeroCK, 40) := by unfold openP; rw [if_pos h]
theorem open_long {kb b : List UInt8} {now : Nat} (h : 70 < b.length) : openP kb b now = (zeroCK, 41) := by unfold openP; rw [if_neg (by omega), if_pos h]
theorem open_mac {kb b : List UInt8} {now : Nat} (h : b.length = 70) (h2 : sealed kb (b.take 38) ≠ b) : openP kb b now = (zeroCK, 90) := by unfold openP; rw [if_neg (by omega), if_neg (by omega), if_pos h2]
theorem open_form {kb b : List UInt8} {now : Nat} (h : b.length = 70) (h2 : sealed kb (b.take 38) = b) (h3 : b.getD 25 0 ≠ 0) : openP kb b now = (zeroCK, 42) := by
  unfold openP; rw [if_neg (by omega), if_neg (by omega), if_neg (fun e => e h2), if_pos h3]
theorem open_stale {kb b : List UInt8} {now : Nat} (h : b.length = 70) (h2 : sealed kb (b.take 38) = b) (h3 : b.getD 25 0 = 0) (h4 : 600 < Ser.dist ((getC b).made : Int) (now : Int)) : openP kb b now = (zeroCK, 91) := by
  unfold openP; rw [if_neg (by omega), if_neg (by omega), if_neg (fun e => e h2), if_neg (fun e => e h3), if_pos h4]
theorem open_ok {kb b : List UInt8} {now : Nat} (h : b.length = 70) (h2 : sealed kb (b.take 38) = b) (h3 : b.getD 25 0 = 0) (h4 : ¬ 600 < Ser.dist ((getC b).made : Int) (now : Int)) : openP kb b now = (getC b, 0) := by
  unfold openP; rw [if_neg (by omega), if_neg (by omega), if_neg (fun e => e h2), if_neg (fun e => e h3), if_neg h4]
theorem sealed_iff {kb b : List UInt8} : sealed kb (b.take 38) = b ↔ seal_ kb (b.take 38) = b.drop 38 := by
  unfold sealed
  constructor
  · intro h
    have e : b.take 38 ++ seal_ kb (b.take 38) = b.take 38 ++ b.drop 38 := by rw [h, List.take_append_drop]
    exact List.append_cancel_left e
  · intro h
    rw [h, List.take_append_drop]
theorem info_ck : (Tryd.prog.info? 26).map (fun i => (i.zero, i.size)) = some (some (.agg (ckA zeroCK)), 11) := by kernel_rfl
theorem alloc_ck (w : World) : (Instr.alloc 26 true (.tuple #[])).run Tryd.prog w = .ok (.pointer (some ⟨w.heap.size, 0, none⟩)) (w.alloc (.cells (ckA zeroCK) 26)) := run_alloc_agg info_ck w
/-- What Open leaves. -/
def OpenDone (w : World) (r : CK × Nat) (e : Ending) (w' : World) : Prop := e = .returned (.tuple #[.agg (ckA r.1), .int .i64 (r.2 : Int)]) ∧ Below w.heap.size w w'
set_option maxRecDepth 20000 in
set_option maxHeartbeats 8000000 in
theorem open_any {vk : Value} {kb b : List UInt8} {A : Option Addr} {n c : Nat} {now : Nat} {w : World} (hk : PtV w w.heap.size vk kb) (hkl : kb.length ≤ 1000) (hn : n = b.length) (hl : n ≤ 1000) (hby : Byt w w.heap.size A b) (hK : Laid w) :
    Calls Tryd.prog 9 #[vk, .slice A n c, .int .u32 (now : Int)] w (OpenDone w (openP kb b now)) := by
  obtain ⟨N, hN⟩ : ∃ N, N = w.heap.size := ⟨_, rfl⟩
  obtain ⟨W1, hW1⟩ : ∃ W, W = w.alloc (.cells (ckA zeroCK) 26) := ⟨_, rfl⟩
  have hb1 : Below w.heap.size w W1 := by rw [hW1]; exact below_new w _
  have HB1 : Hid (Below w.heap.size w W1) := hb1
  have HR1 : Hid (Blk W1 N 26 (ckA zeroCK)) := by show Blk _ _ _ _; rw [hW1, hN]; exact Blk.new w _ _
  have hs1 : W1.heap.size = N + 1 := by rw [hW1, hN]; simp
  have HS1 := Lib.hid hs1
  have HKK := Lib.hid hk
  have HKL := Lib.hid hkl
  have HLD := Lib.hid hK
  have HW0 : Hid (2 ≤ w.heap.size) := hK.size
  have HPA := Lib.hid (parted_any (c := c) (w := W1) hn hl ((hby.below hb1).more hb1.size))
  have HN := Lib.hid hN
  have HNB := Lib.hid hn
  have HW1 := Lib.hid hW1
  clear hk hkl hK hb1 hN hW1 hs1 hby hn hl
  obtain ⟨AK, nK, cK, rfl, _, _, _, _⟩ := HKK.out
  rename_i hx1 hx2 hx3 hx4
  clear hx1 hx2 hx3 hx4
  go_enter Tryd.func9, Tryd.ntmps9
  go_upto_region 1 with (fail)
  change Code.wp _ _ _ _ (w.alloc (.cells (ckA zeroCK) 26))
  rw [← HW1.out, ← HN.out]
  clear HW1
  go_wp2_with fail
  refine HPA.out.mono ?_
  rintro e W2 ⟨v, s, err, rfl, hsl, hb2, h70, hlt, hgt⟩
  obtain ⟨G, hG⟩ : ∃ G, G = W2.heap.size := ⟨_, rfl⟩
  obtain ⟨W3, hW3⟩ : ∃ W3, W3 = put32 W2 s := ⟨_, rfl⟩
  have hb3 : Below W2.heap.size W2 W3 := by rw [hW3]; exact put32_below _ _
  have HG3 : Hid (Blk W3 G 41 (V s)) := by show Blk _ _ _ _; rw [hW3, hG]; exact put32_blk _ _
  have hb13 : Below W1.heap.size W1 W3 := hb2.trans (hb3.mono hb2.size)
  have HR3 : Hid (Blk W3 N 26 (ckA zeroCK)) := HR1.out.below hb13 (by have := HS1.out; omega)
  have HB3 : Hid (Below w.heap.size w W3) := HB1.out.trans (hb13.mono HB1.out.size)
  have HSL := Lib.hid hsl
  have HW3 := Lib.hid hW3
  have HGG := Lib.hid hG
  have H70 : Hid (b.length = 70 → err = 0 ∧ Words.Own W3 W1.heap.size v (b.take 38) ∧ s = b.drop 38) := fun h => ⟨(h70 h).1, own_below (h70 h).2.1 hb3, (h70 h).2.2⟩
  have HLT := Lib.hid hlt
  have HGT := Lib.hid hgt
  clear hsl hb2 h70 hlt hgt hG hW3 hb3 hb13 HPA HR1 HB1
  go_upto_region 2 with (first
    | (with_reducible refine wpList_alloc32 rfl rfl ?_)
    | (refine wpList_store32 rfl _ _ rfl HSL.out rfl rfl ?_; rw [← HW3.out, ← HGG.out]))
  try rw [← HW3.out, ← HGG.out]
  try rw [← HGG.out]
  clear HW3 HGG
  have hout : ∀ (V : World) (c' : CK), Blk V N 26 (ckA zeroCK) → Below w.heap.size w V → Blk (V.setRow N (ckA c')) N 26 (ckA c') ∧ Below w.heap.size w (V.setRow N (ckA c')) :=
    fun V c' h1 h2 => ⟨setRow_heap _ _ _ _ _ _ h1, below_setRow h2 (by rw [HN.out]; exact Nat.le_refl _) _⟩
  have HOUT := Lib.hid hout
  clear hout
  by_cases h1 : b.length < 70
  · have e := HLT.out h1
    subst e
    have HO := Lib.hid (HOUT.out W3 zeroCK HR3.out HB3.out)
    have HE := Lib.hid (open_short (kb := kb) (now := now) h1)
    clear h1 H70 HLT HGT
    go_wp2_with (first
      | (refine wpList_build0 rfl rfl ?_)
      | (refine wpList_store_row rfl 26 _ _ rfl N (ckA zeroCK) rfl rfl 26 (ckA zeroCK) HR3.out (ck_size _) rfl (ck_one _) ?_))
    (try simp only [Exit.inBlock, Exit.then])
    refine bodyPost_ret (res_ck rfl _ _ N zeroCK rfl HO.out.1) rfl ?_
    exact ⟨by rw [HE.out]; rfl, HO.out.2⟩
  · by_cases h2 : 70 < b.length
    · have e := HGT.out h2
      subst e
      have HO := Lib.hid (HOUT.out W3 zeroCK HR3.out HB3.out)
      have HE := Lib.hid (open_long (kb := kb) (now := now) h2)
      clear h1 h2 H70 HLT HGT
      go_wp2_with (first
        | (refine wpList_build0 rfl rfl ?_)
        | (refine wpList_store_row rfl 26 _ _ rfl N (ckA zeroCK) rfl rfl 26 (ckA zeroCK) HR3.out (ck_size _) rfl (ck_one _) ?_))
      (try simp only [Exit.inBlock, Exit.then])
      refine bodyPost_ret (res_ck rfl _ _ N zeroCK rfl HO.out.1) rfl ?_
      exact ⟨by rw [HE.out]; rfl, HO.out.2⟩
    · have h3 : b.length = 70 := by omega
      have HBL := Lib.hid h3
      obtain ⟨e1, ho, e2⟩ := H70.out h3
      subst e1
      obtain ⟨t, ht⟩ : ∃ t, t = b.take 38 := ⟨_, rfl⟩
      have htl : t.length = 38 := by rw [ht, List.length_take]; omega
      rw [← ht] at ho
      obtain ⟨A5, c5, hv5, hc51, hc52⟩ := own_slice ho
      rw [htl] at hv5
      subst hv5
      have HTL := Lib.hid htl
      have HTT := Lib.hid ht
      have HO3 := Lib.hid ho
      obtain ⟨q, hq⟩ : ∃ q, q = seal_ kb t := ⟨_, rfl⟩
      have HQL : Hid (q.length = 32) := by show q.length = 32; rw [hq]; exact seal_length _ _
      obtain ⟨ok, hok⟩ : ∃ x, x = decide (q = s) := ⟨_, rfl⟩
      have HOK := Lib.hid hok
      have HQQ := Lib.hid hq
      have HSS := Lib.hid e2
      clear h1 h2 h3 e2 ht htl ho hc51 hc52 hq hok H70 HLT HGT
      go_wp2_with fail
      have HST : Hid (Below W3.heap.size W3 W3.drew) := Below.drew (Below.refl _ _)
      go_cut [28, 29] from 23 to 29 (fun _ s29 wx => s29 = .bool (!ok) ∧ Hid (Below W3.heap.size W3 wx))
      case first =>
        refine wp_region_stage (fun V V' => Below V.heap.size V V') (fun m V => Hid (Below W3.heap.size W3 V)) [(false, .exact (.slice AK nK cK)),
            (false, .exact (.slice A5 38 c5)),
            (false, .grows (Built [.slice A5 38 c5])),
            (false, .exact (.agg (Sha.V q))),
            (false, .exact (.agg (Sha.V s))),
            (false, .exact (.bool ok)),
            (false, .exact (.bool (!ok)))] (by kernel_rfl) (by kernel_rfl) (by kernel_rfl) rfl ?lasts ?start ?walk
        case lasts => exact ⟨fun _ _ _ h k => h.below k, trivial⟩
        case start => exact HST
        case walk =>
          refine stage_pure rfl (fun V => Below.refl _ V) (fun V m hS hl => by go_simp) ?_
          simp only [Act.put, List.setIfInBounds_toArray, List.set_cons_zero, List.set_cons_succ, List.cons_append, List.nil_append]
          refine stage_pure rfl (fun V => Below.refl _ V) (fun V m hS hl => by go_simp) ?_
          simp only [Act.put, List.setIfInBounds_toArray, List.set_cons_zero, List.set_cons_succ, List.cons_append, List.nil_append]
          refine stage_grows rfl (fun V m hS hl => by
              go_simp
              exact ⟨below_new V _, Built.new V [.slice A5 38 c5], hS.out.trans ((below_new V _).mono hS.out.size)⟩) (fun v25 => ?_)
          simp only [Act.put, List.setIfInBounds_toArray, List.set_cons_zero, List.set_cons_succ, List.cons_append, List.nil_append]
          refine stage_exact rfl (fun V m hS hl => by
              go_simp
              refine Calls.mono (seal_b (xs := [.slice A5 38 c5]) (ls := [t]) (HKK.out.grow (HB3.out.trans (hS.out.mono HB3.out.size))) (hl.1 (by kernel_rfl)) ⟨(PtV.own HO3.out).grow hS.out, trivial⟩ (by have := HKL.out; simp [HTL.out]; omega) (HLD.out.below (HB3.out.trans (hS.out.mono HB3.out.size)) HW0.out)) ?_
              rintro e V' ⟨rfl, hb⟩
              exact ⟨_, rfl, hb, by rw [HQQ.out]; simp, hS.out.trans (hb.mono hS.out.size)⟩) ?_
          simp only [Act.put, List.setIfInBounds_toArray, List.set_cons_zero, List.set_cons_succ, List.cons_append, List.nil_append]
          refine stage_pure rfl (fun V => Below.refl _ V) (fun V m hS hl => by exact exec_load rfl rfl (load_b32 (HG3.out.below hS.out HG3.out.lt) HSL.out)) ?_
          simp only [Act.put, List.setIfInBounds_toArray, List.set_cons_zero, List.set_cons_succ, List.cons_append, List.nil_append]
          refine stage_exact rfl (fun V m hS hl => by
              go_simp
              refine Calls.mono (same_any q s HQL.out HSL.out V) ?_
              rintro e V' ⟨rfl, hb⟩
              exact ⟨_, rfl, hb, by rw [HOK.out], hS.out.trans (hb.mono hS.out.size)⟩) ?_
          simp only [Act.put, List.setIfInBounds_toArray, List.set_cons_zero, List.set_cons_succ, List.cons_append, List.nil_append]
          refine stage_pure rfl (fun V => Below.refl _ V) (fun V m hS hl => by go_simp) ?_
          simp only [Act.put, List.setIfInBounds_toArray, List.set_cons_zero, List.set_cons_succ, List.cons_append, List.nil_append]
          refine stage_nil (fun V2 hS hF => ?_)
          have HS2 : Hid (Below W3.heap.size W3 V2) := hS
          clear hS hF HST
          go_wp2_with fail
          go_meet
          exact ⟨rfl, HS2⟩
      case rest =>
        obtain ⟨rfl, hb4⟩ := hcut
        have HR4 : Hid (Blk wc N 26 (ckA zeroCK)) := HR3.out.below hb4.out HR3.out.lt
        have HB4 : Hid (Below w.heap.size w wc) := HB3.out.trans (hb4.out.mono HB3.out.size)
        have HO4 : Hid (Words.Own wc W1.heap.size (.slice A5 38 c5) t) := own_below HO3.out hb4.out
        clear hb4 HST HR3 HB3 HO3 HG3
        by_cases hk : q = s
        · have e : ok = true := by rw [HOK.out]; exact decide_eq_true hk
          subst e
          have h2 : sealed kb (b.take 38) = b := sealed_iff.2 (by rw [← HTT.out, ← HQQ.out, ← HSS.out]; exact hk)
          have H2 := Lib.hid h2
          have hcg : getC t = getC b := by rw [HTT.out]; exact getC_take b
          have hz : t.getD 25 0 = b.getD 25 0 := by rw [HTT.out]; exact getD_take b
          have HRA := Lib.hid (read_any (n := 38) (c := c5) HTL.out.symm HTL.out (Words.Own.byt HO4.out))
          obtain ⟨ck, hck⟩ : ∃ ck, ck = getC b := ⟨_, rfl⟩
          obtain ⟨z, hzz⟩ : ∃ z, z = b.getD 25 0 := ⟨_, rfl⟩
          rw [hcg, hz, ← hck, ← hzz] at HRA
          have HCK := Lib.hid hck
          have HZZ := Lib.hid hzz
          clear hk h2 hcg hz hck hzz HO4 HOK
          go_wp2_with fail
          refine HRA.out.mono ?_
          rintro e W5 ⟨rfl, hb5⟩
          obtain ⟨G2, hG2⟩ : ∃ G, G = W5.heap.size := ⟨_, rfl⟩
          obtain ⟨W6, hW6⟩ : ∃ W, W = (W5.alloc (.cells (ckA zeroCK) 26)).setRow G2 (ckA ck) := ⟨_, rfl⟩
          have hb6 : Below W5.heap.size W5 W6 := by rw [hW6]; exact below_setRow (below_new W5 _) (by omega) _
          have HG6 : Hid (Blk W6 G2 26 (ckA ck)) := by show Blk _ _ _ _; rw [hW6]; exact setRow_heap _ _ _ _ _ _ (by rw [hG2]; exact Blk.new W5 _ _)
          have hb46 : Below wc.heap.size wc W6 := hb5.trans (hb6.mono hb5.size)
          have HR6 : Hid (Blk W6 N 26 (ckA zeroCK)) := HR4.out.below hb46 HR4.out.lt
          have HB6 : Hid (Below w.heap.size w W6) := HB4.out.trans (hb46.mono HB4.out.size)
          have HW6 := Lib.hid hW6
          have HGG := Lib.hid hG2
          clear hb5 hb6 hb46 hW6 hG2 HRA HR4 HB4
          go_upto_region 7 with (first
            | (with_reducible refine wpList_alloc_run _ rfl 26 rfl (alloc_ck _) ?_)
            | (refine wpList_store_row rfl 26 _ _ rfl W5.heap.size (ckA ck) rfl rfl 26 (ckA zeroCK) (Blk.new W5 _ _) (ck_size _) rfl (ck_one _) ?_; rw [← HGG.out, ← HW6.out]))
          try rw [← HGG.out, ← HW6.out]
          try rw [← HGG.out]
          clear HW6 HGG
          by_cases hz : z = 0
          · subst hz
            have c8 : W6.cell? ⟨G2, 8, none⟩ = some (.int .u32 (ck.made : Int)) := HG6.out.cell 8
            obtain ⟨d, hd⟩ : ∃ d, d = Ser.dist (ck.made : Int) (now : Int) := ⟨_, rfl⟩
            have HDD := Lib.hid hd
            have HDC : Hid (∀ V : World, Calls Tryd.prog 18 #[.int .u32 (ck.made : Int), .int .u32 (now : Int)] V fun e w' => e = .returned (.int .u32 d) ∧ V = w') := fun V => by rw [hd]; exact Ser.dist_any _ _ V
            obtain ⟨mm, hmm⟩ : ∃ m : Nat, m = ck.made := ⟨_, rfl⟩
            rw [← hmm] at c8 HDC
            have HMM := Lib.hid hmm
            clear hd hmm
            by_cases hst : 600 < d
            · have HO := Lib.hid (HOUT.out W6 zeroCK HR6.out HB6.out)
              have HE := Lib.hid (open_stale (kb := kb) (now := now) HBL.out H2.out HZZ.out.symm (by rw [← HCK.out, ← HDD.out]; exact hst))
              go_wp2_with (first
                | (go_at_call 18; refine (HDC.out _).mono ?_; rintro e w' ⟨rfl, rfl⟩)
                | (refine wpList_build0 rfl rfl ?_)
                | (refine wpList_store_row rfl 26 _ _ rfl N (ckA zeroCK) rfl rfl 26 (ckA zeroCK) HR6.out (ck_size _) rfl (ck_one _) ?_))
              (try simp only [Exit.inBlock, Exit.then])
              refine bodyPost_ret (res_ck rfl _ _ N zeroCK rfl HO.out.1) rfl ?_
              exact ⟨by rw [HE.out]; rfl, HO.out.2⟩
            · have HO := Lib.hid (HOUT.out W6 ck HR6.out HB6.out)
              have HE := Lib.hid (open_ok (kb := kb) (now := now) HBL.out H2.out HZZ.out.symm (by rw [← HCK.out, ← HDD.out]; exact hst))
              go_wp2_with (first
                | (go_at_call 18; refine (HDC.out _).mono ?_; rintro e w' ⟨rfl, rfl⟩)
                | (refine wpList_load_row rfl 26 _ rfl G2 rfl 26 (ckA ck) (0, 0) _ HG6.out Tryd.underlying26 rfl (ck_size _) ?_)
                | (refine wpList_store_row rfl 26 _ _ rfl N (ckA ck) rfl rfl 26 (ckA zeroCK) HR6.out (ck_size _) rfl (ck_one _) ?_))
              (try simp only [Exit.inBlock, Exit.then])
              refine bodyPost_ret (res_ck rfl _ _ N ck rfl HO.out.1) rfl ?_
              exact ⟨by rw [HE.out, HCK.out]; rfl, HO.out.2⟩
          · have hzi : ¬ ((z.toNat : Int) = 0) := fun e => hz (by
              apply UInt8.toNat_inj.1
              have : z.toNat = 0 := by omega
              rw [this]; rfl)
            have HO := Lib.hid (HOUT.out W6 zeroCK HR6.out HB6.out)
            have HE := Lib.hid (open_form (kb := kb) (now := now) HBL.out H2.out (by rw [← HZZ.out]; exact hz))
            clear hz
            go_wp2_with (first
              | (refine wpList_build0 rfl rfl ?_)
              | (refine wpList_store_row rfl 26 _ _ rfl N (ckA zeroCK) rfl rfl 26 (ckA zeroCK) HR6.out (ck_size _) rfl (ck_one _) ?_))
            (try simp only [Exit.inBlock, Exit.then])
            refine bodyPost_ret (res_ck rfl _ _ N zeroCK rfl HO.out.1) rfl ?_
            exact ⟨by rw [HE.out]; rfl, HO.out.2⟩
        · have e : ok = false := by rw [HOK.out]; exact decide_eq_false hk
          subst e
          have h2 : sealed kb (b.take 38) ≠ b := fun h => hk (by rw [HQQ.out, HSS.out, HTT.out]; exact sealed_iff.1 h)
          have HO := Lib.hid (HOUT.out wc zeroCK HR4.out HB4.out)
          have HE := Lib.hid (open_mac (kb := kb) (now := now) HBL.out h2)
          clear hk h2 HOK
          go_wp2_with (first
            | (refine wpList_build0 rfl rfl ?_)
            | (refine wpList_store_row rfl 26 _ _ rfl N (ckA zeroCK) rfl rfl 26 (ckA zeroCK) HR4.out (ck_size _) rfl (ck_one _) ?_))
          (try simp only [Exit.inBlock, Exit.then])
          refine bodyPost_ret (res_ck rfl _ _ N zeroCK rfl HO.out.1) rfl ?_
          exact ⟨by rw [HE.out]; rfl, HO.out.2⟩
end Go.Proofs.YtmbgjijajakgeaaDoor.Cok
