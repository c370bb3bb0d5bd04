/-
  The document's Get of parameters.
-/
import Derived.Test.YtpgklhecmafnbaaParRef
set_option linter.unusedVariables false
set_option linter.unusedSimpArgs false
namespace Go.Proofs.Ytpgklhecmafnbaa.Par
open Go.ChangeShapes Go.WideShapes Go.ChangeAt Go.RowKit Go.Deep Go.Proofs.Ytpgklhecmafnbaa.Words Go.Proofs.Ytpgklhecmafnbaa.Oct

/-- The row behind what was copied, ahead of the append. -/
theorem row_ready2 {w wr w2 : World} {v : Value} {ls : List Prm} {n : Nat} {o : Obj} (h : OwnPs wr w.heap.size v ls) (hn : n = ls.length) (hb : Below wr.heap.size wr w2) :
    ∃ xs, Hid (OwnPs (w2.alloc o) w.heap.size v ls) ∧ Hid ((w2.alloc o).ownsRow w.heap.size 131 2 v n xs) ∧ Hid (∀ i q, ls[i]? = some q → q.1 < 65536 ∧ ∃ a c, xs[i * 2]? = some (.int .u16 (q.1 : Int)) ∧ xs[i * 2 + 1]? = some (.slice a q.2.length c) ∧ q.2.length ≤ c ∧ c ≤ 9223372036854775807 ∧ Own (w2.alloc o) w.heap.size (.slice a q.2.length c) q.2) := by
  have h4 : OwnPs (w2.alloc o) w.heap.size v ls := h.grows (hb.alloc hb.size o)
  obtain ⟨xs, h1, h2⟩ := id h4
  rw [← hn] at h1
  exact ⟨xs, h4, h1, h2⟩
/-- What the document's Get answers. -/
def GetTold (w : World) (x : List UInt8) (e : Ending) (w' : World) : Prop :=
  (∃ v ls, getL x = .ok ls ∧ e = .returned (.tuple #[v, .int .i64 0]) ∧ OwnPs w' w.heap.size v ls) ∨
  (∃ c, getL x = .error c ∧ e = .returned (.tuple #[.slice none 0 0, .int .i64 (c : Int)]))
theorem num_two (l : List UInt8) (h : 2 ≤ l.length) : num (l.take 2) = 256 * (l[0]).toNat + (l[1]).toNat := by
  match l, h with
  | a :: b :: r, _ => simp [num]
theorem one_short {b : List UInt8} (h : b.length < 4) : one b = .error 40 := by unfold one; rw [if_pos h]
theorem one_small {b : List UInt8} (h : ¬ b.length < 4) (h2 : num ((b.drop 2).take 2) < 4) : one b = .error 42 := by unfold one; rw [if_neg h, if_pos h2]
theorem one_cut {b : List UInt8} {m : Nat} (h : ¬ b.length < 4) (hm : m = num ((b.drop 2).take 2)) (h2 : ¬ m < 4) (h3 : b.length < (m + 3) / 4 * 4) : one b = .error 40 := by
  subst hm
  unfold one; rw [if_neg h, if_neg h2, if_pos h3]
theorem one_pad {b : List UInt8} {m : Nat} (h : ¬ b.length < 4) (hm : m = num ((b.drop 2).take 2)) (h2 : ¬ m < 4) (h3 : ¬ b.length < (m + 3) / 4 * 4) (h4 : ((b.drop m).take ((m + 3) / 4 * 4 - m)).any (· != 0) = true) : one b = .error 42 := by
  subst hm
  unfold one; rw [if_neg h, if_neg h2, if_neg h3, if_pos h4]
theorem one_good {b : List UInt8} {m : Nat} (h : ¬ b.length < 4) (hm : m = num ((b.drop 2).take 2)) (h2 : ¬ m < 4) (h3 : ¬ b.length < (m + 3) / 4 * 4) (h4 : ((b.drop m).take ((m + 3) / 4 * 4 - m)).any (· != 0) = false) :
    one b = .ok ((num (b.take 2), (b.drop 4).take (m - 4)), (m + 3) / 4 * 4) := by
  subst hm
  unfold one; rw [if_neg h, if_neg h2, if_neg h3, if_neg (by rw [h4]; decide)]
theorem any_at {l : List UInt8} {k : Nat} (hk : k < l.length) (h : l[k] ≠ 0) : l.any (· != 0) = true := by
  rw [List.any_eq_true]
  exact ⟨l[k], List.getElem_mem _, by simpa using h⟩
theorem any_take {l : List UInt8} {k : Nat} (hk : k < l.length) (h : (l.take k).any (· != 0) = false) (hz : l[k] = 0) : (l.take (k + 1)).any (· != 0) = false := by
  rw [List.take_succ_eq_append_getElem hk, List.any_append, h, hz]; rfl
theorem err_told {w w' : World} {x : List UInt8} {acc : List Prm} {j c : Nat} (hj : j < x.length) (h : getL x = behind acc (getL (x.drop j))) (ho : one (x.drop j) = .error c) : GetTold w x (.returned (.tuple #[.slice none 0 0, .int .i64 (c : Int)])) w' := by
  refine .inr ⟨c, ?_, rfl⟩
  rw [h, getL_err (fun e => by have := congrArg List.length e; rw [List.length_drop] at this; simp at this; omega) ho]
  rfl
set_option maxHeartbeats 8000000 in
set_option maxRecDepth 100000 in
theorem rget_any (A : Option Addr) (x : List UInt8) (n c : Nat) (w : World) (hn : n = x.length) (hx : n ≤ 200000) (hnc : n ≤ c) (hcm : c ≤ 9223372036854775807) (h : Byt w w.heap.size A x) :
    Calls Try.prog 39 #[.slice A n c] w fun e w' => GetTold w x e w' ∧ Below w.heap.size w w' := by
  obtain ⟨i0, hi0, hz0, hz1, hz2⟩ := info_parts3 u8_info
  obtain ⟨j0, hj0, hjz0, hjz1, hjz2⟩ := info_parts3 prm_info
  have HX := Lib.hid h
  have HN := Lib.hid hn
  clear h hn
  go_enter Try.func39, Try.ntmps39
  go_wp2_with fail
  go_loopw [2, 3, 4, 5, 6, 7, 8, 10] (fun _ _ s i _ _ _ _ wr => ∃ (j na : Nat) (acc : List Prm) (Ax : Option Addr) (cx : Nat), j ≤ n ∧ i = .int .i64 j ∧ s = .slice Ax na cx ∧ 4 * na ≤ j ∧ na ≤ cx ∧ cx ≤ 9223372036854775807 ∧ Hid (na = acc.length) ∧ Hid (getL x = behind acc (getL (x.drop j))) ∧ Hid (OwnPs wr w.heap.size (.slice Ax na cx) acc) ∧ Hid (Below w.heap.size w wr)) (fun _ _ _ i _ _ _ _ _ => n - (intOf i).toNat)
  case atStart => exact ⟨0, 0, [], none, 0, by omega, rfl, rfl, by omega, by omega, by omega, rfl, by rw [List.drop_zero]; exact (behind_nil _).symm, OwnPs.nil _ _, Below.refl _ _⟩
  case round =>
    obtain ⟨j, na, acc, Ax, cx, hj, rfl, rfl, hna, hnc', hcx, HNA, HG, HO, HB⟩ := hrel
    by_cases hlt : (j : Int) < (n : Int)
    · have hjx : j < x.length := by rw [← HN.out]; omega
      have hdl : (x.drop j).length = n - j := by rw [List.length_drop, HN.out]
      have HDL := Lib.hid hdl
      have e0 : IntKind.i64.wrap ((n : Int) - (j : Int)) = (n : Int) - (j : Int) := IntWalk.i64_in _ (by omega)
      by_cases h4 : (n : Int) - (j : Int) < 4
      · have HT := Lib.hid (err_told (w := w) (w' := wr) hjx HG.out (one_short (by rw [hdl]; omega)))
        clear hdl
        go_wp2_with fail
        go_ret2
        exact ⟨HT.out, HB.out⟩
      · obtain ⟨ad, hA, hb0, hc0⟩ := (HX.out.below HB.out).at_byte (k := j) (by omega)
        obtain ⟨ad1, hA1, hb1, hc1⟩ := (HX.out.below HB.out).at_byte (k := j + 1) (by rw [← HN.out]; omega)
        obtain ⟨ad2, hA2, hb2, hc2⟩ := (HX.out.below HB.out).at_byte (k := j + 2) (by rw [← HN.out]; omega)
        obtain ⟨ad3, hA3, hb3, hc3⟩ := (HX.out.below HB.out).at_byte (k := j + 3) (by rw [← HN.out]; omega)
        subst hA
        injection hA1 with hA1
        injection hA2 with hA2
        injection hA3 with hA3
        subst hA1 hA2 hA3
        rw [add_lit _ (by omega)] at hc1 hc2 hc3
        obtain ⟨y0, hy0⟩ : ∃ y, y = x[j] := ⟨_, rfl⟩
        obtain ⟨y1, hy1⟩ : ∃ y, y = x[j + 1]'(by rw [← HN.out]; omega) := ⟨_, rfl⟩
        obtain ⟨y2, hy2⟩ : ∃ y, y = x[j + 2]'(by rw [← HN.out]; omega) := ⟨_, rfl⟩
        obtain ⟨y3, hy3⟩ : ∃ y, y = x[j + 3]'(by rw [← HN.out]; omega) := ⟨_, rfl⟩
        have HK : Hid (num ((x.drop j).take 2) = 256 * y0.toNat + y1.toNat) := by
          rw [num_two _ (by rw [hdl]; omega), List.getElem_drop, List.getElem_drop, hy0, hy1]; rfl
        have HM : Hid (256 * y2.toNat + y3.toNat = num (((x.drop j).drop 2).take 2)) := by
          rw [num_two _ (by rw [List.length_drop, hdl]; omega)]
          simp only [List.getElem_drop, hy2, hy3]
          exact trivial
        rw [← hy0] at hc0
        rw [← hy1] at hc1
        rw [← hy2] at hc2
        rw [← hy3] at hc3
        have b0 := u8_bd y0
        have b1 := u8_bd y1
        have b2 := u8_bd y2
        have b3 := u8_bd y3
        clear hy0 hy1 hy2 hy3 hdl hb0 hb1 hb2 hb3
        have f1 : IntKind.i64.wrap ((j : Int) + 1) = (j : Int) + 1 := IntWalk.i64_in _ (by omega)
        have f2 : IntKind.i64.wrap ((j : Int) + 2) = (j : Int) + 2 := IntWalk.i64_in _ (by omega)
        have f3 : IntKind.i64.wrap ((j : Int) + 3) = (j : Int) + 3 := IntWalk.i64_in _ (by omega)
        have g1 : (j : Int) + 1 < (n : Int) := by omega
        have g2 : (j : Int) + 2 < (n : Int) := by omega
        have g3 : (j : Int) + 3 < (n : Int) := by omega
        have g4 : (0 : Int) ≤ (j : Int) := by omega
        have k0 : IntKind.i64.wrap (y0.toNat : Int) = (y0.toNat : Int) := IntWalk.i64_in _ (by omega)
        have k1 : IntKind.i64.wrap (y1.toNat : Int) = (y1.toNat : Int) := IntWalk.i64_in _ (by omega)
        have k2 : IntKind.i64.wrap (y2.toNat : Int) = (y2.toNat : Int) := IntWalk.i64_in _ (by omega)
        have k3 : IntKind.i64.wrap (y3.toNat : Int) = (y3.toNat : Int) := IntWalk.i64_in _ (by omega)
        go_wp2_with fail
        go_quiet (fail)
        obtain ⟨W1, hW1⟩ : ∃ W1, W1 = wr.drewN nq := ⟨_, rfl⟩
        have hc2 : W1.cell? ⟨ad.block, ad.off + (j + 2), none⟩ = some (.int .u8 (y2.toNat : Int)) := by rw [hW1]; exact hc2
        have hc3 : W1.cell? ⟨ad.block, ad.off + (j + 3), none⟩ = some (.int .u8 (y3.toNat : Int)) := by rw [hW1]; exact hc3
        have HB1 : Hid (Below w.heap.size w W1) := by rw [hW1]; exact below_drewN HB.out _
        have HO1 : Hid (OwnPs W1 w.heap.size (.slice Ax na cx) acc) := by rw [hW1]; exact HO.out.fr ((Fr.refl (fun _ => False) wr).drewN _) (fun i hi => hi.elim)
        rw [← hW1]
        clear hW1 hc0 hc1 HB HO
        go_wp2_with fail
        go_quiet (fail)
        obtain ⟨W2, hW2⟩ : ∃ W2, W2 = W1.drewN nq := ⟨_, rfl⟩
        have HB2 : Hid (Below w.heap.size w W2) := by rw [hW2]; exact below_drewN HB1.out _
        have HO2 : Hid (OwnPs W2 w.heap.size (.slice Ax na cx) acc) := by rw [hW2]; exact HO1.out.fr ((Fr.refl (fun _ => False) W1).drewN _) (fun i hi => hi.elim)
        obtain ⟨m, hm⟩ : ∃ m, m = 256 * y2.toNat + y3.toNat := ⟨_, rfl⟩
        obtain ⟨kd, hkd⟩ : ∃ kd, kd = 256 * y0.toNat + y1.toNat := ⟨_, rfl⟩
        rw [← hW2, show (256 : Int) * (y2.toNat : Int) + (y3.toNat : Int) = (m : Int) by omega, show (256 : Int) * (y0.toNat : Int) + (y1.toNat : Int) = (kd : Int) by omega]
        have hmb : m ≤ 65535 := by omega
        have hkb : kd ≤ 65535 := by omega
        rw [← hm] at HM
        rw [← hkd] at HK
        clear hW2 hc2 hc3 HB1 HO1 hm hkd b0 b1 b2 b3 k0 k1 k2 k3 f1 f2 f3 g1 g2 g3 e0
        by_cases hm4 : (m : Int) < 4
        · have HT := Lib.hid (err_told (w := w) (w' := W2) hjx HG.out (one_small (by rw [HDL.out]; omega) (by rw [← HM.out]; omega)))
          go_wp2_with fail
          go_ret2
          exact ⟨HT.out, HB2.out⟩
        · go_upto_region 11 with (fail)
          obtain ⟨al, hal⟩ : ∃ al, al = (m + 3) / 4 * 4 := ⟨_, rfl⟩
          have HAL := Lib.hid hal
          have ha1 : m ≤ al ∧ al ≤ m + 3 ∧ 4 ≤ al := by omega
          rw [show ((m : Int) + 3) / 4 * 4 = (al : Int) by omega]
          have e0 : IntKind.i64.wrap ((n : Int) - (j : Int)) = (n : Int) - (j : Int) := IntWalk.i64_in _ (by omega)
          clear hal
          obtain ⟨ha1, ha2, ha3⟩ := ha1
          by_cases hcut : (n : Int) - (j : Int) < (al : Int)
          · have HT := Lib.hid (err_told (w := w) (w' := W2) hjx HG.out (one_cut (m := m) (by rw [HDL.out]; omega) HM.out (by omega) (by rw [HDL.out, ← HAL.out]; omega)))
            go_wp2_with fail
            go_ret2
            exact ⟨HT.out, HB2.out⟩
          · go_upto_region 13 with (fail)
            have e1 : IntKind.i64.wrap ((j : Int) + (m : Int)) = (j : Int) + (m : Int) := IntWalk.i64_in _ (by omega)
            have e2 : IntKind.i64.wrap ((j : Int) + (al : Int)) = (j : Int) + (al : Int) := IntWalk.i64_in _ (by omega)
            have e3 : (j : Int) + (m : Int) ≤ (j : Int) + (al : Int) := by omega
            have e4 : (j : Int) + (al : Int) ≤ (c : Int) := by omega
            have e5 : (0 : Int) ≤ (j : Int) + (m : Int) := by omega
            have e6 : ((j : Int) + (m : Int)).toNat = j + m := by omega
            have e7 : ((j : Int) + (al : Int)).toNat = j + al := by omega
            have e8 : (j + al) - (j + m) = al - m := by omega
            have HX2 : Hid (Byt W2 w.heap.size (some ad) x) := HX.out.below HB2.out
            obtain ⟨z, hz⟩ : ∃ z, z = ((x.drop j).drop m).take (al - m) := ⟨_, rfl⟩
            have HZL : Hid (z.length = al - m) := by rw [hz, List.length_take, List.length_drop, HDL.out]; show _ = _; omega
            have HZ := Lib.hid hz
            obtain ⟨pn, hpn⟩ : ∃ pn, pn = al - m := ⟨_, rfl⟩
            have hpn3 : pn ≤ 3 := by omega
            rw [← hpn] at HZL e8
            have HPN := Lib.hid hpn
            clear hz hpn
            go_cut [66, 67, 68] from 59 to 69 (fun s66 s67 s68 wx => ∃ A' c', s66 = .slice A' pn c' ∧ s67 = .int .i64 (pn : Int) ∧ s68 = .int .i64 0 ∧ Hid (Byt W2 w.heap.size A' z) ∧ W2 = wx)
            case first =>
              have hcutm : ∀ A', (c = j + m → True) → (A' = (some ad).map (·.add (j + m)) ∨ (c = j + m)) → Byt W2 w.heap.size A' z := fun A' _ h => by
                rw [HZ.out, List.drop_drop]
                rcases h with h | h
                · subst h
                  exact (HX2.out.cut_map (by rw [← HN.out]; omega)).take_ _
                · have : x.drop (j + m) = [] := List.drop_of_length_le (by rw [← HN.out]; omega)
                  rw [this]
                  exact ⟨by simp [u8s], fun h => absurd h (by simp)⟩
              have HCM := Lib.hid hcutm
              clear hcutm
              by_cases hcjm : c = j + m
              · subst hcjm
                go_wp2_with fail
                go_meet
                refine ⟨some ad, 0, ?_, ?_, rfl, HCM.out _ (fun _ => trivial) (.inr (by first | rfl | trivial)), rfl⟩
                · first | rfl | (congr 1) <;> omega
                · first | rfl | (congr 1; omega)
              · go_wp2_with fail
                go_meet
                refine ⟨some (ad.add (j + m)), c - (j + m), ?_, ?_, rfl, HCM.out _ (fun _ => trivial) (.inl rfl), rfl⟩
                · first | rfl | (congr 1) <;> omega
                · first | rfl | (congr 1; omega)
            case rest =>
              obtain ⟨A', c', rfl, rfl, rfl, HZB, rfl⟩ := hcut
              clear e1 e2 e3 e4 e5 e6 e7
              go_wp2_with fail
              go_loopw [2, 3, 10, 68] (fun _ _ _ i wr2 => ∃ k : Nat, k ≤ pn ∧ i = .int .i64 k ∧ Hid ((z.take k).any (· != 0) = false) ∧ W2 = wr2) (fun _ _ _ i _ => pn - (intOf i).toNat)
              case atStart => exact ⟨0, by omega, rfl, rfl, rfl⟩
              case round =>
                obtain ⟨k, hk, rfl, HAZ, rfl⟩ := hrel
                by_cases hkp : k < pn
                · have hkz : k < z.length := by rw [HZL.out]; exact hkp
                  obtain ⟨ad', rfl, _, hcz⟩ := HZB.out.at_byte hkz
                  obtain ⟨y, hy⟩ : ∃ y, y = z[k] := ⟨_, rfl⟩
                  rw [← hy] at hcz
                  have hyb := u8_bd y
                  by_cases hy0 : y = 0
                  · have HN1 : Hid ((z.take (k + 1)).any (· != 0) = false) := any_take hkz HAZ.out (by rw [← hy]; exact hy0)
                    subst hy0
                    have hcz : W2.cell? (ad'.add k) = some (.int .u8 0) := hcz
                    clear hy
                    go_wp2_with fail
                    go_roundw
                    case rel => exact ⟨k + 1, by omega, by go_num, HN1, by first | rfl | trivial⟩
                    case measure => simp [intOf]; omega
                  · have hyi : (y.toNat : Int) ≠ 0 := fun e => hy0 (by apply UInt8.toNat_inj.1; show y.toNat = 0; omega)
                    have hyi2 : ((y.toNat : Int) != 0) = true := by simpa using hyi
                    have HT := Lib.hid (err_told (w := w) (w' := W2) hjx HG.out (one_pad (m := m) (by rw [HDL.out]; omega) HM.out (by omega) (by rw [HDL.out, ← HAL.out]; omega) (by rw [← HAL.out, ← HZ.out]; exact any_at hkz (by rw [← hy]; exact hy0))))
                    clear hy
                    go_wp2_with fail
                    go_ret2
                    exact ⟨HT.out, HB2.out⟩
                · obtain rfl : k = pn := by omega
                  have HONE : Hid (one (x.drop j) = .ok ((kd, ((x.drop j).drop 4).take (m - 4)), al)) := by
                    have hany : z.any (· != 0) = false := by
                      have := HAZ.out
                      rwa [List.take_of_length_le (by rw [HZL.out]; exact Nat.le_refl _)] at this
                    have := one_good (m := m) (b := x.drop j) (by rw [HDL.out]; omega) HM.out (by omega) (by rw [HDL.out, ← HAL.out]; omega) (by rw [← HAL.out, ← HZ.out]; exact hany)
                    rw [HK.out, ← HAL.out] at this
                    exact this
                  have hjl : j + al ≤ n := by omega
                  obtain ⟨vv, hvv⟩ : ∃ vv, vv = ((x.drop j).drop 4).take (m - 4) := ⟨_, rfl⟩
                  have HVL : Hid (m - 4 = vv.length) := by rw [hvv, List.length_take, List.length_drop, HDL.out]; show _ = _; omega
                  have HNX : Hid (getL x = behind (acc ++ [(kd, vv)]) (getL (x.drop (j + al)))) := by
                    rw [HG.out, getL_ok HONE.out, behind_snoc, ← hvv, List.drop_drop]
                    rfl
                  have HVV := Lib.hid hvv
                  have u1 : IntKind.u16.wrap (kd : Int) = (kd : Int) := by simp [IntKind.wrap, IntKind.bits, IntKind.signed]; omega
                  have e1 : IntKind.i64.wrap ((j : Int) + 4) = (j : Int) + 4 := IntWalk.i64_in _ (by omega)
                  have e2 : IntKind.i64.wrap ((j : Int) + (m : Int)) = (j : Int) + (m : Int) := IntWalk.i64_in _ (by omega)
                  have e3 : (j : Int) + 4 ≤ (j : Int) + (m : Int) := by omega
                  have e4 : (j : Int) + (m : Int) ≤ (c : Int) := by omega
                  have e5 : (0 : Int) ≤ (j : Int) + 4 := by omega
                  have e6 : ((j : Int) + (m : Int)).toNat = j + m := by omega
                  have e7 : ((j : Int) + 4).toNat = j + 4 := by omega
                  have e8' : (j + m) - (j + 4) = m - 4 := by omega
                  clear e8 hvv
                  have HE2 := Lib.hid (own_empty W2 5)
                  have HR1 : Hid (c = j + 4 → Reads (W2.alloc (.cells #[] 5)) w.heap.size 1 (some ad) (m - 4) (u8s vv)) := fun hc => by
                    have h0 : vv = [] := List.eq_nil_of_length_eq_zero (by have := HVL.out; omega)
                    have h1 : m - 4 = 0 := by have := HVL.out; omega
                    rw [h1, h0]
                    exact ⟨by simp [u8s], fun h => absurd h (by simp)⟩
                  have HR2 : Hid (Reads (W2.alloc (.cells #[] 5)) w.heap.size 1 (some (ad.add (j + 4))) (m - 4) (u8s vv)) := by
                    have h1 := ((HX2.out.cut_map (k := j + 4) (by rw [← HN.out]; omega)).take_ (m - 4)).alloc HB2.out.size (.cells #[] 5)
                    rw [← List.drop_drop, ← HVV.out] at h1
                    rw [← HVL.out] at h1
                    exact h1
                  by_cases hc4 : c = j + 4
                  · subst hc4
                    go_wp2_with (first
                      | (at_builtin; refine wpList_append_any _ rfl (.tmp 78) (.tmp 85) _ rfl W2.heap.size 5 i0 _ 1 1 Try.underlying22 hi0 hz0 hz1 hz2 rfl (by omega) (.slice (some ⟨W2.heap.size, 0, none⟩) 0 0) 0 [] rfl HE2.out w.heap.size (some ad) (m - 4) (0) (u8s vv) rfl (by first | exact HR1.out rfl | exact HR1.out trivial) (u8s_one _) (by simp only [maxLen]; omega) (by omega) (by simp) ?_; intro v5 w5 hown5 hg5 hat5; obtain ⟨n5, A5, c5, rfl, HN5, hn5, hc5, hm5, HO5, HB5⟩ := copied HB2.out hown5 HVL.out hg5; have hw5 : w.heap.size ≤ w5.heap.size := Nat.le_trans HB2.out.size HB5.out.size; obtain ⟨xs, HOX, HXX, HXS⟩ := row_ready2 (o := .cells #[.int .u16 (kd : Int), .slice A5 n5 c5] 131) HO2.out HNA.out HB5.out; clear hown5 hg5 hat5)
                      | (at_builtin; refine wpList_append_any _ rfl (.tmp 75) (.tmp 88) _ rfl w.heap.size 131 j0 _ 2 32 Try.underlying30 hj0 hjz0 hjz1 hjz2 rfl (by omega) (.slice Ax na cx) na xs rfl HXX.out (w5.heap.size + 1) (some ⟨w5.heap.size, 0, none⟩) 1 1 [.int .u16 (kd : Int), .slice A5 n5 c5] rfl (two_reads _ _ rfl _ _ _) (by simp [Value.oneCell']) (by simp only [maxLen]; omega) (by omega) (by simp; omega) ?_; intro v6 w6 hown6 hg6 hat6; obtain ⟨A6, c6, rfl, hc6, hm6⟩ := own_slice hown6; have HO6 : Hid (OwnPs w6 w.heap.size (.slice A6 (na + 1) c6) (acc ++ [(kd, vv)])) := (by have e1 := HN5.out; subst e1; exact OwnPs.snoc (p := (kd, vv)) HOX.out hg6 (by have := HXX.out; rw [HNA.out] at this; rw [HNA.out]; exact this) hown6 (by rw [← HNA.out]) (by show kd < 65536; omega) hc5 hm5 (own_mono ((Fr.refl (fun _ => False) w5 |>.alloc _).own HO5.out (fun _ _ h => h)) HB2.out.size) HXS.out); have HB6 : Hid (Below w.heap.size w w6) := (by have h2 := HB2.out.trans (HB5.out.mono HB2.out.size); exact (h2.alloc h2.size _).grown hg6 (by simp; omega) (fun b e => (HXX.out.lt b e).1)); clear hown6 hg6 hat6))
                    go_roundw
                    case rel => exact ⟨j + al, na + 1, acc ++ [(kd, vv)], A6, c6, by omega, by go_num, rfl, by omega, hc6, hm6, by rw [List.length_append, ← HNA.out]; rfl, HNX, HO6, HB6⟩
                    case measure => simp [intOf]; omega
                  · clear HR1
                    go_wp2_with (first
                      | (at_builtin; refine wpList_append_any _ rfl (.tmp 78) (.tmp 85) _ rfl W2.heap.size 5 i0 _ 1 1 Try.underlying22 hi0 hz0 hz1 hz2 rfl (by omega) (.slice (some ⟨W2.heap.size, 0, none⟩) 0 0) 0 [] rfl HE2.out w.heap.size (some (ad.add (j + 4))) (m - 4) (c - (j + 4)) (u8s vv) rfl (HR2.out) (u8s_one _) (by simp only [maxLen]; omega) (by omega) (by simp) ?_; intro v5 w5 hown5 hg5 hat5; obtain ⟨n5, A5, c5, rfl, HN5, hn5, hc5, hm5, HO5, HB5⟩ := copied HB2.out hown5 HVL.out hg5; have hw5 : w.heap.size ≤ w5.heap.size := Nat.le_trans HB2.out.size HB5.out.size; obtain ⟨xs, HOX, HXX, HXS⟩ := row_ready2 (o := .cells #[.int .u16 (kd : Int), .slice A5 n5 c5] 131) HO2.out HNA.out HB5.out; clear hown5 hg5 hat5)
                      | (at_builtin; refine wpList_append_any _ rfl (.tmp 75) (.tmp 88) _ rfl w.heap.size 131 j0 _ 2 32 Try.underlying30 hj0 hjz0 hjz1 hjz2 rfl (by omega) (.slice Ax na cx) na xs rfl HXX.out (w5.heap.size + 1) (some ⟨w5.heap.size, 0, none⟩) 1 1 [.int .u16 (kd : Int), .slice A5 n5 c5] rfl (two_reads _ _ rfl _ _ _) (by simp [Value.oneCell']) (by simp only [maxLen]; omega) (by omega) (by simp; omega) ?_; intro v6 w6 hown6 hg6 hat6; obtain ⟨A6, c6, rfl, hc6, hm6⟩ := own_slice hown6; have HO6 : Hid (OwnPs w6 w.heap.size (.slice A6 (na + 1) c6) (acc ++ [(kd, vv)])) := (by have e1 := HN5.out; subst e1; exact OwnPs.snoc (p := (kd, vv)) HOX.out hg6 (by have := HXX.out; rw [HNA.out] at this; rw [HNA.out]; exact this) hown6 (by rw [← HNA.out]) (by show kd < 65536; omega) hc5 hm5 (own_mono ((Fr.refl (fun _ => False) w5 |>.alloc _).own HO5.out (fun _ _ h => h)) HB2.out.size) HXS.out); have HB6 : Hid (Below w.heap.size w w6) := (by have h2 := HB2.out.trans (HB5.out.mono HB2.out.size); exact (h2.alloc h2.size _).grown hg6 (by simp; omega) (fun b e => (HXX.out.lt b e).1)); clear hown6 hg6 hat6))
                    go_roundw
                    case rel => exact ⟨j + al, na + 1, acc ++ [(kd, vv)], A6, c6, by omega, by go_num, rfl, by omega, hc6, hm6, by rw [List.length_append, ← HNA.out]; rfl, HNX, HO6, HB6⟩
                    case measure => simp [intOf]; omega
    · obtain rfl : j = n := by omega
      go_wp2_with fail
      go_ret2
      refine ⟨.inl ⟨_, acc, ?_, rfl, HO.out⟩, HB.out⟩
      rw [HG.out, List.drop_of_length_le (by rw [HN.out]; exact Nat.le_refl _), getL_nil]
      simp [behind]
end Go.Proofs.Ytpgklhecmafnbaa.Par
