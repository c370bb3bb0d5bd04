/-
  Contracts of package mac, a block: extended.
-/
import Derived.Test.YtmbgjijajakgeaaDoorMacMem
set_option linter.unusedVariables false
set_option linter.unusedSimpArgs false
namespace Go.Proofs.YtmbgjijajakgeaaDoor.Sha
open Go.ChangeShapes Go.WideShapes Go.ChangeAt Go.RowKit Go.Proofs.YtmbgjijajakgeaaDoor.Words

/-- While words are laid: block g holds w, all else below g stays. -/
def WSt (W wr : World) (g : Nat) (t : TypeId) (l : List Nat) : Prop := Blk wr g t (U l) ∧ Below g W wr
theorem WSt.set {W wr : World} {g : Nat} {t : TypeId} {l : List Nat} (h : WSt W wr g t l) (hg : g ≤ W.heap.size) (i x : Nat) : WSt W (wr.setCell ⟨g, i, none⟩ (.int .u32 (x : Int))) g t (l.set i x) :=
  ⟨by rw [← U_set]; exact h.1.set_ i _, h.2.setCell (p := ⟨g, i, none⟩) (Nat.le_refl _) _⟩
theorem WSt.drew {W wr : World} {g : Nat} {t : TypeId} {l : List Nat} (h : WSt W wr g t l) (n : Nat) : WSt W (wr.drewN n) g t l := ⟨h.1, h.2.os, h.2.tape, h.2.output, h.2.size, h.2.block⟩

theorem shl_or (x : Nat) (b : UInt8) (hx : x < 16777216) : bits .or .u32 ((x : Int) * 256) (b.toNat : Int) = ((x * 256 + b.toNat : Nat) : Int) := by
  have hb := b.toNat_lt
  rw [show (x : Int) * 256 = ((x * 256 : Nat) : Int) by omega, u32_or_nat _ _ (by omega) (by omega)]
  rw [nat_join 8 (x * 256) b.toNat (by omega) (by omega)]
theorem nearU {x : Nat} (hx : x < 4294967296) : ∃ y1 y2 y3 y4 : Nat, y1 < 4294967296 ∧ y2 < 4294967296 ∧
    (∀ w, Calls Tryd.prog 51 #[.int .u32 (x : Int), .int .i64 17] w fun e w' => e = .returned (.int .u32 (y1 : Int)) ∧ w = w') ∧
    (∀ w, Calls Tryd.prog 51 #[.int .u32 (x : Int), .int .i64 19] w fun e w' => e = .returned (.int .u32 (y2 : Int)) ∧ w = w') ∧
    bits .xor .u32 (y1 : Int) (y2 : Int) = (y3 : Int) ∧ bits .xor .u32 (y3 : Int) ((x : Int) / 1024) = (y4 : Int) ∧ Hid (y4 = near x) ∧ y4 < 4294967296 := by
  have l1 := rot_lt hx 17
  have l2 := rot_lt hx 19
  have hd : x / 1024 < 4294967296 := Nat.lt_of_le_of_lt (Nat.div_le_self _ _) hx
  exact ⟨_, _, _, _, l1, l2, rot_any x 17 _ hx (by simp [Rn]) rfl, rot_any x 19 _ hx (by simp [Rn]) rfl, u32_xor_nat _ _ l1 l2,
    by rw [show (x : Int) / 1024 = ((x / 1024 : Nat) : Int) by omega]; exact u32_xor_nat _ _ (xor_lt l1 l2) hd, rfl, xor_lt (xor_lt l1 l2) hd⟩
theorem farU {x : Nat} (hx : x < 4294967296) : ∃ y1 y2 y3 y4 : Nat, y1 < 4294967296 ∧ y2 < 4294967296 ∧
    (∀ w, Calls Tryd.prog 51 #[.int .u32 (x : Int), .int .i64 7] w fun e w' => e = .returned (.int .u32 (y1 : Int)) ∧ w = w') ∧
    (∀ w, Calls Tryd.prog 51 #[.int .u32 (x : Int), .int .i64 18] w fun e w' => e = .returned (.int .u32 (y2 : Int)) ∧ w = w') ∧
    bits .xor .u32 (y1 : Int) (y2 : Int) = (y3 : Int) ∧ bits .xor .u32 (y3 : Int) ((x : Int) / 8) = (y4 : Int) ∧ Hid (y4 = far x) ∧ y4 < 4294967296 := by
  have l1 := rot_lt hx 7
  have l2 := rot_lt hx 18
  have hd : x / 8 < 4294967296 := Nat.lt_of_le_of_lt (Nat.div_le_self _ _) hx
  exact ⟨_, _, _, _, l1, l2, rot_any x 7 _ hx (by simp [Rn]) rfl, rot_any x 18 _ hx (by simp [Rn]) rfl, u32_xor_nat _ _ l1 l2,
    by rw [show (x : Int) / 8 = ((x / 8 : Nat) : Int) by omega]; exact u32_xor_nat _ _ (xor_lt l1 l2) hd, rfl, xor_lt (xor_lt l1 l2) hd⟩
set_option maxHeartbeats 1000000 in
theorem ext_any (l : List UInt8) (hl : l.length = 64) (w : World) :
    Calls Tryd.prog 49 #[.agg (V l)] w fun e w' => e = .returned (.agg (U (extN 48 (words l)))) ∧ Below w.heap.size w w' := by
  have HL := Lib.hid hl
  clear hl
  obtain ⟨N, hN⟩ : ∃ N, N = w.heap.size := ⟨_, rfl⟩
  go_enter Tryd.func49, Tryd.ntmps49
  go_wp2_with (first
    | (with_reducible refine wpList_alloc_run _ rfl 91 rfl (alloc_w64 _) ?_)
    | (refine Great.wpList_boxTo rfl 67 _ rfl _ rfl N (by simpa using hN.symm) (V l) rfl ?_)
    | (refine wpList_load_row rfl 67 _ rfl N rfl 67 (V l) (0, 0) _ (by subst hN; exact ((Blk.new w _ (V l)).alloc _).alloc _) Tryd.underlying67 rfl (by rw [V_size, HL.out]; exact size_b64) ?_))
  obtain ⟨W, hW⟩ : ∃ W, W = ((w.alloc (.cells (V l) 67)).alloc (.cells (U (Zs 64)) 91)).alloc (.cells (U (Zs 64)) 91) := ⟨_, rfl⟩
  have hsz : W.heap.size = N + 3 := by rw [hW, hN]; simp
  have HR : Hid (Blk W (N + 1) 91 (U (Zs 64))) := by
    rw [hW, hN]
    show Blk _ _ _ _
    have := (Blk.new (w.alloc (.cells (V l) 67)) 91 (U (Zs 64))).alloc (.cells (U (Zs 64)) 91)
    simpa using this
  have H0 : Hid (Blk W (N + 1 + 1) 91 (U (Zs 64))) := by
    rw [hW, hN]
    show Blk _ _ _ _
    have := Blk.new ((w.alloc (.cells (V l) 67)).alloc (.cells (U (Zs 64)) 91)) 91 (U (Zs 64))
    simpa using this
  have HB : Hid (Below w.heap.size w W) := by rw [hW]; exact (((Below.refl _ _).alloc (Nat.le_refl _) _).alloc (by simp) _).alloc (by simp; omega) _
  rw [← hW]
  have HN0 := Lib.hid hN
  rw [← hN]
  clear hW hN
  go_loopw [10] (fun i wr => ∃ k : Nat, k ≤ 64 ∧ i = .int .i64 (k : Int) ∧ Hid (WSt W wr (N + 1 + 1) 91 (pad 64 (words (l.take k))))) (fun i _ => 64 - (intOf i).toNat)
  case atStart => exact ⟨0, Nat.zero_le _, rfl, H0.out, Below.refl _ _⟩
  case round =>
    obtain ⟨k, hk, rfl, hs⟩ := hrel
    by_cases hlt : k < 64
    · have hix := fun w => ix_b64 HL.out hlt w
      have HT := Lib.hid (take_words (l := l) (k := k) (by rw [HL.out]; exact hlt) 64 (by omega))
      obtain ⟨b, hb⟩ : ∃ b, b = l.getD k 0 := ⟨_, rfl⟩
      obtain ⟨x, hx⟩ : ∃ x, x = (pad 64 (words (l.take k))).getD (k / 4) 0 := ⟨_, rfl⟩
      rw [← hb] at hix
      rw [← hb, ← hx] at HT
      obtain ⟨hs1, hs2⟩ := hs.out
      have hc := hs1.cell (k / 4)
      rw [U_at HT.out.2.2, ← hx] at hc
      have hfz := hs1.frozen (k / 4)
      have hx24 := HT.out.2.1
      have hb8 := u8_bd b
      have hw0 : IntKind.u32.wrap (b.toNat : Int) = (b.toNat : Int) := by rw [IntKind.wrap_u32]; omega
      have hor := shl_or x b hx24
      obtain ⟨z, hz⟩ : ∃ z : Nat, z = x * 256 + b.toNat := ⟨_, rfl⟩
      rw [← hz] at hor HT
      clear hz
      have HN : Hid (WSt W (wr.setCell ⟨N + 1 + 1, k / 4, none⟩ (.int .u32 (z : Int))) (N + 1 + 1) 91 (pad 64 (words (l.take (k + 1))))) := by
        rw [HT.out.1]
        exact hs.out.set (by omega) _ _
      clear hs1 hs2 hx hb
      go_wp2
      go_roundw
      case rel => exact ⟨k + 1, by omega, by go_num, HN⟩
      case measure => simp [intOf]; omega
    · obtain rfl : k = 64 := by omega
      have HE : Hid (WSt W wr (N + 1 + 1) 91 (pad 64 (words l))) := by
        have h := hs.out
        rw [show l.take 64 = l by rw [← HL.out]; exact List.take_length] at h
        exact h
      clear hs
      go_wp2
      have H16 : Hid (WSt W wr (N + 1 + 1) 91 (pad 64 (extN 0 (words l)))) := HE
      clear HE
      go_loopw [6] (fun i wr => ∃ m : Nat, m ≤ 48 ∧ i = .int .i64 ((m : Int) + 16) ∧ Hid (WSt W wr (N + 1 + 1) 91 (pad 64 (extN m (words l))))) (fun i _ => 64 - (intOf i).toNat)
      case atStart => exact ⟨0, Nat.zero_le _, by simp, H16⟩
      case round =>
        obtain ⟨m, hm, rfl, hs⟩ := hrel
        by_cases hlt : m < 48
        · obtain ⟨v2, v7, v15, v16, b2, b7, b15, b16, hlen, e2, e7, e15, e16, hst⟩ := ext_step HL.out hlt
          have HST := Lib.hid hst
          have E7 := Lib.hid e7
          have E15 := Lib.hid e15
          have E16 := Lib.hid e16
          have HLN := Lib.hid hlen
          have c2 := hs.out.1.cell (m + 14)
          rw [U_get, e2] at c2
          obtain ⟨n1, n2, n3, n4, m1, m2, r1, r2, q1, q2, HQ, hn4⟩ := nearU b2
          obtain ⟨f1, f2, f3, f4, g1, g2, p1, p2, o1, o2, HO, hf4⟩ := farU b15
          clear hst e2 e7 e15 e16 hlen
          go_wp2
          go_quiet (first | (go_at_call 51; exact quiet_left (r1 _)) | (go_at_call 51; exact quiet_left (r2 _)))
          go_wp2
          obtain ⟨W2, hW2⟩ : ∃ V, V = wr.drewN nq := ⟨_, rfl⟩
          have HS2 : Hid (WSt W W2 (N + 1 + 1) 91 (pad 64 (extN m (words l)))) := by rw [hW2]; exact hs.out.drew _
          rw [← hW2]
          clear hW2 hs c2 r1 r2 q1 q2
          have c15 := HS2.out.1.cell (m + 1)
          rw [U_get, E15.out] at c15
          go_quiet (first | (go_at_call 51; exact quiet_left (p1 _)) | (go_at_call 51; exact quiet_left (p2 _)))
          go_wp2
          obtain ⟨W3, hW3⟩ : ∃ V, V = W2.drewN nq := ⟨_, rfl⟩
          have HS3 : Hid (WSt W W3 (N + 1 + 1) 91 (pad 64 (extN m (words l)))) := by rw [hW3]; exact HS2.out.drew _
          rw [← hW3]
          clear hW3 HS2 c15 p1 p2 o1 o2
          have c7 := HS3.out.1.cell (m + 9)
          rw [U_get, E7.out] at c7
          have c16 := HS3.out.1.cell m
          rw [U_get, E16.out] at c16
          have hfz := HS3.out.1.frozen (m + 16)
          have hcs := HS3.out.1.cell (m + 16)
          rw [U_at (by rw [HLN.out]; omega)] at hcs
          have i7 : (0 : Int) ≤ (m : Int) + 16 - 7 := by omega
          have j7 : (m : Int) + 16 - 7 < 64 := by omega
          have t7 : ((m : Int) + 16 - 7).toNat = m + 9 := by omega
          have i16 : (0 : Int) ≤ (m : Int) + 16 - 16 := by omega
          have j16 : (m : Int) + 16 - 16 < 64 := by omega
          have t16 : ((m : Int) + 16 - 16).toNat = m := by omega
          have i0 : (0 : Int) ≤ (m : Int) + 16 := by omega
          have j0 : (m : Int) + 16 < 64 := by omega
          have t0 : ((m : Int) + 16).toNat = m + 16 := by omega
          obtain ⟨z, hz⟩ : ∃ z : Nat, z = (near v2 + v7 + far v15 + v16) % 4294967296 := ⟨_, rfl⟩
          have hzi : ((n4 : Int) + (v7 : Int) + (f4 : Int) + (v16 : Int)) % 4294967296 = (z : Int) := by
            rw [hz, ← HQ.out, ← HO.out]
            simp only [Int.natCast_emod, Int.natCast_add]
            rfl
          have HN : Hid (WSt W (W3.setCell ⟨N + 1 + 1, m + 16, none⟩ (.int .u32 (z : Int))).drew (N + 1 + 1) 91 (pad 64 (extN (m + 1) (words l)))) := by
            rw [HST.out, ← hz]
            exact (HS3.out.set (by omega) _ _).drew 1
          clear hz
          go_region
          go_wp2
          go_roundw
          case rel => exact ⟨m + 1, by omega, by go_num, HN⟩
          case measure => simp [intOf]; omega
        · obtain rfl : m = 48 := by omega
          obtain ⟨ws, hws⟩ : ∃ ws, ws = extN 48 (words l) := ⟨_, rfl⟩
          have hlen : ws.length = 64 := by rw [hws, extN_length, words_length, HL.out]
          have hp : pad 64 ws = ws := by simp [pad, hlen]
          rw [← hws, hp] at hs
          have HWS := Lib.hid hws
          clear hws hp
          have HS := Lib.hid hs.out.1
          have HLN := Lib.hid hlen
          have HRR : Hid (Blk wr (N + 1) 91 (U (Zs 64))) := HR.out.below hs.out.2 (by omega)
          go_wp2_with (first
            | (refine wpList_load_row rfl 91 _ rfl (N + 1 + 1) rfl 91 (U ws) (0, 0) _ HS.out Tryd.underlying91 rfl (by rw [U_size, HLN.out]; exact size_w64) ?_)
            | (refine wpList_store_row rfl 91 _ _ rfl (N + 1) (U ws) rfl rfl 91 (U (Zs 64)) HRR.out (by rw [U_size, HLN.out]; exact size_w64) (by rw [U_size, U_size, HLN.out]; rfl) (U_one _) ?_))
          refine bodyPost_ret (results_cell_row Tryd.results49 _ _ (N + 1) 91 (U ws) (0, 0) _ rfl (setRow_heap wr (N + 1) _ _ _ _ HRR.out) Tryd.underlying91 rfl (by rw [U_size, HLN.out]; exact size_w64)) rfl ?_
          refine ⟨by rw [HWS.out], ?_⟩
          exact below_setRow (HB.out.trans (hs.out.2.mono (by have := HN0.out; omega))) (by have := HN0.out; omega) _
end Go.Proofs.YtmbgjijajakgeaaDoor.Sha
