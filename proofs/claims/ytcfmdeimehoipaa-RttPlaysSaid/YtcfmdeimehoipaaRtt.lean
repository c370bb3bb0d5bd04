/-
  Contracts of package rtt, and of the document's estimate.
-/
import Derived.Test.YtcfmdeimehoipaaRttPlain
set_option linter.unusedVariables false
set_option linter.unusedSimpArgs false
namespace Go.Proofs.Ytcfmdeimehoipaa.Rtt
open Go.ChangeShapes Go.WideShapes Go.ChangeAt Go.RowKit Go.Proofs.Ytcfmdeimehoipaa.Words

abbrev ptr (p : Nat) : Value := .pointer (some ⟨p, 0, none⟩)
abbrev At (p : Nat) : Nat → Prop := fun k => k = p
/-- The program's estimate behind the pointer to block p. -/
structure EsP (w : World) (p : Nat) (x : Es) : Prop where
  blk : Blk w p 25 #[.bool x.t, .int .i64 (x.s : Int), .int .i64 (x.d : Int), .int .i64 (x.k : Int)]
  ok : x.Ok
  k : x.k ≤ 6
/-- The document's. -/
structure EsR (w : World) (p : Nat) (x : Es) : Prop where
  blk : Blk w p 28 #[.int .i64 (x.s : Int), .int .i64 (x.d : Int), .bool x.t, .int .i64 (x.k : Int)]
  ok : x.Ok
  k : x.k ≤ 1000

theorem EsP.fr {w w' : World} {p : Nat} {x : Es} {S : Nat → Prop} (h : EsP w p x) (k : Fr S w w') (hp : ¬ S p) : EsP w' p x := ⟨k.blk h.blk hp, h.ok, h.k⟩
theorem EsR.fr {w w' : World} {p : Nat} {x : Es} {S : Nat → Prop} (h : EsR w p x) (k : Fr S w w') (hp : ¬ S p) : EsR w' p x := ⟨k.blk h.blk hp, h.ok, h.k⟩
theorem EsP.drew {w : World} {p : Nat} {x : Es} (h : EsP w p x) : EsP w.drew p x := ⟨h.blk.drew, h.ok, h.k⟩
theorem EsP.as_clr {w : World} {p : Nat} {x : Es} {n k : Nat} (h : EsP w p (clr (kk (samp x n) k))) : EsP w p (samp x n) := by
  have e : clr (kk (samp x n) k) = samp x n := by unfold clr kk samp; split <;> rfl
  exact e ▸ h
theorem EsP.lt {w : World} {p : Nat} {x : Es} (h : EsP w p x) : p < w.heap.size := h.blk.lt
theorem EsR.lt {w : World} {p : Nat} {x : Es} (h : EsR w p x) : p < w.heap.size := h.blk.lt

set_option maxHeartbeats 1000000 in
theorem double_any {w : World} {p : Nat} {x : Es} (h : EsP w p x) :
    Calls Try.prog 9 #[ptr p] w fun e w' => e = .returned (.tuple #[]) ∧ EsP w' p (dbl x) ∧ Fr (At p) w w' := by
  have c3 : w.cell? ⟨p, 3, none⟩ = some (.int .i64 (x.k : Int)) := h.blk.cell 3
  have f3 := h.blk.frozen 3
  have hk := h.k
  have key : ∀ K : Int, K = ((min (x.k + 1) 6 : Nat) : Int) → EsP (w.setCell ⟨p, 3, none⟩ (.int .i64 K)) p (dbl x) ∧ Fr (At p) w (w.setCell ⟨p, 3, none⟩ (.int .i64 K)) := by
    rintro K rfl
    refine ⟨⟨by have := h.blk.set_ 3 (.int .i64 ((min (x.k + 1) 6 : Nat) : Int)); simpa [dbl] using this, ⟨h.ok.s, h.ok.d, h.ok.z⟩, by show min (x.k + 1) 6 ≤ 6; omega⟩, (Fr.refl (At p) w).setCell (p := ⟨p, 3, none⟩) (.inl rfl) _⟩
  obtain ⟨kk, hkk⟩ : ∃ kk, kk = x.k := ⟨_, rfl⟩
  rw [← hkk] at c3 hk key
  have KEY := Lib.hid key
  clear key hkk h
  go_enter Try.func9, Try.ntmps9
  go_wp2_with fail
  all_goals
    go_end0
    exact ⟨rfl, KEY.out _ (by omega)⟩

set_option maxHeartbeats 1000000 in
theorem clear_any {w : World} {p : Nat} {x : Es} (h : EsP w p x) :
    Calls Try.prog 10 #[ptr p] w fun e w' => e = .returned (.tuple #[]) ∧ EsP w' p (clr x) ∧ Fr (At p) w w' := by
  have c3 : w.cell? ⟨p, 3, none⟩ = some (.int .i64 (x.k : Int)) := h.blk.cell 3
  have f3 := h.blk.frozen 3
  have key : EsP (w.setCell ⟨p, 3, none⟩ (.int .i64 0)) p (clr x) ∧ Fr (At p) w (w.setCell ⟨p, 3, none⟩ (.int .i64 0)) := by
    refine ⟨⟨by have := h.blk.set_ 3 (.int .i64 0); simpa [clr] using this, ⟨h.ok.s, h.ok.d, h.ok.z⟩, Nat.zero_le _⟩, (Fr.refl (At p) w).setCell (p := ⟨p, 3, none⟩) (.inl rfl) _⟩
  obtain ⟨kk, hkk⟩ : ∃ kk, kk = x.k := ⟨_, rfl⟩
  rw [← hkk] at c3
  have KEY := Lib.hid key
  clear key hkk h
  go_enter Try.func10, Try.ntmps10
  go_wp2_with fail
  go_end0
  exact ⟨rfl, KEY.out⟩

set_option maxHeartbeats 1000000 in
theorem blend_any {w : World} {p : Nat} {x : Es} {n : Nat} (h : EsP w p x) (ht : x.t = true) (hn : n ≤ 60000) :
    Calls Try.prog 16 #[ptr p, .int .i64 (n : Int)] w fun e w' => e = .returned (.tuple #[]) ∧ EsP w' p (kk (samp x n) x.k) ∧ Fr (At p) w w' := by
  have c1 : w.cell? ⟨p, 1, none⟩ = some (.int .i64 (x.s : Int)) := h.blk.cell 1
  have c2 : w.cell? ⟨p, 2, none⟩ = some (.int .i64 (x.d : Int)) := h.blk.cell 2
  have f1 := h.blk.frozen 1
  have f2 := h.blk.frozen 2
  have hs := h.ok.s
  have hd := h.ok.d
  have hok := samp_ok (n := n) h.ok hn
  have key : ∀ S D : Int, S = (x.s - x.s / 8 + n : Nat) → D = (x.d - x.d / 4 + dist n (x.s / 8) : Nat) → EsP ((w.setCell ⟨p, 1, none⟩ (.int .i64 S)).setCell ⟨p, 2, none⟩ (.int .i64 D)) p (kk (samp x n) x.k) ∧ Fr (At p) w ((w.setCell ⟨p, 1, none⟩ (.int .i64 S)).setCell ⟨p, 2, none⟩ (.int .i64 D)) := by
    rintro S D rfl rfl
    refine ⟨⟨?_, ⟨hok.s, hok.d, hok.z⟩, h.k⟩, ((Fr.refl (At p) w).setCell (p := ⟨p, 1, none⟩) (.inl rfl) _).setCell (p := ⟨p, 2, none⟩) (.inl rfl) _⟩
    have := (h.blk.set_ 1 (.int .i64 ((x.s - x.s / 8 + n : Nat) : Int))).set_ 2 (.int .i64 ((x.d - x.d / 4 + dist n (x.s / 8) : Nat) : Int))
    unfold samp kk
    rw [if_pos ht]
    simpa [ht] using this
  obtain ⟨s, hse⟩ : ∃ s, s = x.s := ⟨_, rfl⟩
  obtain ⟨d, hde⟩ : ∃ d, d = x.d := ⟨_, rfl⟩
  rw [← hse] at c1 hs key
  rw [← hde] at c2 hd key
  have KEY := Lib.hid key
  clear key hse hde hok h ht
  go_enter Try.func16, Try.ntmps16
  go_wp2_with fail
  go_region
  go_end0
  have hd := dist_eq n (s / 8)
  refine ⟨rfl, KEY.out _ _ ?_ ?_ |>.imp_right Fr.drew |>.imp_left EsP.drew⟩
  · omega
  · split <;> omega

set_option maxHeartbeats 1000000 in
theorem smooth_any {w : World} {p : Nat} {x : Es} (h : EsP w p x) :
    Calls Try.prog 13 #[ptr p] w fun e w' => e = .returned (.tuple #[.int .i64 (x.s : Int), .int .i64 (x.d : Int)]) ∧ ∃ q, w' = w.drewN q := by
  have c1 : w.cell? ⟨p, 1, none⟩ = some (.int .i64 (x.s : Int)) := h.blk.cell 1
  have c2 : w.cell? ⟨p, 2, none⟩ = some (.int .i64 (x.d : Int)) := h.blk.cell 2
  clear h
  go_enter Try.func13, Try.ntmps13
  go_wp2_with fail
  go_region
  go_wp2_with fail
  go_ret2
  exact ⟨rfl, 1, rfl⟩

set_option maxHeartbeats 1000000 in
theorem sample_no {w : World} {p : Nat} {n : Int} (hn : n < 0 ∨ 60000 < n) :
    Calls Try.prog 11 #[ptr p, .int .i64 n] w fun e w' => e = .returned (.bool false) ∧ w' = w := by
  by_cases h0 : n < 0
  all_goals
    go_enter Try.func11, Try.ntmps11
    go_wp2_with fail
    go_ret
    exact ⟨rfl, rfl⟩

set_option maxHeartbeats 1000000 in
theorem sample_yes {w : World} {p : Nat} {x : Es} {n : Nat} (h : EsP w p x) (hn : n ≤ 60000) :
    Calls Try.prog 11 #[ptr p, .int .i64 (n : Int)] w fun e w' => e = .returned (.bool true) ∧ EsP w' p (samp x n) ∧ Fr (At p) w w' := by
  have c0 : w.cell? ⟨p, 0, none⟩ = some (.bool x.t) := h.blk.cell 0
  have c1 : w.cell? ⟨p, 1, none⟩ = some (.int .i64 (x.s : Int)) := h.blk.cell 1
  have c2 : w.cell? ⟨p, 2, none⟩ = some (.int .i64 (x.d : Int)) := h.blk.cell 2
  have f0 := h.blk.frozen 0
  have f1 := h.blk.frozen 1
  have f2 := h.blk.frozen 2
  rcases ht : x.t with _ | _
  · have key : EsP (((w.setCell ⟨p, 1, none⟩ (.int .i64 ((8 * n : Nat) : Int))).setCell ⟨p, 2, none⟩ (.int .i64 ((2 * n : Nat) : Int))).setCell ⟨p, 0, none⟩ (.bool true)) p (kk (samp x n) x.k) ∧ Fr (At p) w (((w.setCell ⟨p, 1, none⟩ (.int .i64 ((8 * n : Nat) : Int))).setCell ⟨p, 2, none⟩ (.int .i64 ((2 * n : Nat) : Int))).setCell ⟨p, 0, none⟩ (.bool true)) := by
      have hok := samp_ok (n := n) h.ok hn
      refine ⟨⟨?_, ⟨hok.s, hok.d, hok.z⟩, h.k⟩, (((Fr.refl (At p) w).setCell (p := ⟨p, 1, none⟩) (.inl rfl) _).setCell (p := ⟨p, 2, none⟩) (.inl rfl) _).setCell (p := ⟨p, 0, none⟩) (.inl rfl) _⟩
      have := ((h.blk.set_ 1 (.int .i64 ((8 * n : Nat) : Int))).set_ 2 (.int .i64 ((2 * n : Nat) : Int))).set_ 0 (.bool true)
      unfold samp kk
      rw [if_neg (by simp [ht])]
      simpa using this
    rw [ht] at c0
    have KEY := Lib.hid key
    clear key h ht
    go_enter Try.func11, Try.ntmps11
    go_wp2_with fail
    have e8 : ((8 * n : Nat) : Int) = 8 * (n : Int) := by omega
    have e2 : ((2 * n : Nat) : Int) = 2 * (n : Int) := by omega
    rw [e8, e2] at KEY
    refine (clear_any KEY.out.1).mono ?_
    rintro e w2 ⟨rfl, h2, hf2⟩
    have H2 := Lib.hid h2
    have HF := Lib.hid (KEY.out.2.same hf2)
    clear h2 hf2
    go_wp2_with fail
    go_ret
    exact ⟨rfl, H2.out.as_clr, HF.out⟩
  · rw [ht] at c0
    have B := Lib.hid (blend_any h ht hn)
    clear h ht c1 c2 f1 f2
    go_enter Try.func11, Try.ntmps11
    go_wp2_with fail
    refine B.out.mono ?_
    rintro e w1 ⟨rfl, h1, hf1⟩
    have c0 : w1.cell? ⟨p, 0, none⟩ = some (.bool (samp x n).t) := h1.blk.cell 0
    have f0 := h1.blk.frozen 0
    have key : EsP (w1.setCell ⟨p, 0, none⟩ (.bool true)) p (kk (samp x n) x.k) ∧ Fr (At p) w (w1.setCell ⟨p, 0, none⟩ (.bool true)) := by
      refine ⟨⟨?_, h1.ok, h1.k⟩, hf1.setCell (p := ⟨p, 0, none⟩) (.inl rfl) _⟩
      have := h1.blk.set_ 0 (.bool true)
      unfold kk
      rw [samp_t]
      simpa [kk] using this
    rw [samp_t] at c0
    have KEY := Lib.hid key
    clear key h1 hf1
    go_wp2_with fail
    refine (clear_any KEY.out.1).mono ?_
    rintro e w2 ⟨rfl, h2, hf2⟩
    have H2 := Lib.hid h2
    have HF := Lib.hid (KEY.out.2.same hf2)
    clear h2 hf2
    go_wp2_with fail
    go_ret
    exact ⟨rfl, H2.out.as_clr, HF.out⟩

set_option maxHeartbeats 1000000 in
theorem base_any {w : World} {p : Nat} {x : Es} (h : EsP w p x) :
    Calls Try.prog 17 #[ptr p] w fun e w' => e = .returned (.int .i64 (bs x : Int)) ∧ ∃ q, w' = w.drewN q := by
  have c0 : w.cell? ⟨p, 0, none⟩ = some (.bool x.t) := h.blk.cell 0
  have c1 : w.cell? ⟨p, 1, none⟩ = some (.int .i64 (x.s : Int)) := h.blk.cell 1
  have c2 : w.cell? ⟨p, 2, none⟩ = some (.int .i64 (x.d : Int)) := h.blk.cell 2
  have hs := h.ok.s
  have hd := h.ok.d
  unfold bs
  obtain ⟨s, hse⟩ : ∃ s, s = x.s := ⟨_, rfl⟩
  obtain ⟨d, hde⟩ : ∃ d, d = x.d := ⟨_, rfl⟩
  rw [← hse] at c1 hs ⊢
  rw [← hde] at c2 hd ⊢
  clear hse hde
  rcases ht : x.t with _ | _
  · rw [ht] at c0
    clear h ht
    go_enter Try.func17, Try.ntmps17
    go_wp2_with fail
    go_ret
    exact ⟨rfl, 0, rfl⟩
  · rw [ht] at c0
    clear h ht
    go_enter Try.func17, Try.ntmps17
    go_wp2_with fail
    go_region
    go_wp2_with fail
    all_goals
      go_ret
      refine ⟨?_, 1, rfl⟩
      show Ending.returned (.int .i64 _) = _
      congr 2
      omega

set_option maxHeartbeats 1000000 in
theorem wait_any {w : World} {p : Nat} {x : Es} (h : EsP w p x) :
    Calls Try.prog 14 #[ptr p] w fun e w' => e = .returned (.int .i64 (wait x : Int)) ∧ ∃ q, w' = w.drewN q := by
  have B := Lib.hid (base_any h)
  have H := Lib.hid h
  have hb := bs_le x
  have hk := h.k
  unfold wait
  obtain ⟨b, hbe⟩ : ∃ b, b = bs x := ⟨_, rfl⟩
  obtain ⟨k, hke⟩ : ∃ k, k = x.k := ⟨_, rfl⟩
  rw [← hbe] at B hb ⊢
  rw [← hke] at hk ⊢
  have HK := Lib.hid hke
  clear hke hbe h
  go_enter Try.func14, Try.ntmps14
  go_wp2_with fail
  refine B.out.mono ?_
  rintro e w1 ⟨rfl, q, rfl⟩
  have c3 : (w.drewN q).cell? ⟨p, 3, none⟩ = some (.int .i64 (k : Int)) := by rw [HK.out]; exact (H.out.blk.drewN q).cell 3
  go_wp2_with fail
  go_loopw [3, 10] (fun m i wr => ∃ j : Nat, j ≤ k ∧ i = .int .i64 j ∧ (∃ v : Nat, m = .int .i64 (v : Int) ∧ Hid (v = wt b j) ∧ v ≤ 600) ∧ ∃ q, wr = w.drewN q) (fun m i _ => k - (intOf i).toNat)
  case atStart => exact ⟨0, Nat.zero_le _, rfl, ⟨b, rfl, (wt_zero hb.2).symm, hb.2⟩, q, rfl⟩
  case round =>
    obtain ⟨j, hj, rfl, ⟨v, rfl, HV, hv⟩, q, rfl⟩ := hrel
    by_cases hlt : j < k
    · go_wp2_with fail
      all_goals
        go_roundw
        case rel => exact ⟨j + 1, by omega, by go_num, ⟨min (2 * v) 600, by congr 1; omega, by show _ = _; rw [wt_succ, ← HV.out], by omega⟩, _, rfl⟩
        case measure => simp [intOf]; omega
    · obtain rfl : j = k := by omega
      go_wp2_with fail
      go_ret
      exact ⟨by show Ending.returned (.int .i64 (v : Int)) = _; rw [HV.out], _, rfl⟩
end Go.Proofs.Ytcfmdeimehoipaa.Rtt
