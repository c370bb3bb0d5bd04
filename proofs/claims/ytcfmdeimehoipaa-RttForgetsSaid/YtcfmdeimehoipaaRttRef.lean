/-
  The document's estimate; what must be answered ahead of everything else.
-/
import Derived.Test.YtcfmdeimehoipaaRtt
import Derived.BigQuiet
set_option linter.unusedVariables false
set_option linter.unusedSimpArgs false
namespace Go.Proofs.Ytcfmdeimehoipaa.Rtt
open Go.ChangeShapes Go.WideShapes Go.ChangeAt Go.RowKit Go.Proofs.Ytcfmdeimehoipaa.Words

theorem EsR.drew {w : World} {p : Nat} {x : Es} (h : EsR w p x) : EsR w.drew p x := ⟨h.blk.drew, h.ok, h.k⟩
set_option maxHeartbeats 1000000 in
theorem rsample_no {w : World} {p : Nat} {n : Int} (hn : n < 0 ∨ 60000 < n) :
    Calls Try.prog 12 #[ptr p, .int .i64 n] w fun e w' => e = .returned (.bool false) ∧ w' = w := by
  by_cases h0 : n < 0
  all_goals
    go_enter Try.func12, Try.ntmps12
    go_wp2_with fail
    go_ret
    exact ⟨rfl, rfl⟩

set_option maxHeartbeats 1000000 in
theorem rsample_yes {w : World} {p : Nat} {x : Es} {n : Nat} (h : EsR w p x) (hn : n ≤ 60000) :
    Calls Try.prog 12 #[ptr p, .int .i64 (n : Int)] w fun e w' => e = .returned (.bool true) ∧ EsR w' p (samp x n) ∧ Fr (At p) w w' := by
  have c0 : w.cell? ⟨p, 0, none⟩ = some (.int .i64 (x.s : Int)) := h.blk.cell 0
  have c1 : w.cell? ⟨p, 1, none⟩ = some (.int .i64 (x.d : Int)) := h.blk.cell 1
  have c2 : w.cell? ⟨p, 2, none⟩ = some (.bool x.t) := h.blk.cell 2
  have c3 : w.cell? ⟨p, 3, none⟩ = some (.int .i64 (x.k : Int)) := h.blk.cell 3
  have f0 := h.blk.frozen 0
  have f1 := h.blk.frozen 1
  have f2 := h.blk.frozen 2
  have f3 := h.blk.frozen 3
  have hs := h.ok.s
  have hd := h.ok.d
  have hok := samp_ok (n := n) h.ok hn
  rcases ht : x.t with _ | _
  · have key : EsR ((((w.setCell ⟨p, 3, none⟩ (.int .i64 0)).setCell ⟨p, 2, none⟩ (.bool true)).setCell ⟨p, 0, none⟩ (.int .i64 (8 * (n : Int)))).setCell ⟨p, 1, none⟩ (.int .i64 (2 * (n : Int)))) p (samp x n) ∧ Fr (At p) w ((((w.setCell ⟨p, 3, none⟩ (.int .i64 0)).setCell ⟨p, 2, none⟩ (.bool true)).setCell ⟨p, 0, none⟩ (.int .i64 (8 * (n : Int)))).setCell ⟨p, 1, none⟩ (.int .i64 (2 * (n : Int)))) := by
      refine ⟨⟨?_, hok, by rw [samp_k]; omega⟩, ((((Fr.refl (At p) w).setCell (p := ⟨p, 3, none⟩) (.inl rfl) _).setCell (p := ⟨p, 2, none⟩) (.inl rfl) _).setCell (p := ⟨p, 0, none⟩) (.inl rfl) _).setCell (p := ⟨p, 1, none⟩) (.inl rfl) _⟩
      have := (((h.blk.set_ 3 (.int .i64 0)).set_ 2 (.bool true)).set_ 0 (.int .i64 (8 * (n : Int)))).set_ 1 (.int .i64 (2 * (n : Int)))
      unfold samp
      rw [if_neg (by simp [ht])]
      simpa using this
    rw [ht] at c2
    obtain ⟨s, hse⟩ : ∃ s, s = x.s := ⟨_, rfl⟩
    obtain ⟨d, hde⟩ : ∃ d, d = x.d := ⟨_, rfl⟩
    obtain ⟨k, hke⟩ : ∃ k, k = x.k := ⟨_, rfl⟩
    rw [← hse] at c0 hs
    rw [← hde] at c1 hd
    rw [← hke] at c3
    have KEY := Lib.hid key
    clear key h ht hse hde hke hok
    go_enter Try.func12, Try.ntmps12
    go_wp2_with fail
    go_ret
    exact ⟨rfl, KEY.out⟩
  · have key : ∀ S D : Int, S = (x.s - x.s / 8 + n : Nat) → D = (x.d - x.d / 4 + dist n (x.s / 8) : Nat) → EsR (((w.setCell ⟨p, 3, none⟩ (.int .i64 0)).setCell ⟨p, 0, none⟩ (.int .i64 S)).setCell ⟨p, 1, none⟩ (.int .i64 D)) p (samp x n) ∧ Fr (At p) w (((w.setCell ⟨p, 3, none⟩ (.int .i64 0)).setCell ⟨p, 0, none⟩ (.int .i64 S)).setCell ⟨p, 1, none⟩ (.int .i64 D)) := by
      rintro S D rfl rfl
      refine ⟨⟨?_, hok, by rw [samp_k]; omega⟩, (((Fr.refl (At p) w).setCell (p := ⟨p, 3, none⟩) (.inl rfl) _).setCell (p := ⟨p, 0, none⟩) (.inl rfl) _).setCell (p := ⟨p, 1, none⟩) (.inl rfl) _⟩
      have := ((h.blk.set_ 3 (.int .i64 0)).set_ 0 (.int .i64 ((x.s - x.s / 8 + n : Nat) : Int))).set_ 1 (.int .i64 ((x.d - x.d / 4 + dist n (x.s / 8) : Nat) : Int))
      unfold samp
      rw [if_pos ht]
      simpa [ht] using this
    rw [ht] at c2
    obtain ⟨s, hse⟩ : ∃ s, s = x.s := ⟨_, rfl⟩
    obtain ⟨d, hde⟩ : ∃ d, d = x.d := ⟨_, rfl⟩
    obtain ⟨k, hke⟩ : ∃ k, k = x.k := ⟨_, rfl⟩
    rw [← hse] at c0 hs key
    rw [← hde] at c1 hd key
    rw [← hke] at c3
    have KEY := Lib.hid key
    clear key h ht hse hde hke hok
    go_enter Try.func12, Try.ntmps12
    go_wp2_with fail
    go_region
    go_wp2_with fail
    all_goals
      go_ret
      have hde := dist_eq n (s / 8)
      refine ⟨rfl, (KEY.out _ _ ?_ ?_).imp EsR.drew Fr.drew⟩
      · omega
      · split at hde <;> omega

set_option maxRecDepth 100000 in
set_option maxHeartbeats 1000000 in
theorem rwait_any {w : World} {p : Nat} {x : Es} (h : EsR w p x) :
    Calls Try.prog 15 #[ptr p] w fun e w' => e = .returned (.int .i64 (wait x : Int)) ∧ ∃ q, w' = w.drewN q := by
  have c0 : w.cell? ⟨p, 0, none⟩ = some (.int .i64 (x.s : Int)) := h.blk.cell 0
  have c1 : w.cell? ⟨p, 1, none⟩ = some (.int .i64 (x.d : Int)) := h.blk.cell 1
  have c2 : w.cell? ⟨p, 2, none⟩ = some (.bool x.t) := h.blk.cell 2
  have c3 : ∀ q, (w.drewN q).cell? ⟨p, 3, none⟩ = some (.int .i64 (x.k : Int)) := fun q => (h.blk.drewN q).cell 3
  have hs := h.ok.s
  have hd := h.ok.d
  have hk := h.k
  have hb := bs_le x
  have hbe : (bs x : Int) = if x.t = true then ((min (max (x.s / 8 + x.d) 10) 600 : Nat) : Int) else 30 := by unfold bs; split <;> rfl
  unfold wait
  obtain ⟨b, hb0⟩ : ∃ b, b = bs x := ⟨_, rfl⟩
  rw [← hb0] at hb hbe ⊢
  obtain ⟨s, hse⟩ : ∃ s, s = x.s := ⟨_, rfl⟩
  obtain ⟨d, hde⟩ : ∃ d, d = x.d := ⟨_, rfl⟩
  obtain ⟨k, hke⟩ : ∃ k, k = x.k := ⟨_, rfl⟩
  obtain ⟨t, hte⟩ : ∃ t, t = x.t := ⟨_, rfl⟩
  rw [← hse] at c0 hs hbe
  rw [← hde] at c1 hd hbe
  rw [← hke] at c3 hk ⊢
  rw [← hte] at c2 hbe
  have HBE := Lib.hid hbe
  clear h hse hde hke hte hb0 hbe
  have cases4 : (t = false ∧ (30 : Int) = b) ∨ (t = true ∧ (s : Int) / 8 + d < 10 ∧ (10 : Int) = b) ∨ (t = true ∧ (10 : Int) ≤ (s : Int) / 8 + d ∧ (600 : Int) < (s : Int) / 8 + d ∧ (600 : Int) = b) ∨ (t = true ∧ (10 : Int) ≤ (s : Int) / 8 + d ∧ (s : Int) / 8 + d ≤ 600 ∧ (s : Int) / 8 + d = b) := by
    have := HBE.out
    cases t
    · rw [if_neg (by simp)] at this
      exact .inl ⟨rfl, this.symm⟩
    · rw [if_pos rfl] at this
      rcases Int.lt_or_le ((s : Int) / 8 + d) 10 with h | h
      · exact .inr (.inl ⟨rfl, h, by omega⟩)
      · rcases Int.lt_or_le 600 ((s : Int) / 8 + d) with h' | h'
        · exact .inr (.inr (.inl ⟨rfl, h, h', by omega⟩))
        · exact .inr (.inr (.inr ⟨rfl, h, h', by omega⟩))
  clear HBE
  have HC3 := Lib.hid c3
  clear c3
  rcases cases4 with ⟨rfl, hv⟩ | ⟨rfl, h1, hv⟩ | ⟨rfl, h1, h2, hv⟩ | ⟨rfl, h1, h2, hv⟩
  all_goals
    have HV := Lib.hid hv
    clear hv
    go_enter Try.func15, Try.ntmps15
    go_wp2_with go_quiet (fail)
    go_loopw [3, 4] (fun m i wr => ∃ j : Nat, j ≤ k ∧ i = .int .i64 j ∧ (∃ v : Nat, m = .int .i64 (v : Int) ∧ Hid (v = wt b j) ∧ v ≤ 600) ∧ ∃ q, wr = w.drewN q) (fun m i _ => k - (intOf i).toNat)
    case atStart => exact ⟨0, Nat.zero_le _, rfl, ⟨b, by rw [HV.out], (wt_zero hb.2).symm, hb.2⟩, by first | exact ⟨0, rfl⟩ | exact ⟨_, rfl⟩⟩
    case round =>
      obtain ⟨j, hj, rfl, ⟨v, rfl, HV, hv⟩, q, rfl⟩ := hrel
      have c3 := HC3.out q
      by_cases hlt : j < k
      · by_cases h6 : v < 600
        · go_wp2_with fail
          all_goals
            go_roundw
            case rel => exact ⟨j + 1, by omega, by go_num, ⟨min (2 * v) 600, by congr 1; omega, by show _ = _; rw [wt_succ, ← HV.out], by omega⟩, _, rfl⟩
            case measure => simp [intOf]; omega
        · go_wp2_with fail
          go_ret
          have e : v = wt b k := by
            have h1 : wt b j = 600 := by rw [← HV.out]; omega
            have := wt_full h1 (k - j)
            rw [show j + (k - j) = k by omega] at this
            omega
          exact ⟨by show Ending.returned (.int .i64 (v : Int)) = _; rw [e], _, rfl⟩
      · obtain rfl : j = k := by omega
        go_wp2_with fail
        go_ret
        exact ⟨by show Ending.returned (.int .i64 (v : Int)) = _; rw [HV.out], _, rfl⟩
end Go.Proofs.Ytcfmdeimehoipaa.Rtt
