/-
  Contracts of package wind, and of the document's window.
-/
import Derived.Test.YtabjlmedcbnnpaaWndPlain
set_option linter.unusedVariables false
set_option linter.unusedSimpArgs false
namespace Go.Proofs.Ytabjlmedcbnnpaa.Wnd
open Go.ChangeShapes Go.WideShapes Go.ChangeAt Go.RowKit Go.Proofs.Ytabjlmedcbnnpaa.Words

abbrev ptr (p : Nat) : Value := .pointer (some ⟨p, 0, none⟩)
abbrev At (p : Nat) : Nat → Prop := fun k => k = p
abbrev TP : TypeId := 41
abbrev TR : TypeId := 34
/-- A window behind the pointer to block p, as it has become since w. -/
structure St (w V : World) (p : Nat) (T : TypeId) (s t c : Int) : Prop where
  blk : Blk V p T #[.int .i64 s, .int .i64 t, .int .i64 c]
  fr : Fr (At p) w V
section
variable {w V V' : World} {p : Nat} {T : TypeId} {s t c : Int}
theorem St.now (h : St w V p T s t c) : St V V p T s t c := ⟨h.blk, Fr.refl _ _⟩
theorem St.then_ {s' t' c' : Int} (h : St w V p T s t c) (k : St V V' p T s' t' c') : St w V' p T s' t' c' := ⟨k.blk, h.fr.same k.fr⟩
theorem St.drew (h : St w V p T s t c) : St w V.drew p T s t c := ⟨h.blk.drew, h.fr.drew⟩
theorem St.drewN (h : St w V p T s t c) (n : Nat) : St w (V.drewN n) p T s t c := ⟨h.blk.drewN n, h.fr.drewN n⟩
theorem St.set0 (h : St w V p T s t c) (K : Int) : St w (V.setCell ⟨p, 0, none⟩ (.int .i64 K)) p T K t c := ⟨by have := h.blk.set_ 0 (.int .i64 K); simpa using this, h.fr.setCell (p := ⟨p, 0, none⟩) (.inl rfl) _⟩
theorem St.set1 (h : St w V p T s t c) (K : Int) : St w (V.setCell ⟨p, 1, none⟩ (.int .i64 K)) p T s K c := ⟨by have := h.blk.set_ 1 (.int .i64 K); simpa using this, h.fr.setCell (p := ⟨p, 1, none⟩) (.inl rfl) _⟩
theorem St.set2 (h : St w V p T s t c) (K : Int) : St w (V.setCell ⟨p, 2, none⟩ (.int .i64 K)) p T s t K := ⟨by have := h.blk.set_ 2 (.int .i64 K); simpa using this, h.fr.setCell (p := ⟨p, 2, none⟩) (.inl rfl) _⟩
theorem St.as_ {s' t' c' : Int} (h : St w V p T s t c) (h0 : s = s') (h1 : t = t') (h2 : c = c') : St w V p T s' t' c' := by subst h0 h1 h2; exact h
theorem St.c0 (h : St w V p T s t c) : V.cell? ⟨p, 0, none⟩ = some (.int .i64 s) := h.blk.cell 0
theorem St.c1 (h : St w V p T s t c) : V.cell? ⟨p, 1, none⟩ = some (.int .i64 t) := h.blk.cell 1
theorem St.c2 (h : St w V p T s t c) : V.cell? ⟨p, 2, none⟩ = some (.int .i64 c) := h.blk.cell 2
end
abbrev P_ (w V : World) (p : Nat) (x : Wi) : Prop := St w V p TP x.s x.t x.c
abbrev R_ (w V : World) (p : Nat) (x : Wi) : Prop := St w V p TR x.s x.t x.c

set_option maxHeartbeats 1000000 in
theorem grow_any {w : World} {p : Nat} {s t c n : Int} (h : St w w p TP s t c) (hs : 0 ≤ s ∧ s ≤ 1048576) (hn : 0 ≤ n ∧ n ≤ 1200) :
    Calls Try.prog 19 #[ptr p, .int .i64 n] w fun e w' => e = .returned (.tuple #[]) ∧ St w w' p TP (min (s + n) 1048576) t c := by
  have c0 := h.c0
  have f0 := h.blk.frozen 0
  have H := Lib.hid h
  clear h
  go_enter Try.func19, Try.ntmps19
  go_wp2_with fail
  all_goals
    go_end0
    exact ⟨rfl, (H.out.set0 _).as_ (by omega) rfl rfl⟩

set_option maxHeartbeats 1000000 in
theorem fall_any {w : World} {p : Nat} {s t c n : Int} (h : St w w p TP s t c) :
    Calls Try.prog 23 #[ptr p, .int .i64 n] w fun e w' => e = .returned (.tuple #[]) ∧ St w w' p TP n t 0 := by
  have c0 := h.c0
  have c2 := h.c2
  have f0 := h.blk.frozen 0
  have f2 := h.blk.frozen 2
  have H := Lib.hid h
  clear h
  go_enter Try.func23, Try.ntmps23
  go_wp2_with fail
  go_end0
  first
  | exact ⟨rfl, (H.out.set0 _).set2 _⟩
  | exact ⟨rfl, (H.out.set2 _).set0 _⟩

set_option maxHeartbeats 1000000 in
theorem lower_any {w : World} {p : Nat} {s t c : Int} (h : St w w p TP s t c) (hs : 0 ≤ s ∧ s ≤ 1048576) :
    Calls Try.prog 22 #[ptr p] w fun e w' => e = .returned (.tuple #[]) ∧ St w w' p TP s (max (s / 2) 4800) c := by
  have c0 := h.c0
  have c1 := h.c1
  have f1 := h.blk.frozen 1
  have H := Lib.hid h
  clear h
  go_enter Try.func22, Try.ntmps22
  go_wp2_with fail
  all_goals
    go_end0
    exact ⟨rfl, (H.out.set1 _).as_ rfl (by omega) rfl⟩

set_option maxHeartbeats 1000000 in
theorem lost_any {w : World} {p : Nat} {x : Wi} {k : Nat} (h : P_ w w p x) (ok : x.Ok k) :
    Calls Try.prog 12 #[ptr p] w fun e w' => e = .returned (.tuple #[]) ∧ P_ w w' p (lost x) := by
  have hs1 := ok.s1
  have hs2 := ok.s2
  have H := Lib.hid (lower_any h (by omega))
  clear h
  go_enter Try.func12, Try.ntmps12
  go_wp2_with fail
  refine H.out.mono ?_
  rintro e w1 ⟨rfl, h1⟩
  have c1 := h1.c1
  have H1 := Lib.hid h1
  clear h1
  go_wp2_with fail
  refine (fall_any H1.out.now).mono ?_
  rintro e w2 ⟨rfl, h2⟩
  have H2 := Lib.hid (H1.out.then_ h2)
  clear h2
  go_wp2_with fail
  go_end0
  exact ⟨rfl, H2.out⟩

set_option maxHeartbeats 1000000 in
theorem late_any {w : World} {p : Nat} {x : Wi} {k : Nat} (h : P_ w w p x) (ok : x.Ok k) :
    Calls Try.prog 14 #[ptr p] w fun e w' => e = .returned (.tuple #[]) ∧ P_ w w' p (late x) := by
  have hs1 := ok.s1
  have hs2 := ok.s2
  have H := Lib.hid (lower_any h (by omega))
  clear h
  go_enter Try.func14, Try.ntmps14
  go_wp2_with fail
  refine H.out.mono ?_
  rintro e w1 ⟨rfl, h1⟩
  have H1 := Lib.hid h1
  clear h1
  go_wp2_with fail
  refine (fall_any H1.out.now).mono ?_
  rintro e w2 ⟨rfl, h2⟩
  have H2 := Lib.hid (H1.out.then_ h2)
  clear h2
  go_wp2_with fail
  go_end0
  exact ⟨rfl, H2.out⟩

set_option maxHeartbeats 1000000 in
theorem rest_any {w : World} {p : Nat} {x : Wi} {k : Nat} (h : P_ w w p x) (ok : x.Ok k) :
    Calls Try.prog 15 #[ptr p] w fun e w' => e = .returned (.tuple #[]) ∧ P_ w w' p (rest x) := by
  have c0 := h.c0
  have hs1 := ok.s1
  have hs2 := ok.s2
  have H := Lib.hid (fun n => (fall_any (n := n) h.drew.now).mono (fun e w' k => (⟨k.1, h.drew.then_ k.2⟩ : e = _ ∧ St w w' p TP n x.t 0)))
  unfold rest half
  obtain ⟨s, hs⟩ : ∃ s, s = x.s := ⟨_, rfl⟩
  rw [← hs] at c0 hs1 hs2 ⊢
  clear h ok hs
  go_enter Try.func15, Try.ntmps15
  go_wp2_with fail
  go_still_tail 12, (by kernel_rfl)
  change wpList _ _ _ _ _ w.drew
  go_wp2_with fail
  all_goals
    refine (H.out _).mono ?_
    rintro e w2 ⟨rfl, h2⟩
    have H2 := Lib.hid h2
    clear h2
    go_wp2_with fail
    go_end0
    exact ⟨rfl, H2.out.as_ (by show _ = min (max (s / 2) 4800) s; omega) rfl rfl⟩

set_option maxHeartbeats 1000000 in
theorem room_any {w : World} {p : Nat} {x : Wi} {k : Nat} (h : P_ w w p x) (ok : x.Ok k) (f : Int) (hf : -9223372036854775808 ≤ f ∧ f ≤ 9223372036854775807) :
    Calls Try.prog 17 #[ptr p, .int .i64 f] w fun e w' => e = .returned (.int .i64 (max (x.s - max f 0) 0)) ∧ w = w' := by
  have c0 := h.c0
  have hs1 := ok.s1
  have hs2 := ok.s2
  obtain ⟨s, hs⟩ : ∃ s, s = x.s := ⟨_, rfl⟩
  rw [← hs] at c0 hs1 hs2 ⊢
  clear h ok hs
  by_cases g : f < 0
  all_goals
    go_enter Try.func17, Try.ntmps17
    go_wp2_with fail
    all_goals
      go_ret
      refine ⟨?_, rfl⟩
      first
      | (rw [show max (s - max f 0) 0 = s by omega]; rfl)
      | (rw [show max (s - max f 0) 0 = s - f by omega]; rfl)
      | (rw [show max (s - max f 0) 0 = 0 by omega]; rfl)

set_option maxHeartbeats 1000000 in
theorem size_any {w : World} {p : Nat} {x : Wi} (h : P_ w w p x) :
    Calls Try.prog 16 #[ptr p] w fun e w' => e = .returned (.tuple #[.int .i64 x.s, .int .i64 x.t, .int .i64 x.c]) ∧ ∃ q, w' = w.drewN q := by
  have c0 := h.c0
  have c1 := h.c1
  have c2 := h.c2
  clear h
  go_enter Try.func16, Try.ntmps16
  go_wp2_with fail
  go_region
  go_wp2_with fail
  go_ret3
  exact ⟨rfl, 1, rfl⟩

set_option maxHeartbeats 1000000 in
theorem collect_any {w : World} {p : Nat} {x : Wi} {k : Nat} (h : P_ w w p x) (ok : x.Ok k) (n : Int) (hn : 0 ≤ n ∧ n ≤ 1073741824) (full : Bool) :
    Calls Try.prog 18 #[ptr p, .int .i64 n, .bool full] w fun e w' => e = .returned (.tuple #[]) ∧ P_ w w' p (col x n full) := by
  have c0 := h.c0
  have c2 := h.c2
  have f2 := h.blk.frozen 2
  obtain ⟨hs1, hs2, ht1, ht2, hc1, hc2, hk⟩ := ok
  obtain ⟨s, t, c⟩ := x
  simp only at c0 c2 hs1 hs2 ht1 ht2 hc1 hc2 ⊢
  obtain ⟨y, hy⟩ : ∃ y, y = col ⟨s, t, c⟩ n full := ⟨_, rfl⟩
  rw [← hy]
  have HY := Lib.hid hy
  clear hy
  have H : Hid (St w w p TP s t c) := h
  clear h
  have H1 := Lib.hid (H.out.set2 (c + n))
  obtain ⟨w1, hw1⟩ : ∃ w1, w1 = w.setCell ⟨p, 2, none⟩ (.int .i64 (c + n)) := ⟨_, rfl⟩
  rw [← hw1] at H1
  have HW := Lib.hid hw1
  clear hw1
  have c0' := H1.out.c0
  have c2' := H1.out.c2
  have f2' := H1.out.blk.frozen 2
  by_cases g : s ≤ c + n
  · cases full
    · go_enter Try.func18, Try.ntmps18
      go_upto_region 1 with (fail)
      rw [← HW.out]
      go_region
      go_wp2_with fail
      go_end0
      exact ⟨rfl, by rw [HY.out]; unfold col; rw [if_neg (by rintro ⟨h1, h2⟩; first | exact absurd h1 (by decide) | exact absurd h2 (by show ¬ (s ≤ c + n); omega))]; exact H1.out.drew⟩
    · go_enter Try.func18, Try.ntmps18
      go_upto_region 1 with (fail)
      rw [← HW.out]
      go_region
      go_wp2_with fail
      go_region
      go_wp2_with fail
      refine (grow_any ((H1.out.drew.set2 (c + n - s)).drew.now) (by omega) (by omega)).mono ?_
      rintro e w2 ⟨rfl, h2⟩
      have H2 := Lib.hid ((H1.out.drew.set2 (c + n - s)).drew.then_ h2)
      clear h2
      go_wp2_with fail
      go_end0
      exact ⟨rfl, by rw [HY.out]; unfold col; rw [if_pos ⟨rfl, g⟩]; exact H2.out⟩
  · cases full
    · go_enter Try.func18, Try.ntmps18
      go_upto_region 1 with (fail)
      rw [← HW.out]
      go_region
      go_wp2_with fail
      go_end0
      exact ⟨rfl, by rw [HY.out]; unfold col; rw [if_neg (by rintro ⟨h1, h2⟩; first | exact absurd h1 (by decide) | exact absurd h2 (by show ¬ (s ≤ c + n); omega))]; exact H1.out.drew⟩
    · go_enter Try.func18, Try.ntmps18
      go_upto_region 1 with (fail)
      rw [← HW.out]
      go_region
      go_wp2_with fail
      go_end0
      exact ⟨rfl, by rw [HY.out]; unfold col; rw [if_neg (by rintro ⟨h1, h2⟩; first | exact absurd h1 (by decide) | exact absurd h2 (by show ¬ (s ≤ c + n); omega))]; exact H1.out.drew⟩

set_option maxHeartbeats 1000000 in
theorem acked_any {w : World} {p : Nat} {x : Wi} {k : Nat} (h : P_ w w p x) (ok : x.Ok k) (n f : Int) (hn : -9223372036854775808 ≤ n ∧ n ≤ 9223372036854775807) (on : Bool) :
    Calls Try.prog 10 #[ptr p, .int .i64 n, .int .i64 f, .bool on] w fun e w' => e = .returned (.tuple #[]) ∧ P_ w w' p (ack x n f on) := by
  have c0 := h.c0
  have c1 := h.c1
  have hcl := cl_le n
  have HG := Lib.hid (fun m => grow_any (n := m) h.drew.now)
  have HC := Lib.hid (fun m hm b => collect_any h.drew.now ok m hm b)
  obtain ⟨s, t, c⟩ := x
  obtain ⟨hs1, hs2, ht1, ht2, hc1, hc2, hk⟩ := ok
  simp only at c0 c1 hs1 hs2 ht1 ht2 hc1 hc2 HG HC ⊢
  obtain ⟨y, hy⟩ : ∃ y, y = ack ⟨s, t, c⟩ n f on := ⟨_, rfl⟩
  rw [← hy]
  have HY := Lib.hid hy
  clear hy
  have H : Hid (St w w p TP s t c) := h
  clear h
  have hm : (n < 0 ∧ cl n = 0) ∨ (1073741824 < n ∧ cl n = 1073741824) ∨ (0 ≤ n ∧ n ≤ 1073741824 ∧ cl n = n) := by unfold cl; omega
  obtain ⟨m, hme⟩ : ∃ m, m = cl n := ⟨_, rfl⟩
  rw [← hme] at hm hcl
  have HM := Lib.hid hme
  clear hme
  rcases hm with ⟨g1, g2⟩ | ⟨g1, g2⟩ | ⟨g1, g2, g3⟩
  all_goals
    by_cases gf : s ≤ f
    · by_cases gt : s ≤ t
      · cases on
        · go_enter Try.func10, Try.ntmps10
          go_wp2_with fail
          go_region
          go_wp2_with fail
          go_end0
          exact ⟨rfl, by rw [HY.out]; unfold ack; rw [if_pos (by show s ≤ t; omega), if_neg (by rintro ⟨h1, h2⟩; cases h1)]; exact H.out.drew⟩
        · go_enter Try.func10, Try.ntmps10
          go_wp2_with fail
          go_region
          go_wp2_with fail
          all_goals
            refine (HG.out _ (by omega) (by omega)).mono ?_
            rintro e w2 ⟨rfl, h2⟩
            have H2 := Lib.hid (H.out.drew.then_ h2)
            clear h2
            go_wp2_with fail
            go_end0
            exact ⟨rfl, by rw [HY.out]; unfold ack; rw [if_pos (by show s ≤ t; omega), if_pos ⟨rfl, by show s ≤ f; omega⟩]; exact H2.out.as_ (by show _ = min (s + min (cl n) 1200) 1048576; rw [← HM.out]; omega) rfl rfl⟩
      · go_enter Try.func10, Try.ntmps10
        go_wp2_with fail
        go_region
        go_wp2_with fail
        refine (HC.out _ (by omega) _).mono ?_
        rintro e w2 ⟨rfl, h2⟩
        have H2 := Lib.hid (H.out.drew.then_ h2)
        clear h2
        go_wp2_with fail
        go_end0
        refine ⟨rfl, ?_⟩
        rw [HY.out]; unfold ack; rw [if_neg (by show ¬ (s ≤ t); omega), ← HM.out]
        rw [show decide (({ s := s, t := t, c := c } : Wi).s ≤ f) = true from decide_eq_true (by show (s ≤ f); omega)]
        first
        | exact H2.out
        | (rw [g2]; exact H2.out)
        | (rw [g3]; exact H2.out)
    · by_cases gt : s ≤ t
      · cases on
        · go_enter Try.func10, Try.ntmps10
          go_wp2_with fail
          go_region
          go_wp2_with fail
          go_end0
          exact ⟨rfl, by rw [HY.out]; unfold ack; rw [if_pos (by show s ≤ t; omega), if_neg (by rintro ⟨h1, h2⟩; cases h1)]; exact H.out.drew⟩
        · go_enter Try.func10, Try.ntmps10
          go_wp2_with fail
          go_region
          go_wp2_with fail
          go_end0
          exact ⟨rfl, by rw [HY.out]; unfold ack; rw [if_pos (by show s ≤ t; omega), if_neg (by rintro ⟨h1, h2⟩; exact absurd h2 (by show ¬ (s ≤ f); omega))]; exact H.out.drew⟩
      · go_enter Try.func10, Try.ntmps10
        go_wp2_with fail
        go_region
        go_wp2_with fail
        refine (HC.out _ (by omega) _).mono ?_
        rintro e w2 ⟨rfl, h2⟩
        have H2 := Lib.hid (H.out.drew.then_ h2)
        clear h2
        go_wp2_with fail
        go_end0
        refine ⟨rfl, ?_⟩
        rw [HY.out]; unfold ack; rw [if_neg (by show ¬ (s ≤ t); omega), ← HM.out]
        rw [show decide (({ s := s, t := t, c := c } : Wi).s ≤ f) = false from decide_eq_false (by show ¬ (s ≤ f); omega)]
        first
        | exact H2.out
        | (rw [g2]; exact H2.out)
        | (rw [g3]; exact H2.out)
end Go.Proofs.Ytabjlmedcbnnpaa.Wnd
