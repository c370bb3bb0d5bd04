/-
  The document's window; windows beside what was there; what must be answered ahead of everything else.
-/
import Derived.Test.YtabjlmedcbnnpaaWnd
set_option linter.unusedVariables false
set_option linter.unusedSimpArgs false
namespace Go.Proofs.Ytabjlmedcbnnpaa.Wnd
open Go.ChangeShapes Go.WideShapes Go.ChangeAt Go.RowKit Go.Proofs.Ytabjlmedcbnnpaa.Words

set_option maxHeartbeats 1000000 in
theorem clip_any {w : World} {n : Int} : Calls Try.prog 20 #[.int .i64 n] w fun e w' => e = .returned (.int .i64 (cl n)) ∧ w = w' := by
  have hm : (n < 0 ∧ cl n = 0) ∨ (1073741824 < n ∧ cl n = 1073741824) ∨ (0 ≤ n ∧ n ≤ 1073741824 ∧ cl n = n) := by unfold cl; omega
  obtain ⟨m, hme⟩ : ∃ m, m = cl n := ⟨_, rfl⟩
  rw [← hme] at hm ⊢
  clear hme
  rcases hm with ⟨g1, rfl⟩ | ⟨g1, rfl⟩ | ⟨g1, g2, rfl⟩
  all_goals
    go_enter Try.func20, Try.ntmps20
    go_wp2_with fail
    go_ret
    exact ⟨rfl, rfl⟩

set_option maxHeartbeats 1000000 in
theorem half_any {w : World} {p : Nat} {x : Wi} (h : R_ w w p x) (hs : 0 ≤ x.s ∧ x.s ≤ 1048576) : Calls Try.prog 13 #[ptr p] w fun e w' => e = .returned (.int .i64 (half x)) ∧ w = w' := by
  have c0 := h.c0
  clear h
  unfold half
  obtain ⟨s, hse⟩ : ∃ s, s = x.s := ⟨_, rfl⟩
  rw [← hse] at c0 hs ⊢
  clear hse
  have hm : (4800 < s / 2 ∧ max (s / 2) 4800 = s / 2) ∨ (s / 2 ≤ 4800 ∧ max (s / 2) 4800 = 4800) := by omega
  obtain ⟨m, hme⟩ : ∃ m, m = max (s / 2) 4800 := ⟨_, rfl⟩
  rw [← hme] at hm ⊢
  clear hme
  rcases hm with ⟨g1, rfl⟩ | ⟨g1, rfl⟩
  all_goals
    go_enter Try.func13, Try.ntmps13
    go_wp2_with fail
    all_goals
      go_ret
      exact ⟨rfl, rfl⟩

set_option maxHeartbeats 1000000 in
theorem rgrow_any {w : World} {p : Nat} {s t c n : Int} (h : St w w p TR s t c) (hs : 0 ≤ s ∧ s ≤ 1048576) (hn : 0 ≤ n ∧ n ≤ 1200) :
    Calls Try.prog 21 #[ptr p, .int .i64 n] w fun e w' => e = .returned (.tuple #[]) ∧ St w w' p TR (min (s + n) 1048576) t c := by
  have c0 := h.c0
  have f0 := h.blk.frozen 0
  have H := Lib.hid h
  clear h
  by_cases g : s + n ≤ 1048576
  all_goals
    go_enter Try.func21, Try.ntmps21
    go_wp2_with fail
    go_end0
    first
    | exact ⟨rfl, (H.out.set0 _).as_ (by omega) rfl rfl⟩
    | exact ⟨rfl, ((H.out.set0 _).set0 _).as_ (by omega) rfl rfl⟩

set_option maxRecDepth 20000 in
set_option maxHeartbeats 2000000 in
theorem racked_any {w : World} {p : Nat} {x : Wi} {k : Nat} (h : R_ w w p x) (ok : x.Ok k) (n f : Int) (on : Bool) :
    Calls Try.prog 11 #[ptr p, .int .i64 n, .int .i64 f, .bool on] w fun e w' => e = .returned (.tuple #[]) ∧ R_ w w' p (ack x n f on) := by
  have c0 := h.c0
  have c1 := h.c1
  have c2 := h.c2
  have f2 := h.blk.frozen 2
  have hcl := cl_le n
  have HG := Lib.hid (fun q m => rgrow_any (n := m) (h.drewN q).now)
  obtain ⟨s, t, c⟩ := x
  obtain ⟨hs1, hs2, ht1, ht2, hc1, hc2, hk⟩ := ok
  simp only at c0 c1 c2 hs1 hs2 ht1 ht2 hc1 hc2 HG ⊢
  obtain ⟨y, hy⟩ : ∃ y, y = ack ⟨s, t, c⟩ n f on := ⟨_, rfl⟩
  rw [← hy]
  have HY := Lib.hid hy
  clear hy
  have H : Hid (St w w p TR s t c) := h
  clear h
  have hf : (s ≤ cl f ∧ s ≤ f) ∨ (cl f < s ∧ f < s) := by unfold cl; omega
  obtain ⟨m, hme⟩ : ∃ m, m = cl n := ⟨_, rfl⟩
  obtain ⟨g, hge⟩ : ∃ g, g = cl f := ⟨_, rfl⟩
  rw [← hme] at hcl
  rw [← hge] at hf
  have HM := Lib.hid hme
  have HF := Lib.hid hge
  clear hme hge
  rcases hf with ⟨g1, g2⟩ | ⟨g1, g2⟩
  · by_cases gt : s ≤ t
    · cases on
      · go_enter Try.func11, Try.ntmps11
        go_wp2_with fail
        refine clip_any.mono ?_
        rintro e w1 ⟨rfl, rfl⟩
        rw [← HM.out]
        go_wp2_with fail
        refine clip_any.mono ?_
        rintro e w1 ⟨rfl, rfl⟩
        rw [← HF.out]
        go_wp2_with fail
        go_region
        go_wp2_with fail
        go_end0
        exact ⟨rfl, by rw [HY.out]; unfold ack; rw [if_pos (by show s ≤ t; omega), if_neg (by rintro ⟨h1, h2⟩; first | exact absurd h1 (by decide) | exact absurd h2 (by show ¬ (s ≤ f); omega))]; exact H.out.drew⟩
      · rcases Int.lt_or_le m 1200 with g3 | g3
        · go_enter Try.func11, Try.ntmps11
          go_wp2_with fail
          refine clip_any.mono ?_
          rintro e w1 ⟨rfl, rfl⟩
          rw [← HM.out]
          go_wp2_with fail
          refine clip_any.mono ?_
          rintro e w1 ⟨rfl, rfl⟩
          rw [← HF.out]
          go_wp2_with fail
          go_region
          go_wp2_with fail
          go_region
          go_wp2_with fail
          refine (HG.out 2 _ (by omega) (by omega)).mono ?_
          rintro e w2 ⟨rfl, h2⟩
          have H2 := Lib.hid ((H.out.drewN 2).then_ h2)
          clear h2
          go_wp2_with fail
          go_end0
          exact ⟨rfl, by rw [HY.out]; unfold ack; rw [if_pos (by show s ≤ t; omega), if_pos ⟨rfl, by show s ≤ f; omega⟩]; exact H2.out.as_ (by show _ = min (s + min (cl n) 1200) 1048576; rw [← HM.out]; omega) rfl rfl⟩
        · go_enter Try.func11, Try.ntmps11
          go_wp2_with fail
          refine clip_any.mono ?_
          rintro e w1 ⟨rfl, rfl⟩
          rw [← HM.out]
          go_wp2_with fail
          refine clip_any.mono ?_
          rintro e w1 ⟨rfl, rfl⟩
          rw [← HF.out]
          go_wp2_with fail
          go_region
          go_wp2_with fail
          go_region
          go_wp2_with fail
          go_region
          go_wp2_with fail
          refine (HG.out 3 _ (by omega) (by omega)).mono ?_
          rintro e w2 ⟨rfl, h2⟩
          have H2 := Lib.hid ((H.out.drewN 3).then_ h2)
          clear h2
          go_wp2_with fail
          go_end0
          exact ⟨rfl, by rw [HY.out]; unfold ack; rw [if_pos (by show s ≤ t; omega), if_pos ⟨rfl, by show s ≤ f; omega⟩]; exact H2.out.as_ (by show _ = min (s + min (cl n) 1200) 1048576; rw [← HM.out]; omega) rfl rfl⟩
    · have hd : decide (s ≤ t) = false := decide_eq_false gt
      rcases Int.lt_or_le (c + m) s with g3 | g3
      · have hd2 : decide (s ≤ c + m) = false := decide_eq_false (by omega)
        go_enter Try.func11, Try.ntmps11
        go_wp2_with fail
        refine clip_any.mono ?_
        rintro e w1 ⟨rfl, rfl⟩
        rw [← HM.out]
        go_wp2_with fail
        refine clip_any.mono ?_
        rintro e w1 ⟨rfl, rfl⟩
        rw [← HF.out]
        go_wp2_with fail
        go_region
        go_wp2_with fail
        go_region
        go_wp2_with fail
        go_region
        go_upto_region 3 with (fail)
        obtain ⟨w1, hw1⟩ : ∃ w1, w1 = (w.setCell ⟨p, 2, none⟩ (.int .i64 (c + m))).drew.drew.drew := ⟨_, rfl⟩
        have H1 := Lib.hid (H.out.set2 (c + m)).drew.drew.drew
        rw [← hw1] at H1 ⊢
        clear hw1
        have c0' := H1.out.c0
        have c2' := H1.out.c2
        have f2' := H1.out.blk.frozen 2
        go_region
        go_wp2_with fail
        go_end0
        refine ⟨rfl, ?_⟩
        rw [HY.out]
        unfold ack col
        rw [if_neg (by show ¬ (s ≤ t); omega), if_neg (by rintro ⟨h1, h2⟩; have h3 := of_decide_eq_true h1; simp only at h2 h3; have := HM.out; omega), ← HM.out]
        exact H1.out.drew
      · have hd2 : decide (s ≤ c + m) = true := decide_eq_true g3
        go_enter Try.func11, Try.ntmps11
        go_wp2_with fail
        refine clip_any.mono ?_
        rintro e w1 ⟨rfl, rfl⟩
        rw [← HM.out]
        go_wp2_with fail
        refine clip_any.mono ?_
        rintro e w1 ⟨rfl, rfl⟩
        rw [← HF.out]
        go_wp2_with fail
        go_region
        go_wp2_with fail
        go_region
        go_wp2_with fail
        go_region
        go_upto_region 3 with (fail)
        obtain ⟨w1, hw1⟩ : ∃ w1, w1 = (w.setCell ⟨p, 2, none⟩ (.int .i64 (c + m))).drew.drew.drew := ⟨_, rfl⟩
        have H1 := Lib.hid (H.out.set2 (c + m)).drew.drew.drew
        rw [← hw1] at H1 ⊢
        clear hw1
        have c0' := H1.out.c0
        have c2' := H1.out.c2
        have f2' := H1.out.blk.frozen 2
        go_region
        go_wp2_with fail
        go_region
        go_wp2_with fail
        refine (rgrow_any (H1.out.drew.set2 (c + m - s)).drew.now (by omega) (by omega)).mono ?_
        rintro e w2 ⟨rfl, h2⟩
        have H2 := Lib.hid ((H1.out.drew.set2 (c + m - s)).drew.then_ h2)
        clear h2
        go_wp2_with fail
        go_end0
        refine ⟨rfl, ?_⟩
        rw [HY.out]
        unfold ack col
        rw [if_neg (by show ¬ (s ≤ t); omega), if_pos ⟨decide_eq_true (by show s ≤ f; omega), by show s ≤ c + cl n; rw [← HM.out]; omega⟩, ← HM.out]
        exact H2.out
  · by_cases gt : s ≤ t
    · cases on
      · go_enter Try.func11, Try.ntmps11
        go_wp2_with fail
        refine clip_any.mono ?_
        rintro e w1 ⟨rfl, rfl⟩
        rw [← HM.out]
        go_wp2_with fail
        refine clip_any.mono ?_
        rintro e w1 ⟨rfl, rfl⟩
        rw [← HF.out]
        go_wp2_with fail
        go_region
        go_wp2_with fail
        go_end0
        exact ⟨rfl, by rw [HY.out]; unfold ack; rw [if_pos (by show s ≤ t; omega), if_neg (by rintro ⟨h1, h2⟩; first | exact absurd h1 (by decide) | exact absurd h2 (by show ¬ (s ≤ f); omega))]; exact H.out.drew⟩
      · go_enter Try.func11, Try.ntmps11
        go_wp2_with fail
        refine clip_any.mono ?_
        rintro e w1 ⟨rfl, rfl⟩
        rw [← HM.out]
        go_wp2_with fail
        refine clip_any.mono ?_
        rintro e w1 ⟨rfl, rfl⟩
        rw [← HF.out]
        go_wp2_with fail
        go_region
        go_wp2_with fail
        go_end0
        exact ⟨rfl, by rw [HY.out]; unfold ack; rw [if_pos (by show s ≤ t; omega), if_neg (by rintro ⟨h1, h2⟩; first | exact absurd h1 (by decide) | exact absurd h2 (by show ¬ (s ≤ f); omega))]; exact H.out.drew⟩
    · have hd : decide (s ≤ t) = false := decide_eq_false gt
      rcases Int.lt_or_le (c + m) s with g3 | g3
      · have hd2 : decide (s ≤ c + m) = false := decide_eq_false (by omega)
        go_enter Try.func11, Try.ntmps11
        go_wp2_with fail
        refine clip_any.mono ?_
        rintro e w1 ⟨rfl, rfl⟩
        rw [← HM.out]
        go_wp2_with fail
        refine clip_any.mono ?_
        rintro e w1 ⟨rfl, rfl⟩
        rw [← HF.out]
        go_wp2_with fail
        go_region
        go_wp2_with fail
        go_region
        go_wp2_with fail
        go_region
        go_upto_region 3 with (fail)
        obtain ⟨w1, hw1⟩ : ∃ w1, w1 = (w.setCell ⟨p, 2, none⟩ (.int .i64 (c + m))).drew.drew.drew := ⟨_, rfl⟩
        have H1 := Lib.hid (H.out.set2 (c + m)).drew.drew.drew
        rw [← hw1] at H1 ⊢
        clear hw1
        have c0' := H1.out.c0
        have c2' := H1.out.c2
        have f2' := H1.out.blk.frozen 2
        go_region
        go_wp2_with fail
        go_end0
        refine ⟨rfl, ?_⟩
        rw [HY.out]
        unfold ack col
        rw [if_neg (by show ¬ (s ≤ t); omega), if_neg (by rintro ⟨h1, h2⟩; have h3 := of_decide_eq_true h1; simp only at h2 h3; have := HM.out; omega), ← HM.out]
        exact H1.out.drew
      · have hd2 : decide (s ≤ c + m) = true := decide_eq_true g3
        go_enter Try.func11, Try.ntmps11
        go_wp2_with fail
        refine clip_any.mono ?_
        rintro e w1 ⟨rfl, rfl⟩
        rw [← HM.out]
        go_wp2_with fail
        refine clip_any.mono ?_
        rintro e w1 ⟨rfl, rfl⟩
        rw [← HF.out]
        go_wp2_with fail
        go_region
        go_wp2_with fail
        go_region
        go_wp2_with fail
        go_region
        go_upto_region 3 with (fail)
        obtain ⟨w1, hw1⟩ : ∃ w1, w1 = (w.setCell ⟨p, 2, none⟩ (.int .i64 (c + m))).drew.drew.drew := ⟨_, rfl⟩
        have H1 := Lib.hid (H.out.set2 (c + m)).drew.drew.drew
        rw [← hw1] at H1 ⊢
        clear hw1
        have c0' := H1.out.c0
        have c2' := H1.out.c2
        have f2' := H1.out.blk.frozen 2
        go_region
        go_wp2_with fail
        go_end0
        refine ⟨rfl, ?_⟩
        rw [HY.out]
        unfold ack col
        rw [if_neg (by show ¬ (s ≤ t); omega), if_neg (by rintro ⟨h1, h2⟩; have h3 := of_decide_eq_true h1; simp only at h2 h3; have := HM.out; omega), ← HM.out]
        exact H1.out.drew
/-! ### beside what was there -/
theorem at_below {w wr w' : World} {p : Nat} (hb : Below w.heap.size w wr) (hp : w.heap.size ≤ p) (hf : Fr (At p) wr w') : Below w.heap.size w w' :=
  below_fr hb hf (Nat.le_refl _) (fun x hx => by have : x = p := hx; omega)
/-- The program's window beside what was there. -/
structure S1 (w wr : World) (p : Nat) (x : Wi) : Prop where
  e : P_ wr wr p x
  b : Below w.heap.size w wr
  le : w.heap.size ≤ p
theorem S1.step {w wr w' : World} {p : Nat} {x y : Wi} (h : S1 w wr p x) (k : P_ wr w' p y) : S1 w w' p y := ⟨k.now, at_below h.b h.le k.fr, h.le⟩
theorem S1.drewN {w wr : World} {p : Nat} {x : Wi} (h : S1 w wr p x) (q : Nat) : S1 w (wr.drewN q) p x := ⟨(h.e.drewN q).now, below_drewN h.b q, h.le⟩

set_option maxHeartbeats 1000000 in
theorem new_any {w wr : World} (hb : Below w.heap.size w wr) : Calls Try.prog 8 #[] wr fun e w' => e = .returned (ptr wr.heap.size) ∧ S1 w w' wr.heap.size wi0 := by
  have H : Hid (S1 w (wr.alloc (.cells #[.int .i64 4380, .int .i64 1048576, .int .i64 0] TP)) wr.heap.size wi0) := ⟨⟨Blk.new wr _ _, Fr.refl _ _⟩, hb.alloc hb.size _, hb.size⟩
  clear hb
  go_enter Try.func8, Try.ntmps8
  go_wp2_with fail
  go_ret
  exact ⟨rfl, H.out⟩

set_option maxHeartbeats 1000000 in
theorem rnew_any {w : World} : Calls Try.prog 9 #[] w fun e w' => e = .returned (ptr w.heap.size) ∧ R_ w' w' w.heap.size wi0 ∧ Hid (Fr (fun _ => False) w w') := by
  have H : Hid (R_ (w.alloc (.cells #[.int .i64 4380, .int .i64 1048576, .int .i64 0] TR)) (w.alloc (.cells #[.int .i64 4380, .int .i64 1048576, .int .i64 0] TR)) w.heap.size wi0) := ⟨Blk.new w _ _, Fr.refl _ _⟩
  go_enter Try.func9, Try.ntmps9
  go_wp2_with fail
  go_ret
  exact ⟨rfl, H.out, (Fr.refl _ w).alloc _⟩

section
variable {w wr : World} {p k : Nat} {x : Wi}
theorem S1.acked (h : S1 w wr p x) (ok : x.Ok k) (n f : Int) (hn : -9223372036854775808 ≤ n ∧ n ≤ 9223372036854775807) (on : Bool) : Calls Try.prog 10 #[ptr p, .int .i64 n, .int .i64 f, .bool on] wr fun e w' => e = .returned (.tuple #[]) ∧ Hid (S1 w w' p (ack x n f on)) :=
  (acked_any h.e ok n f hn on).mono (by rintro e w' ⟨rfl, h1⟩; exact ⟨rfl, h.step h1⟩)
theorem S1.lost (h : S1 w wr p x) (ok : x.Ok k) : Calls Try.prog 12 #[ptr p] wr fun e w' => e = .returned (.tuple #[]) ∧ Hid (S1 w w' p (Wnd.lost x)) :=
  (lost_any h.e ok).mono (by rintro e w' ⟨rfl, h1⟩; exact ⟨rfl, h.step h1⟩)

theorem S1.late (h : S1 w wr p x) (ok : x.Ok k) : Calls Try.prog 14 #[ptr p] wr fun e w' => e = .returned (.tuple #[]) ∧ Hid (S1 w w' p (Wnd.late x)) :=
  (late_any h.e ok).mono (by rintro e w' ⟨rfl, h1⟩; exact ⟨rfl, h.step h1⟩)

theorem S1.rest (h : S1 w wr p x) (ok : x.Ok k) : Calls Try.prog 15 #[ptr p] wr fun e w' => e = .returned (.tuple #[]) ∧ Hid (S1 w w' p (Wnd.rest x)) :=
  (rest_any h.e ok).mono (by rintro e w' ⟨rfl, h1⟩; exact ⟨rfl, h.step h1⟩)

theorem S1.room (h : S1 w wr p x) (ok : x.Ok k) (f : Int) (hf : -9223372036854775808 ≤ f ∧ f ≤ 9223372036854775807) : Calls Try.prog 17 #[ptr p, .int .i64 f] wr fun e w' => e = .returned (.int .i64 (max (x.s - max f 0) 0)) ∧ wr = w' :=
  room_any h.e ok f hf

theorem S1.size (h : S1 w wr p x) : Calls Try.prog 16 #[ptr p] wr fun e w' => e = .returned (.tuple #[.int .i64 x.s, .int .i64 x.t, .int .i64 x.c]) ∧ Hid (S1 w w' p x) :=
  (size_any h.e).mono (by rintro e w' ⟨rfl, q, rfl⟩; exact ⟨rfl, h.drewN q⟩)
end

set_option maxHeartbeats 2000000 in
set_option maxRecDepth 100000 in
theorem first_any (w : World) : Calls Try.prog 7 #[] w fun e w' => e = .returned (.bool true) ∧ Below w.heap.size w w' := by
  go_enter Try.func7, Try.ntmps7
  go_wp2_with fail
  refine (new_any (Below.refl w.heap.size w)).mono ?_
  rintro e w1 ⟨rfl, h1⟩
  have H0 := Lib.hid h1
  clear h1
  go_wp2_with fail
  refine (H0.out.acked wi0_ok 1000 4380 (by omega) true).mono ?_
  rintro e w2 ⟨rfl, H1⟩
  go_wp2_with fail
  refine H1.out.size.mono ?_
  rintro e w3 ⟨rfl, H2⟩
  rw [show (ack wi0 1000 4380 true).s = 5380 from rfl]
  go_wp2_with fail
  refine (H2.out.late (ack_ok wi0_ok 1000 4380 true (by decide))).mono ?_
  rintro e w4 ⟨rfl, H3⟩
  go_wp2_with fail
  refine H3.out.size.mono ?_
  rintro e w5 ⟨rfl, H4⟩
  have ok := Lib.hid (late_ok (ack_ok wi0_ok 1000 4380 true (by decide)))
  obtain ⟨x, hx⟩ : ∃ x, x = late (ack wi0 1000 4380 true) := ⟨_, rfl⟩
  rw [← hx] at H4 ok
  rw [show (late (ack wi0 1000 4380 true)).s = 1200 from rfl, show (late (ack wi0 1000 4380 true)).t = 4800 from rfl]
  have hs : x.s = 1200 := by rw [hx]; rfl
  clear hx
  have R1 : ∀ f : Int, f = 200 ∨ f = 5000 → Calls Try.prog 17 #[ptr w.heap.size, .int .i64 f] w5 fun e w' => e = .returned (.int .i64 (if f = 200 then 1000 else 0)) ∧ w5 = w' := by
    intro f hf
    have := H4.out.room ok.out f (by omega)
    rw [hs] at this
    refine this.mono ?_
    rintro e w' ⟨rfl, rfl⟩
    refine ⟨?_, rfl⟩
    rcases hf with rfl | rfl <;> rfl
  have HR := Lib.hid R1
  clear R1 hs
  go_wp2_with fail
  refine (HR.out 200 (.inl rfl)).mono ?_
  rintro e w6 ⟨rfl, rfl⟩
  rw [if_pos rfl]
  go_wp2_with fail
  refine (HR.out 5000 (.inr rfl)).mono ?_
  rintro e w7 ⟨rfl, rfl⟩
  rw [if_neg (by omega)]
  go_wp2_with fail
  go_ret
  exact ⟨rfl, H4.out.b⟩
end Go.Proofs.Ytabjlmedcbnnpaa.Wnd
