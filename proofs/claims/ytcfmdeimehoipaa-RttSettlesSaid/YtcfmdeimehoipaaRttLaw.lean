/-
  Estimates beside each other, as the laws hold them; what must be answered ahead of everything else; how the wait settles.
-/
import Derived.Test.YtcfmdeimehoipaaRttRef
set_option linter.unusedVariables false
set_option linter.unusedSimpArgs false
namespace Go.Proofs.Ytcfmdeimehoipaa.Rtt
open Go.ChangeShapes Go.WideShapes Go.ChangeAt Go.RowKit Go.Proofs.Ytcfmdeimehoipaa.Words

theorem at_below {w wr w' : World} {p : Nat} (hb : Below w.heap.size w wr) (hp : w.heap.size ≤ p) (hf : Fr (At p) wr w') : Below w.heap.size w w' :=
  below_fr hb hf (Nat.le_refl _) (fun x hx => by have : x = p := hx; omega)
theorem EsP.drewN {w : World} {p : Nat} {x : Es} (h : EsP w p x) (n : Nat) : EsP (w.drewN n) p x := ⟨h.blk.drewN n, h.ok, h.k⟩
theorem EsR.drewN {w : World} {p : Nat} {x : Es} (h : EsR w p x) (n : Nat) : EsR (w.drewN n) p x := ⟨h.blk.drewN n, h.ok, h.k⟩
def es0 : Es := ⟨false, 0, 0, 0⟩
theorem EsP.new (w : World) : EsP (w.alloc (.cells #[.bool false, .int .i64 0, .int .i64 0, .int .i64 0] 25)) w.heap.size es0 :=
  ⟨Blk.new w _ _, ⟨Nat.zero_le _, Nat.zero_le _, fun _ => ⟨rfl, rfl⟩⟩, Nat.zero_le _⟩
/-- One estimate beside what was there. -/
structure S1 (w wr : World) (p : Nat) (x : Es) : Prop where
  e : EsP wr p x
  b : Below w.heap.size w wr
  le : w.heap.size ≤ p
theorem S1.step {w wr w' : World} {p : Nat} {x y : Es} (h : S1 w wr p x) (he : EsP w' p y) (hf : Fr (At p) wr w') : S1 w w' p y := ⟨he, at_below h.b h.le hf, h.le⟩
theorem S1.drewN {w wr : World} {p : Nat} {x : Es} (h : S1 w wr p x) (q : Nat) : S1 w (wr.drewN q) p x := ⟨h.e.drewN q, below_drewN h.b q, h.le⟩
theorem S1.new {w wr : World} (hb : Below w.heap.size w wr) : S1 w (wr.alloc (.cells #[.bool false, .int .i64 0, .int .i64 0, .int .i64 0] 25)) wr.heap.size es0 := ⟨EsP.new wr, hb.alloc hb.size _, hb.size⟩

section
variable {w wr : World} {p : Nat} {x : Es}
theorem S1.wait (h : S1 w wr p x) : Calls Try.prog 14 #[ptr p] wr fun e w' => e = .returned (.int .i64 (wait x : Int)) ∧ Hid (S1 w w' p x) :=
  (wait_any h.e).mono (by rintro e w' ⟨rfl, q, rfl⟩; exact ⟨rfl, h.drewN q⟩)
theorem S1.sample (h : S1 w wr p x) {n : Nat} (hn : n ≤ 60000) : Calls Try.prog 11 #[ptr p, .int .i64 (n : Int)] wr fun e w' => e = .returned (.bool true) ∧ Hid (S1 w w' p (samp x n)) :=
  (sample_yes h.e hn).mono (by rintro e w' ⟨rfl, h1, h2⟩; exact ⟨rfl, h.step h1 h2⟩)
theorem S1.sample_no (h : S1 w wr p x) {n : Int} (hn : n < 0 ∨ 60000 < n) : Calls Try.prog 11 #[ptr p, .int .i64 n] wr fun e w' => e = .returned (.bool false) ∧ Hid (S1 w w' p x) :=
  (Rtt.sample_no hn).mono (by rintro e w' ⟨rfl, rfl⟩; exact ⟨rfl, h⟩)
theorem S1.double (h : S1 w wr p x) : Calls Try.prog 9 #[ptr p] wr fun e w' => e = .returned (.tuple #[]) ∧ Hid (S1 w w' p (dbl x)) :=
  (double_any h.e).mono (by rintro e w' ⟨rfl, h1, h2⟩; exact ⟨rfl, h.step h1 h2⟩)
end

set_option maxHeartbeats 2000000 in
set_option maxRecDepth 100000 in
theorem first_any (w : World) : Calls Try.prog 8 #[] w fun e w' => e = .returned (.bool true) ∧ Below w.heap.size w w' := by
  go_enter Try.func8, Try.ntmps8
  go_wp2_with fail
  have H0 := Lib.hid (S1.new (Below.refl w.heap.size w))
  obtain ⟨w1, hw1⟩ : ∃ w1, w1 = w.alloc (.cells #[.bool false, .int .i64 0, .int .i64 0, .int .i64 0] 25) := ⟨_, rfl⟩
  rw [← hw1] at H0 ⊢
  clear hw1
  refine H0.out.wait.mono ?_
  rintro e w2 ⟨rfl, H1⟩
  rw [show Rtt.wait es0 = 30 from rfl]
  go_wp2_with fail
  refine (H1.out.sample (n := 20) (by omega)).mono ?_
  rintro e w3 ⟨rfl, H2⟩
  go_wp2_with fail
  refine H2.out.wait.mono ?_
  rintro e w4 ⟨rfl, H3⟩
  rw [show Rtt.wait (samp es0 20) = 60 from rfl]
  go_wp2_with fail
  refine H3.out.double.mono ?_
  rintro e w5 ⟨rfl, H4⟩
  go_wp2_with fail
  refine H4.out.wait.mono ?_
  rintro e w6 ⟨rfl, H5⟩
  rw [show Rtt.wait (dbl (samp es0 20)) = 120 from rfl]
  go_wp2_with fail
  refine (H5.out.sample (n := 20) (by omega)).mono ?_
  rintro e w7 ⟨rfl, H6⟩
  go_wp2_with fail
  refine H6.out.wait.mono ?_
  rintro e w8 ⟨rfl, H7⟩
  rw [show Rtt.wait (samp (dbl (samp es0 20)) 20) = 50 from rfl]
  go_wp2_with fail
  refine (H7.out.sample_no (n := -1) (.inl (by omega))).mono ?_
  rintro e w9 ⟨rfl, H8⟩
  go_wp2_with fail
  go_ret
  exact ⟨rfl, H8.out.b⟩

/-! ### how the wait settles -/
/-- So many samples, all the same. -/
def many (x : Es) (n : Nat) : Nat → Es
  | 0 => x
  | k + 1 => samp (many x n k) n
def fd (u : Nat) : Nat := u - u / 8
def fdI : Nat → Nat → Nat
  | 0, u => u
  | k + 1, u => fd (fdI k u)
def gd (u : Nat) : Nat := u - u / 4
def gdI : Nat → Nat → Nat
  | 0, u => u
  | k + 1, u => gd (gdI k u)
theorem fd_mono {a b : Nat} (h : a ≤ b) : fd a ≤ fd b := by unfold fd; omega
theorem gd_mono {a b : Nat} (h : a ≤ b) : gd a ≤ gd b := by unfold gd; omega
theorem samp_s {x : Es} (h : x.t = true) (n : Nat) : (samp x n).s = x.s - x.s / 8 + n := by unfold samp; rw [if_pos h]
theorem samp_d {x : Es} (h : x.t = true) (n : Nat) : (samp x n).d = x.d - x.d / 4 + dist n (x.s / 8) := by unfold samp; rw [if_pos h]
theorem many_t {x : Es} (h : x.t = true) (n : Nat) : ∀ k, (many x n k).t = true
  | 0 => h
  | k + 1 => samp_t _ _
theorem many_ok {x : Es} (h : x.Ok) {n : Nat} (hn : n ≤ 60000) : ∀ k, (many x n k).Ok
  | 0 => h
  | k + 1 => samp_ok (many_ok h hn k) hn
theorem many_add (x : Es) (n a : Nat) : ∀ b, many x n (a + b) = many (many x n a) n b
  | 0 => rfl
  | b + 1 => by show samp (many x n (a + b)) n = samp _ _; rw [many_add x n a b]
theorem many_near {x : Es} (h : x.t = true) (n c : Nat) (hc : dist x.s (8 * n) ≤ c) : ∀ k, dist (many x n k).s (8 * n) ≤ fdI k c
  | 0 => hc
  | k + 1 => by
    have h1 := many_near h n c hc k
    have h2 := fd_mono h1
    refine Nat.le_trans ?_ h2
    show dist (samp (many x n k) n).s (8 * n) ≤ _
    rw [samp_s (many_t h n k)]
    unfold dist fd
    omega
theorem many_close {x : Es} (h : x.t = true) (n : Nat) (hc : dist x.s (8 * n) ≤ 7) : ∀ k, (many x n k).s ≤ 8 * n + 7 ∧ 8 * n ≤ (many x n k).s + (7 - k)
  | 0 => by unfold dist at hc; show x.s ≤ _ ∧ _ ≤ x.s + _; omega
  | k + 1 => by
    have h1 := many_close h n hc k
    show (samp (many x n k) n).s ≤ _ ∧ _ ≤ (samp (many x n k) n).s + _
    rw [samp_s (many_t h n k)]
    omega
theorem many_still {x : Es} (h : x.t = true) (n c : Nat) (hs : x.s / 8 = n) (hd : x.d ≤ c) : ∀ k, (many x n k).s / 8 = n ∧ (many x n k).d ≤ gdI k c
  | 0 => ⟨hs, hd⟩
  | k + 1 => by
    obtain ⟨h1, h2⟩ := many_still h n c hs hd k
    have h3 := gd_mono h2
    show (samp (many x n k) n).s / 8 = n ∧ (samp (many x n k) n).d ≤ gd (gdI k c)
    rw [samp_s (many_t h n k), samp_d (many_t h n k)]
    refine ⟨by omega, Nat.le_trans ?_ h3⟩
    unfold dist gd
    omega
theorem settles {x : Es} (h : x.Ok) (ht : x.t = true) {n : Nat} (hn : n < 700) (k : Nat) : (many x n (150 + 7 + 100 + k)).s / 8 = n ∧ (many x n (150 + 7 + 100 + k)).d ≤ 3 := by
  have o1 := many_ok h (n := n) (by omega) 150
  have t1 := many_t ht n 150
  have a1 : dist (many x n 150).s (8 * n) ≤ 7 := Nat.le_trans (many_near ht n 600000 (by have := h.s; unfold dist; omega) 150) (by decide +kernel)
  have a2 := many_close t1 n a1 7
  have o2 := many_ok o1 (n := n) (by omega) 7
  have t2 := many_t t1 n 7
  have e2 : (many (many x n 150) n 7).s / 8 = n := by omega
  have a3 := many_still t2 n 240000 e2 o2.d (100 + k)
  have a4 : ∀ k, gdI (100 + k) 240000 ≤ 3 := by
    intro k
    induction k with
    | zero => decide +kernel
    | succ k ih => exact Nat.le_trans (gd_mono ih) (by decide)
  rw [← many_add, ← many_add, show 150 + (7 + (100 + k)) = 150 + 7 + 100 + k by omega] at a3
  exact ⟨a3.1, Nat.le_trans a3.2 (a4 k)⟩
theorem settled {x : Es} (h : x.Ok) {n : Nat} (hn : n < 700) : max 10 (min 600 n) ≤ wait (many x n 400) ∧ wait (many x n 400) ≤ max 10 (min 600 n) + 8 := by
  have e : many x n 400 = many (samp x n) n 399 := by rw [show 400 = 1 + 399 from rfl, many_add]; rfl
  have o := samp_ok (n := n) h (by omega)
  have t := samp_t x n
  have a := settles o t hn 142
  rw [show 150 + 7 + 100 + 142 = 399 from rfl, ← e] at a
  have hk : (many x n 400).k = 0 := samp_k _ _
  have ht : (many x n 400).t = true := samp_t _ _
  unfold wait
  rw [hk, wt_zero (bs_le _).2]
  unfold bs
  rw [if_pos ht, a.1]
  omega
/-- A sample that may be taken or not. -/
theorem S1.any {w wr : World} {p : Nat} {x : Es} (h : S1 w wr p x) (n : Int) : Calls Try.prog 11 #[ptr p, .int .i64 n] wr fun e w' => ∃ t z, e = .returned (.bool t) ∧ Hid (S1 w w' p z) ∧ Hid (t = decide (0 ≤ n ∧ n ≤ 60000)) ∧ Hid (t = true → z = samp x n.toNat) := by
  by_cases hn : 0 ≤ n ∧ n ≤ 60000
  · obtain ⟨m, rfl⟩ : ∃ m : Nat, n = m := ⟨n.toNat, by omega⟩
    refine (h.sample (by omega)).mono ?_
    rintro e w' ⟨rfl, h1⟩
    exact ⟨true, _, rfl, h1, (decide_eq_true hn).symm, fun _ => by rw [Int.toNat_natCast]⟩
  · refine (h.sample_no (by omega)).mono ?_
    rintro e w' ⟨rfl, h1⟩
    exact ⟨false, x, rfl, h1, (decide_eq_false hn).symm, fun h => by cases h⟩
/-- Two estimates of the call's own. -/
structure S2 (w wr : World) (p q : Nat) (x y : Es) : Prop where
  a : S1 w wr p x
  b : S1 w wr q y
  ne : p ≠ q
theorem S2.symm {w wr : World} {p q : Nat} {x y : Es} (h : S2 w wr p q x y) : S2 w wr q p y x := ⟨h.b, h.a, h.ne.symm⟩
theorem S2.new {w wr : World} (hb : Below w.heap.size w wr) : S2 w ((wr.alloc (.cells #[.bool false, .int .i64 0, .int .i64 0, .int .i64 0] 25)).alloc (.cells #[.bool false, .int .i64 0, .int .i64 0, .int .i64 0] 25)) wr.heap.size (wr.heap.size + 1) es0 es0 := by
  have h1 := S1.new hb
  have h2 := S1.new h1.b
  have hs : (wr.alloc (.cells #[.bool false, .int .i64 0, .int .i64 0, .int .i64 0] 25)).heap.size = wr.heap.size + 1 := by simp
  rw [hs] at h2
  exact ⟨⟨⟨h1.e.blk.alloc _, h1.e.ok, h1.e.k⟩, h2.b, h1.le⟩, h2, by omega⟩
section
variable {w wr : World} {p q : Nat} {x y : Es}
theorem S2.step {w' : World} {z : Es} (h : S2 w wr p q x y) (he : EsP w' p z) (hf : Fr (At p) wr w') : S2 w w' p q z y :=
  ⟨h.a.step he hf, ⟨h.b.e.fr hf (fun e => h.ne (show q = p from e).symm), at_below h.b.b h.a.le hf, h.b.le⟩, h.ne⟩
theorem S2.wait (h : S2 w wr p q x y) : Calls Try.prog 14 #[ptr p] wr fun e w' => e = .returned (.int .i64 (Rtt.wait x : Int)) ∧ Hid (S2 w w' p q x y) :=
  (wait_any h.a.e).mono (by rintro e w' ⟨rfl, n, rfl⟩; exact ⟨rfl, h.a.drewN n, h.b.drewN n, h.ne⟩)
theorem S2.sample (h : S2 w wr p q x y) {n : Nat} (hn : n ≤ 60000) : Calls Try.prog 11 #[ptr p, .int .i64 (n : Int)] wr fun e w' => e = .returned (.bool true) ∧ Hid (S2 w w' p q (samp x n) y) :=
  (sample_yes h.a.e hn).mono (by rintro e w' ⟨rfl, h1, h2⟩; exact ⟨rfl, h.step h1 h2⟩)
theorem S2.sample_no (h : S2 w wr p q x y) {n : Int} (hn : n < 0 ∨ 60000 < n) : Calls Try.prog 11 #[ptr p, .int .i64 n] wr fun e w' => e = .returned (.bool false) ∧ Hid (S2 w w' p q x y) :=
  (Rtt.sample_no hn).mono (by rintro e w' ⟨rfl, rfl⟩; exact ⟨rfl, h⟩)
/-- A sample that may be taken or not. -/
theorem S2.any (h : S2 w wr p q x y) (n : Int) : Calls Try.prog 11 #[ptr p, .int .i64 n] wr fun e w' => ∃ t z, e = .returned (.bool t) ∧ Hid (S2 w w' p q z y) ∧ Hid (t = decide (0 ≤ n ∧ n ≤ 60000)) ∧ Hid (z = if t = true then samp x n.toNat else x) := by
  by_cases hn : 0 ≤ n ∧ n ≤ 60000
  · obtain ⟨m, rfl⟩ : ∃ m : Nat, n = m := ⟨n.toNat, by omega⟩
    refine (h.sample (by omega)).mono ?_
    rintro e w' ⟨rfl, h1⟩
    exact ⟨true, _, rfl, h1, (decide_eq_true hn).symm, by rw [if_pos rfl, Int.toNat_natCast]; exact rfl⟩
  · refine (h.sample_no (by omega)).mono ?_
    rintro e w' ⟨rfl, h1⟩
    exact ⟨false, x, rfl, h1, (decide_eq_false hn).symm, by rw [if_neg (by simp)]; exact rfl⟩
end
theorem S2.as_ {w wr : World} {p q : Nat} {x y x' y' : Es} (h : S2 w wr p q x y) (e1 : x = x') (e2 : y = y') : S2 w wr p q x' y' := by subst e1 e2; exact h
theorem S2.double {w wr : World} {p q : Nat} {x y : Es} (h : S2 w wr p q x y) : Calls Try.prog 9 #[ptr p] wr fun e w' => e = .returned (.tuple #[]) ∧ Hid (S2 w w' p q (dbl x) y) :=
  (double_any h.a.e).mono (by rintro e w' ⟨rfl, h1, h2⟩; exact ⟨rfl, h.step h1 h2⟩)
theorem samp_kk (x : Es) (d n : Nat) : samp (kk x d) n = samp x n := rfl
theorem wait_first (n : Nat) : Rtt.wait (samp es0 n) = min (max (3 * n) 10) 600 := by
  have e : samp es0 n = ⟨true, 8 * n, 2 * n, 0⟩ := rfl
  rw [e]
  show wt (bs _) 0 = _
  rw [wt_zero (bs_le _).2]
  unfold bs
  rw [if_pos rfl]
  show min (max (8 * n / 8 + 2 * n) 10) 600 = _
  omega
end Go.Proofs.Ytcfmdeimehoipaa.Rtt
