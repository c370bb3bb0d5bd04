/-
  Clone, Copies, Bundle, RBundle, RGs, in one text.
-/
import Derived.Test.YtpgklhecmafnbaaPkA
import Derived.Test.YtpgklhecmafnbaaPk4
set_option linter.unusedVariables false
set_option linter.unusedSimpArgs false

set_option maxHeartbeats 8000000
set_option maxRecDepth 100000
namespace Go.Proofs.Ytpgklhecmafnbaa.Chk
open Go.Proofs.Ytpgklhecmafnbaa
open Go.ChangeShapes Go.WideShapes Go.ChangeAt Go.RowKit Go.Deep Go.Proofs.Ytpgklhecmafnbaa.Words Go.Proofs.Ytpgklhecmafnbaa.Oct Go.Proofs.Ytpgklhecmafnbaa.Par

theorem empty_row (w : World) (e : TypeId) (size : Nat) : (w.alloc (.cells #[] e)).ownsRow w.heap.size e size (.slice (some ⟨w.heap.size, 0, none⟩) 0 0) 0 [] := by
  have := World.ownsRow_made (base := w.heap.size) (e := e) (size := size) w #[] 0 (Nat.le_refl _) (by unfold maxLen; omega) (by simp)
  simpa using this

theorem clone_k (A : Option Addr) (xs : List Value) (n c : Nat) (w : World) (hl : n ≤ 1000000) (h : Reads w w.heap.size 19 A n xs) (h1 : ∀ u ∈ xs, u.oneCell' = true) :
    Calls Try.prog 88 #[.slice A n c] w fun e w' => (∃ v, e = .returned v ∧ w'.ownsRow w.heap.size 32 19 v n xs) ∧ Below w.heap.size w w' := by
  obtain ⟨i0, hi0, hz0, hz1, hz2⟩ := info_parts3 chunk_info3
  have hnil := fun (W : World) (a : Option Addr) (n c : Nat) => Lib.run_eql_slice_nil (P := Try.prog) W 42 32 a n c 0 0 Try.underlying42
  rcases A with _ | ad
  · have h0 : n = 0 := by
      rcases Nat.eq_zero_or_pos n with h0 | h0
      · exact h0
      · obtain ⟨ad, e, _⟩ := h.2 h0; cases e
    have h2 : xs = [] := List.eq_nil_of_length_eq_zero (by rw [h.1, h0])
    subst h0 h2
    go_enter Try.func88, Try.ntmps88
    go_wp2
    go_ret
    exact ⟨⟨_, rfl, World.ownsRow_nil _ _ _ _⟩, Below.refl _ _⟩
  · have HB := Lib.hid h
    have HO := Lib.hid h1
    clear h h1
    go_enter Try.func88, Try.ntmps88
    go_wp2_with (at_builtin; refine wpList_append_any _ rfl (.tmp 5) (.tmp 6) _ rfl w.heap.size 32 i0 _ 19 160 Try.underlying42 hi0 hz0 hz1 hz2 rfl (by omega) (.slice (some ⟨w.heap.size, 0, none⟩) 0 0) 0 [] rfl (empty_row w _ _) w.heap.size (some ad) n c xs rfl (HB.out.alloc (Nat.le_refl _) _) HO.out (by simp only [maxLen]; omega) (by omega) (by simp) ?_; intro v1 w1 hown1 hg1 hat1)
    go_ret
    refine ⟨⟨v1, rfl, ?_⟩, ?_⟩
    · simp only [Nat.zero_add, List.nil_append] at hown1
      exact hown1
    · exact ((Below.refl _ _).alloc (Nat.le_refl _) _).grown hg1 (by simp) (fun b e => by simp [Value.ownBlock] at e; omega)

theorem clone_gap (A : Option Addr) (xs : List Value) (n c : Nat) (w : World) (hl : n ≤ 1000000) (h : Reads w w.heap.size 2 A n xs) (h1 : ∀ u ∈ xs, u.oneCell' = true) :
    Calls Try.prog 89 #[.slice A n c] w fun e w' => (∃ v, e = .returned v ∧ w'.ownsRow w.heap.size 85 2 v n xs) ∧ Below w.heap.size w w' := by
  obtain ⟨i0, hi0, hz0, hz1, hz2⟩ := info_parts3 gap_info
  have hnil := fun (W : World) (a : Option Addr) (n c : Nat) => Lib.run_eql_slice_nil (P := Try.prog) W 27 85 a n c 0 0 Try.underlying27
  rcases A with _ | ad
  · have h0 : n = 0 := by
      rcases Nat.eq_zero_or_pos n with h0 | h0
      · exact h0
      · obtain ⟨ad, e, _⟩ := h.2 h0; cases e
    have h2 : xs = [] := List.eq_nil_of_length_eq_zero (by rw [h.1, h0])
    subst h0 h2
    go_enter Try.func89, Try.ntmps89
    go_wp2
    go_ret
    exact ⟨⟨_, rfl, World.ownsRow_nil _ _ _ _⟩, Below.refl _ _⟩
  · have HB := Lib.hid h
    have HO := Lib.hid h1
    clear h h1
    go_enter Try.func89, Try.ntmps89
    go_wp2_with (at_builtin; refine wpList_append_any _ rfl (.tmp 5) (.tmp 6) _ rfl w.heap.size 85 i0 _ 2 4 Try.underlying27 hi0 hz0 hz1 hz2 rfl (by omega) (.slice (some ⟨w.heap.size, 0, none⟩) 0 0) 0 [] rfl (empty_row w _ _) w.heap.size (some ad) n c xs rfl (HB.out.alloc (Nat.le_refl _) _) HO.out (by simp only [maxLen]; omega) (by omega) (by simp) ?_; intro v1 w1 hown1 hg1 hat1)
    go_ret
    refine ⟨⟨v1, rfl, ?_⟩, ?_⟩
    · simp only [Nat.zero_add, List.nil_append] at hown1
      exact hown1
    · exact ((Below.refl _ _).alloc (Nat.le_refl _) _).grown hg1 (by simp) (fun b e => by simp [Value.ownBlock] at e; omega)

theorem clone_dup (A : Option Addr) (xs : List Value) (n c : Nat) (w : World) (hl : n ≤ 1000000) (h : Reads w w.heap.size 1 A n xs) (h1 : ∀ u ∈ xs, u.oneCell' = true) :
    Calls Try.prog 90 #[.slice A n c] w fun e w' => (∃ v, e = .returned v ∧ w'.ownsRow w.heap.size 25 1 v n xs) ∧ Below w.heap.size w w' := by
  obtain ⟨i0, hi0, hz0, hz1, hz2⟩ := info_parts3 u32_info
  have hnil := fun (W : World) (a : Option Addr) (n c : Nat) => Lib.run_eql_slice_nil (P := Try.prog) W 28 25 a n c 0 0 Try.underlying28
  rcases A with _ | ad
  · have h0 : n = 0 := by
      rcases Nat.eq_zero_or_pos n with h0 | h0
      · exact h0
      · obtain ⟨ad, e, _⟩ := h.2 h0; cases e
    have h2 : xs = [] := List.eq_nil_of_length_eq_zero (by rw [h.1, h0])
    subst h0 h2
    go_enter Try.func90, Try.ntmps90
    go_wp2
    go_ret
    exact ⟨⟨_, rfl, World.ownsRow_nil _ _ _ _⟩, Below.refl _ _⟩
  · have HB := Lib.hid h
    have HO := Lib.hid h1
    clear h h1
    go_enter Try.func90, Try.ntmps90
    go_wp2_with (at_builtin; refine wpList_append_any _ rfl (.tmp 5) (.tmp 6) _ rfl w.heap.size 25 i0 _ 1 4 Try.underlying28 hi0 hz0 hz1 hz2 rfl (by omega) (.slice (some ⟨w.heap.size, 0, none⟩) 0 0) 0 [] rfl (empty_row w _ _) w.heap.size (some ad) n c xs rfl (HB.out.alloc (Nat.le_refl _) _) HO.out (by simp only [maxLen]; omega) (by omega) (by simp) ?_; intro v1 w1 hown1 hg1 hat1)
    go_ret
    refine ⟨⟨v1, rfl, ?_⟩, ?_⟩
    · simp only [Nat.zero_add, List.nil_append] at hown1
      exact hown1
    · exact ((Below.refl _ _).alloc (Nat.le_refl _) _).grown hg1 (by simp) (fun b e => by simp [Value.ownBlock] at e; omega)

theorem clone_skp (A : Option Addr) (xs : List Value) (n c : Nat) (w : World) (hl : n ≤ 1000000) (h : Reads w w.heap.size 3 A n xs) (h1 : ∀ u ∈ xs, u.oneCell' = true) :
    Calls Try.prog 91 #[.slice A n c] w fun e w' => (∃ v, e = .returned v ∧ w'.ownsRow w.heap.size 87 3 v n xs) ∧ Below w.heap.size w w' := by
  obtain ⟨i0, hi0, hz0, hz1, hz2⟩ := info_parts3 skip_info
  have hnil := fun (W : World) (a : Option Addr) (n c : Nat) => Lib.run_eql_slice_nil (P := Try.prog) W 29 87 a n c 0 0 Try.underlying29
  rcases A with _ | ad
  · have h0 : n = 0 := by
      rcases Nat.eq_zero_or_pos n with h0 | h0
      · exact h0
      · obtain ⟨ad, e, _⟩ := h.2 h0; cases e
    have h2 : xs = [] := List.eq_nil_of_length_eq_zero (by rw [h.1, h0])
    subst h0 h2
    go_enter Try.func91, Try.ntmps91
    go_wp2
    go_ret
    exact ⟨⟨_, rfl, World.ownsRow_nil _ _ _ _⟩, Below.refl _ _⟩
  · have HB := Lib.hid h
    have HO := Lib.hid h1
    clear h h1
    go_enter Try.func91, Try.ntmps91
    go_wp2_with (at_builtin; refine wpList_append_any _ rfl (.tmp 5) (.tmp 6) _ rfl w.heap.size 87 i0 _ 3 8 Try.underlying29 hi0 hz0 hz1 hz2 rfl (by omega) (.slice (some ⟨w.heap.size, 0, none⟩) 0 0) 0 [] rfl (empty_row w _ _) w.heap.size (some ad) n c xs rfl (HB.out.alloc (Nat.le_refl _) _) HO.out (by simp only [maxLen]; omega) (by omega) (by simp) ?_; intro v1 w1 hown1 hg1 hat1)
    go_ret
    refine ⟨⟨v1, rfl, ?_⟩, ?_⟩
    · simp only [Nat.zero_add, List.nil_append] at hown1
      exact hown1
    · exact ((Below.refl _ _).alloc (Nat.le_refl _) _).grown hg1 (by simp) (fun b e => by simp [Value.ownBlock] at e; omega)

theorem clone_prm (A : Option Addr) (xs : List Value) (n c : Nat) (w : World) (hl : n ≤ 1000000) (h : Reads w w.heap.size 2 A n xs) (h1 : ∀ u ∈ xs, u.oneCell' = true) :
    Calls Try.prog 92 #[.slice A n c] w fun e w' => (∃ v, e = .returned v ∧ w'.ownsRow w.heap.size 131 2 v n xs) ∧ Below w.heap.size w w' := by
  obtain ⟨i0, hi0, hz0, hz1, hz2⟩ := info_parts3 prm_info
  have hnil := fun (W : World) (a : Option Addr) (n c : Nat) => Lib.run_eql_slice_nil (P := Try.prog) W 30 131 a n c 0 0 Try.underlying30
  rcases A with _ | ad
  · have h0 : n = 0 := by
      rcases Nat.eq_zero_or_pos n with h0 | h0
      · exact h0
      · obtain ⟨ad, e, _⟩ := h.2 h0; cases e
    have h2 : xs = [] := List.eq_nil_of_length_eq_zero (by rw [h.1, h0])
    subst h0 h2
    go_enter Try.func92, Try.ntmps92
    go_wp2
    go_ret
    exact ⟨⟨_, rfl, World.ownsRow_nil _ _ _ _⟩, Below.refl _ _⟩
  · have HB := Lib.hid h
    have HO := Lib.hid h1
    clear h h1
    go_enter Try.func92, Try.ntmps92
    go_wp2_with (at_builtin; refine wpList_append_any _ rfl (.tmp 5) (.tmp 6) _ rfl w.heap.size 131 i0 _ 2 32 Try.underlying30 hi0 hz0 hz1 hz2 rfl (by omega) (.slice (some ⟨w.heap.size, 0, none⟩) 0 0) 0 [] rfl (empty_row w _ _) w.heap.size (some ad) n c xs rfl (HB.out.alloc (Nat.le_refl _) _) HO.out (by simp only [maxLen]; omega) (by omega) (by simp) ?_; intro v1 w1 hown1 hg1 hat1)
    go_ret
    refine ⟨⟨v1, rfl, ?_⟩, ?_⟩
    · simp only [Nat.zero_add, List.nil_append] at hown1
      exact hown1
    · exact ((Below.refl _ _).alloc (Nat.le_refl _) _).grown hg1 (by simp) (fun b e => by simp [Value.ownBlock] at e; omega)

/-! ### what came in, as rows -/
theorem getD_map_range (f : Nat → Value) (n j : Nat) (hj : j < n) : ((List.range n).map f)[j]? = some (f j) := by
  rw [List.getElem?_map, List.getElem?_range hj]
  rfl
theorem Cks.row {w : World} {B : Nat} {A : Option Addr} {ls : List Ck} (h : Cks w B A ls) : ∃ xs, Reads w B 19 A ls.length xs ∧ (∀ u ∈ xs, u.oneCell' = true) ∧
    ∀ k c, ls[k]? = some c → ∃ cs : Array Value, (∀ j u, cs[j]? = some u → xs[k * 19 + j]? = some u) ∧ CkAt w B cs c := by
  rcases Nat.eq_zero_or_pos ls.length with h0 | h0
  · have : ls = [] := List.eq_nil_of_length_eq_zero h0
    subst this
    exact ⟨[], ⟨rfl, fun h => absurd h (by simp)⟩, fun u hu => absurd hu (by simp), fun k c hc => by simp at hc⟩
  · obtain ⟨ad, _, rfl, hb, _, _⟩ := h 0 _ (List.getElem?_eq_getElem h0)
    have hc : ∀ i, i < ls.length * 19 → ∃ u, w.cell? (ad.add i) = some u ∧ u.oneCell' = true := by
      intro i hi
      have hk : i / 19 < ls.length := by omega
      obtain ⟨ad', cs, e, _, h3, h4⟩ := h (i / 19) _ (List.getElem?_eq_getElem hk)
      cases e
      have hj : i % 19 < cs.size := by rw [h3.size]; omega
      have h5 := h4 (i % 19) _ (Array.getElem?_eq_getElem hj)
      rw [add_of_add, show i / 19 * 19 + i % 19 = i by omega] at h5
      exact ⟨_, h5, Array.all_eq_true'.1 h3.one _ (Array.getElem_mem hj)⟩
    refine ⟨(List.range (ls.length * 19)).map (fun i => (w.cell? (ad.add i)).getD (.int .i64 0)), ⟨by simp, fun _ => ⟨ad, rfl, hb, fun j u hu => ?_⟩⟩, fun u hu => ?_, fun k c hk => ?_⟩
    · have hj : j < ls.length * 19 := by
        have := (List.getElem?_eq_some_iff.1 hu).1
        simpa using this
      rw [getD_map_range _ _ _ hj] at hu
      obtain ⟨x, hx, _⟩ := hc j hj
      rw [hx] at hu ⊢
      exact hu
    · rw [List.mem_map] at hu
      obtain ⟨i, hi, rfl⟩ := hu
      obtain ⟨x, hx, h1⟩ := hc i (by simpa using hi)
      rw [hx]
      exact h1
    · obtain ⟨ad', cs, e, _, h3, h4⟩ := h k c hk
      cases e
      have hkl := (List.getElem?_eq_some_iff.1 hk).1
      refine ⟨cs, fun j u hu => ?_, h3⟩
      have hj : j < 19 := by have := (Array.getElem?_eq_some_iff.1 hu).1; rw [h3.size] at this; exact this
      rw [getD_map_range _ _ _ (by omega)]
      have := h4 j u hu
      rw [add_of_add] at this
      rw [this]
      rfl
theorem Ps.row {w : World} {B : Nat} {A : Option Addr} {ls : List Prm} (h : Ps w B A ls) : ∃ xs, Reads w B 2 A ls.length xs ∧ (∀ u ∈ xs, u.oneCell' = true) ∧
    ∀ k p, ls[k]? = some p → p.1 < 65536 ∧ ∃ a c, xs[k * 2]? = some (.int .u16 (p.1 : Int)) ∧ xs[k * 2 + 1]? = some (.slice a p.2.length c) ∧ p.2.length ≤ c ∧ c ≤ 9223372036854775807 ∧ Byt w B a p.2 := by
  rcases Nat.eq_zero_or_pos ls.length with h0 | h0
  · have : ls = [] := List.eq_nil_of_length_eq_zero h0
    subst this
    exact ⟨[], ⟨rfl, fun h => absurd h (by simp)⟩, fun u hu => absurd hu (by simp), fun k c hc => by simp at hc⟩
  · obtain ⟨ad, _, _, rfl, hb, _⟩ := h 0 _ (List.getElem?_eq_getElem h0)
    have hc : ∀ k p, ls[k]? = some p → p.1 < 65536 ∧ ∃ a c, w.cell? (ad.add (k * 2)) = some (.int .u16 (p.1 : Int)) ∧ w.cell? (ad.add (k * 2 + 1)) = some (.slice a p.2.length c) ∧ p.2.length ≤ c ∧ c ≤ 9223372036854775807 ∧ Byt w B a p.2 := by
      intro k p hp
      obtain ⟨ad', a, c, e, _, h3, h4, h5, h6, h7, h8⟩ := h k p hp
      cases e
      refine ⟨h3, a, c, h4, ?_, h6, h7, h8⟩
      rw [← add_of_add]
      exact h5
    have hall : ∀ i, i < ls.length * 2 → ∃ u, w.cell? (ad.add i) = some u ∧ u.oneCell' = true := by
      intro i hi
      obtain ⟨_, a, c, h1, h2, _⟩ := hc (i / 2) _ (List.getElem?_eq_getElem (show i / 2 < ls.length by omega))
      rcases Nat.mod_two_eq_zero_or_one i with e | e
      · rw [show i / 2 * 2 = i by omega] at h1
        exact ⟨_, h1, rfl⟩
      · rw [show i / 2 * 2 + 1 = i by omega] at h2
        exact ⟨_, h2, rfl⟩
    refine ⟨(List.range (ls.length * 2)).map (fun i => (w.cell? (ad.add i)).getD (.int .i64 0)), ⟨by simp, fun _ => ⟨ad, rfl, hb, fun j u hu => ?_⟩⟩, fun u hu => ?_, fun k p hk => ?_⟩
    · have hj : j < ls.length * 2 := by
        have := (List.getElem?_eq_some_iff.1 hu).1
        simpa using this
      rw [getD_map_range _ _ _ hj] at hu
      obtain ⟨x, hx, _⟩ := hall j hj
      rw [hx] at hu ⊢
      exact hu
    · rw [List.mem_map] at hu
      obtain ⟨i, hi, rfl⟩ := hu
      obtain ⟨x, hx, h1⟩ := hall i (by simpa using hi)
      rw [hx]
      exact h1
    · have hkl := (List.getElem?_eq_some_iff.1 hk).1
      obtain ⟨h1, a, c, h2, h3, h4, h5, h6⟩ := hc k p hk
      refine ⟨h1, a, c, ?_, ?_, h4, h5, h6⟩
      · rw [getD_map_range _ _ _ (by omega), h2]
        rfl
      · rw [getD_map_range _ _ _ (by omega), h3]
        rfl

/-! ### a row of chunks of which some are the call's own, one is being made so, and the rest are read -/
theorem own_by {V V' : World} {B B' size size' n n' : Nat} {t t' : TypeId} {v v' : Value} {xs xs' : List Value} (h : V.ownsRow B t size v n xs) (h' : V.ownsRow B' t' size' v' n' xs') (hne : t ≠ t') (k : Fr (fun i => some i = v'.ownBlock) V V') : V'.ownsRow B t size v n xs :=
  k.own h (fun b hb e => own_ne h h' hne b hb e.symm)
theorem ownPs_by {w w' : World} {B B' : Nat} {e : TypeId} {size n : Nat} {v vp : Value} {ps : List Prm} {xs : List Value} (h : OwnPs w B vp ps) (hx : w.ownsRow B' e size v n xs) (h1 : 131 ≠ e) (h2 : 5 ≠ e) (k : Fr (fun i => some i = v.ownBlock) w w') : OwnPs w' B vp ps := by
  obtain ⟨ys, h3, h4⟩ := h
  refine ⟨ys, own_by h3 hx h1 k, fun i p hp => ?_⟩
  obtain ⟨q1, a, c, q2, q3, q4, q5, q6⟩ := h4 i p hp
  exact ⟨q1, a, c, q2, q3, q4, q5, own_by q6 hx h2 k⟩
theorem CkOwn.by_ {w w' : World} {B B' n : Nat} {v : Value} {xs : List Value} {cs : Array Value} {c : Ck} (h : CkOwn w B cs c) (hx : w.ownsRow B' 32 19 v n xs) (k : Fr (fun i => some i = v.ownBlock) w w') : CkOwn w' B cs c := by
  obtain ⟨gv, dv, sv, pv, bv, e, h1, h2, h3, h4, h5⟩ := h
  exact ⟨gv, dv, sv, pv, bv, e, own_by h1 hx (by decide) k, own_by h2 hx (by decide) k, own_by h3 hx (by decide) k, ownPs_by h4 hx (by decide) (by decide) k, own_by h5 hx (by decide) k⟩
/-- The chunk that is being made, at place k; those before it are the call's own, those behind it are read. -/
def CpAt (w W : World) (g n cap : Nat) (ls : List Ck) (k : Nat) (cs : Array Value) : Prop :=
  ∃ xs, W.ownsRow w.heap.size 32 19 (.slice (some ⟨g, 0, none⟩) n cap) n xs ∧ cs.size = 19 ∧ (∀ j u, cs[j]? = some u → xs[k * 19 + j]? = some u) ∧
    (∀ i c, i < k → ls[i]? = some c → ∃ cs' : Array Value, (∀ j u, cs'[j]? = some u → xs[i * 19 + j]? = some u) ∧ CkOwn W w.heap.size cs' c) ∧
    (∀ i c, k < i → ls[i]? = some c → ∃ cs' : Array Value, (∀ j u, cs'[j]? = some u → xs[i * 19 + j]? = some u) ∧ CkAt W w.heap.size cs' c) ∧ Below w.heap.size w W
def CpSt (w W : World) (A : Option Addr) (n cap : Nat) (ls : List Ck) (k : Nat) : Prop :=
  ∃ xs, W.ownsRow w.heap.size 32 19 (.slice A n cap) n xs ∧
    (∀ i c, i < k → ls[i]? = some c → ∃ cs' : Array Value, (∀ j u, cs'[j]? = some u → xs[i * 19 + j]? = some u) ∧ CkOwn W w.heap.size cs' c) ∧
    (∀ i c, k ≤ i → ls[i]? = some c → ∃ cs' : Array Value, (∀ j u, cs'[j]? = some u → xs[i * 19 + j]? = some u) ∧ CkAt W w.heap.size cs' c) ∧ Below w.heap.size w W
theorem row_eq {xs : List Value} {cs : Array Value} {k n : Nat} (hn : xs.length = n * 19) (hk : k < n) (h : ∀ j u, cs[j]? = some u → xs[k * 19 + j]? = some u) (hs : cs.size = 19) : ∀ j, j < 19 → xs[k * 19 + j]? = cs[j]? := by
  intro j hj
  rw [h j cs[j] (Array.getElem?_eq_getElem (by omega)), Array.getElem?_eq_getElem (by omega)]
section
variable {w W W' : World} {g n cap k : Nat} {ls : List Ck} {cs : Array Value}
theorem CpSt.at_ {A : Option Addr} (h : CpSt w W A n cap ls k) {c : Ck} (hk : ls[k]? = some c) (hn : n = ls.length) : ∃ g cs, A = some ⟨g, 0, none⟩ ∧ CpAt w W g n cap ls k cs ∧ CkAt W w.heap.size cs c := by
  obtain ⟨xs, h1, h2, h3, h4⟩ := h
  obtain ⟨cs, h5, h6⟩ := h3 k c (Nat.le_refl _) hk
  have hkl := (List.getElem?_eq_some_iff.1 hk).1
  obtain ⟨g, cap', hv, _, _⟩ := h1.form (by omega)
  injection hv with hv _ hv2
  subst hv hv2
  exact ⟨g, cs, rfl, ⟨xs, h1, h6.size, h5, h2, fun i c hi => h3 i c (by omega), h4⟩, h6⟩
theorem CpAt.done (h : CpAt w W g n cap ls k cs) {c : Ck} (hk : ls[k]? = some c) (ho : CkOwn W w.heap.size cs c) : CpSt w W (some ⟨g, 0, none⟩) n cap ls (k + 1) := by
  obtain ⟨xs, h1, h2, h3, h4, h5, h6⟩ := h
  refine ⟨xs, h1, fun i c' hi hc' => ?_, fun i c' hi => h5 i c' (by omega), h6⟩
  by_cases he : i = k
  · subst he
    rw [hk] at hc'
    cases hc'
    exact ⟨cs, h3, ho⟩
  · exact h4 i c' (by omega) hc'
theorem CpSt.own {A : Option Addr} (h : CpSt w W A n cap ls k) (hk : ls.length ≤ k) (hn : n = ls.length) (hok : ∀ c ∈ ls, c.ok) : OwnCks W w.heap.size (.slice A n cap) ls := by
  obtain ⟨xs, h1, h2, _⟩ := h
  refine ⟨xs, by rw [← hn]; exact h1, fun i c hc => ⟨hok c (List.mem_of_getElem? hc), ?_⟩⟩
  exact h2 i c (by have := (List.getElem?_eq_some_iff.1 hc).1; omega) hc
theorem CpSt.start {A A0 : Option Addr} {xs : List Value} (hb : Below w.heap.size w W) (h : W.ownsRow w.heap.size 32 19 (.slice A n cap) n xs)
    (hx : ∀ k c, ls[k]? = some c → ∃ cs : Array Value, (∀ j u, cs[j]? = some u → xs[k * 19 + j]? = some u) ∧ CkAt w w.heap.size cs c) : CpSt w W A n cap ls 0 :=
  ⟨xs, h, fun i c hi => absurd hi (by omega), fun i c _ hc => by
    obtain ⟨cs, h1, h2⟩ := hx i c hc
    exact ⟨cs, h1, h2.below hb⟩, hb⟩
theorem CpAt.grows (h : CpAt w W g n cap ls k cs) (hb : Below W.heap.size W W') : CpAt w W' g n cap ls k cs := by
  obtain ⟨xs, h1, h2, h3, h4, h5, h6⟩ := h
  have hs := h6.size
  refine ⟨xs, (Fr.of_below hb).own h1 (fun b hb' e => by have := (h1.lt b hb').2; omega), h2, h3, fun i c hi hc => ?_, fun i c hi hc => ?_, h6.trans (hb.mono hs)⟩
  · obtain ⟨cs', q1, q2⟩ := h4 i c hi hc
    exact ⟨cs', q1, q2.grows hb⟩
  · obtain ⟨cs', q1, q2⟩ := h5 i c hi hc
    exact ⟨cs', q1, q2.below (hb.mono hs)⟩
theorem CpAt.keep (h : CpAt w W g n cap ls k cs) {B' n' size : Nat} {t : TypeId} {v : Value} {ys : List Value} (hy : W.ownsRow B' t size v n' ys) (h1 : 32 ≠ t) : W.ownsRow B' t size v n' ys ∧ v.ownBlock ≠ some g := by
  obtain ⟨xs, h2, _⟩ := h
  exact ⟨hy, fun e => own_ne h2 hy h1 g rfl e⟩
theorem CpAt.cellAt (h : CpAt w W g n cap ls k cs) (hk : k < n) (j : Nat) (hj : j < 19) : W.cell? ⟨g, k * 19 + j, none⟩ = cs[j]? := by
  obtain ⟨xs, h1, h2, h3, _⟩ := h
  rw [h1.cellAt (k * 19 + j) (by omega)]
  exact row_eq h1.1 hk h3 h2 j hj
theorem CpAt.frozenAt (h : CpAt w W g n cap ls k cs) (j : Nat) : W.frozen? ⟨g, j, none⟩ = false := by
  obtain ⟨xs, h1, _⟩ := h
  exact h1.frozenAt j
theorem CpAt.blk (h : CpAt w W g n cap ls k cs) : w.heap.size ≤ g ∧ g < W.heap.size := by
  obtain ⟨xs, h1, _⟩ := h
  exact h1.lt g rfl
theorem CpAt.bel (h : CpAt w W g n cap ls k cs) : Below w.heap.size w W := by
  obtain ⟨xs, _, _, _, _, _, h6⟩ := h
  exact h6
theorem CpAt.turn (h : CpAt w W g n cap ls k cs) (i : Nat) (u : Value) : Fr (fun i => some i = (Value.slice (some ⟨g, 0, none⟩) n cap).ownBlock) W (W.setCell ⟨g, i, none⟩ u) :=
  Fr.setCell (S := fun i => some i = (Value.slice (some ⟨g, 0, none⟩) n cap).ownBlock) (Fr.refl _ W) (p := ⟨g, i, none⟩) (.inl rfl) u
theorem CpAt.set_ (h : CpAt w W g n cap ls k cs) (hk : k < n) (j : Nat) (hj : j < 19) (u : Value) : CpAt w (W.setCell ⟨g, k * 19 + j, none⟩ u) g n cap ls k (cs.setIfInBounds j u) := by
  have hT := h.turn (k * 19 + j) u
  have hblk := h.blk
  obtain ⟨xs, h1, h2, h3, h4, h5, h6⟩ := h
  have hl := h1.1
  have ho : ∀ (i : Nat) (cs' : Array Value), i ≠ k → cs'.size = 19 → (∀ j u, cs'[j]? = some u → xs[i * 19 + j]? = some u) → ∀ j' u', cs'[j']? = some u' → (xs.set (k * 19 + j) u)[i * 19 + j']? = some u' := by
    intro i cs' hi hs hc j' u' hu
    have hj' : j' < 19 := by have := (Array.getElem?_eq_some_iff.1 hu).1; rw [hs] at this; exact this
    rw [List.getElem?_set_ne (by omega)]
    exact hc j' u' hu
  refine ⟨xs.set (k * 19 + j) u, (h1.stored _ u).1, by simpa using h2, fun j' u' hu => ?_, fun i c hi hc => ?_, fun i c hi hc => ?_, ?_⟩
  · by_cases e : j' = j
    · subst e
      rw [Array.getElem?_setIfInBounds_self, if_pos (by omega)] at hu
      rw [List.getElem?_set_self (by omega)]
      exact hu
    · rw [Array.getElem?_setIfInBounds_ne (fun e' => e e'.symm)] at hu
      rw [List.getElem?_set_ne (by omega)]
      exact h3 j' u' hu
  · obtain ⟨cs', q1, q2⟩ := h4 i c hi hc
    exact ⟨cs', ho i cs' (by omega) q2.size q1, q2.by_ h1 hT⟩
  · obtain ⟨cs', q1, q2⟩ := h5 i c hi hc
    exact ⟨cs', ho i cs' (by omega) q2.size q1, q2.fr hT h6.size (fun x hx => by have : some x = some g := hx; cases this; exact hblk.1)⟩
  · exact h6.trans ((hT.to_below h6.size (fun x hx => by have : some x = some g := hx; cases this; exact hblk.1)))
end
theorem parts_e {w : World} {B : Nat} {cs : Array Value} {c : Ck} (h : CkAt w B cs c) : ∃ g d s p b : Hd, cs = ckArr c (.slice g.A c.gaps.length g.cap) (.slice d.A c.dups.length d.cap) (.slice s.A c.skips.length s.cap) (.slice p.A c.ps.length p.cap) (.slice b.A c.body.length b.cap) ∧ Lists w B c g d s p b := by
  obtain ⟨_, g, d, s, p, b, rfl, h1, h2, h3, h4, h5, r1, r2, r3, r4, r5⟩ := h
  exact ⟨g, d, s, p, b, rfl, ⟨h1, h2, h3, h4, h5, r1, r2, r3, r4, r5⟩⟩
theorem add_at (g k : Nat) : (⟨g, 0, none⟩ : Addr).add k = ⟨g, k, none⟩ := by
  unfold Addr.add
  split
  · rename_i e; rw [e]
  · simp
theorem dupC_ones (l : List Nat) : ∀ u ∈ dupC l, u.oneCell' = true := by
  intro u hu
  simp only [dupC, List.mem_map] at hu
  obtain ⟨b, _, rfl⟩ := hu
  rfl
theorem gapC_ones (l : List Gp) : ∀ u ∈ gapC l, u.oneCell' = true := by
  intro u hu
  simp only [gapC, List.mem_flatten, List.mem_map] at hu
  obtain ⟨b, ⟨g, _, rfl⟩, hu⟩ := hu
  simp only [List.mem_cons, List.not_mem_nil, or_false] at hu
  rcases hu with rfl | rfl <;> rfl
theorem skC_ones (l : List Skp) : ∀ u ∈ skC l, u.oneCell' = true := by
  intro u hu
  simp only [skC, List.mem_flatten, List.mem_map] at hu
  obtain ⟨b, ⟨g, _, rfl⟩, hu⟩ := hu
  simp only [List.mem_cons, List.not_mem_nil, or_false] at hu
  rcases hu with rfl | rfl | rfl <;> rfl
section
variable {w wr V W : World} {g n cap k : Nat} {ls : List Ck} {cs : Array Value}
theorem CpAt.belS (h : CpAt w V g n cap ls k cs) (hB : Below w.heap.size wr V) (i : Nat) (u : Value) : Below w.heap.size wr (V.setCell ⟨g, i, none⟩ u) := hB.setCell (p := ⟨g, i, none⟩) h.blk.1 u
theorem CpAt.newO (h : CpAt w V g n cap ls k cs) {B size n' : Nat} {t : TypeId} {v : Value} {ys : List Value} (hy : V.ownsRow B t size v n' ys) (hne : t ≠ 32) (i : Nat) (u : Value) : (V.setCell ⟨g, i, none⟩ u).ownsRow B t size v n' ys := by
  have hT := h.turn i u
  obtain ⟨xs, h1, _⟩ := h
  exact own_by hy h1 hne hT
theorem CpAt.keepO (h : CpAt w W g n cap ls k cs) (hb : Below W.heap.size W V) {B size n' : Nat} {t : TypeId} {v : Value} {ys : List Value} (hy : W.ownsRow B t size v n' ys) (hne : t ≠ 32) (i : Nat) (u : Value) : (V.setCell ⟨g, i, none⟩ u).ownsRow B t size v n' ys :=
  (h.grows hb).newO (own_up hy hb) hne i u
end
theorem below_both {B : Nat} {w V : World} (h : Below B w V) (p : Addr) (u : Value) : Below B (w.setCell p u) (V.setCell p u) := by
  refine ⟨h.os, h.tape, h.output, by simp only [World.setCell, Array.size_modify]; exact h.size, fun k hk => ?_⟩
  simp only [World.setCell, Array.getElem?_modify, h.block k hk]
/-! ### parameters of the call's own, of which the first m have values of its own -/
def PmSt (W : World) (H : Nat) (A : Option Addr) (n cap : Nat) (ps : List Prm) (m : Nat) : Prop :=
  ∃ ys, W.ownsRow H 131 2 (.slice A n cap) n ys ∧
    (∀ i p, i < m → ps[i]? = some p → p.1 < 65536 ∧ ∃ a c, ys[i * 2]? = some (.int .u16 (p.1 : Int)) ∧ ys[i * 2 + 1]? = some (.slice a p.2.length c) ∧ p.2.length ≤ c ∧ c ≤ 9223372036854775807 ∧ Own W H (.slice a p.2.length c) p.2) ∧
    (∀ i p, m ≤ i → ps[i]? = some p → p.1 < 65536 ∧ ∃ a c, ys[i * 2]? = some (.int .u16 (p.1 : Int)) ∧ ys[i * 2 + 1]? = some (.slice a p.2.length c) ∧ p.2.length ≤ c ∧ c ≤ 9223372036854775807 ∧ Byt W H a p.2)
section
variable {W W' : World} {H g n cap m : Nat} {ps : List Prm} {A : Option Addr}
theorem PmSt.start {xs : List Value} (h : W.ownsRow H 131 2 (.slice A n cap) n xs)
    (hx : ∀ k p, ps[k]? = some p → p.1 < 65536 ∧ ∃ a c, xs[k * 2]? = some (.int .u16 (p.1 : Int)) ∧ xs[k * 2 + 1]? = some (.slice a p.2.length c) ∧ p.2.length ≤ c ∧ c ≤ 9223372036854775807 ∧ Byt W H a p.2) : PmSt W H A n cap ps 0 :=
  ⟨xs, h, fun i c hi => absurd hi (by omega), fun i c _ hc => hx i c hc⟩
theorem PmSt.at_ (h : PmSt W H A n cap ps m) {p : Prm} (hk : ps[m]? = some p) (hn : n = ps.length) : ∃ g a c, A = some ⟨g, 0, none⟩ ∧ H ≤ g ∧ g < W.heap.size ∧ p.1 < 65536 ∧ W.cell? ⟨g, m * 2, none⟩ = some (.int .u16 (p.1 : Int)) ∧
    W.cell? ⟨g, m * 2 + 1, none⟩ = some (.slice a p.2.length c) ∧ p.2.length ≤ c ∧ c ≤ 9223372036854775807 ∧ Byt W H a p.2 := by
  obtain ⟨ys, h1, h2, h3⟩ := h
  have hkl := (List.getElem?_eq_some_iff.1 hk).1
  obtain ⟨q1, a, c, q2, q3, q4, q5, q6⟩ := h3 m p (Nat.le_refl _) hk
  obtain ⟨g, cap', hv, hg1, hg2⟩ := h1.form (by omega)
  injection hv with hv _ hv2
  subst hv hv2
  exact ⟨g, a, c, rfl, hg1, hg2, q1, (h1.cellAt _ (by omega)).trans q2, (h1.cellAt _ (by omega)).trans q3, q4, q5, q6⟩
theorem PmSt.frozen (h : PmSt W H (some ⟨g, 0, none⟩) n cap ps m) (j : Nat) : W.frozen? ⟨g, j, none⟩ = false := by
  obtain ⟨ys, h1, _⟩ := h
  exact h1.frozenAt j
theorem PmSt.grows (h : PmSt W H A n cap ps m) (hb : Below W.heap.size W W') (hH : H ≤ W.heap.size) : PmSt W' H A n cap ps m := by
  obtain ⟨ys, h1, h2, h3⟩ := h
  refine ⟨ys, own_up h1 hb, fun i p hi hp => ?_, fun i p hi hp => ?_⟩
  · obtain ⟨q1, a, c, q2, q3, q4, q5, q6⟩ := h2 i p hi hp
    exact ⟨q1, a, c, q2, q3, q4, q5, own_up q6 hb⟩
  · obtain ⟨q1, a, c, q2, q3, q4, q5, q6⟩ := h3 i p hi hp
    exact ⟨q1, a, c, q2, q3, q4, q5, q6.below (hb.mono hH)⟩
theorem PmSt.set_ (h : PmSt W H (some ⟨g, 0, none⟩) n cap ps m) {p : Prm} {a : Option Addr} {c : Nat} (hn : n = ps.length) (hH : H ≤ W.heap.size) (hk : ps[m]? = some p) (h4 : p.2.length ≤ c) (h5 : c ≤ 9223372036854775807) (ho : Own W H (.slice a p.2.length c) p.2) : PmSt (W.setCell ⟨g, m * 2 + 1, none⟩ (.slice a p.2.length c)) H (some ⟨g, 0, none⟩) n cap ps (m + 1) := by
  obtain ⟨ys, h1, h2, h3⟩ := h
  have hkl := (List.getElem?_eq_some_iff.1 hk).1
  have hl := h1.1
  have hg := (h1.lt g rfl).1
  have hT : Fr (fun i => some i = (Value.slice (some ⟨g, 0, none⟩) n cap).ownBlock) W (W.setCell ⟨g, m * 2 + 1, none⟩ (.slice a p.2.length c)) := Fr.setCell (S := fun i => some i = (Value.slice (some ⟨g, 0, none⟩) n cap).ownBlock) (Fr.refl _ W) (p := ⟨g, m * 2 + 1, none⟩) (.inl rfl) _
  have hB : Below H W (W.setCell ⟨g, m * 2 + 1, none⟩ (.slice a p.2.length c)) := (Below.refl H W).setCell (p := ⟨g, m * 2 + 1, none⟩) hg _
  have ho' : ∀ (i j : Nat) (u : Value), i * 2 + j ≠ m * 2 + 1 → ys[i * 2 + j]? = some u → (ys.set (m * 2 + 1) (.slice a p.2.length c))[i * 2 + j]? = some u := by
    intro i j u hi hu
    rw [List.getElem?_set_ne (fun e => hi e.symm)]
    exact hu
  refine ⟨ys.set (m * 2 + 1) (.slice a p.2.length c), (h1.stored _ _).1, fun i p' hi hp => ?_, fun i p' hi hp => ?_⟩
  · by_cases e : i = m
    · subst e
      rw [hk] at hp
      cases hp
      obtain ⟨q1, _, _, q2, _⟩ := h3 i p (Nat.le_refl _) hk
      exact ⟨q1, a, c, ho' i 0 _ (by omega) q2, by rw [List.getElem?_set_self (by omega)], h4, h5, own_by ho h1 (by decide) hT⟩
    · obtain ⟨q1, a', c', q2, q3, q4, q5, q6⟩ := h2 i p' (by omega) hp
      exact ⟨q1, a', c', ho' i 0 _ (by omega) q2, ho' i 1 _ (by omega) q3, q4, q5, own_by q6 h1 (by decide) hT⟩
  · obtain ⟨q1, a', c', q2, q3, q4, q5, q6⟩ := h3 i p' (by omega) hp
    exact ⟨q1, a', c', ho' i 0 _ (by omega) q2, ho' i 1 _ (by omega) q3, q4, q5, q6.below hB⟩
theorem PmSt.own (h : PmSt W H A n cap ps m) (hn : n = ps.length) (hm : ps.length ≤ m) : OwnPs W H (.slice A n cap) ps := by
  obtain ⟨ys, h1, h2, _⟩ := h
  refine ⟨ys, by rw [← hn]; exact h1, fun i p hp => h2 i p ?_ hp⟩
  have := (List.getElem?_eq_some_iff.1 hp).1
  omega
end

end Go.Proofs.Ytpgklhecmafnbaa.Chk

namespace Go.Proofs.Ytpgklhecmafnbaa.Chk
open Go.Proofs.Ytpgklhecmafnbaa
open Go.ChangeShapes Go.WideShapes Go.ChangeAt Go.RowKit Go.Deep Go.Proofs.Ytpgklhecmafnbaa.Words Go.Proofs.Ytpgklhecmafnbaa.Oct Go.Proofs.Ytpgklhecmafnbaa.Par

def RowO (l : List UInt8) (B : Nat) (v : Value) (V : World) : Prop := ∃ A c, v = .slice A l.length c ∧ l.length ≤ c ∧ c ≤ 9223372036854775807 ∧ Own V B v l
set_option maxHeartbeats 16000000 in
set_option maxRecDepth 100000 in
theorem copies_k {w : World} {A : Option Addr} {ls : List Ck} {n c : Nat} (hn : n = ls.length) (hn9 : n ≤ 1000000) (hs : ∀ c ∈ ls, sizeC c ≤ 1000000) (h : Cks w w.heap.size A ls) :
    Calls Try.prog 63 #[.slice A n c] w fun e w' => (∃ v, e = .returned v ∧ OwnCks w' w.heap.size v ls) ∧ Below w.heap.size w w' := by
  obtain ⟨xs, hxr, hx1, hxk⟩ := h.row
  rw [← hn] at hxr
  have HN := Lib.hid hn
  have HS := Lib.hid hs
  have HOK : Hid (∀ c ∈ ls, c.ok) := fun c hc => by
    obtain ⟨k, hk, e⟩ := List.getElem_of_mem hc
    obtain ⟨cs, _, h3⟩ := hxk k c (by rw [List.getElem?_eq_getElem hk, e])
    exact h3.ok
  have HR := Lib.hid hxr
  have H1 := Lib.hid hx1
  have HK := Lib.hid hxk
  clear hn hs h hxr hx1 hxk
  go_enter Try.func63, Try.ntmps63
  go_wp2_with fail
  refine (clone_k A xs n c w hn9 HR.out H1.out).mono ?_
  rintro e W1 ⟨⟨v1, rfl, ho1⟩, hb1⟩
  obtain ⟨A1, c1, rfl, hc1, hc2⟩ := own_slice ho1
  have HS0 : Hid (CpSt w W1 A1 n c1 ls 0) := CpSt.start (A0 := A) hb1 ho1 HK.out
  have HB1 := Lib.hid hb1
  clear ho1 hb1 HR H1 HK
  go_wp2_with fail
  go_loopw [3, 4, 5, 6, 11] (fun _ _ _ _ i wr => ∃ (k : Nat), k ≤ n ∧ i = .int .i64 k ∧ Hid (CpSt w wr A1 n c1 ls k) ∧ Hid (Below w.heap.size w wr)) (fun _ _ _ _ i _ => n - (intOf i).toNat)
  case atStart => exact ⟨0, by omega, rfl, HS0, HB1⟩
  case round =>
    obtain ⟨k, hk, rfl, HSk, HBk⟩ := hrel
    by_cases hlt : k < n
    · have hk2 : k < ls.length := by rw [← HN.out]; exact hlt
      obtain ⟨ck, hck⟩ : ∃ ck, ck = ls[k] := ⟨_, rfl⟩
      have HKQ : Hid (ls[k]? = some ck) := by rw [hck]; exact List.getElem?_eq_getElem hk2
      have HSC : Hid (sizeC ck ≤ 1000000) := HS.out ck (by rw [hck]; exact List.getElem_mem _)
      obtain ⟨g, cs, rfl, hcp, hat⟩ := HSk.out.at_ HKQ.out HN.out
      obtain ⟨cg, cd, csk, cpp, cb, hcs, hcl⟩ := parts_e hat
      have HCL := Lib.hid hcl
      obtain ⟨ng, hng⟩ : ∃ n, n = ck.gaps.length := ⟨_, rfl⟩
      obtain ⟨nd, hnd⟩ : ∃ n, n = ck.dups.length := ⟨_, rfl⟩
      obtain ⟨ns, hns⟩ : ∃ n, n = ck.skips.length := ⟨_, rfl⟩
      obtain ⟨np, hnp⟩ : ∃ n, n = ck.ps.length := ⟨_, rfl⟩
      obtain ⟨nb, hnb⟩ : ∃ n, n = ck.body.length := ⟨_, rfl⟩
      rw [← hng, ← hnd, ← hns, ← hnp, ← hnb] at hcs
      subst hcs
      have hnn : ng ≤ 250000 ∧ nd ≤ 250000 ∧ ns ≤ 125000 ∧ nb ≤ 1000000 := by
        have hs := HSC.out
        unfold sizeC at hs
        omega
      obtain ⟨hng9, hnd9, hns9, hnb9⟩ := hnn
      have HSP : Hid (sizeL ck.ps ≤ 1000000) := by have := HSC.out; unfold sizeC at this; show _ ≤ _; omega
      have hnp9 : np ≤ 250000 := by have := len_le_size ck.ps; have := HSP.out; omega
      have HNG := Lib.hid hng
      have HND := Lib.hid hnd
      have HNS := Lib.hid hns
      have HNP := Lib.hid hnp
      have HNB := Lib.hid hnb
      obtain ⟨W0, hW0⟩ : ∃ W, W = wr := ⟨_, rfl⟩
      rw [← hW0] at hcp HCL HBk ⊢
      have HC0 := Lib.hid hcp
      have HB0 : Hid (Below w.heap.size W0 W0) := Below.refl _ _
      clear hng hnd hns hnp hnb hcp hat hcl hck HSk hW0
      go_upto_region 6 with fail

      have o14 : W0.cell? ⟨g, k * 19 + 14, none⟩ = some (.slice cg.A ng cg.cap) := (HC0.out.cellAt hlt 14 (by omega)).trans rfl
      go_wp2_with fail
      refine (clone_gap cg.A (gapC ck.gaps) ng cg.cap W0 (by omega) (by rw [HNG.out]; exact (HCL.out.gaps.keep (fun q hq => HB0.out.cell hq)).more HC0.out.bel.size) (gapC_ones _)).mono ?_
      rintro e V14 ⟨⟨v14, rfl, ho14⟩, hb14⟩
      obtain ⟨A14, c14, rfl, _, _⟩ := own_slice ho14
      have HCV := Lib.hid (HC0.out.grows hb14)
      have x14 : V14.cell? ⟨g, k * 19 + 14, none⟩ = some (.slice cg.A ng cg.cap) := (HCV.out.cellAt hlt 14 (by omega)).trans rfl
      have z14 := HCV.out.frozenAt (k * 19 + 14)
      have HOV := Lib.hid ho14
      have HBV := Lib.hid hb14
      clear ho14 hb14 o14
      go_upto_region 7 with fail
      obtain ⟨W1, hW⟩ : ∃ W, W = V14.setCell ⟨g, k * 19 + 14, none⟩ (.slice A14 ng c14) := ⟨_, rfl⟩
      have HC1 : Hid (CpAt w W1 g n c1 ls k (ckArr ck (.slice A14 ng c14) (.slice cd.A nd cd.cap) (.slice csk.A ns csk.cap) (.slice cpp.A np cpp.cap) (.slice cb.A nb cb.cap))) := by rw [hW]; exact HCV.out.set_ hlt 14 (by omega) _
      have HB1 : Hid (Below w.heap.size W0 W1) := by rw [hW]; exact HCV.out.belS (HB0.out.trans (HBV.out.mono HC0.out.bel.size)) _ _
      have HO14 : Hid (W1.ownsRow w.heap.size 85 2 (.slice A14 ng c14) ng (gapC ck.gaps)) := by rw [hW]; exact own_mono (HCV.out.newO HOV.out (by decide) _ _) HC0.out.bel.size
      rw [← hW]
      clear hW x14 z14 HCV HOV HBV HC0 HB0
      have o15 : W1.cell? ⟨g, k * 19 + 15, none⟩ = some (.slice cd.A nd cd.cap) := (HC1.out.cellAt hlt 15 (by omega)).trans rfl
      go_wp2_with fail
      refine (clone_dup cd.A (dupC ck.dups) nd cd.cap W1 (by omega) (by rw [HND.out]; exact (HCL.out.dups.keep (fun q hq => HB1.out.cell hq)).more HC1.out.bel.size) (dupC_ones _)).mono ?_
      rintro e V15 ⟨⟨v15, rfl, ho15⟩, hb15⟩
      obtain ⟨A15, c15, rfl, _, _⟩ := own_slice ho15
      have HCV := Lib.hid (HC1.out.grows hb15)
      have x15 : V15.cell? ⟨g, k * 19 + 15, none⟩ = some (.slice cd.A nd cd.cap) := (HCV.out.cellAt hlt 15 (by omega)).trans rfl
      have z15 := HCV.out.frozenAt (k * 19 + 15)
      have HOV := Lib.hid ho15
      have HBV := Lib.hid hb15
      clear ho15 hb15 o15
      go_upto_region 8 with fail
      obtain ⟨W2, hW⟩ : ∃ W, W = V15.setCell ⟨g, k * 19 + 15, none⟩ (.slice A15 nd c15) := ⟨_, rfl⟩
      have HC2 : Hid (CpAt w W2 g n c1 ls k (ckArr ck (.slice A14 ng c14) (.slice A15 nd c15) (.slice csk.A ns csk.cap) (.slice cpp.A np cpp.cap) (.slice cb.A nb cb.cap))) := by rw [hW]; exact HCV.out.set_ hlt 15 (by omega) _
      have HB2 : Hid (Below w.heap.size W0 W2) := by rw [hW]; exact HCV.out.belS (HB1.out.trans (HBV.out.mono HC1.out.bel.size)) _ _
      have HO14 : Hid (W2.ownsRow w.heap.size 85 2 (.slice A14 ng c14) ng (gapC ck.gaps)) := by rw [hW]; exact HC1.out.keepO HBV.out HO14.out (by decide) _ _
      have HO15 : Hid (W2.ownsRow w.heap.size 25 1 (.slice A15 nd c15) nd (dupC ck.dups)) := by rw [hW]; exact own_mono (HCV.out.newO HOV.out (by decide) _ _) HC1.out.bel.size
      rw [← hW]
      clear hW x15 z15 HCV HOV HBV HC1 HB1
      have o16 : W2.cell? ⟨g, k * 19 + 16, none⟩ = some (.slice csk.A ns csk.cap) := (HC2.out.cellAt hlt 16 (by omega)).trans rfl
      go_wp2_with fail
      refine (clone_skp csk.A (skC ck.skips) ns csk.cap W2 (by omega) (by rw [HNS.out]; exact (HCL.out.skips.keep (fun q hq => HB2.out.cell hq)).more HC2.out.bel.size) (skC_ones _)).mono ?_
      rintro e V16 ⟨⟨v16, rfl, ho16⟩, hb16⟩
      obtain ⟨A16, c16, rfl, _, _⟩ := own_slice ho16
      have HCV := Lib.hid (HC2.out.grows hb16)
      have x16 : V16.cell? ⟨g, k * 19 + 16, none⟩ = some (.slice csk.A ns csk.cap) := (HCV.out.cellAt hlt 16 (by omega)).trans rfl
      have z16 := HCV.out.frozenAt (k * 19 + 16)
      have HOV := Lib.hid ho16
      have HBV := Lib.hid hb16
      clear ho16 hb16 o16
      go_upto_region 9 with fail
      obtain ⟨W3, hW⟩ : ∃ W, W = V16.setCell ⟨g, k * 19 + 16, none⟩ (.slice A16 ns c16) := ⟨_, rfl⟩
      have HC3 : Hid (CpAt w W3 g n c1 ls k (ckArr ck (.slice A14 ng c14) (.slice A15 nd c15) (.slice A16 ns c16) (.slice cpp.A np cpp.cap) (.slice cb.A nb cb.cap))) := by rw [hW]; exact HCV.out.set_ hlt 16 (by omega) _
      have HB3 : Hid (Below w.heap.size W0 W3) := by rw [hW]; exact HCV.out.belS (HB2.out.trans (HBV.out.mono HC2.out.bel.size)) _ _
      have HO14 : Hid (W3.ownsRow w.heap.size 85 2 (.slice A14 ng c14) ng (gapC ck.gaps)) := by rw [hW]; exact HC2.out.keepO HBV.out HO14.out (by decide) _ _
      have HO15 : Hid (W3.ownsRow w.heap.size 25 1 (.slice A15 nd c15) nd (dupC ck.dups)) := by rw [hW]; exact HC2.out.keepO HBV.out HO15.out (by decide) _ _
      have HO16 : Hid (W3.ownsRow w.heap.size 87 3 (.slice A16 ns c16) ns (skC ck.skips)) := by rw [hW]; exact own_mono (HCV.out.newO HOV.out (by decide) _ _) HC2.out.bel.size
      rw [← hW]
      clear hW x16 z16 HCV HOV HBV HC2 HB2
      have o18 : W3.cell? ⟨g, k * 19 + 18, none⟩ = some (.slice cb.A nb cb.cap) := (HC3.out.cellAt hlt 18 (by omega)).trans rfl
      go_wp2_with fail
      refine (clone_as cb.A ck.body nb cb.cap W3 HNB.out (by rw [← HNB.out]; exact hnb9) ((HCL.out.body.keep (fun q hq => HB3.out.cell hq)).more HC3.out.bel.size)).mono ?_
      rintro e V18 ⟨⟨v18, rfl, ho18⟩, hb18⟩
      unfold Own at ho18
      rw [← HNB.out] at ho18
      obtain ⟨A18, c18, rfl, _, _⟩ := own_slice ho18
      have HCV := Lib.hid (HC3.out.grows hb18)
      have x18 : V18.cell? ⟨g, k * 19 + 18, none⟩ = some (.slice cb.A nb cb.cap) := (HCV.out.cellAt hlt 18 (by omega)).trans rfl
      have z18 := HCV.out.frozenAt (k * 19 + 18)
      have HOV := Lib.hid ho18
      have HBV := Lib.hid hb18
      clear ho18 hb18 o18
      go_upto_region 10 with fail
      obtain ⟨W4, hW⟩ : ∃ W, W = V18.setCell ⟨g, k * 19 + 18, none⟩ (.slice A18 nb c18) := ⟨_, rfl⟩
      have HC4 : Hid (CpAt w W4 g n c1 ls k (ckArr ck (.slice A14 ng c14) (.slice A15 nd c15) (.slice A16 ns c16) (.slice cpp.A np cpp.cap) (.slice A18 nb c18))) := by rw [hW]; exact HCV.out.set_ hlt 18 (by omega) _
      have HB4 : Hid (Below w.heap.size W0 W4) := by rw [hW]; exact HCV.out.belS (HB3.out.trans (HBV.out.mono HC3.out.bel.size)) _ _
      have HO14 : Hid (W4.ownsRow w.heap.size 85 2 (.slice A14 ng c14) ng (gapC ck.gaps)) := by rw [hW]; exact HC3.out.keepO HBV.out HO14.out (by decide) _ _
      have HO15 : Hid (W4.ownsRow w.heap.size 25 1 (.slice A15 nd c15) nd (dupC ck.dups)) := by rw [hW]; exact HC3.out.keepO HBV.out HO15.out (by decide) _ _
      have HO16 : Hid (W4.ownsRow w.heap.size 87 3 (.slice A16 ns c16) ns (skC ck.skips)) := by rw [hW]; exact HC3.out.keepO HBV.out HO16.out (by decide) _ _
      have HO18 : Hid (W4.ownsRow w.heap.size 5 1 (.slice A18 nb c18) nb (u8s ck.body)) := by rw [hW]; exact own_mono (HCV.out.newO HOV.out (by decide) _ _) HC3.out.bel.size
      rw [← hW]
      clear hW x18 z18 HCV HOV HBV HC3 HB3
      have o17 : W4.cell? ⟨g, k * 19 + 17, none⟩ = some (.slice cpp.A np cpp.cap) := (HC4.out.cellAt hlt 17 (by omega)).trans rfl
      have HPS : Hid (Ps W4 w.heap.size cpp.A ck.ps) := HCL.out.ps.keep (fun q hq => HB4.out.cell hq)
      obtain ⟨ys, hyr, hy1, hyk⟩ := Ps.row HPS.out
      rw [← HNP.out] at hyr
      have HYR := Lib.hid hyr
      have HY1 := Lib.hid hy1
      have HYK := Lib.hid hyk
      clear hyr hy1 hyk HPS
      go_wp2_with fail
      refine (clone_prm cpp.A ys np cpp.cap W4 (by omega) (HYR.out.more HC4.out.bel.size) HY1.out).mono ?_
      rintro e V17 ⟨⟨v17, rfl, ho17⟩, hb17⟩
      obtain ⟨A17, c17, rfl, hc17, hc17b⟩ := own_slice ho17
      have HCV := Lib.hid (HC4.out.grows hb17)
      have x17 : V17.cell? ⟨g, k * 19 + 17, none⟩ = some (.slice cpp.A np cpp.cap) := (HCV.out.cellAt hlt 17 (by omega)).trans rfl
      have z17 := HCV.out.frozenAt (k * 19 + 17)
      have HOV := Lib.hid ho17
      have HBV := Lib.hid hb17
      clear ho17 hb17 o17 HYR HY1
      go_upto_region 11 with fail
      obtain ⟨W5, hW⟩ : ∃ W, W = V17.setCell ⟨g, k * 19 + 17, none⟩ (.slice A17 np c17) := ⟨_, rfl⟩
      obtain ⟨U5, hU⟩ : ∃ U, U = W4.setCell ⟨g, k * 19 + 17, none⟩ (.slice A17 np c17) := ⟨_, rfl⟩
      have HSZ : Hid (U5.heap.size = W4.heap.size) := by rw [hU]; show _ = _; simp [World.setCell]
      have HUW : Hid (Below W4.heap.size U5 W5) := by rw [hU, hW]; exact below_both HBV.out _ _
      obtain ⟨H, hH⟩ : ∃ H, H = W4.heap.size := ⟨_, rfl⟩
      rw [← hH] at HSZ HUW
      have HC5 : Hid (CpAt w U5 g n c1 ls k (ckArr ck (.slice A14 ng c14) (.slice A15 nd c15) (.slice A16 ns c16) (.slice A17 np c17) (.slice A18 nb c18))) := by rw [hU]; exact HC4.out.set_ hlt 17 (by omega) _
      have HU14 : Hid (U5.ownsRow w.heap.size 85 2 (.slice A14 ng c14) ng (gapC ck.gaps)) := by rw [hU]; exact HC4.out.newO HO14.out (by decide) _ _
      have HU15 : Hid (U5.ownsRow w.heap.size 25 1 (.slice A15 nd c15) nd (dupC ck.dups)) := by rw [hU]; exact HC4.out.newO HO15.out (by decide) _ _
      have HU16 : Hid (U5.ownsRow w.heap.size 87 3 (.slice A16 ns c16) ns (skC ck.skips)) := by rw [hU]; exact HC4.out.newO HO16.out (by decide) _ _
      have HU18 : Hid (U5.ownsRow w.heap.size 5 1 (.slice A18 nb c18) nb (u8s ck.body)) := by rw [hU]; exact HC4.out.newO HO18.out (by decide) _ _
      have HP5 : Hid (PmSt W5 H A17 np c17 ck.ps 0) := by
        refine PmSt.start ?_ (fun k p hp => ?_) (xs := ys)
        · rw [hW, hH]; exact HCV.out.newO HOV.out (by decide) _ _
        · obtain ⟨q1, a, c, q2, q3, q4, q5, q6⟩ := HYK.out k p hp
          refine ⟨q1, a, c, q2, q3, q4, q5, ?_⟩
          rw [hH, hW]
          exact (q6.below (HCV.out.belS (HBV.out.mono HC4.out.bel.size) _ _)).more HC4.out.bel.size
      have o17 : W5.cell? ⟨g, k * 19 + 17, none⟩ = some (.slice A17 np c17) := by
        have := HC5.out.cellAt hlt 17 (by omega)
        rw [← HUW.out.cell (show (⟨g, k * 19 + 17, none⟩ : Addr).block < H by have := HC5.out.blk.2; have := HSZ.out; simp only; omega)] at this
        exact this.trans rfl
      have hwH : w.heap.size ≤ H := by rw [hH]; exact HC4.out.bel.size
      rw [← hW]
      clear hW hU hH x17 z17 HCV HOV HBV HC4 HB4 HO14 HO15 HO16 HO18 HYK

      go_wp2_with fail
      go_loopw [5, 6, 62] (fun _ _ i wq => ∃ (m : Nat), m ≤ np ∧ i = .int .i64 m ∧ Hid (PmSt wq H A17 np c17 ck.ps m) ∧ Hid (Below H U5 wq)) (fun _ _ i _ => np - (intOf i).toNat)
      case atStart => exact ⟨0, by omega, rfl, HP5, HUW⟩
      case round =>
        obtain ⟨m, hm, rfl, HPm, HUm⟩ := hrel
        by_cases hltm : m < np
        · have hm2 : m < ck.ps.length := by rw [← HNP.out]; exact hltm
          obtain ⟨p, hp⟩ : ∃ p, p = ck.ps[m] := ⟨_, rfl⟩
          have HPQ : Hid (ck.ps[m]? = some p) := by rw [hp]; exact List.getElem?_eq_getElem hm2
          have hpl : p.2.length ≤ 1000000 := by have := val_le_size ck.ps p (by rw [hp]; exact List.getElem_mem _); have := HSP.out; omega
          obtain ⟨gp, a, cv, rfl, hgp1, hgp2, hp16, hc0, hc1', hvc, hvm, hvb⟩ := HPm.out.at_ HPQ.out HNP.out
          have HVB := Lib.hid hvb
          obtain ⟨nv, hnv⟩ : ∃ nv, nv = p.2.length := ⟨_, rfl⟩
          rw [← hnv] at hc1' hvc hpl
          have HNV := Lib.hid hnv
          obtain ⟨kd, hkd⟩ : ∃ kd, kd = p.1 := ⟨_, rfl⟩
          rw [← hkd] at hp16 hc0
          clear hp hvb hnv hkd
          go_upto_region 14 with fail
          have hHwr : H ≤ wr.heap.size := by have := HUm.out.size; have := HSZ.out; omega
          obtain ⟨W7, hW⟩ : ∃ W, W = wr.alloc (.cells #[.int .u16 (kd : Int), .slice a nv cv] 131) := ⟨_, rfl⟩
          have HBL : Hid (Blk W7 wr.heap.size 131 #[.int .u16 (kd : Int), .slice a nv cv]) := by rw [hW]; exact Blk.new _ _ _
          have HB7 : Hid (Below wr.heap.size wr W7) := by rw [hW]; exact (Below.refl wr.heap.size wr).alloc (Nat.le_refl _) _
          rw [← hW]
          obtain ⟨g6, hg6⟩ : ∃ g, g = wr.heap.size := ⟨_, rfl⟩
          rw [← hg6] at HBL ⊢
          have HP7 : Hid (PmSt W7 H (some ⟨gp, 0, none⟩) np c17 ck.ps m) := HPm.out.grows HB7.out hHwr
          have HU7 : Hid (Below H U5 W7) := HUm.out.trans (HB7.out.mono hHwr)
          have HV7 : Hid (Byt W7 H a p.2) := HVB.out.below (HB7.out.mono hHwr)
          have HG17 : Hid (∀ V, Below W7.heap.size W7 V → V.cell? ⟨g, k * 19 + 17, none⟩ = some (.slice (some ⟨gp, 0, none⟩) np c17)) := fun V hV => by
            have h1 := HC5.out.cellAt hlt 17 (by omega)
            have h2 := HC5.out.blk.2
            have h3 := HSZ.out
            have h4 := HU7.out.size
            rw [hV.cell (by simp only; omega), HU7.out.cell (by simp only; omega), h1]
            rfl
          have hH7 : H ≤ W7.heap.size := Nat.le_trans hHwr HB7.out.size
          have HST : Hid (Below W7.heap.size W7 W7.drew) := Below.drew (Below.refl _ _)
          clear hW hg6 HPm HUm HVB HB7 hc0 hc1'
          refine wp_region_stage_tail 10 (fun _ V V' => Below V.heap.size V V') (fun m V => Hid (Below W7.heap.size W7 V)) [(false, .exact (.pointer (some ⟨g, k * 19, none⟩))),
              (false, .exact (.pointer (some ⟨g, k * 19, none⟩))),
              (false, .exact (.pointer (some ⟨g, k * 19 + 17, none⟩))),
              (false, .exact (.slice (some ⟨gp, 0, none⟩) np c17)),
              (false, .exact (.int .i64 (m : Int))),
              (false, .exact (.pointer (some ⟨g6, 1, none⟩))),
              (false, .exact (.slice a nv cv)),
              (false, .grows (RowO p.2 H)),
              (false, .exact (.pointer (some ⟨gp, m * 2, none⟩))),
              (false, .exact (.pointer (some ⟨gp, m * 2 + 1, none⟩)))] (by kernel_rfl) (by kernel_rfl) (by kernel_rfl) rfl (of_decide_eq_true (by kernel_rfl)) (by kernel_rfl) (by kernel_rfl) ?lasts ?start ?walk
          case lasts => exact ⟨fun m v V V' _ h k => by obtain ⟨A3, c3, rfl, h3, h4, h⟩ := h; exact ⟨A3, c3, rfl, h3, h4, own_up h k⟩, trivial⟩
          case start => exact HST
          case walk =>
            simp only [List.take_succ_cons, List.take_zero, List.drop_succ_cons, List.drop_zero]
            refine stageT_pure rfl (fun _ V => Below.refl _ V) (fun V m hS hl => by go_simp) ?_
            simp only [Act.put, List.setIfInBounds_toArray, List.set_cons_zero, List.set_cons_succ, List.cons_append, List.nil_append]
            refine stageT_pure rfl (fun _ V => Below.refl _ V) (fun V m hS hl => by go_simp) ?_
            simp only [Act.put, List.setIfInBounds_toArray, List.set_cons_zero, List.set_cons_succ, List.cons_append, List.nil_append]
            refine stageT_pure rfl (fun _ V => Below.refl _ V) (fun V m hS hl => by go_simp) ?_
            simp only [Act.put, List.setIfInBounds_toArray, List.set_cons_zero, List.set_cons_succ, List.cons_append, List.nil_append]
            refine stageT_pure rfl (fun _ V => Below.refl _ V) (fun V m hS hl => by
                have hc := HG17.out V hS.out
                go_simp) ?_
            simp only [Act.put, List.setIfInBounds_toArray, List.set_cons_zero, List.set_cons_succ, List.cons_append, List.nil_append]
            refine stageT_pure rfl (fun _ V => Below.refl _ V) (fun V m hS hl => by go_simp) ?_
            simp only [Act.put, List.setIfInBounds_toArray, List.set_cons_zero, List.set_cons_succ, List.cons_append, List.nil_append]
            refine stageT_pure rfl (fun _ V => Below.refl _ V) (fun V m hS hl => by go_simp) ?_
            simp only [Act.put, List.setIfInBounds_toArray, List.set_cons_zero, List.set_cons_succ, List.cons_append, List.nil_append]
            refine stageT_pure rfl (fun _ V => Below.refl _ V) (fun V m hS hl => by
                have hc : V.cell? ⟨g6, 1, none⟩ = some (.slice a nv cv) := (HBL.out.below hS.out HBL.out.lt).cell 1
                go_simp) ?_
            simp only [Act.put, List.setIfInBounds_toArray, List.set_cons_zero, List.set_cons_succ, List.cons_append, List.nil_append]
            refine stageT_grows rfl (fun V m hS hl => by
                go_simp
                refine (clone_as a p.2 nv cv V HNV.out (by rw [← HNV.out]; exact hpl) ((HV7.out.below (hS.out.mono hH7)).more (Nat.le_trans hH7 hS.out.size))).mono ?_
                rintro e V' ⟨⟨v, rfl, ho⟩, hb⟩
                obtain ⟨A3, c3, rfl, h3, h4⟩ := own_slice ho
                exact ⟨_, rfl, hb, ⟨A3, c3, rfl, h3, h4, own_mono ho (Nat.le_trans hH7 hS.out.size)⟩, hS.out.trans (hb.mono hS.out.size)⟩) (fun v74 => ?_)
            simp only [Act.put, List.setIfInBounds_toArray, List.set_cons_zero, List.set_cons_succ, List.cons_append, List.nil_append]
            refine stageT_pure rfl (fun _ V => Below.refl _ V) (fun V m hS hl => by go_simp) ?_
            simp only [Act.put, List.setIfInBounds_toArray, List.set_cons_zero, List.set_cons_succ, List.cons_append, List.nil_append]
            refine stageT_pure rfl (fun _ V => Below.refl _ V) (fun V m hS hl => by go_simp) ?_
            simp only [Act.put, List.setIfInBounds_toArray, List.set_cons_zero, List.set_cons_succ, List.cons_append, List.nil_append]
            refine stageT_nil (fun V2 hS hF => ?_)
            have hF2 : RowO p.2 H v74 V2 ∧ True := hF
            obtain ⟨A8, c8, rfl, h8a, h8b, ho8⟩ := hF2.1
            have HO8 := Lib.hid ho8
            have HS8 := Lib.hid hS.out
            have HP8 : Hid (PmSt V2 H (some ⟨gp, 0, none⟩) np c17 ck.ps m) := HP7.out.grows HS8.out hH7
            obtain ⟨gq, _, _, hq, _, _, _, _, kc, _⟩ := HP8.out.at_ HPQ.out HNP.out
            injection hq with hq
            injection hq with hq
            subst hq
            have kf := HP8.out.frozen (m * 2 + 1)
            have HU8 : Hid (Below H U5 V2) := HU7.out.trans (HS8.out.mono hH7)
            clear hS hF hF2 ho8
            show wpList _ _ _ _ _ _
            go_wp2_with fail
            go_roundw
            case rel => exact ⟨m + 1, by omega, by go_num, HP8.out.set_ HNP.out (Nat.le_trans hH7 HS8.out.size) HPQ.out h8a h8b HO8.out, HU8.out.setCell (p := ⟨gp, m * 2 + 1, none⟩) hgp1 _⟩
            case measure => simp [intOf]; omega
        · obtain rfl : m = np := by omega
          have HUE : Hid (Below U5.heap.size U5 wr) := by rw [HSZ.out]; exact HUm
          have HCE := Lib.hid (HC5.out.grows HUE.out)
          have HKO : Hid (CkOwn wr w.heap.size (ckArr ck (.slice A14 ng c14) (.slice A15 nd c15) (.slice A16 ns c16) (.slice A17 m c17) (.slice A18 nb c18)) ck) := by
            refine ⟨_, _, _, _, _, rfl, ?_, ?_, ?_, (HPm.out.own HNP.out (by rw [← HNP.out]; exact Nat.le_refl _)).mono hwH, ?_⟩
            · rw [← HNG.out]; exact own_up HU14.out HUE.out
            · rw [← HND.out]; exact own_up HU15.out HUE.out
            · rw [← HNS.out]; exact own_up HU16.out HUE.out
            · unfold Own; rw [← HNB.out]; exact own_up HU18.out HUE.out
          have HZ := Lib.hid (HCE.out.done HKQ.out HKO.out)
          have HZB := Lib.hid HCE.out.bel
          go_wp2_with fail
          go_roundw
          case rel => exact ⟨k + 1, by omega, by go_num, HZ, HZB⟩
          case measure => simp [intOf]; omega
    · obtain rfl : k = n := by omega
      go_wp2_with fail
      go_ret
      exact ⟨⟨_, rfl, HSk.out.own (by rw [← HN.out]; exact Nat.le_refl _) HN.out HOK.out⟩, HBk.out⟩
end Go.Proofs.Ytpgklhecmafnbaa.Chk

namespace Go.Proofs.Ytpgklhecmafnbaa.Chk
open Go.Proofs.Ytpgklhecmafnbaa
open Go.ChangeShapes Go.WideShapes Go.ChangeAt Go.RowKit Go.Deep Go.Proofs.Ytpgklhecmafnbaa.Words Go.Proofs.Ytpgklhecmafnbaa.Oct Go.Proofs.Ytpgklhecmafnbaa.Par

def FitC (c : Ck) : Prop := Puts c ∧ (bytesC c).length ≤ 1188
def AllFit (ls : List Ck) : Prop := ∀ c ∈ ls, FitC c
def BadB (ls : List Ck) (k : Nat) : Prop := ∃ a c b, ls = a ++ c :: b ∧ AllFit a ∧ (PutErr c k ∨ (Puts c ∧ 1188 < (bytesC c).length ∧ k = 43))
def fullB (cur : List Ck) (c : Ck) : Prop := 1188 < (bodyB (cur ++ [c])).length ∨ fitsL (cur ++ [c]) = false
instance (cur : List Ck) (c : Ck) : Decidable (fullB cur c) := inferInstanceAs (Decidable (_ ∨ _))
def stepB (s : List (List Ck) × List Ck) (c : Ck) : List (List Ck) × List Ck := if fullB s.2 c then (s.1 ++ [s.2], [c]) else (s.1, s.2 ++ [c])
def bundleS (ls : List Ck) : List (List Ck) × List Ck := ls.foldl stepB ([], [])
def bundleB (ls : List Ck) : List (List Ck) := if (bundleS ls).2 = [] then (bundleS ls).1 else (bundleS ls).1 ++ [(bundleS ls).2]
theorem bundleS_snoc (ls : List Ck) (c : Ck) : bundleS (ls ++ [c]) = stepB (bundleS ls) c := by simp [bundleS]
theorem allFit_snoc {ls : List Ck} {k : Nat} (hk : k < ls.length) (h : AllFit (ls.take k)) (hp : FitC ls[k]) : AllFit (ls.take (k + 1)) := by
  rw [List.take_succ_eq_append_getElem hk]
  intro c hc
  rcases List.mem_append.1 hc with hc | hc
  · exact h c hc
  · rw [List.mem_singleton] at hc; rw [hc]; exact hp
theorem badB_at {ls : List Ck} {k e : Nat} (hk : k < ls.length) (h : AllFit (ls.take k)) (hp : PutErr ls[k] e ∨ (Puts ls[k] ∧ 1188 < (bytesC ls[k]).length ∧ e = 43)) : BadB ls e :=
  ⟨ls.take k, ls[k], ls.drop (k + 1), by rw [List.getElem_cons_drop hk, List.take_append_drop], h, hp⟩
/-- Where Bundle stands behind k chunks. -/
structure BdSt (ls : List Ck) (k st sz m : Nat) (gs : List (List Ck)) (cur : List Ck) : Prop where
  eq : bundleS (ls.take k) = (gs, cur)
  ecur : cur = (ls.take k).drop st
  esz : sz = (bodyB cur).length
  em : m = gs.length
  mle : m ≤ k
  fit : AllFit (ls.take k)
  full : fitsL cur = true ∨ cur = []
theorem BdSt.zero (ls : List Ck) : BdSt ls 0 0 0 0 [] [] := ⟨rfl, by simp, rfl, rfl, Nat.le_refl _, fun c hc => by simp at hc, .inr rfl⟩
theorem fits_one (c : Ck) : fitsL [c] = true := by rw [fitsL_iff]; exact ⟨by simp, by simp, .inl rfl⟩
section
variable {ls : List Ck} {k st sz m : Nat} {gs : List (List Ck)} {cur : List Ck}
theorem BdSt.len (h : BdSt ls k st sz m gs cur) (hk : k ≤ ls.length) : cur.length = k - st := by
  rw [h.ecur, List.length_drop, List.length_take, Nat.min_eq_left hk]
theorem BdSt.snd (h : BdSt ls k st sz m gs cur) (hk : k < ls.length) (hst : st ≤ k) : (ls.take (k + 1)).drop st = cur ++ [ls[k]] := by
  rw [List.take_succ_eq_append_getElem hk, List.drop_append_of_le_length (by rw [List.length_take]; omega), ← h.ecur]
theorem BdSt.more (h : BdSt ls k st sz m gs cur) (hk : k < ls.length) (hst : st ≤ k) (hf : FitC ls[k]) (hn : ¬ fullB cur ls[k]) : BdSt ls (k + 1) st (sz + (bytesC ls[k]).length) m gs (cur ++ [ls[k]]) := by
  refine ⟨?_, (h.snd hk hst).symm, ?_, h.em, by have := h.mle; omega, allFit_snoc hk h.fit hf, .inl ?_⟩
  · rw [List.take_succ_eq_append_getElem hk, bundleS_snoc, h.eq, stepB, if_neg hn]
  · rw [bodyB_snoc, List.length_append, h.esz]
  · rcases hx : fitsL (cur ++ [ls[k]]) with _ | _
    · exact absurd (.inr hx) hn
    · rfl
theorem BdSt.next (h : BdSt ls k st sz m gs cur) (hk : k < ls.length) (hf : FitC ls[k]) (hn : fullB cur ls[k]) : BdSt ls (k + 1) k (bytesC ls[k]).length (m + 1) (gs ++ [cur]) [ls[k]] := by
  refine ⟨?_, ?_, ?_, ?_, by have := h.mle; omega, allFit_snoc hk h.fit hf, .inl (fits_one _)⟩
  · rw [List.take_succ_eq_append_getElem hk, bundleS_snoc, h.eq, stepB, if_pos hn]
  · rw [List.take_succ_eq_append_getElem hk, List.drop_append_of_le_length (by rw [List.length_take]; omega), List.drop_eq_nil_of_le (by rw [List.length_take]; omega)]
    rfl
  · rw [bodyB_cons, bodyB_nil, List.append_nil]
  · rw [List.length_append, h.em, List.length_singleton]
end
/-! ### slices of slices of chunks -/
theorem cks_info : (Try.prog.info? 42).map (fun i => (i.zero, i.size, i.bytes)) = some (some (.slice none 0 0), 1, 24) := by kernel_rfl
def OwnGs (w : World) (B : Nat) (v : Value) (gs : List (List Ck)) : Prop :=
  ∃ xs, w.ownsRow B 42 1 v gs.length xs ∧ ∀ (k : Nat) (g : List Ck), gs[k]? = some g → ∃ (A : Option Addr) (c : Nat), xs[k]? = some (Value.slice A g.length c) ∧ g.length ≤ c ∧ c ≤ 9223372036854775807 ∧ OwnCks w B (.slice A g.length c) g
theorem CkOwn.byT {w w' : World} {B B' n size : Nat} {e : TypeId} {v : Value} {xs : List Value} {cs : Array Value} {c : Ck} (h : CkOwn w B cs c) (hx : w.ownsRow B' e size v n xs) (k : Fr (fun i => some i = v.ownBlock) w w') (h1 : 85 ≠ e) (h2 : 25 ≠ e) (h3 : 87 ≠ e) (h4 : 131 ≠ e) (h5 : 5 ≠ e) : CkOwn w' B cs c := by
  obtain ⟨gv, dv, sv, pv, bv, e, q1, q2, q3, q4, q5⟩ := h
  exact ⟨gv, dv, sv, pv, bv, e, own_by q1 hx h1 k, own_by q2 hx h2 k, own_by q3 hx h3 k, ownPs_by q4 hx h4 h5 k, own_by q5 hx h5 k⟩
section
variable {w w' : World} {B B' : Nat} {v v' : Value} {ls : List Ck} {gs : List (List Ck)}
theorem OwnCks.byT {n size : Nat} {e : TypeId} {u : Value} {xs : List Value} (h : OwnCks w B v ls) (hx : w.ownsRow B' e size u n xs) (k : Fr (fun i => some i = u.ownBlock) w w') (h0 : 32 ≠ e) (h1 : 85 ≠ e) (h2 : 25 ≠ e) (h3 : 87 ≠ e) (h4 : 131 ≠ e) (h5 : 5 ≠ e) : OwnCks w' B v ls := by
  obtain ⟨ys, q1, q2⟩ := h
  refine ⟨ys, own_by q1 hx h0 k, fun i c hc => ?_⟩
  obtain ⟨q3, cs, q4, q5⟩ := q2 i c hc
  exact ⟨q3, cs, q4, q5.byT hx k h1 h2 h3 h4 h5⟩
theorem OwnGs.nil (w : World) (B : Nat) : OwnGs w B (.slice none 0 0) [] := ⟨[], World.ownsRow_nil _ _ _ _, fun k p h => by simp at h⟩
theorem OwnGs.grows (h : OwnGs w B v gs) (k : Below w.heap.size w w') : OwnGs w' B v gs := by
  obtain ⟨xs, h1, h2⟩ := h
  refine ⟨xs, own_up h1 k, fun i g hg => ?_⟩
  obtain ⟨A, c, q1, q2, q3, q4⟩ := h2 i g hg
  exact ⟨A, c, q1, q2, q3, q4.grows k⟩
theorem OwnGs.snoc {n n0 nc : Nat} {xs : List Value} {cur : List Ck} {A : Option Addr} {c : Nat} (hn0 : n0 = gs.length) (hnc : nc = cur.length) (hx : w.ownsRow B 42 1 v n0 xs) (hxs : ∀ (k : Nat) (g : List Ck), gs[k]? = some g → ∃ (A : Option Addr) (c : Nat), xs[k]? = some (Value.slice A g.length c) ∧ g.length ≤ c ∧ c ≤ 9223372036854775807 ∧ OwnCks w B (.slice A g.length c) g)
    (hg : w.grownBy w' v.ownBlock) (ho : w'.ownsRow B 42 1 v' n (xs ++ [.slice A nc c])) (hn : n = n0 + 1) (hc : nc ≤ c) (hcm : c ≤ 9223372036854775807) (hk : OwnCks w B (.slice A nc c) cur) : OwnGs w' B v' (gs ++ [cur]) := by
  subst hn0 hnc
  have hl := hx.1
  have hT := Fr.of_grown hg
  refine ⟨_, by rw [List.length_append, List.length_singleton, ← hn]; exact ho, fun k g hq => ?_⟩
  by_cases hkl : k < gs.length
  · rw [List.getElem?_append_left hkl] at hq
    obtain ⟨A', c', q1, q2, q3, q4⟩ := hxs k g hq
    exact ⟨A', c', by rw [List.getElem?_append_left (by omega)]; exact q1, q2, q3, q4.byT hx hT (by decide) (by decide) (by decide) (by decide) (by decide) (by decide)⟩
  · rw [List.getElem?_append_right (by omega)] at hq
    have hk0 : k - gs.length = 0 := by
      have := (List.getElem?_eq_some_iff.1 hq).1
      simp at this
      omega
    rw [hk0] at hq
    simp only [List.getElem?_cons_zero, Option.some.injEq] at hq
    subst hq
    exact ⟨A, c, by rw [List.getElem?_append_right (by omega), show k - xs.length = 0 by omega]; rfl, hc, hcm, hk.byT hx hT (by decide) (by decide) (by decide) (by decide) (by decide) (by decide)⟩
end
theorem Cks.cut {w : World} {B : Nat} {ad : Addr} {ls : List Ck} (h : Cks w B (some ad) ls) (st m : Nat) : Cks w B (some (ad.add (st * 19))) ((ls.drop st).take m) := fun k c hc => by
  have hk : k < m := by
    have := (List.getElem?_eq_some_iff.1 hc).1
    rw [List.length_take] at this
    omega
  rw [List.getElem?_take, if_pos hk, List.getElem?_drop] at hc
  obtain ⟨ad', cs, e, h1, h2, h3⟩ := h _ _ hc
  cases e
  refine ⟨_, cs, rfl, by rw [block_of_add]; exact h1, h2, fun j v hv => ?_⟩
  rw [add_of_add ad (st * 19) (k * 19), show st * 19 + k * 19 = (st + k) * 19 by omega]
  exact h3 j v hv
/-- What Bundle leaves. -/
def BundleDone (w : World) (ls : List Ck) (e : Ending) (w' : World) : Prop :=
  ((∃ v, e = .returned (.tuple #[v, .int .i64 0]) ∧ OwnGs w' w.heap.size v (bundleB ls) ∧ AllFit ls) ∨ (∃ k : Nat, e = .returned (.tuple #[.slice none 0 0, .int .i64 (k : Int)]) ∧ BadB ls k)) ∧ Below w.heap.size w w'

set_option maxHeartbeats 16000000 in
set_option maxRecDepth 100000 in
theorem bundle_k {w : World} {n c : Nat} {A : Option Addr} {ls : List Ck} (h : Cks w w.heap.size A ls) (hn : n = ls.length) (hnc : n ≤ c) (hcm : c ≤ 9223372036854775807) (hs : sumC ls ≤ 300000) :
    Calls Try.prog 23 #[.slice A n c] w (BundleDone w ls) := by
  obtain ⟨i1, hi1, hz11, hz12, hz13⟩ := info_parts3 cks_info
  have HC := Lib.hid h
  have HN := Lib.hid hn
  have HSC := Lib.hid hs
  have hn9 : n ≤ 75000 := by have := sumC_len ls; omega
  clear h hn hs
  go_enter Try.func23, Try.ntmps23
  go_wp2_with fail
  go_loopw [2, 3, 4, 5, 6, 7, 8, 9, 10, 13] (fun _ _ s4 s5 s6 _ _ _ _ i wr => ∃ (k st sz m c4 : Nat) (A4 : Option Addr) (gs : List (List Ck)) (cur : List Ck), k ≤ n ∧ i = .int .i64 (k : Int) ∧ s4 = .slice A4 m c4 ∧ s5 = .int .i64 (st : Int) ∧ s6 = .int .i64 (sz : Int) ∧ st ≤ k ∧ sz ≤ 1188 ∧ Hid (BdSt ls k st sz m gs cur) ∧ Hid (OwnGs wr w.heap.size (.slice A4 m c4) gs) ∧ Hid (Below w.heap.size w wr)) (fun _ _ _ _ _ _ _ _ _ i _ => n - (intOf i).toNat)
  case atStart => exact ⟨0, 0, 0, 0, 0, none, [], [], by omega, rfl, rfl, rfl, rfl, Nat.le_refl _, by omega, BdSt.zero ls, OwnGs.nil _ _, Below.refl _ _⟩
  case round =>
    obtain ⟨k, st, sz, m, c4, A4, gs, cur, hk, rfl, rfl, rfl, rfl, hst, hsz, HST, HOG, HBW⟩ := hrel
    by_cases hlt : k < n
    · have hk2 : k < ls.length := by rw [← HN.out]; exact hlt
      obtain ⟨ad, cs, rfl, hblk, hsize, hat, hcell⟩ := HC.out.nthw (Nat.le_refl _) HBW.out hk2
      obtain ⟨ck, hck⟩ : ∃ ck, ck = ls[k] := ⟨_, rfl⟩
      rw [← hck] at hat
      have HSZ := Lib.hid hsize
      have HCELL := Lib.hid hcell
      have HONE := Lib.hid hat.one
      have HAT := Lib.hid hat
      have HCK := Lib.hid hck
      have HSM : Hid (Small ck) := small_size (by have h1 := sumC_mem (c := ck) (ls := ls) (by rw [hck]; exact List.getElem_mem _); have h2 := HSC.out; omega)
      clear hsize hat hcell hblk hck
      go_upto_region 6 with (first
        | (refine wpList_load_any rfl 32 _ rfl (ad.add (k * 19)) rfl cs _ HCELL.out Try.underlying32 rfl (by rw [HSZ.out]; exact chunk_info) ?_)
        | (refine wpList_store_row rfl 32 _ _ rfl wr.heap.size cs rfl rfl 32 _ (Blk.new wr 32 _) (by rw [HSZ.out]; exact chunk_info) (by rw [HSZ.out]; rfl) HONE.out ?_))
      obtain ⟨W2, hW2, HC2, HB2⟩ := kept_var wr cs
      obtain ⟨g0, hg0⟩ : ∃ g0, g0 = wr.heap.size := ⟨_, rfl⟩
      rw [← hg0] at HC2
      rw [← hW2, ← hg0]
      have HBX := Lib.hid (HBW.out.trans (HB2.mono HBW.out.size))
      have HOX := Lib.hid (HOG.out.grows HB2)
      have HG2 := Lib.hid HC2
      have HAT2 : Hid (CkAt W2 W2.heap.size cs ck) := (HAT.out.keep (fun q hq => HB2.cell (Nat.lt_of_lt_of_le hq HBW.out.size))).more HBX.out.size
      clear hW2 hg0 HC2 HB2 HCELL HONE HAT HBW HOG
      go_wp2_with (refine wpList_load_row rfl 32 _ rfl g0 rfl 32 cs (0, 0) _ HG2.out Try.underlying32 rfl (by rw [HSZ.out]; exact chunk_info) ?_)
      refine (put_k HSM.out HAT2.out).mono ?_
      rintro e W3 ⟨hd2, hb3⟩
      have HBY := Lib.hid (HBX.out.trans (hb3.mono HBX.out.size))
      have HOY := Lib.hid (HOX.out.grows hb3)
      clear hb3 HBX HOX HAT2 HG2
      rcases hd2 with ⟨v3, hp3, rfl, ho3⟩ | ⟨k3, hk3, rfl⟩
      rotate_left
      · have hkp := err_pos' hk3
        have HBAD : Hid (BadB ls k3) := badB_at hk2 HST.out.fit (.inl (by rw [← HCK.out]; exact hk3))
        have hne : ((k3 : Int) != 0) = true := by simp; omega
        clear hk3
        go_wp2_with fail
        go_ret2
        exact ⟨.inr ⟨k3, rfl, HBAD.out⟩, HBY.out⟩
      obtain ⟨y, hy⟩ : ∃ y, y = bytesC ck := ⟨_, rfl⟩
      rw [← hy] at ho3
      obtain ⟨ny, hny⟩ : ∃ ny, ny = y.length := ⟨_, rfl⟩
      obtain ⟨A3, c3, rfl, h3a, h3b, HY3⟩ := own_as ho3 hny
      have HP3 := Lib.hid hp3
      have HNY : Hid (ny = (bytesC ck).length) := by rw [hny, hy]; rfl
      clear hy hny ho3 hp3 HY3
      by_cases hbig : (1188 : Int) < (ny : Int)
      · have HBAD : Hid (BadB ls 43) := badB_at hk2 HST.out.fit (.inr (by rw [← HCK.out]; exact ⟨HP3.out, by have := HNY.out; omega, rfl⟩))
        go_wp2_with fail
        go_ret2
        exact ⟨.inr ⟨43, rfl, HBAD.out⟩, HBY.out⟩
      have hny9 : ny ≤ 1188 := by omega
      have HFC : Hid (FitC ls[k]) := by rw [← HCK.out]; exact ⟨HP3.out, by have := HNY.out; omega⟩
      go_upto_region 11 with fail
      clear hbig
      obtain ⟨fu, hfu⟩ : ∃ b : Bool, b = decide (fullB cur ls[k]) := ⟨_, rfl⟩
      have HFU := Lib.hid hfu
      have HLEN : Hid ((bodyB (cur ++ [ls[k]])).length = sz + ny) := by rw [bodyB_snoc, List.length_append, ← HST.out.esz, ← HCK.out, ← HNY.out]; rfl
      have HCUT1 : Hid (∀ V, Below w.heap.size w V → Cks V V.heap.size (some (ad.add (st * 19))) (cur ++ [ls[k]])) := fun V hV => by rw [← HST.out.snd hk2 hst, List.drop_take]; exact ((HC.out.below hV).more hV.size).cut st _
      have HCUT0 : Hid (∀ V, Below w.heap.size w V → Cks V V.heap.size (some (ad.add (st * 19))) cur) := fun V hV => by rw [HST.out.ecur, List.drop_take]; exact ((HC.out.below hV).more hV.size).cut st _
      clear hfu
      go_cut [44] from 31 to 44 (fun s wx => s = .bool fu ∧ Hid (Below W3.heap.size W3 wx))
      case first =>
        by_cases hov : (1188 : Int) < (sz : Int) + (ny : Int)
        · have hft : fu = true := by rw [HFU.out]; exact decide_eq_true (.inl (by rw [HLEN.out]; omega))
          clear HFU
          subst hft
          go_wp2_with fail
          go_meet
          exact ⟨rfl, Below.refl _ _⟩
        · go_wp2_with fail
          refine (formed_k (ls := cur ++ [ls[k]]) (n := k + 1 - st) (c := c - st) (HCUT1.out W3 HBY.out) (Nat.le_refl _) (by rw [List.length_append, List.length_singleton, HST.out.len (by omega)]; omega) (by omega)).mono ?_
          rintro e V4 ⟨rfl, hb4⟩
          obtain ⟨fb, hfb⟩ : ∃ b : Bool, b = fitsL (cur ++ [ls[k]]) := ⟨_, rfl⟩
          have hff : fu = !fb := by
            rw [HFU.out, hfb]
            have hno : ¬ 1188 < (bodyB (cur ++ [ls[k]])).length := by rw [HLEN.out]; omega
            have hiff : fullB cur ls[k] ↔ fitsL (cur ++ [ls[k]]) = false := ⟨fun h => h.resolve_left hno, .inr⟩
            by_cases hq : fitsL (cur ++ [ls[k]]) = false
            · rw [decide_eq_true (hiff.2 hq), hq]
              rfl
            · rw [decide_eq_false (fun h => hq (hiff.1 h)), show fitsL (cur ++ [ls[k]]) = true by simpa using hq]
              rfl
          rw [← hfb]
          have HB4 := Lib.hid hb4
          clear hfb hb4 HFU
          subst hff
          go_wp2_with fail
          go_meet
          exact ⟨rfl, HB4⟩
      case rest =>
      obtain ⟨rfl, HB34⟩ := hcut
      obtain ⟨W4, hW4⟩ : ∃ W, W = wc := ⟨_, rfl⟩
      rw [← hW4] at HB34 ⊢
      have HBZ := Lib.hid (HBY.out.trans (HB34.out.mono HBY.out.size))
      have HOZ := Lib.hid (HOY.out.grows HB34.out)
      clear hW4 HB34 HBY HOY
      cases fu
      · have hle : sz + ny ≤ 1188 := by
          have h1 := of_decide_eq_false HFU.out.symm
          have h2 : ¬ 1188 < (bodyB (cur ++ [ls[k]])).length := fun h => h1 (.inl h)
          rw [HLEN.out] at h2
          omega
        have HMORE := Lib.hid (HST.out.more hk2 hst HFC.out (fun h => by have := HFU.out; rw [decide_eq_true h] at this; cases this))
        rw [← HCK.out, ← HNY.out] at HMORE
        go_wp2_with fail
        go_roundw
        case rel => exact ⟨k + 1, st, sz + ny, m, c4, A4, gs, cur ++ [ck], by omega, by go_num, rfl, rfl, by go_num, by omega, by omega, HMORE, HOZ, HBZ⟩
        case measure => simp [intOf]; omega
      · have HNEXT := Lib.hid (HST.out.next hk2 HFC.out (of_decide_eq_true HFU.out.symm))
        rw [← HCK.out, ← HNY.out] at HNEXT
        go_wp2_with fail
        have HLC : Hid (k - st = cur.length) := (HST.out.len (by omega)).symm
        have hBs0 : w.heap.size ≤ W4.heap.size := HBZ.out.size
        refine (copies_k (ls := cur) (n := k - st) (c := c - st) HLC.out (by omega) (fun x hx => by have h1 := sumC_mem (c := x) (ls := ls) (by have := HST.out.ecur; rw [this] at hx; exact List.mem_of_mem_take (List.mem_of_mem_drop hx)); have h2 := HSC.out; omega) (HCUT0.out W4 HBZ.out)).mono ?_
        rintro e W5 ⟨⟨v5, rfl, ho5⟩, hb5⟩
        obtain ⟨A5, c5, hv5, h5a, h5b⟩ := ho5.slice
        have HO5 : Hid (OwnCks (W5.alloc (.cells #[v5] 42)) w.heap.size v5 cur) := (ho5.mono hBs0).grows ((Below.refl W5.heap.size W5).alloc (Nat.le_refl _) _)
        have HG5 : Hid (OwnGs (W5.alloc (.cells #[v5] 42)) w.heap.size (.slice A4 m c4) gs) := HOZ.out.grows (hb5.alloc hb5.size _)
        have HB5 : Hid (Below w.heap.size w (W5.alloc (.cells #[v5] 42))) := HBZ.out.trans ((hb5.mono hBs0).alloc (Nat.le_trans hBs0 hb5.size) _)
        have hBs : w.heap.size ≤ W5.heap.size := Nat.le_trans hBs0 hb5.size
        have HE5 : Hid (v5 = .slice A5 cur.length c5) := hv5
        rw [← HLC.out] at hv5 h5a
        subst hv5
        obtain ⟨xs, hx, hxs⟩ := HG5.out
        rw [← HST.out.em] at hx
        have HX := Lib.hid hx
        have HXS := Lib.hid hxs
        have hmm : m ≤ 75000 := by have := HST.out.mle; omega
        clear ho5 hb5 hx hxs HG5
        go_wp2_with (at_builtin; refine wpList_append_any _ rfl (.tmp 45) (.tmp 51) _ rfl w.heap.size 42 i1 _ 1 24 Try.underlying57 hi1 hz11 hz12 hz13 rfl (by omega) (.slice A4 m c4) m xs rfl HX.out (W5.heap.size + 1) (some ⟨W5.heap.size, 0, none⟩) 1 1 [.slice A5 (k - st) c5] rfl (blk_reads (Blk.new W5 42 #[.slice A5 (k - st) c5]) rfl) (by simp [Value.oneCell']) (by simp only [maxLen]; omega) (by omega) (Nat.le_trans hBs (by simp)) ?_; intro v7 w7 hown7 hg7 hat7; have HG7 : Hid (OwnGs w7 w.heap.size v7 (gs ++ [cur])) := OwnGs.snoc (A := A5) (c := c5) HST.out.em HLC.out HX.out HXS.out hg7 hown7 rfl h5a h5b HO5.out; have HB7 : Hid (Below w.heap.size w w7) := HB5.out.grown hg7 (by simp; omega) (fun b e => (HX.out.lt b e).1); obtain ⟨A7, c7, rfl, _, _⟩ := own_slice hown7; clear hown7 hg7 hat7 HX HXS HO5 HB5)
        go_roundw
        case rel => exact ⟨k + 1, k, ny, m + 1, c7, A7, gs ++ [cur], [ck], by omega, by go_num, rfl, rfl, by go_num, by omega, by omega, HNEXT, HG7, HB7⟩
        case measure => simp [intOf]; omega
    · obtain rfl : k = n := by omega
      by_cases hlast : (st : Int) < (k : Int)
      · obtain ⟨ad, _, rfl, _⟩ := HC.out 0 _ (List.getElem?_eq_getElem (by rw [← HN.out]; omega))
        have HTL : Hid (ls.take k = ls) := List.take_of_length_le (by rw [HN.out]; exact Nat.le_refl _)
        have HCUT0 : Hid (∀ V, Below w.heap.size w V → Cks V V.heap.size (some (ad.add (st * 19))) cur) := fun V hV => by rw [HST.out.ecur, List.drop_take]; exact ((HC.out.below hV).more hV.size).cut st _
        go_wp2_with fail
        have HLC : Hid (k - st = cur.length) := (HST.out.len (by rw [← HN.out]; exact Nat.le_refl _)).symm
        have hBs0 : w.heap.size ≤ wr.heap.size := HBW.out.size
        refine (copies_k (ls := cur) (n := k - st) (c := c - st) HLC.out (by omega) (fun x hx => by have h1 := sumC_mem (c := x) (ls := ls) (by have := HST.out.ecur; rw [this] at hx; exact List.mem_of_mem_take (List.mem_of_mem_drop hx)); have h2 := HSC.out; omega) (HCUT0.out wr HBW.out)).mono ?_
        rintro e W5 ⟨⟨v5, rfl, ho5⟩, hb5⟩
        obtain ⟨A5, c5, hv5, h5a, h5b⟩ := ho5.slice
        have HO5 : Hid (OwnCks (W5.alloc (.cells #[v5] 42)) w.heap.size v5 cur) := (ho5.mono hBs0).grows ((Below.refl W5.heap.size W5).alloc (Nat.le_refl _) _)
        have HG5 : Hid (OwnGs (W5.alloc (.cells #[v5] 42)) w.heap.size (.slice A4 m c4) gs) := HOG.out.grows (hb5.alloc hb5.size _)
        have HB5 : Hid (Below w.heap.size w (W5.alloc (.cells #[v5] 42))) := HBW.out.trans ((hb5.mono hBs0).alloc (Nat.le_trans hBs0 hb5.size) _)
        have hBs : w.heap.size ≤ W5.heap.size := Nat.le_trans hBs0 hb5.size
        have HE5 : Hid (v5 = .slice A5 cur.length c5) := hv5
        rw [← HLC.out] at hv5 h5a
        subst hv5
        obtain ⟨xs, hx, hxs⟩ := HG5.out
        rw [← HST.out.em] at hx
        have HX := Lib.hid hx
        have HXS := Lib.hid hxs
        have hmm : m ≤ 75000 := by have := HST.out.mle; omega
        clear ho5 hb5 hx hxs HG5
        go_wp2_with (at_builtin; refine wpList_append_any _ rfl (.tmp 63) (.tmp 68) _ rfl w.heap.size 42 i1 _ 1 24 Try.underlying57 hi1 hz11 hz12 hz13 rfl (by omega) (.slice A4 m c4) m xs rfl HX.out (W5.heap.size + 1) (some ⟨W5.heap.size, 0, none⟩) 1 1 [.slice A5 (k - st) c5] rfl (blk_reads (Blk.new W5 42 #[.slice A5 (k - st) c5]) rfl) (by simp [Value.oneCell']) (by simp only [maxLen]; omega) (by omega) (Nat.le_trans hBs (by simp)) ?_; intro v7 w7 hown7 hg7 hat7; have HG7 : Hid (OwnGs w7 w.heap.size v7 (gs ++ [cur])) := OwnGs.snoc (A := A5) (c := c5) HST.out.em HLC.out HX.out HXS.out hg7 hown7 rfl h5a h5b HO5.out; have HB7 : Hid (Below w.heap.size w w7) := HB5.out.grown hg7 (by simp; omega) (fun b e => (HX.out.lt b e).1); obtain ⟨A7, c7, rfl, _, _⟩ := own_slice hown7; clear hown7 hg7 hat7 HX HXS HO5 HB5)
        go_ret2
        have hcn : cur ≠ [] := fun e => by have := HLC.out; rw [e] at this; simp at this; omega
        have hbb : bundleB ls = gs ++ [cur] := by
          have h1 := HST.out.eq
          rw [HTL.out] at h1
          unfold bundleB
          rw [h1, if_neg hcn]
        exact ⟨.inl ⟨_, rfl, by rw [hbb]; exact HG7.out, by have := HST.out.fit; rw [HTL.out] at this; exact this⟩, HB7.out⟩
      · have HTL : Hid (ls.take k = ls) := List.take_of_length_le (by rw [HN.out]; exact Nat.le_refl _)
        have hcn : cur = [] := List.eq_nil_of_length_eq_zero (by rw [HST.out.len (by rw [← HN.out]; exact Nat.le_refl _)]; omega)
        have hbb : bundleB ls = gs := by
          have h1 := HST.out.eq
          rw [HTL.out] at h1
          unfold bundleB
          rw [h1, if_pos hcn]
        have HBB := Lib.hid hbb
        clear hbb hcn
        go_wp2_with fail
        go_ret2
        exact ⟨.inl ⟨_, rfl, by rw [HBB.out]; exact HOG.out, by have := HST.out.fit; rw [HTL.out] at this; exact this⟩, HBW.out⟩
end Go.Proofs.Ytpgklhecmafnbaa.Chk

namespace Go.Proofs.Ytpgklhecmafnbaa.Chk
open Go.Proofs.Ytpgklhecmafnbaa
open Go.ChangeShapes Go.WideShapes Go.ChangeAt Go.RowKit Go.Deep Go.Proofs.Ytpgklhecmafnbaa.Words Go.Proofs.Ytpgklhecmafnbaa.Oct Go.Proofs.Ytpgklhecmafnbaa.Par
open Go.Proofs.Ytpgklhecmafnbaa.Crc (sealL)

theorem sumC_append (a b : List Ck) : sumC (a ++ b) = sumC a + sumC b := by simp [sumC]
theorem sumC_drop (ls : List Ck) (k : Nat) : sumC (ls.drop k) ≤ sumC ls := by
  have := sumC_append (ls.take k) (ls.drop k)
  rw [List.take_append_drop] at this
  omega
/-- Put of the current group and one more, as the document asks. -/
theorem put_more {hd : List UInt8} {cur : List Ck} {c : Ck} {kk : Nat} {l : List UInt8} (ha : AllPuts (cur ++ [c])) (h : PutP hd (cur ++ [c]) kk l) : kk = 0 ↔ ¬ fullB cur c := by
  rcases h with ⟨h, rfl, _⟩ | ⟨_, h, _⟩ | ⟨_, _, h, rfl, _⟩ | ⟨h, _, h2, rfl, _⟩
  · exact ⟨fun e => by omega, fun e => absurd (.inr h) e⟩
  · exact (bad_all h ha).elim
  · exact ⟨fun e => by omega, fun e => absurd (.inl h) e⟩
  · refine ⟨fun _ hf => ?_, fun _ => rfl⟩
    rcases hf with hf | hf
    · omega
    · rw [h] at hf; cases hf
/-- A group that can be put. -/
def GoodG (ls g : List Ck) : Prop := fitsL g = true ∧ AllPuts g ∧ (bodyB g).length ≤ 1188 ∧ g.Sublist ls
theorem sumC_sub : ∀ {a b : List Ck}, a.Sublist b → sumC a ≤ sumC b := by
  intro a b h
  induction h with
  | slnil => exact Nat.le_refl _
  | cons x _ ih => rw [sumC_cons]; omega
  | cons_cons x _ ih => rw [sumC_cons, sumC_cons]; omega
theorem GoodG.more {ls g : List Ck} (h : GoodG ls g) (c : Ck) : GoodG (ls ++ [c]) g := ⟨h.1, h.2.1, h.2.2.1, h.2.2.2.trans (List.sublist_append_left _ _)⟩
theorem snoc_ind {P : List Ck → Prop} (h0 : P []) (hs : ∀ l c, P l → P (l ++ [c])) (l : List Ck) : P l := by
  have h : ∀ r : List Ck, P r.reverse := fun r => by
    induction r with
    | nil => exact h0
    | cons c r ih => rw [List.reverse_cons]; exact hs _ c ih
  have := h l.reverse
  rwa [List.reverse_reverse] at this
theorem goodS (ls : List Ck) : AllFit ls → (∀ g ∈ (bundleS ls).1, GoodG ls g) ∧ ((bundleS ls).2 = [] ∨ GoodG ls (bundleS ls).2) := by
  refine snoc_ind (P := fun ls => AllFit ls → (∀ g ∈ (bundleS ls).1, GoodG ls g) ∧ ((bundleS ls).2 = [] ∨ GoodG ls (bundleS ls).2)) (fun _ => ⟨fun g hg => by simp [bundleS] at hg, .inl rfl⟩) (fun ls c ih ha => ?_) ls
  · show (∀ g ∈ (bundleS (ls ++ [c])).1, GoodG (ls ++ [c]) g) ∧ ((bundleS (ls ++ [c])).2 = [] ∨ GoodG (ls ++ [c]) (bundleS (ls ++ [c])).2)
    obtain ⟨h1, h2⟩ := ih (fun x hx => ha x (by simp [hx]))
    have hc := ha c (by simp)
    rw [bundleS_snoc]
    have hone : GoodG (ls ++ [c]) [c] := ⟨fits_one c, fun x hx => by rw [List.mem_singleton] at hx; rw [hx]; exact hc.1, by rw [bodyB_cons, bodyB_nil, List.append_nil]; exact hc.2, List.sublist_append_right _ _⟩
    unfold stepB
    by_cases hf : fullB (bundleS ls).2 c
    · rw [if_pos hf]
      refine ⟨fun g hg => ?_, .inr hone⟩
      rcases List.mem_append.1 hg with hg | hg
      · exact (h1 g hg).more c
      · rw [List.mem_singleton] at hg
        subst hg
        rcases h2 with h2 | h2
        · exfalso
          rw [h2] at hf
          rcases hf with hf | hf
          · rw [List.nil_append, bodyB_cons, bodyB_nil, List.append_nil] at hf
            have := hc.2
            omega
          · rw [List.nil_append, fits_one] at hf
            cases hf
        · exact h2.more c
    · rw [if_neg hf]
      refine ⟨fun g hg => (h1 g hg).more c, .inr ?_⟩
      rcases h2 with h2 | h2
      · rw [h2]
        exact hone
      · refine ⟨?_, fun x hx => ?_, ?_, h2.2.2.2.append (List.Sublist.refl _)⟩
        · rcases hx : fitsL ((bundleS ls).2 ++ [c]) with _ | _
          · exact absurd (.inr hx) hf
          · rfl
        · rcases List.mem_append.1 hx with hx | hx
          · exact h2.2.1 x hx
          · rw [List.mem_singleton] at hx; rw [hx]; exact hc.1
        · exact Nat.le_of_not_lt fun h => hf (.inl h)
theorem good_all {ls g : List Ck} (h : AllFit ls) (hg : g ∈ bundleB ls) : GoodG ls g := by
  obtain ⟨h1, h2⟩ := goodS ls h
  unfold bundleB at hg
  by_cases he : (bundleS ls).2 = []
  · rw [if_pos he] at hg
    exact h1 g hg
  · rw [if_neg he] at hg
    rcases List.mem_append.1 hg with hg | hg
    · exact h1 g hg
    · rw [List.mem_singleton] at hg
      subst hg
      exact h2.resolve_left he
theorem good_put {ls g : List Ck} {hd l : List UInt8} {kk : Nat} (h : GoodG ls g) (hp : PutP hd g kk l) : kk = 0 := by
  rcases hp with ⟨h1, _⟩ | ⟨_, h1, _⟩ | ⟨_, _, h1, _⟩ | ⟨_, _, _, h1, _⟩
  · rw [h.1] at h1; cases h1
  · exact (bad_all h1 h.2.1).elim
  · have := h.2.2.1; omega
  · exact h1
theorem badB_one {ls : List Ck} {k k' : Nat} (h : BadB ls k) (h' : BadB ls k') : k = k' := by
  obtain ⟨a, c, b, e, ha, hc⟩ := h
  obtain ⟨a', c', b', e', ha', hc'⟩ := h'
  have hno : ∀ {x : Ck} {k : Nat}, FitC x → (PutErr x k ∨ (Puts x ∧ 1188 < (bytesC x).length ∧ k = 43)) → False := fun hf hk => by
    rcases hk with hk | ⟨_, hk, _⟩
    · exact err_puts' hk hf.1
    · have := hf.2; omega
  have hl : a.length = a'.length := by
    rcases Nat.lt_trichotomy a.length a'.length with hlt | heq | hgt
    · exfalso
      have h1 : ls[a.length]? = some c := by rw [e]; simp
      rw [e', List.getElem?_append_left hlt] at h1
      exact hno (ha' c (List.mem_of_getElem? h1)) hc
    · exact heq
    · exfalso
      have h1 : ls[a'.length]? = some c' := by rw [e']; simp
      rw [e, List.getElem?_append_left hgt] at h1
      exact hno (ha c' (List.mem_of_getElem? h1)) hc'
  have h1 : ls[a.length]? = some c := by rw [e]; simp
  have h2 : ls[a'.length]? = some c' := by rw [e']; simp
  rw [hl, h2] at h1
  cases h1
  rcases hc with hc | ⟨p, q, rfl⟩ <;> rcases hc' with hc' | ⟨p', q', rfl⟩
  · exact err_one' hc hc'
  · exact (err_puts' hc p').elim
  · exact (err_puts' hc' p).elim
  · rfl
theorem badB_fit {ls : List Ck} {k : Nat} (h : BadB ls k) (p : AllFit ls) : False := by
  obtain ⟨a, c, b, rfl, _, h⟩ := h
  have hc := p c (by simp)
  rcases h with h | ⟨_, h, _⟩
  · exact err_puts' h hc.1
  · have := hc.2; omega
theorem own_lit {B : Nat} (w : World) (cs : Array Value) (t : TypeId) (size : Nat) (hs : cs.size = size) (hb : B ≤ w.heap.size) : (w.alloc (.cells cs t)).ownsRow B t size (.slice (some ⟨w.heap.size, 0, none⟩) 1 1) 1 cs.toList :=
  ⟨by simp [hs], .inr ⟨w.heap.size, 1, cs, rfl, hb, heap_alloc_new w _, Nat.le_refl _, by decide, by omega, by rw [List.take_of_length_le (by simp [hs])]⟩⟩
/-- A row of chunks of the call's own, whose chunks' lists are read below block B. -/
def OwnRd (w : World) (B : Nat) (v : Value) (ls : List Ck) : Prop :=
  ∃ xs, w.ownsRow B 32 19 v ls.length xs ∧ (∀ u ∈ xs, u.oneCell' = true) ∧ ∀ (k : Nat) (c : Ck), ls[k]? = some c → ∃ cs : Array Value, (∀ j u, cs[j]? = some u → xs[k * 19 + j]? = some u) ∧ CkAt w B cs c
section
variable {w w' : World} {B B' : Nat} {v v' : Value} {ls : List Ck}
theorem OwnRd.to_ {xs : List Value} (h : w'.ownsRow B 32 19 v ls.length xs) (h1 : ∀ u ∈ xs, u.oneCell' = true) (hx : ∀ (k : Nat) (c : Ck), ls[k]? = some c → ∃ cs : Array Value, (∀ j u, cs[j]? = some u → xs[k * 19 + j]? = some u) ∧ CkAt w B cs c) (hb : Below B w w') : OwnRd w' B v ls :=
  ⟨xs, h, h1, fun k c hc => by
    obtain ⟨cs, q1, q2⟩ := hx k c hc
    exact ⟨cs, q1, q2.below hb⟩⟩
theorem OwnRd.grows (h : OwnRd w B v ls) (k : Below w.heap.size w w') (hB : B ≤ w.heap.size) : OwnRd w' B v ls := by
  obtain ⟨xs, h1, h2, h3⟩ := h
  exact OwnRd.to_ (own_up h1 k) h2 h3 (k.mono hB)
theorem OwnRd.byT {n size : Nat} {e : TypeId} {u : Value} {xs : List Value} (h : OwnRd w B v ls) (hx : w.ownsRow B e size u n xs) (k : Fr (fun i => some i = u.ownBlock) w w') (h0 : 32 ≠ e) (hB : B ≤ w.heap.size) : OwnRd w' B v ls := by
  obtain ⟨ys, q1, q2, q3⟩ := h
  exact OwnRd.to_ (own_by q1 hx h0 k) q2 q3 (k.to_below hB (fun x hx' => (hx.lt x hx'.symm).1))
theorem OwnRd.cks {A : Option Addr} {n c : Nat} (h : OwnRd w B (.slice A n c) ls) (hB : B ≤ w.heap.size) : Cks w w.heap.size A ls := fun k p hp => by
  obtain ⟨xs, h1, _, h2⟩ := h
  obtain ⟨cs, h4, h5⟩ := h2 k p hp
  have hk : k < ls.length := (List.getElem?_eq_some_iff.1 hp).1
  obtain ⟨g, cap, hv, hg1, hg2⟩ := h1.form (by omega)
  injection hv with hv _ _
  subst hv
  refine ⟨⟨g, 0, none⟩, cs, rfl, hg2, h5.more hB, fun j u hu => ?_⟩
  rw [add_of_add]
  exact h1.cells (g := g) rfl _ _ (h4 j u hu)
theorem OwnRd.slice (h : OwnRd w B v ls) : ∃ A c, v = .slice A ls.length c ∧ ls.length ≤ c ∧ c ≤ 9223372036854775807 := by
  obtain ⟨xs, h1, _⟩ := h
  exact own_slice h1
theorem OwnRd.one {cs : Array Value} {c : Ck} (h : CkAt w B cs c) (hB : B ≤ w.heap.size) : OwnRd (w.alloc (.cells cs 32)) B (.slice (some ⟨w.heap.size, 0, none⟩) 1 1) [c] := by
  refine OwnRd.to_ (w := w) (own_lit w cs _ 19 h.size hB) (fun u hu => Array.all_eq_true'.1 h.one u (by simpa using hu)) (fun k c' hc => ?_) ((Below.refl B w).alloc hB _)
  match k with
  | 0 =>
    simp only [List.getElem?_cons_zero, Option.some.injEq] at hc
    subst hc
    exact ⟨cs, fun j u hu => by rw [Nat.zero_mul, Nat.zero_add]; simpa using hu, h⟩
  | k + 1 => simp at hc
end
theorem rows_snoc {w : World} {B : Nat} {ls : List Ck} {xs : List Value} {cs : Array Value} {c : Ck} (hl : xs.length = ls.length * 19) (hx : ∀ (k : Nat) (c : Ck), ls[k]? = some c → ∃ cs : Array Value, (∀ j u, cs[j]? = some u → xs[k * 19 + j]? = some u) ∧ CkAt w B cs c) (h : CkAt w B cs c) :
    ∀ (k : Nat) (c' : Ck), (ls ++ [c])[k]? = some c' → ∃ cs' : Array Value, (∀ j u, cs'[j]? = some u → (xs ++ cs.toList)[k * 19 + j]? = some u) ∧ CkAt w B cs' c' := by
  intro k c' hc
  by_cases hk : k < ls.length
  · rw [List.getElem?_append_left hk] at hc
    obtain ⟨cs', q1, q2⟩ := hx k c' hc
    refine ⟨cs', fun j u hu => ?_, q2⟩
    have hj : j < 19 := by have := (Array.getElem?_eq_some_iff.1 hu).1; rw [q2.size] at this; exact this
    rw [List.getElem?_append_left (by omega)]
    exact q1 j u hu
  · rw [List.getElem?_append_right (by omega)] at hc
    have hk0 : k - ls.length = 0 := by
      have := (List.getElem?_eq_some_iff.1 hc).1
      simp at this
      omega
    rw [hk0] at hc
    simp only [List.getElem?_cons_zero, Option.some.injEq] at hc
    subst hc
    refine ⟨cs, fun j u hu => ?_, h⟩
    rw [List.getElem?_append_right (by omega), show k * 19 + j - xs.length = j by omega]
    simpa using hu
/-! ### groups of them -/
def RefGs (w : World) (B : Nat) (v : Value) (gs : List (List Ck)) : Prop :=
  ∃ xs, w.ownsRow B 42 1 v gs.length xs ∧ ∀ (k : Nat) (g : List Ck), gs[k]? = some g → ∃ (A : Option Addr) (c : Nat), xs[k]? = some (Value.slice A g.length c) ∧ g.length ≤ c ∧ c ≤ 9223372036854775807 ∧ OwnRd w B (.slice A g.length c) g
section
variable {w w' : World} {B : Nat} {v v' : Value} {gs : List (List Ck)}
theorem RefGs.nil (w : World) (B : Nat) : RefGs w B (.slice none 0 0) [] := ⟨[], World.ownsRow_nil _ _ _ _, fun k p h => by simp at h⟩
theorem RefGs.grows (h : RefGs w B v gs) (k : Below w.heap.size w w') (hB : B ≤ w.heap.size) : RefGs w' B v gs := by
  obtain ⟨xs, h1, h2⟩ := h
  refine ⟨xs, own_up h1 k, fun i g hg => ?_⟩
  obtain ⟨A, c, q1, q2, q3, q4⟩ := h2 i g hg
  exact ⟨A, c, q1, q2, q3, q4.grows k hB⟩
theorem RefGs.snoc {n n0 nc : Nat} {xs : List Value} {cur : List Ck} {A : Option Addr} {c : Nat} (hB : B ≤ w.heap.size) (hn0 : n0 = gs.length) (hnc : nc = cur.length) (hx : w.ownsRow B 42 1 v n0 xs) (hxs : ∀ (k : Nat) (g : List Ck), gs[k]? = some g → ∃ (A : Option Addr) (c : Nat), xs[k]? = some (Value.slice A g.length c) ∧ g.length ≤ c ∧ c ≤ 9223372036854775807 ∧ OwnRd w B (.slice A g.length c) g)
    (hg : w.grownBy w' v.ownBlock) (ho : w'.ownsRow B 42 1 v' n (xs ++ [.slice A nc c])) (hn : n = n0 + 1) (hc : nc ≤ c) (hcm : c ≤ 9223372036854775807) (hk : OwnRd w B (.slice A nc c) cur) : RefGs w' B v' (gs ++ [cur]) := by
  subst hn0 hnc
  have hl := hx.1
  have hT := Fr.of_grown hg
  refine ⟨_, by rw [List.length_append, List.length_singleton, ← hn]; exact ho, fun k g hq => ?_⟩
  by_cases hkl : k < gs.length
  · rw [List.getElem?_append_left hkl] at hq
    obtain ⟨A', c', q1, q2, q3, q4⟩ := hxs k g hq
    exact ⟨A', c', by rw [List.getElem?_append_left (by omega)]; exact q1, q2, q3, q4.byT hx hT (by decide) hB⟩
  · rw [List.getElem?_append_right (by omega)] at hq
    have hk0 : k - gs.length = 0 := by
      have := (List.getElem?_eq_some_iff.1 hq).1
      simp at this
      omega
    rw [hk0] at hq
    simp only [List.getElem?_cons_zero, Option.some.injEq] at hq
    subst hq
    exact ⟨A, c, by rw [List.getElem?_append_right (by omega), show k - xs.length = 0 by omega]; rfl, hc, hcm, hk.byT hx hT (by decide) hB⟩
/-- The last group, read. -/
theorem RefGs.last {A : Option Addr} {n c0 : Nat} {cur : List Ck} (h : RefGs w B (.slice A n c0) (gs ++ [cur])) : ∃ g A' c', A = some ⟨g, 0, none⟩ ∧ B ≤ g ∧ w.cell? ⟨g, gs.length, none⟩ = some (.slice A' cur.length c') ∧ cur.length ≤ c' ∧ c' ≤ 9223372036854775807 ∧ OwnRd w B (.slice A' cur.length c') cur ∧ ∀ j, w.frozen? ⟨g, j, none⟩ = false := by
  obtain ⟨xs, h1, h2⟩ := h
  obtain ⟨A', c', q1, q2, q3, q4⟩ := h2 gs.length cur (by simp)
  obtain ⟨g, cap', hv, hg, _⟩ := h1.form (by simp)
  injection hv with hv hn hc
  subst hv hn hc
  exact ⟨g, A', c', rfl, hg, (h1.cellAt _ (by simp)).trans q1, q2, q3, q4, fun j => h1.frozenAt j⟩
/-- The last group, another one stored in its place. -/
theorem RefGs.put {g n c0 nc m : Nat} {cur cur' : List Ck} {A : Option Addr} {c : Nat} (hB : B ≤ w.heap.size) (h : RefGs w B (.slice (some ⟨g, 0, none⟩) n c0) (gs ++ [cur])) (hm : m = gs.length) (hnc : nc = cur'.length) (hc : nc ≤ c) (hcm : c ≤ 9223372036854775807) (hk : OwnRd w B (.slice A nc c) cur') :
    RefGs (w.setCell ⟨g, m, none⟩ (.slice A nc c)) B (.slice (some ⟨g, 0, none⟩) n c0) (gs ++ [cur']) := by
  subst hm hnc
  obtain ⟨xs, h1, h2⟩ := h
  have hl := h1.1
  rw [List.length_append, List.length_singleton] at hl h1
  have hT : Fr (fun i => some i = (Value.slice (some ⟨g, 0, none⟩) n c0).ownBlock) w (w.setCell ⟨g, gs.length, none⟩ (.slice A cur'.length c)) := Fr.setCell (S := fun i => some i = (Value.slice (some ⟨g, 0, none⟩) n c0).ownBlock) (Fr.refl _ w) (p := ⟨g, gs.length, none⟩) (.inl rfl) _
  refine ⟨xs.set gs.length (.slice A cur'.length c), ?_, fun k g' hq => ?_⟩
  · rw [List.length_append, List.length_singleton]
    obtain ⟨g1, cap1, hv, _⟩ := h1.form (by omega)
    injection hv with hv hn hc
    subst hn hc
    exact (h1.stored _ _).1
  · by_cases hkl : k < gs.length
    · rw [List.getElem?_append_left hkl] at hq
      obtain ⟨A', c', q1, q2, q3, q4⟩ := h2 k g' (by rw [List.getElem?_append_left hkl]; exact hq)
      exact ⟨A', c', by rw [List.getElem?_set_ne (by omega)]; exact q1, q2, q3, q4.byT h1 hT (by decide) hB⟩
    · rw [List.getElem?_append_right (by omega)] at hq
      have hk0 : k - gs.length = 0 := by
        have := (List.getElem?_eq_some_iff.1 hq).1
        simp at this
        omega
      rw [hk0] at hq
      simp only [List.getElem?_cons_zero, Option.some.injEq] at hq
      subst hq
      exact ⟨A, c, by rw [show k = gs.length by omega, List.getElem?_set_self (by omega)], hc, hcm, hk.byT h1 hT (by decide) hB⟩
end
end Go.Proofs.Ytpgklhecmafnbaa.Chk

namespace Go.Proofs.Ytpgklhecmafnbaa.Chk
open Go.Proofs.Ytpgklhecmafnbaa
open Go.ChangeShapes Go.WideShapes Go.ChangeAt Go.RowKit Go.Deep Go.Proofs.Ytpgklhecmafnbaa.Words Go.Proofs.Ytpgklhecmafnbaa.Oct Go.Proofs.Ytpgklhecmafnbaa.Par
open Go.Proofs.Ytpgklhecmafnbaa.Crc (sealL)

/-- What the document's Bundle leaves. -/
def RBundleDone (w : World) (ls : List Ck) (e : Ending) (w' : World) : Prop :=
  ((∃ v, e = .returned (.tuple #[v, .int .i64 0]) ∧ RefGs w' w.heap.size v (bundleB ls) ∧ AllFit ls) ∨ (∃ k : Nat, e = .returned (.tuple #[.slice none 0 0, .int .i64 (k : Int)]) ∧ BadB ls k)) ∧ Below w.heap.size w w'
/-- What out holds behind k chunks. -/
def OutB (k m no : Nat) (gs : List (List Ck)) (cur : List Ck) (og : List (List Ck)) : Prop := (k = 0 ∧ no = 0 ∧ og = []) ∨ (0 < k ∧ no = m + 1 ∧ og = gs ++ [cur] ∧ cur ≠ [])
theorem pk_built_r (v : Value) (hv : ∃ A n c, v = .slice A n c) : Try.prog.built 44 [(3, v)] = some (pkV 0 0 0 v) := by
  obtain ⟨A, n, c, rfl⟩ := hv
  kernel_rfl

set_option maxHeartbeats 16000000 in
set_option maxRecDepth 100000 in
theorem rbundle_k {w : World} {n c : Nat} {A : Option Addr} {ls : List Ck} (h : Cks w w.heap.size A ls) (hn : n = ls.length) (hs : sumC ls ≤ 300000) :
    Calls Try.prog 24 #[.slice A n c] w (RBundleDone w ls) := by
  obtain ⟨i1, hi1, hz11, hz12, hz13⟩ := info_parts3 cks_info
  obtain ⟨i2, hi2, hz21, hz22, hz23⟩ := info_parts3 chunk_info3
  have HC := Lib.hid h
  have HN := Lib.hid hn
  have HSC := Lib.hid hs
  have hn9 : n ≤ 75000 := by have := sumC_len ls; omega
  clear h hn hs
  go_enter Try.func24, Try.ntmps24
  go_wp2_with fail
  go_loopw [2, 3, 4, 6, 7, 8, 9, 10, 11, 12, 15] (fun _ _ s4 _ _ _ _ _ _ _ i wr => ∃ (k st sz m no c4 : Nat) (A4 : Option Addr) (gs : List (List Ck)) (cur : List Ck) (og : List (List Ck)), k ≤ n ∧ i = .int .i64 (k : Int) ∧ s4 = .slice A4 no c4 ∧ st ≤ k ∧ Hid (BdSt ls k st sz m gs cur) ∧ Hid (OutB k m no gs cur og) ∧ Hid (RefGs wr w.heap.size (.slice A4 no c4) og) ∧ Hid (Below w.heap.size w wr)) (fun _ _ _ _ _ _ _ _ _ _ i _ => n - (intOf i).toNat)
  case atStart => exact ⟨0, 0, 0, 0, 0, 0, none, [], [], [], by omega, rfl, rfl, Nat.le_refl _, BdSt.zero ls, .inl ⟨rfl, rfl, rfl⟩, RefGs.nil _ _, Below.refl _ _⟩
  case round =>
    obtain ⟨k, st, sz, m, no, c4, A4, gs, cur, og, hk, rfl, rfl, hst, HST, HOB, HOG, HBW⟩ := hrel
    by_cases hlt : k < n
    · have hk2 : k < ls.length := by rw [← HN.out]; exact hlt
      obtain ⟨ad, cs, rfl, hblk, hsize, hat, hcell⟩ := HC.out.nthw (Nat.le_refl _) HBW.out hk2
      obtain ⟨ck, hck⟩ : ∃ ck, ck = ls[k] := ⟨_, rfl⟩
      rw [← hck] at hat
      have HSZ := Lib.hid hsize
      have HCELL := Lib.hid hcell
      have HONE := Lib.hid hat.one
      have HAT := Lib.hid hat
      have HCK := Lib.hid hck
      have HSM : Hid (Small ck) := small_size (by have h1 := sumC_mem (c := ck) (ls := ls) (by rw [hck]; exact List.getElem_mem _); have h2 := HSC.out; omega)
      clear hsize hat hcell hblk hck
      go_upto_region 5 with (first
        | (refine wpList_load_any rfl 32 _ rfl (ad.add (k * 19)) rfl cs _ HCELL.out Try.underlying32 rfl (by rw [HSZ.out]; exact chunk_info) ?_)
        | (refine wpList_store_row rfl 32 _ _ rfl wr.heap.size cs rfl rfl 32 _ (Blk.new wr 32 _) (by rw [HSZ.out]; exact chunk_info) (by rw [HSZ.out]; rfl) HONE.out ?_))
      obtain ⟨W2, hW2, HC2, HB2⟩ := kept_var wr cs
      obtain ⟨g0, hg0⟩ : ∃ g0, g0 = wr.heap.size := ⟨_, rfl⟩
      rw [← hg0] at HC2
      rw [← hW2, ← hg0]
      have HBX := Lib.hid (HBW.out.trans (HB2.mono HBW.out.size))
      have HOX := Lib.hid (HOG.out.grows HB2 HBW.out.size)
      have HG2 := Lib.hid HC2
      have HAT2 : Hid (CkAt W2 W2.heap.size cs ck) := (HAT.out.keep (fun q hq => HB2.cell (Nat.lt_of_lt_of_le hq HBW.out.size))).more HBX.out.size
      have HATB : Hid (CkAt W2 w.heap.size cs ck) := HAT.out.keep (fun q hq => HB2.cell (Nat.lt_of_lt_of_le hq HBW.out.size))
      clear hW2 hg0 HC2 HB2 HCELL HONE HAT HBW HOG
      go_wp2_with (refine wpList_load_row rfl 32 _ rfl g0 rfl 32 cs (0, 0) _ HG2.out Try.underlying32 rfl (by rw [HSZ.out]; exact chunk_info) ?_)
      refine (rput_k HSM.out HAT2.out).mono ?_
      rintro e W3 ⟨hd2, hb3⟩
      have HBY := Lib.hid (HBX.out.trans (hb3.mono HBX.out.size))
      have HOY := Lib.hid (HOX.out.grows hb3 HBX.out.size)
      have HATC : Hid (CkAt W3 w.heap.size cs ck) := HATB.out.below (hb3.mono HBX.out.size)
      have HG3 : Hid (CkBlk W3 g0 cs) := HG2.out.below hb3 HG2.out.lt
      clear hb3 HBX HOX HAT2 HG2 HATB
      rcases hd2 with ⟨v3, hp3, rfl, ho3⟩ | ⟨k3, hk3, rfl⟩
      rotate_left
      · have hkp := err_pos' hk3
        have HBAD : Hid (BadB ls k3) := badB_at hk2 HST.out.fit (.inl (by rw [← HCK.out]; exact hk3))
        have hne : ((k3 : Int) != 0) = true := by simp; omega
        clear hk3
        go_wp2_with fail
        go_ret2
        exact ⟨.inr ⟨k3, rfl, HBAD.out⟩, HBY.out⟩
      obtain ⟨y, hy⟩ : ∃ y, y = bytesC ck := ⟨_, rfl⟩
      rw [← hy] at ho3
      obtain ⟨ny, hny⟩ : ∃ ny, ny = y.length := ⟨_, rfl⟩
      obtain ⟨A3, c3, rfl, h3a, h3b, HY3⟩ := own_as ho3 hny
      have HP3 := Lib.hid hp3
      have HNY : Hid (ny = (bytesC ck).length) := by rw [hny, hy]; rfl
      clear hy hny ho3 hp3 HY3
      by_cases hbig : (1188 : Int) < (ny : Int)
      · have HBAD : Hid (BadB ls 43) := badB_at hk2 HST.out.fit (.inr (by rw [← HCK.out]; exact ⟨HP3.out, by have := HNY.out; omega, rfl⟩))
        go_wp2_with fail
        go_ret2
        exact ⟨.inr ⟨43, rfl, HBAD.out⟩, HBY.out⟩
      have hny9 : ny ≤ 1188 := by omega
      have HFC : Hid (FitC ls[k]) := by rw [← HCK.out]; exact ⟨HP3.out, by have := HNY.out; omega⟩
      go_upto_region 10 with fail
      clear hbig
      have HAR := Lib.hid HATC.out.arr
      have hBs3 : w.heap.size ≤ W3.heap.size := HBY.out.size
      have HAF : Hid (AllFit (ls.take (k + 1))) := allFit_snoc hk2 HST.out.fit HFC.out
      rcases HOB.out with ⟨hk0, rfl, rfl⟩ | ⟨hk0, rfl, rfl, hcn⟩
      · subst hk0
        have hgs : gs = [] := List.eq_nil_of_length_eq_zero (by rw [← HST.out.em]; have := HST.out.mle; omega)
        have hcu : cur = [] := List.eq_nil_of_length_eq_zero (by rw [HST.out.len (by omega)]; omega)
        have hst0 : st = 0 := by omega
        have HNF : Hid (¬ fullB cur ls[0]) := by
          rw [hcu]
          rintro (h2 | h2)
          · have := HFC.out.2
            simp only [List.nil_append, bodyB_cons, bodyB_nil, List.append_nil] at h2
            omega
          · rw [List.nil_append, fits_one] at h2
            cases h2
        have HNX := Lib.hid (HST.out.more hk2 hst HFC.out HNF.out)
        have HOX : Hid (OutB (0 + 1) m (0 + 1) gs (cur ++ [ls[0]]) ([] ++ [[ck]])) := .inr ⟨by omega, by rw [HST.out.em, hgs]; rfl, by rw [hgs, hcu, HCK.out]; rfl, by simp⟩
        clear hgs hcu HNF
        have hHG := HG3.out
        clear hHG
        have HR1 : Hid (OwnRd (W3.alloc (.cells cs 32)) w.heap.size (.slice (some ⟨W3.heap.size, 0, none⟩) 1 1) [ck]) := OwnRd.one HATC.out HBY.out.size
        have hq1 := (Below.refl W3.heap.size W3).alloc (Nat.le_refl _) (.cells cs 32)
        have hq2 := (Below.refl (W3.alloc (.cells cs 32)).heap.size (W3.alloc (.cells cs 32))).alloc (Nat.le_refl _) (.cells #[.slice (some ⟨W3.heap.size, 0, none⟩) 1 1] 42)
        have hq3 : w.heap.size ≤ (W3.alloc (.cells cs 32)).heap.size := Nat.le_trans HBY.out.size hq1.size
        have hq4 : w.heap.size ≤ ((W3.alloc (.cells cs 32)).alloc (.cells #[.slice (some ⟨W3.heap.size, 0, none⟩) 1 1] 42)).heap.size := Nat.le_trans hq3 hq2.size
        have HR2 := Lib.hid (HR1.out.grows hq2 hq3)
        have HBQ := Lib.hid ((HBY.out.trans (hq1.mono HBY.out.size)).trans (hq2.mono hq3))
        have HBK : Hid (Blk ((W3.alloc (.cells cs 32)).alloc (.cells #[.slice (some ⟨W3.heap.size, 0, none⟩) 1 1] 42)) (W3.heap.size + 1) 42 #[.slice (some ⟨W3.heap.size, 0, none⟩) 1 1]) := by
          have := Blk.new (W3.alloc (.cells cs 32)) 42 #[.slice (some ⟨W3.heap.size, 0, none⟩) 1 1]
          rw [show (W3.alloc (.cells cs 32)).heap.size = W3.heap.size + 1 by simp] at this
          exact this
        obtain ⟨xs, hx, hxs⟩ := (HOY.out.grows hq1 HBY.out.size).grows hq2 hq3
        have HLO : Hid (0 = (([] : List (List Ck))).length) := rfl
        rw [← HLO.out] at hx
        have HX := Lib.hid hx
        have HXS := Lib.hid hxs
        clear hx hxs hq1 hq2 HR1
        go_wp2_with (first
          | refine wpList_load_row rfl 32 _ rfl g0 rfl 32 cs (0, 0) _ HG3.out Try.underlying32 rfl (by rw [HSZ.out]; exact chunk_info) ?_
          | refine wpList_slice_ck rfl _ rfl cs rfl HAR.out ?_
          | (at_builtin; refine wpList_append_any _ rfl (.tmp 58) (.tmp 61) _ rfl w.heap.size 42 i1 _ 1 24 Try.underlying57 hi1 hz11 hz12 hz13 rfl (by omega) (.slice A4 0 c4) 0 xs rfl HX.out (W3.heap.size + 1 + 1) (some ⟨W3.heap.size + 1, 0, none⟩) 1 1 [.slice (some ⟨W3.heap.size, 0, none⟩) 1 1] rfl (blk_reads HBK.out rfl) (by simp [Value.oneCell']) (by simp only [maxLen]; omega) (by omega) hq4 ?_; intro v7 w7 hown7 hg7 hat7; have HG7 : Hid (RefGs w7 w.heap.size v7 (([] : List (List Ck)) ++ [[ck]])) := RefGs.snoc hq4 HLO.out (show 1 = [ck].length from rfl) HX.out HXS.out hg7 hown7 rfl (Nat.le_refl 1) (by decide) HR2.out; have HB7 : Hid (Below w.heap.size w w7) := HBQ.out.grown hg7 hq4 (fun b e => (HX.out.lt b e).1); obtain ⟨A7, c7, rfl, _, _⟩ := own_slice hown7; clear hown7 hg7 hat7 HX HXS HR2 HBQ))
        go_roundw
        case rel => exact ⟨0 + 1, st, _, m, 0 + 1, c7, A7, gs, _, _, by omega, by go_num, rfl, by omega, HNX, HOX, HG7, HB7⟩
        case measure => simp [intOf]; omega
      · obtain ⟨go, A', c', rfl, hgo, hcell, hcl, hcm', hrd, hfz⟩ := HOY.out.last
        rw [← HST.out.em] at hcell
        obtain ⟨nc, hnc⟩ : ∃ x, x = cur.length := ⟨_, rfl⟩
        rw [← hnc] at hcell hcl hrd
        have HNC := Lib.hid hnc
        obtain ⟨xs, hx, hx1, hxk⟩ := hrd
        have hmk : m ≤ 75000 := by have := HST.out.mle; omega
        have hnc9 : nc ≤ 75000 := by rw [hnc, HST.out.len (by omega)]; omega
        rw [← hnc] at hx
        have HX := Lib.hid hx
        have HX1 := Lib.hid hx1
        have HXK := Lib.hid hxk
        clear hx hx1 hxk hnc hfz
        go_upto_region 14 with (at_builtin; refine wpList_append_any _ rfl (.tmp 34) (.tmp 39) _ rfl W3.heap.size 32 i2 _ 19 160 Try.underlying42 hi2 hz21 hz22 hz23 rfl (by omega) (.slice none 0 0) 0 [] rfl (World.ownsRow_nil _ _ _ _) W3.heap.size A' nc c' xs rfl (Reads.of_own HX.out) HX1.out (by simp only [maxLen]; omega) (by omega) (Nat.le_refl _) ?_; intro v5 W5 hown5 hg5 hat5; have HB35 : Hid (Below W3.heap.size W3 W5) := (Below.refl W3.heap.size W3).grown hg5 (Nat.le_refl _) (fun b e => by simp [Value.ownBlock] at e); simp only [Nat.zero_add, List.nil_append] at hown5; obtain ⟨A5, c5, rfl, _, _⟩ := own_slice hown5; have HO5 := Lib.hid hown5; clear hown5 hg5 hat5)
        have HG5 : Hid (CkBlk W5 g0 cs) := HG3.out.below HB35.out HG3.out.lt
        have HO5' : Hid ((W5.alloc (.cells cs 32)).ownsRow W3.heap.size 32 19 (.slice A5 nc c5) nc xs) := HO5.out.alloc _
        have hs35 : W3.heap.size ≤ W5.heap.size := HB35.out.size
        go_upto_region 15 with (first
          | refine wpList_load_row rfl 32 _ rfl g0 rfl 32 cs (0, 0) _ HG5.out Try.underlying32 rfl (by rw [HSZ.out]; exact chunk_info) ?_
          | refine wpList_slice_ck rfl _ rfl cs rfl HAR.out ?_
          | (at_builtin; refine wpList_append_any _ rfl (.tmp 41) (.tmp 43) _ rfl W3.heap.size 32 i2 _ 19 160 Try.underlying42 hi2 hz21 hz22 hz23 rfl (by omega) (.slice A5 nc c5) nc xs rfl HO5'.out (W5.heap.size + 1) (some ⟨W5.heap.size, 0, none⟩) 1 1 cs.toList rfl (blk_reads (Blk.new W5 32 cs) (by rw [Array.length_toList, HSZ.out])) (ck_cells1 HAR.out HATC.out.one) (by simp only [maxLen]; omega) (by omega) (Nat.le_trans hs35 (by simp)) ?_; intro v6 W6 hown6 hg6 hat6; have HB36 : Hid (Below W3.heap.size W3 W6) := (HB35.out.alloc hs35 _).grown hg6 (Nat.le_trans hs35 (by simp)) (fun b e => (HO5'.out.lt b e).1); obtain ⟨A6, c6, rfl, h6a, h6b⟩ := own_slice hown6; have HO6 := Lib.hid hown6; clear hown6 hg6 hat6))
        have HR6 : Hid (OwnRd W6 w.heap.size (.slice A6 (nc + 1) c6) (cur ++ [ck])) := by
          refine OwnRd.to_ (w := W3) (by rw [List.length_append, List.length_singleton, ← HNC.out]; exact own_mono HO6.out hBs3) (fun u hu => ?_) (rows_snoc (by rw [← HNC.out]; exact HX.out.1) HXK.out HATC.out) (HB36.out.mono hBs3)
          rcases List.mem_append.1 hu with hu | hu
          · exact HX1.out u hu
          · exact ck_cells1 HAR.out HATC.out.one u hu
        have HB6 := Lib.hid (HBY.out.trans (HB36.out.mono hBs3))
        have HSND : Hid ((ls.take (k + 1)).drop st = cur ++ [ck]) := by rw [HCK.out]; exact HST.out.snd hk2 hst
        have HCK6 := Lib.hid (HR6.out.cks HB6.out.size)
        clear HO5 HO5' HG5 HO6 HX HX1 HXK HB35
        go_wp2_with (refine wpList_build_as rfl 44 _ rfl (pkV 0 0 0 (.slice A6 (nc + 1) c6)) (pk_built_r _ ⟨_, _, _, rfl⟩) ?_)
        refine (rput_p (f := 0) (t := 0) (g := 0) (n := nc + 1) (c := c6) HCK6.out (by rw [List.length_append, List.length_singleton, ← HNC.out]) (by rw [← HSND.out]; exact Nat.le_trans (sumC_drop _ _) (Nat.le_trans (sumC_take _ _) HSC.out)) (by decide) (by decide) (by decide)).mono ?_
        rintro e W7 ⟨⟨kk, v7', l7, rfl, hkk9, ho7, hp7⟩, hb7⟩
        obtain ⟨A7', c7', rfl, _, _⟩ := own_as ho7 rfl
        have hap : AllPuts (cur ++ [ck]) := fun x hx => (HAF.out x (by rw [← HSND.out] at hx; exact List.mem_of_mem_drop hx)).1
        have HKK : Hid (kk = 0 ↔ ¬ fullB cur ck) := put_more hap hp7
        have HB37 : Hid (Below W3.heap.size W3 W7) := HB36.out.trans (hb7.mono HB36.out.size)
        have HB7 := Lib.hid (HB6.out.trans (hb7.mono HB6.out.size))
        have HR7 := Lib.hid (HR6.out.grows hb7 HB6.out.size)
        have HOZ := Lib.hid (HOY.out.grows HB37.out hBs3)
        have HG7' : Hid (CkBlk W7 g0 cs) := HG3.out.below HB37.out HG3.out.lt
        have HATD : Hid (CkAt W7 w.heap.size cs ck) := HATC.out.below (HB37.out.mono hBs3)
        clear hb7 ho7 hp7 hap HCK6 HR6 HB6 HB36 HB37 HOY HG3 HATC HBY hcell
        by_cases hkk : kk = 0
        · subst hkk
          have HNX := Lib.hid (HST.out.more hk2 hst HFC.out (by rw [← HCK.out]; exact HKK.out.1 rfl))
          rw [← HCK.out] at HNX
          have HOX : Hid (OutB (k + 1) m (m + 1) gs (cur ++ [ck]) (gs ++ [cur ++ [ck]])) := .inr ⟨by omega, rfl, rfl, by simp⟩
          obtain ⟨gq, _, _, hq, _, hcell, _, _, _, hfz⟩ := HOZ.out.last
          injection hq with hq
          injection hq with hq
          subst hq
          rw [← HST.out.em] at hcell
          have hfm := hfz m
          have HPU := Lib.hid (RefGs.put HB7.out.size HOZ.out HST.out.em (show nc + 1 = (cur ++ [ck]).length by rw [List.length_append, List.length_singleton, ← HNC.out]) h6a h6b HR7.out)
          have HBE : Hid (Below w.heap.size w (W7.setCell ⟨go, m, none⟩ (.slice A6 (nc + 1) c6))) := HB7.out.setCell (p := ⟨go, m, none⟩) hgo _
          clear hfz HOZ HR7
          go_wp2_with fail
          go_roundw
          case rel => exact ⟨k + 1, st, _, m, m + 1, c4, _, gs, _, _, by omega, by go_num, rfl, by omega, HNX, HOX, HPU, HBE⟩
          case measure => simp [intOf]; omega
        · have HNX := Lib.hid (HST.out.next hk2 HFC.out (by have := HKK.out; rw [← HCK.out]; exact Classical.byContradiction (fun h => hkk (this.2 h))))
          rw [← HCK.out] at HNX
          have HOX : Hid (OutB (k + 1) (m + 1) (m + 1 + 1) (gs ++ [cur]) [ck] ((gs ++ [cur]) ++ [[ck]])) := .inr ⟨by omega, rfl, rfl, by simp⟩
          have hkn : ((kk : Int) == 0) = false := by simp; omega
          clear hkk
          have HR1 : Hid (OwnRd (W7.alloc (.cells cs 32)) w.heap.size (.slice (some ⟨W7.heap.size, 0, none⟩) 1 1) [ck]) := OwnRd.one HATD.out HB7.out.size
          have hq1 := (Below.refl W7.heap.size W7).alloc (Nat.le_refl _) (.cells cs 32)
          have hq2 := (Below.refl (W7.alloc (.cells cs 32)).heap.size (W7.alloc (.cells cs 32))).alloc (Nat.le_refl _) (.cells #[.slice (some ⟨W7.heap.size, 0, none⟩) 1 1] 42)
          have hq3 : w.heap.size ≤ (W7.alloc (.cells cs 32)).heap.size := Nat.le_trans HB7.out.size hq1.size
          have hq4 : w.heap.size ≤ ((W7.alloc (.cells cs 32)).alloc (.cells #[.slice (some ⟨W7.heap.size, 0, none⟩) 1 1] 42)).heap.size := Nat.le_trans hq3 hq2.size
          have HR2 := Lib.hid (HR1.out.grows hq2 hq3)
          have HBQ := Lib.hid ((HB7.out.trans (hq1.mono HB7.out.size)).trans (hq2.mono hq3))
          have HBK : Hid (Blk ((W7.alloc (.cells cs 32)).alloc (.cells #[.slice (some ⟨W7.heap.size, 0, none⟩) 1 1] 42)) (W7.heap.size + 1) 42 #[.slice (some ⟨W7.heap.size, 0, none⟩) 1 1]) := by
            have := Blk.new (W7.alloc (.cells cs 32)) 42 #[.slice (some ⟨W7.heap.size, 0, none⟩) 1 1]
            rw [show (W7.alloc (.cells cs 32)).heap.size = W7.heap.size + 1 by simp] at this
            exact this
          obtain ⟨xs, hx, hxs⟩ := (HOZ.out.grows hq1 HB7.out.size).grows hq2 hq3
          have HLO : Hid ((m + 1) = ((gs ++ [cur])).length) := by rw [List.length_append, List.length_singleton, ← HST.out.em]; rfl
          rw [← HLO.out] at hx
          have HX := Lib.hid hx
          have HXS := Lib.hid hxs
          clear hx hxs hq1 hq2 HR1
          go_wp2_with (first
            | refine wpList_load_row rfl 32 _ rfl g0 rfl 32 cs (0, 0) _ HG7'.out Try.underlying32 rfl (by rw [HSZ.out]; exact chunk_info) ?_
            | refine wpList_slice_ck rfl _ rfl cs rfl HAR.out ?_
            | (at_builtin; refine wpList_append_any _ rfl (.tmp 58) (.tmp 61) _ rfl w.heap.size 42 i1 _ 1 24 Try.underlying57 hi1 hz11 hz12 hz13 rfl (by omega) (.slice (some ⟨go, 0, none⟩) (m + 1) c4) (m + 1) xs rfl HX.out (W7.heap.size + 1 + 1) (some ⟨W7.heap.size + 1, 0, none⟩) 1 1 [.slice (some ⟨W7.heap.size, 0, none⟩) 1 1] rfl (blk_reads HBK.out rfl) (by simp [Value.oneCell']) (by simp only [maxLen]; omega) (by omega) hq4 ?_; intro v7 w7 hown7 hg7 hat7; have HG7 : Hid (RefGs w7 w.heap.size v7 ((gs ++ [cur]) ++ [[ck]])) := RefGs.snoc hq4 HLO.out (show 1 = [ck].length from rfl) HX.out HXS.out hg7 hown7 rfl (Nat.le_refl 1) (by decide) HR2.out; have HB7x : Hid (Below w.heap.size w w7) := HBQ.out.grown hg7 hq4 (fun b e => (HX.out.lt b e).1); obtain ⟨A7, c7, rfl, _, _⟩ := own_slice hown7; clear hown7 hg7 hat7 HX HXS HR2 HBQ))
          go_roundw
          case rel => exact ⟨k + 1, k, _, m + 1, m + 1 + 1, c7, A7, gs ++ [cur], _, _, by omega, by go_num, rfl, by omega, HNX, HOX, HG7, HB7x⟩
          case measure => simp [intOf]; omega
    · obtain rfl : k = n := by omega
      have HTL : Hid (ls.take k = ls) := List.take_of_length_le (by rw [HN.out]; exact Nat.le_refl _)
      have HBB : Hid (bundleB ls = og) := by
        have h1 := HST.out.eq
        rw [HTL.out] at h1
        unfold bundleB
        rw [h1]
        have hcl := HST.out.len (by rw [← HN.out]; exact Nat.le_refl _)
        rcases HOB.out with ⟨rfl, _, rfl⟩ | ⟨h2, _, rfl, hcn⟩
        · have hcn : cur = [] := List.eq_nil_of_length_eq_zero (by omega)
          have hgs : gs = [] := List.eq_nil_of_length_eq_zero (by rw [← HST.out.em]; have := HST.out.mle; omega)
          show (if cur = [] then gs else gs ++ [cur]) = []
          rw [if_pos hcn, hgs]
        · show (if cur = [] then gs else gs ++ [cur]) = gs ++ [cur]
          rw [if_neg hcn]
      go_wp2_with fail
      go_ret2
      exact ⟨.inl ⟨_, rfl, by rw [HBB.out]; exact HOG.out, by have := HST.out.fit; rw [HTL.out] at this; exact this⟩, HBW.out⟩
end Go.Proofs.Ytpgklhecmafnbaa.Chk
