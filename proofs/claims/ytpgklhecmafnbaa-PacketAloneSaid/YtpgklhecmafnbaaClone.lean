import Derived.Test.YtpgklhecmafnbaaPkA
set_option linter.unusedVariables false
set_option maxHeartbeats 8000000
set_option maxRecDepth 100000
namespace Go.Proofs.Ytpgklhecmafnbaa.Chk
open Go.Proofs.Ytpgklhecmafnbaa
open Go.ChangeShapes Go.WideShapes Go.ChangeAt Go.RowKit Go.Deep Go.Proofs.Ytpgklhecmafnbaa.Words Go.Proofs.Ytpgklhecmafnbaa.Oct Go.Proofs.Ytpgklhecmafnbaa.Par

theorem empty_row (w : World) (e : TypeId) (size : Nat) : (w.alloc (.cells #[] e)).ownsRow w.heap.size e size (.slice (some ⟨w.heap.size, 0, none⟩) 0 0) 0 [] := by
  have := World.ownsRow_made (base := w.heap.size) (e := e) (size := size) w #[] 0 (Nat.le_refl _) (by unfold maxLen; omega) (by simp)
  simpa using this

theorem clone_k (A : Option Addr) (xs : List Value) (n c : Nat) (w : World) (hl : n ≤ 1000000) (h : Reads w w.heap.size 19 A n xs) (h1 : ∀ u ∈ xs, u.oneCell' = true) :
    Calls Try.prog 88 #[.slice A n c] w fun e w' => (∃ v, e = .returned v ∧ w'.ownsRow w.heap.size 32 19 v n xs) ∧ Below w.heap.size w w' := by
  obtain ⟨i0, hi0, hz0, hz1, hz2⟩ := info_parts3 chunk_info3
  have hnil := fun (W : World) (a : Option Addr) (n c : Nat) => Lib.run_eql_slice_nil (P := Try.prog) W 42 32 a n c 0 0 Try.underlying42
  rcases A with _ | ad
  · have h0 : n = 0 := by
      rcases Nat.eq_zero_or_pos n with h0 | h0
      · exact h0
      · obtain ⟨ad, e, _⟩ := h.2 h0; cases e
    have h2 : xs = [] := List.eq_nil_of_length_eq_zero (by rw [h.1, h0])
    subst h0 h2
    go_enter Try.func88, Try.ntmps88
    go_wp2
    go_ret
    exact ⟨⟨_, rfl, World.ownsRow_nil _ _ _ _⟩, Below.refl _ _⟩
  · have HB := Lib.hid h
    have HO := Lib.hid h1
    clear h h1
    go_enter Try.func88, Try.ntmps88
    go_wp2_with (at_builtin; refine wpList_append_any _ rfl (.tmp 5) (.tmp 6) _ rfl w.heap.size 32 i0 _ 19 160 Try.underlying42 hi0 hz0 hz1 hz2 rfl (by omega) (.slice (some ⟨w.heap.size, 0, none⟩) 0 0) 0 [] rfl (empty_row w _ _) w.heap.size (some ad) n c xs rfl (HB.out.alloc (Nat.le_refl _) _) HO.out (by simp only [maxLen]; omega) (by omega) (by simp) ?_; intro v1 w1 hown1 hg1 hat1)
    go_ret
    refine ⟨⟨v1, rfl, ?_⟩, ?_⟩
    · simp only [Nat.zero_add, List.nil_append] at hown1
      exact hown1
    · exact ((Below.refl _ _).alloc (Nat.le_refl _) _).grown hg1 (by simp) (fun b e => by simp [Value.ownBlock] at e; omega)

theorem clone_gap (A : Option Addr) (xs : List Value) (n c : Nat) (w : World) (hl : n ≤ 1000000) (h : Reads w w.heap.size 2 A n xs) (h1 : ∀ u ∈ xs, u.oneCell' = true) :
    Calls Try.prog 89 #[.slice A n c] w fun e w' => (∃ v, e = .returned v ∧ w'.ownsRow w.heap.size 85 2 v n xs) ∧ Below w.heap.size w w' := by
  obtain ⟨i0, hi0, hz0, hz1, hz2⟩ := info_parts3 gap_info
  have hnil := fun (W : World) (a : Option Addr) (n c : Nat) => Lib.run_eql_slice_nil (P := Try.prog) W 27 85 a n c 0 0 Try.underlying27
  rcases A with _ | ad
  · have h0 : n = 0 := by
      rcases Nat.eq_zero_or_pos n with h0 | h0
      · exact h0
      · obtain ⟨ad, e, _⟩ := h.2 h0; cases e
    have h2 : xs = [] := List.eq_nil_of_length_eq_zero (by rw [h.1, h0])
    subst h0 h2
    go_enter Try.func89, Try.ntmps89
    go_wp2
    go_ret
    exact ⟨⟨_, rfl, World.ownsRow_nil _ _ _ _⟩, Below.refl _ _⟩
  · have HB := Lib.hid h
    have HO := Lib.hid h1
    clear h h1
    go_enter Try.func89, Try.ntmps89
    go_wp2_with (at_builtin; refine wpList_append_any _ rfl (.tmp 5) (.tmp 6) _ rfl w.heap.size 85 i0 _ 2 4 Try.underlying27 hi0 hz0 hz1 hz2 rfl (by omega) (.slice (some ⟨w.heap.size, 0, none⟩) 0 0) 0 [] rfl (empty_row w _ _) w.heap.size (some ad) n c xs rfl (HB.out.alloc (Nat.le_refl _) _) HO.out (by simp only [maxLen]; omega) (by omega) (by simp) ?_; intro v1 w1 hown1 hg1 hat1)
    go_ret
    refine ⟨⟨v1, rfl, ?_⟩, ?_⟩
    · simp only [Nat.zero_add, List.nil_append] at hown1
      exact hown1
    · exact ((Below.refl _ _).alloc (Nat.le_refl _) _).grown hg1 (by simp) (fun b e => by simp [Value.ownBlock] at e; omega)

theorem clone_dup (A : Option Addr) (xs : List Value) (n c : Nat) (w : World) (hl : n ≤ 1000000) (h : Reads w w.heap.size 1 A n xs) (h1 : ∀ u ∈ xs, u.oneCell' = true) :
    Calls Try.prog 90 #[.slice A n c] w fun e w' => (∃ v, e = .returned v ∧ w'.ownsRow w.heap.size 25 1 v n xs) ∧ Below w.heap.size w w' := by
  obtain ⟨i0, hi0, hz0, hz1, hz2⟩ := info_parts3 u32_info
  have hnil := fun (W : World) (a : Option Addr) (n c : Nat) => Lib.run_eql_slice_nil (P := Try.prog) W 28 25 a n c 0 0 Try.underlying28
  rcases A with _ | ad
  · have h0 : n = 0 := by
      rcases Nat.eq_zero_or_pos n with h0 | h0
      · exact h0
      · obtain ⟨ad, e, _⟩ := h.2 h0; cases e
    have h2 : xs = [] := List.eq_nil_of_length_eq_zero (by rw [h.1, h0])
    subst h0 h2
    go_enter Try.func90, Try.ntmps90
    go_wp2
    go_ret
    exact ⟨⟨_, rfl, World.ownsRow_nil _ _ _ _⟩, Below.refl _ _⟩
  · have HB := Lib.hid h
    have HO := Lib.hid h1
    clear h h1
    go_enter Try.func90, Try.ntmps90
    go_wp2_with (at_builtin; refine wpList_append_any _ rfl (.tmp 5) (.tmp 6) _ rfl w.heap.size 25 i0 _ 1 4 Try.underlying28 hi0 hz0 hz1 hz2 rfl (by omega) (.slice (some ⟨w.heap.size, 0, none⟩) 0 0) 0 [] rfl (empty_row w _ _) w.heap.size (some ad) n c xs rfl (HB.out.alloc (Nat.le_refl _) _) HO.out (by simp only [maxLen]; omega) (by omega) (by simp) ?_; intro v1 w1 hown1 hg1 hat1)
    go_ret
    refine ⟨⟨v1, rfl, ?_⟩, ?_⟩
    · simp only [Nat.zero_add, List.nil_append] at hown1
      exact hown1
    · exact ((Below.refl _ _).alloc (Nat.le_refl _) _).grown hg1 (by simp) (fun b e => by simp [Value.ownBlock] at e; omega)

theorem clone_skp (A : Option Addr) (xs : List Value) (n c : Nat) (w : World) (hl : n ≤ 1000000) (h : Reads w w.heap.size 3 A n xs) (h1 : ∀ u ∈ xs, u.oneCell' = true) :
    Calls Try.prog 91 #[.slice A n c] w fun e w' => (∃ v, e = .returned v ∧ w'.ownsRow w.heap.size 87 3 v n xs) ∧ Below w.heap.size w w' := by
  obtain ⟨i0, hi0, hz0, hz1, hz2⟩ := info_parts3 skip_info
  have hnil := fun (W : World) (a : Option Addr) (n c : Nat) => Lib.run_eql_slice_nil (P := Try.prog) W 29 87 a n c 0 0 Try.underlying29
  rcases A with _ | ad
  · have h0 : n = 0 := by
      rcases Nat.eq_zero_or_pos n with h0 | h0
      · exact h0
      · obtain ⟨ad, e, _⟩ := h.2 h0; cases e
    have h2 : xs = [] := List.eq_nil_of_length_eq_zero (by rw [h.1, h0])
    subst h0 h2
    go_enter Try.func91, Try.ntmps91
    go_wp2
    go_ret
    exact ⟨⟨_, rfl, World.ownsRow_nil _ _ _ _⟩, Below.refl _ _⟩
  · have HB := Lib.hid h
    have HO := Lib.hid h1
    clear h h1
    go_enter Try.func91, Try.ntmps91
    go_wp2_with (at_builtin; refine wpList_append_any _ rfl (.tmp 5) (.tmp 6) _ rfl w.heap.size 87 i0 _ 3 8 Try.underlying29 hi0 hz0 hz1 hz2 rfl (by omega) (.slice (some ⟨w.heap.size, 0, none⟩) 0 0) 0 [] rfl (empty_row w _ _) w.heap.size (some ad) n c xs rfl (HB.out.alloc (Nat.le_refl _) _) HO.out (by simp only [maxLen]; omega) (by omega) (by simp) ?_; intro v1 w1 hown1 hg1 hat1)
    go_ret
    refine ⟨⟨v1, rfl, ?_⟩, ?_⟩
    · simp only [Nat.zero_add, List.nil_append] at hown1
      exact hown1
    · exact ((Below.refl _ _).alloc (Nat.le_refl _) _).grown hg1 (by simp) (fun b e => by simp [Value.ownBlock] at e; omega)

theorem clone_prm (A : Option Addr) (xs : List Value) (n c : Nat) (w : World) (hl : n ≤ 1000000) (h : Reads w w.heap.size 2 A n xs) (h1 : ∀ u ∈ xs, u.oneCell' = true) :
    Calls Try.prog 92 #[.slice A n c] w fun e w' => (∃ v, e = .returned v ∧ w'.ownsRow w.heap.size 131 2 v n xs) ∧ Below w.heap.size w w' := by
  obtain ⟨i0, hi0, hz0, hz1, hz2⟩ := info_parts3 prm_info
  have hnil := fun (W : World) (a : Option Addr) (n c : Nat) => Lib.run_eql_slice_nil (P := Try.prog) W 30 131 a n c 0 0 Try.underlying30
  rcases A with _ | ad
  · have h0 : n = 0 := by
      rcases Nat.eq_zero_or_pos n with h0 | h0
      · exact h0
      · obtain ⟨ad, e, _⟩ := h.2 h0; cases e
    have h2 : xs = [] := List.eq_nil_of_length_eq_zero (by rw [h.1, h0])
    subst h0 h2
    go_enter Try.func92, Try.ntmps92
    go_wp2
    go_ret
    exact ⟨⟨_, rfl, World.ownsRow_nil _ _ _ _⟩, Below.refl _ _⟩
  · have HB := Lib.hid h
    have HO := Lib.hid h1
    clear h h1
    go_enter Try.func92, Try.ntmps92
    go_wp2_with (at_builtin; refine wpList_append_any _ rfl (.tmp 5) (.tmp 6) _ rfl w.heap.size 131 i0 _ 2 32 Try.underlying30 hi0 hz0 hz1 hz2 rfl (by omega) (.slice (some ⟨w.heap.size, 0, none⟩) 0 0) 0 [] rfl (empty_row w _ _) w.heap.size (some ad) n c xs rfl (HB.out.alloc (Nat.le_refl _) _) HO.out (by simp only [maxLen]; omega) (by omega) (by simp) ?_; intro v1 w1 hown1 hg1 hat1)
    go_ret
    refine ⟨⟨v1, rfl, ?_⟩, ?_⟩
    · simp only [Nat.zero_add, List.nil_append] at hown1
      exact hown1
    · exact ((Below.refl _ _).alloc (Nat.le_refl _) _).grown hg1 (by simp) (fun b e => by simp [Value.ownBlock] at e; omega)

/-! ### what came in, as rows -/
theorem getD_map_range (f : Nat → Value) (n j : Nat) (hj : j < n) : ((List.range n).map f)[j]? = some (f j) := by
  rw [List.getElem?_map, List.getElem?_range hj]
  rfl
theorem Cks.row {w : World} {B : Nat} {A : Option Addr} {ls : List Ck} (h : Cks w B A ls) : ∃ xs, Reads w B 19 A ls.length xs ∧ (∀ u ∈ xs, u.oneCell' = true) ∧
    ∀ k c, ls[k]? = some c → ∃ cs : Array Value, (∀ j u, cs[j]? = some u → xs[k * 19 + j]? = some u) ∧ CkAt w B cs c := by
  rcases Nat.eq_zero_or_pos ls.length with h0 | h0
  · have : ls = [] := List.eq_nil_of_length_eq_zero h0
    subst this
    exact ⟨[], ⟨rfl, fun h => absurd h (by simp)⟩, fun u hu => absurd hu (by simp), fun k c hc => by simp at hc⟩
  · obtain ⟨ad, _, rfl, hb, _, _⟩ := h 0 _ (List.getElem?_eq_getElem h0)
    have hc : ∀ i, i < ls.length * 19 → ∃ u, w.cell? (ad.add i) = some u ∧ u.oneCell' = true := by
      intro i hi
      have hk : i / 19 < ls.length := by omega
      obtain ⟨ad', cs, e, _, h3, h4⟩ := h (i / 19) _ (List.getElem?_eq_getElem hk)
      cases e
      have hj : i % 19 < cs.size := by rw [h3.size]; omega
      have h5 := h4 (i % 19) _ (Array.getElem?_eq_getElem hj)
      rw [add_of_add, show i / 19 * 19 + i % 19 = i by omega] at h5
      exact ⟨_, h5, Array.all_eq_true'.1 h3.one _ (Array.getElem_mem hj)⟩
    refine ⟨(List.range (ls.length * 19)).map (fun i => (w.cell? (ad.add i)).getD (.int .i64 0)), ⟨by simp, fun _ => ⟨ad, rfl, hb, fun j u hu => ?_⟩⟩, fun u hu => ?_, fun k c hk => ?_⟩
    · have hj : j < ls.length * 19 := by
        have := (List.getElem?_eq_some_iff.1 hu).1
        simpa using this
      rw [getD_map_range _ _ _ hj] at hu
      obtain ⟨x, hx, _⟩ := hc j hj
      rw [hx] at hu ⊢
      exact hu
    · rw [List.mem_map] at hu
      obtain ⟨i, hi, rfl⟩ := hu
      obtain ⟨x, hx, h1⟩ := hc i (by simpa using hi)
      rw [hx]
      exact h1
    · obtain ⟨ad', cs, e, _, h3, h4⟩ := h k c hk
      cases e
      have hkl := (List.getElem?_eq_some_iff.1 hk).1
      refine ⟨cs, fun j u hu => ?_, h3⟩
      have hj : j < 19 := by have := (Array.getElem?_eq_some_iff.1 hu).1; rw [h3.size] at this; exact this
      rw [getD_map_range _ _ _ (by omega)]
      have := h4 j u hu
      rw [add_of_add] at this
      rw [this]
      rfl
theorem Ps.row {w : World} {B : Nat} {A : Option Addr} {ls : List Prm} (h : Ps w B A ls) : ∃ xs, Reads w B 2 A ls.length xs ∧ (∀ u ∈ xs, u.oneCell' = true) ∧
    ∀ k p, ls[k]? = some p → p.1 < 65536 ∧ ∃ a c, xs[k * 2]? = some (.int .u16 (p.1 : Int)) ∧ xs[k * 2 + 1]? = some (.slice a p.2.length c) ∧ p.2.length ≤ c ∧ c ≤ 9223372036854775807 ∧ Byt w B a p.2 := by
  rcases Nat.eq_zero_or_pos ls.length with h0 | h0
  · have : ls = [] := List.eq_nil_of_length_eq_zero h0
    subst this
    exact ⟨[], ⟨rfl, fun h => absurd h (by simp)⟩, fun u hu => absurd hu (by simp), fun k c hc => by simp at hc⟩
  · obtain ⟨ad, _, _, rfl, hb, _⟩ := h 0 _ (List.getElem?_eq_getElem h0)
    have hc : ∀ k p, ls[k]? = some p → p.1 < 65536 ∧ ∃ a c, w.cell? (ad.add (k * 2)) = some (.int .u16 (p.1 : Int)) ∧ w.cell? (ad.add (k * 2 + 1)) = some (.slice a p.2.length c) ∧ p.2.length ≤ c ∧ c ≤ 9223372036854775807 ∧ Byt w B a p.2 := by
      intro k p hp
      obtain ⟨ad', a, c, e, _, h3, h4, h5, h6, h7, h8⟩ := h k p hp
      cases e
      refine ⟨h3, a, c, h4, ?_, h6, h7, h8⟩
      rw [← add_of_add]
      exact h5
    have hall : ∀ i, i < ls.length * 2 → ∃ u, w.cell? (ad.add i) = some u ∧ u.oneCell' = true := by
      intro i hi
      obtain ⟨_, a, c, h1, h2, _⟩ := hc (i / 2) _ (List.getElem?_eq_getElem (show i / 2 < ls.length by omega))
      rcases Nat.mod_two_eq_zero_or_one i with e | e
      · rw [show i / 2 * 2 = i by omega] at h1
        exact ⟨_, h1, rfl⟩
      · rw [show i / 2 * 2 + 1 = i by omega] at h2
        exact ⟨_, h2, rfl⟩
    refine ⟨(List.range (ls.length * 2)).map (fun i => (w.cell? (ad.add i)).getD (.int .i64 0)), ⟨by simp, fun _ => ⟨ad, rfl, hb, fun j u hu => ?_⟩⟩, fun u hu => ?_, fun k p hk => ?_⟩
    · have hj : j < ls.length * 2 := by
        have := (List.getElem?_eq_some_iff.1 hu).1
        simpa using this
      rw [getD_map_range _ _ _ hj] at hu
      obtain ⟨x, hx, _⟩ := hall j hj
      rw [hx] at hu ⊢
      exact hu
    · rw [List.mem_map] at hu
      obtain ⟨i, hi, rfl⟩ := hu
      obtain ⟨x, hx, h1⟩ := hall i (by simpa using hi)
      rw [hx]
      exact h1
    · have hkl := (List.getElem?_eq_some_iff.1 hk).1
      obtain ⟨h1, a, c, h2, h3, h4, h5, h6⟩ := hc k p hk
      refine ⟨h1, a, c, ?_, ?_, h4, h5, h6⟩
      · rw [getD_map_range _ _ _ (by omega), h2]
        rfl
      · rw [getD_map_range _ _ _ (by omega), h3]
        rfl

/-! ### a row of chunks of which some are the call's own, one is being made so, and the rest are read -/
theorem own_by {V V' : World} {B B' size size' n n' : Nat} {t t' : TypeId} {v v' : Value} {xs xs' : List Value} (h : V.ownsRow B t size v n xs) (h' : V.ownsRow B' t' size' v' n' xs') (hne : t ≠ t') (k : Fr (fun i => some i = v'.ownBlock) V V') : V'.ownsRow B t size v n xs :=
  k.own h (fun b hb e => own_ne h h' hne b hb e.symm)
theorem ownPs_by {w w' : World} {B B' : Nat} {e : TypeId} {size n : Nat} {v vp : Value} {ps : List Prm} {xs : List Value} (h : OwnPs w B vp ps) (hx : w.ownsRow B' e size v n xs) (h1 : 131 ≠ e) (h2 : 5 ≠ e) (k : Fr (fun i => some i = v.ownBlock) w w') : OwnPs w' B vp ps := by
  obtain ⟨ys, h3, h4⟩ := h
  refine ⟨ys, own_by h3 hx h1 k, fun i p hp => ?_⟩
  obtain ⟨q1, a, c, q2, q3, q4, q5, q6⟩ := h4 i p hp
  exact ⟨q1, a, c, q2, q3, q4, q5, own_by q6 hx h2 k⟩
theorem CkOwn.by_ {w w' : World} {B B' n : Nat} {v : Value} {xs : List Value} {cs : Array Value} {c : Ck} (h : CkOwn w B cs c) (hx : w.ownsRow B' 32 19 v n xs) (k : Fr (fun i => some i = v.ownBlock) w w') : CkOwn w' B cs c := by
  obtain ⟨gv, dv, sv, pv, bv, e, h1, h2, h3, h4, h5⟩ := h
  exact ⟨gv, dv, sv, pv, bv, e, own_by h1 hx (by decide) k, own_by h2 hx (by decide) k, own_by h3 hx (by decide) k, ownPs_by h4 hx (by decide) (by decide) k, own_by h5 hx (by decide) k⟩
/-- The chunk that is being made, at place k; those before it are the call's own, those behind it are read. -/
def CpAt (w W : World) (g n cap : Nat) (ls : List Ck) (k : Nat) (cs : Array Value) : Prop :=
  ∃ xs, W.ownsRow w.heap.size 32 19 (.slice (some ⟨g, 0, none⟩) n cap) n xs ∧ cs.size = 19 ∧ (∀ j u, cs[j]? = some u → xs[k * 19 + j]? = some u) ∧
    (∀ i c, i < k → ls[i]? = some c → ∃ cs' : Array Value, (∀ j u, cs'[j]? = some u → xs[i * 19 + j]? = some u) ∧ CkOwn W w.heap.size cs' c) ∧
    (∀ i c, k < i → ls[i]? = some c → ∃ cs' : Array Value, (∀ j u, cs'[j]? = some u → xs[i * 19 + j]? = some u) ∧ CkAt W w.heap.size cs' c) ∧ Below w.heap.size w W
def CpSt (w W : World) (A : Option Addr) (n cap : Nat) (ls : List Ck) (k : Nat) : Prop :=
  ∃ xs, W.ownsRow w.heap.size 32 19 (.slice A n cap) n xs ∧
    (∀ i c, i < k → ls[i]? = some c → ∃ cs' : Array Value, (∀ j u, cs'[j]? = some u → xs[i * 19 + j]? = some u) ∧ CkOwn W w.heap.size cs' c) ∧
    (∀ i c, k ≤ i → ls[i]? = some c → ∃ cs' : Array Value, (∀ j u, cs'[j]? = some u → xs[i * 19 + j]? = some u) ∧ CkAt W w.heap.size cs' c) ∧ Below w.heap.size w W
theorem row_eq {xs : List Value} {cs : Array Value} {k n : Nat} (hn : xs.length = n * 19) (hk : k < n) (h : ∀ j u, cs[j]? = some u → xs[k * 19 + j]? = some u) (hs : cs.size = 19) : ∀ j, j < 19 → xs[k * 19 + j]? = cs[j]? := by
  intro j hj
  rw [h j cs[j] (Array.getElem?_eq_getElem (by omega)), Array.getElem?_eq_getElem (by omega)]
section
variable {w W W' : World} {g n cap k : Nat} {ls : List Ck} {cs : Array Value}
theorem CpSt.at_ {A : Option Addr} (h : CpSt w W A n cap ls k) {c : Ck} (hk : ls[k]? = some c) (hn : n = ls.length) : ∃ g cs, A = some ⟨g, 0, none⟩ ∧ CpAt w W g n cap ls k cs ∧ CkAt W w.heap.size cs c := by
  obtain ⟨xs, h1, h2, h3, h4⟩ := h
  obtain ⟨cs, h5, h6⟩ := h3 k c (Nat.le_refl _) hk
  have hkl := (List.getElem?_eq_some_iff.1 hk).1
  obtain ⟨g, cap', hv, _, _⟩ := h1.form (by omega)
  injection hv with hv _ hv2
  subst hv hv2
  exact ⟨g, cs, rfl, ⟨xs, h1, h6.size, h5, h2, fun i c hi => h3 i c (by omega), h4⟩, h6⟩
theorem CpAt.done (h : CpAt w W g n cap ls k cs) {c : Ck} (hk : ls[k]? = some c) (ho : CkOwn W w.heap.size cs c) : CpSt w W (some ⟨g, 0, none⟩) n cap ls (k + 1) := by
  obtain ⟨xs, h1, h2, h3, h4, h5, h6⟩ := h
  refine ⟨xs, h1, fun i c' hi hc' => ?_, fun i c' hi => h5 i c' (by omega), h6⟩
  by_cases he : i = k
  · subst he
    rw [hk] at hc'
    cases hc'
    exact ⟨cs, h3, ho⟩
  · exact h4 i c' (by omega) hc'
theorem CpSt.own {A : Option Addr} (h : CpSt w W A n cap ls k) (hk : ls.length ≤ k) (hn : n = ls.length) (hok : ∀ c ∈ ls, c.ok) : OwnCks W w.heap.size (.slice A n cap) ls := by
  obtain ⟨xs, h1, h2, _⟩ := h
  refine ⟨xs, by rw [← hn]; exact h1, fun i c hc => ⟨hok c (List.mem_of_getElem? hc), ?_⟩⟩
  exact h2 i c (by have := (List.getElem?_eq_some_iff.1 hc).1; omega) hc
theorem CpSt.start {A A0 : Option Addr} {xs : List Value} (hb : Below w.heap.size w W) (h : W.ownsRow w.heap.size 32 19 (.slice A n cap) n xs)
    (hx : ∀ k c, ls[k]? = some c → ∃ cs : Array Value, (∀ j u, cs[j]? = some u → xs[k * 19 + j]? = some u) ∧ CkAt w w.heap.size cs c) : CpSt w W A n cap ls 0 :=
  ⟨xs, h, fun i c hi => absurd hi (by omega), fun i c _ hc => by
    obtain ⟨cs, h1, h2⟩ := hx i c hc
    exact ⟨cs, h1, h2.below hb⟩, hb⟩
theorem CpAt.grows (h : CpAt w W g n cap ls k cs) (hb : Below W.heap.size W W') : CpAt w W' g n cap ls k cs := by
  obtain ⟨xs, h1, h2, h3, h4, h5, h6⟩ := h
  have hs := h6.size
  refine ⟨xs, (Fr.of_below hb).own h1 (fun b hb' e => by have := (h1.lt b hb').2; omega), h2, h3, fun i c hi hc => ?_, fun i c hi hc => ?_, h6.trans (hb.mono hs)⟩
  · obtain ⟨cs', q1, q2⟩ := h4 i c hi hc
    exact ⟨cs', q1, q2.grows hb⟩
  · obtain ⟨cs', q1, q2⟩ := h5 i c hi hc
    exact ⟨cs', q1, q2.below (hb.mono hs)⟩
theorem CpAt.keep (h : CpAt w W g n cap ls k cs) {B' n' size : Nat} {t : TypeId} {v : Value} {ys : List Value} (hy : W.ownsRow B' t size v n' ys) (h1 : 32 ≠ t) : W.ownsRow B' t size v n' ys ∧ v.ownBlock ≠ some g := by
  obtain ⟨xs, h2, _⟩ := h
  exact ⟨hy, fun e => own_ne h2 hy h1 g rfl e⟩
theorem CpAt.cellAt (h : CpAt w W g n cap ls k cs) (hk : k < n) (j : Nat) (hj : j < 19) : W.cell? ⟨g, k * 19 + j, none⟩ = cs[j]? := by
  obtain ⟨xs, h1, h2, h3, _⟩ := h
  rw [h1.cellAt (k * 19 + j) (by omega)]
  exact row_eq h1.1 hk h3 h2 j hj
theorem CpAt.frozenAt (h : CpAt w W g n cap ls k cs) (j : Nat) : W.frozen? ⟨g, j, none⟩ = false := by
  obtain ⟨xs, h1, _⟩ := h
  exact h1.frozenAt j
theorem CpAt.blk (h : CpAt w W g n cap ls k cs) : w.heap.size ≤ g ∧ g < W.heap.size := by
  obtain ⟨xs, h1, _⟩ := h
  exact h1.lt g rfl
theorem CpAt.bel (h : CpAt w W g n cap ls k cs) : Below w.heap.size w W := by
  obtain ⟨xs, _, _, _, _, _, h6⟩ := h
  exact h6
theorem CpAt.turn (h : CpAt w W g n cap ls k cs) (i : Nat) (u : Value) : Fr (fun i => some i = (Value.slice (some ⟨g, 0, none⟩) n cap).ownBlock) W (W.setCell ⟨g, i, none⟩ u) :=
  Fr.setCell (S := fun i => some i = (Value.slice (some ⟨g, 0, none⟩) n cap).ownBlock) (Fr.refl _ W) (p := ⟨g, i, none⟩) (.inl rfl) u
theorem CpAt.set_ (h : CpAt w W g n cap ls k cs) (hk : k < n) (j : Nat) (hj : j < 19) (u : Value) : CpAt w (W.setCell ⟨g, k * 19 + j, none⟩ u) g n cap ls k (cs.setIfInBounds j u) := by
  have hT := h.turn (k * 19 + j) u
  have hblk := h.blk
  obtain ⟨xs, h1, h2, h3, h4, h5, h6⟩ := h
  have hl := h1.1
  have ho : ∀ (i : Nat) (cs' : Array Value), i ≠ k → cs'.size = 19 → (∀ j u, cs'[j]? = some u → xs[i * 19 + j]? = some u) → ∀ j' u', cs'[j']? = some u' → (xs.set (k * 19 + j) u)[i * 19 + j']? = some u' := by
    intro i cs' hi hs hc j' u' hu
    have hj' : j' < 19 := by have := (Array.getElem?_eq_some_iff.1 hu).1; rw [hs] at this; exact this
    rw [List.getElem?_set_ne (by omega)]
    exact hc j' u' hu
  refine ⟨xs.set (k * 19 + j) u, (h1.stored _ u).1, by simpa using h2, fun j' u' hu => ?_, fun i c hi hc => ?_, fun i c hi hc => ?_, ?_⟩
  · by_cases e : j' = j
    · subst e
      rw [Array.getElem?_setIfInBounds_self, if_pos (by omega)] at hu
      rw [List.getElem?_set_self (by omega)]
      exact hu
    · rw [Array.getElem?_setIfInBounds_ne (fun e' => e e'.symm)] at hu
      rw [List.getElem?_set_ne (by omega)]
      exact h3 j' u' hu
  · obtain ⟨cs', q1, q2⟩ := h4 i c hi hc
    exact ⟨cs', ho i cs' (by omega) q2.size q1, q2.by_ h1 hT⟩
  · obtain ⟨cs', q1, q2⟩ := h5 i c hi hc
    exact ⟨cs', ho i cs' (by omega) q2.size q1, q2.fr hT h6.size (fun x hx => by have : some x = some g := hx; cases this; exact hblk.1)⟩
  · exact h6.trans ((hT.to_below h6.size (fun x hx => by have : some x = some g := hx; cases this; exact hblk.1)))
end
theorem parts_e {w : World} {B : Nat} {cs : Array Value} {c : Ck} (h : CkAt w B cs c) : ∃ g d s p b : Hd, cs = ckArr c (.slice g.A c.gaps.length g.cap) (.slice d.A c.dups.length d.cap) (.slice s.A c.skips.length s.cap) (.slice p.A c.ps.length p.cap) (.slice b.A c.body.length b.cap) ∧ Lists w B c g d s p b := by
  obtain ⟨_, g, d, s, p, b, rfl, h1, h2, h3, h4, h5, r1, r2, r3, r4, r5⟩ := h
  exact ⟨g, d, s, p, b, rfl, ⟨h1, h2, h3, h4, h5, r1, r2, r3, r4, r5⟩⟩
theorem add_at (g k : Nat) : (⟨g, 0, none⟩ : Addr).add k = ⟨g, k, none⟩ := by
  unfold Addr.add
  split
  · rename_i e; rw [e]
  · simp
theorem dupC_ones (l : List Nat) : ∀ u ∈ dupC l, u.oneCell' = true := by
  intro u hu
  simp only [dupC, List.mem_map] at hu
  obtain ⟨b, _, rfl⟩ := hu
  rfl
theorem gapC_ones (l : List Gp) : ∀ u ∈ gapC l, u.oneCell' = true := by
  intro u hu
  simp only [gapC, List.mem_flatten, List.mem_map] at hu
  obtain ⟨b, ⟨g, _, rfl⟩, hu⟩ := hu
  simp only [List.mem_cons, List.not_mem_nil, or_false] at hu
  rcases hu with rfl | rfl <;> rfl
theorem skC_ones (l : List Skp) : ∀ u ∈ skC l, u.oneCell' = true := by
  intro u hu
  simp only [skC, List.mem_flatten, List.mem_map] at hu
  obtain ⟨b, ⟨g, _, rfl⟩, hu⟩ := hu
  simp only [List.mem_cons, List.not_mem_nil, or_false] at hu
  rcases hu with rfl | rfl | rfl <;> rfl
section
variable {w wr V W : World} {g n cap k : Nat} {ls : List Ck} {cs : Array Value}
theorem CpAt.belS (h : CpAt w V g n cap ls k cs) (hB : Below w.heap.size wr V) (i : Nat) (u : Value) : Below w.heap.size wr (V.setCell ⟨g, i, none⟩ u) := hB.setCell (p := ⟨g, i, none⟩) h.blk.1 u
theorem CpAt.newO (h : CpAt w V g n cap ls k cs) {B size n' : Nat} {t : TypeId} {v : Value} {ys : List Value} (hy : V.ownsRow B t size v n' ys) (hne : t ≠ 32) (i : Nat) (u : Value) : (V.setCell ⟨g, i, none⟩ u).ownsRow B t size v n' ys := by
  have hT := h.turn i u
  obtain ⟨xs, h1, _⟩ := h
  exact own_by hy h1 hne hT
theorem CpAt.keepO (h : CpAt w W g n cap ls k cs) (hb : Below W.heap.size W V) {B size n' : Nat} {t : TypeId} {v : Value} {ys : List Value} (hy : W.ownsRow B t size v n' ys) (hne : t ≠ 32) (i : Nat) (u : Value) : (V.setCell ⟨g, i, none⟩ u).ownsRow B t size v n' ys :=
  (h.grows hb).newO (own_up hy hb) hne i u
end
theorem below_both {B : Nat} {w V : World} (h : Below B w V) (p : Addr) (u : Value) : Below B (w.setCell p u) (V.setCell p u) := by
  refine ⟨h.os, h.tape, h.output, by simp only [World.setCell, Array.size_modify]; exact h.size, fun k hk => ?_⟩
  simp only [World.setCell, Array.getElem?_modify, h.block k hk]
/-! ### parameters of the call's own, of which the first m have values of its own -/
def PmSt (W : World) (H : Nat) (A : Option Addr) (n cap : Nat) (ps : List Prm) (m : Nat) : Prop :=
  ∃ ys, W.ownsRow H 131 2 (.slice A n cap) n ys ∧
    (∀ i p, i < m → ps[i]? = some p → p.1 < 65536 ∧ ∃ a c, ys[i * 2]? = some (.int .u16 (p.1 : Int)) ∧ ys[i * 2 + 1]? = some (.slice a p.2.length c) ∧ p.2.length ≤ c ∧ c ≤ 9223372036854775807 ∧ Own W H (.slice a p.2.length c) p.2) ∧
    (∀ i p, m ≤ i → ps[i]? = some p → p.1 < 65536 ∧ ∃ a c, ys[i * 2]? = some (.int .u16 (p.1 : Int)) ∧ ys[i * 2 + 1]? = some (.slice a p.2.length c) ∧ p.2.length ≤ c ∧ c ≤ 9223372036854775807 ∧ Byt W H a p.2)
section
variable {W W' : World} {H g n cap m : Nat} {ps : List Prm} {A : Option Addr}
theorem PmSt.start {xs : List Value} (h : W.ownsRow H 131 2 (.slice A n cap) n xs)
    (hx : ∀ k p, ps[k]? = some p → p.1 < 65536 ∧ ∃ a c, xs[k * 2]? = some (.int .u16 (p.1 : Int)) ∧ xs[k * 2 + 1]? = some (.slice a p.2.length c) ∧ p.2.length ≤ c ∧ c ≤ 9223372036854775807 ∧ Byt W H a p.2) : PmSt W H A n cap ps 0 :=
  ⟨xs, h, fun i c hi => absurd hi (by omega), fun i c _ hc => hx i c hc⟩
theorem PmSt.at_ (h : PmSt W H A n cap ps m) {p : Prm} (hk : ps[m]? = some p) (hn : n = ps.length) : ∃ g a c, A = some ⟨g, 0, none⟩ ∧ H ≤ g ∧ g < W.heap.size ∧ p.1 < 65536 ∧ W.cell? ⟨g, m * 2, none⟩ = some (.int .u16 (p.1 : Int)) ∧
    W.cell? ⟨g, m * 2 + 1, none⟩ = some (.slice a p.2.length c) ∧ p.2.length ≤ c ∧ c ≤ 9223372036854775807 ∧ Byt W H a p.2 := by
  obtain ⟨ys, h1, h2, h3⟩ := h
  have hkl := (List.getElem?_eq_some_iff.1 hk).1
  obtain ⟨q1, a, c, q2, q3, q4, q5, q6⟩ := h3 m p (Nat.le_refl _) hk
  obtain ⟨g, cap', hv, hg1, hg2⟩ := h1.form (by omega)
  injection hv with hv _ hv2
  subst hv hv2
  exact ⟨g, a, c, rfl, hg1, hg2, q1, (h1.cellAt _ (by omega)).trans q2, (h1.cellAt _ (by omega)).trans q3, q4, q5, q6⟩
theorem PmSt.frozen (h : PmSt W H (some ⟨g, 0, none⟩) n cap ps m) (j : Nat) : W.frozen? ⟨g, j, none⟩ = false := by
  obtain ⟨ys, h1, _⟩ := h
  exact h1.frozenAt j
theorem PmSt.grows (h : PmSt W H A n cap ps m) (hb : Below W.heap.size W W') (hH : H ≤ W.heap.size) : PmSt W' H A n cap ps m := by
  obtain ⟨ys, h1, h2, h3⟩ := h
  refine ⟨ys, own_up h1 hb, fun i p hi hp => ?_, fun i p hi hp => ?_⟩
  · obtain ⟨q1, a, c, q2, q3, q4, q5, q6⟩ := h2 i p hi hp
    exact ⟨q1, a, c, q2, q3, q4, q5, own_up q6 hb⟩
  · obtain ⟨q1, a, c, q2, q3, q4, q5, q6⟩ := h3 i p hi hp
    exact ⟨q1, a, c, q2, q3, q4, q5, q6.below (hb.mono hH)⟩
theorem PmSt.set_ (h : PmSt W H (some ⟨g, 0, none⟩) n cap ps m) {p : Prm} {a : Option Addr} {c : Nat} (hn : n = ps.length) (hH : H ≤ W.heap.size) (hk : ps[m]? = some p) (h4 : p.2.length ≤ c) (h5 : c ≤ 9223372036854775807) (ho : Own W H (.slice a p.2.length c) p.2) : PmSt (W.setCell ⟨g, m * 2 + 1, none⟩ (.slice a p.2.length c)) H (some ⟨g, 0, none⟩) n cap ps (m + 1) := by
  obtain ⟨ys, h1, h2, h3⟩ := h
  have hkl := (List.getElem?_eq_some_iff.1 hk).1
  have hl := h1.1
  have hg := (h1.lt g rfl).1
  have hT : Fr (fun i => some i = (Value.slice (some ⟨g, 0, none⟩) n cap).ownBlock) W (W.setCell ⟨g, m * 2 + 1, none⟩ (.slice a p.2.length c)) := Fr.setCell (S := fun i => some i = (Value.slice (some ⟨g, 0, none⟩) n cap).ownBlock) (Fr.refl _ W) (p := ⟨g, m * 2 + 1, none⟩) (.inl rfl) _
  have hB : Below H W (W.setCell ⟨g, m * 2 + 1, none⟩ (.slice a p.2.length c)) := (Below.refl H W).setCell (p := ⟨g, m * 2 + 1, none⟩) hg _
  have ho' : ∀ (i j : Nat) (u : Value), i * 2 + j ≠ m * 2 + 1 → ys[i * 2 + j]? = some u → (ys.set (m * 2 + 1) (.slice a p.2.length c))[i * 2 + j]? = some u := by
    intro i j u hi hu
    rw [List.getElem?_set_ne (fun e => hi e.symm)]
    exact hu
  refine ⟨ys.set (m * 2 + 1) (.slice a p.2.length c), (h1.stored _ _).1, fun i p' hi hp => ?_, fun i p' hi hp => ?_⟩
  · by_cases e : i = m
    · subst e
      rw [hk] at hp
      cases hp
      obtain ⟨q1, _, _, q2, _⟩ := h3 i p (Nat.le_refl _) hk
      exact ⟨q1, a, c, ho' i 0 _ (by omega) q2, by rw [List.getElem?_set_self (by omega)], h4, h5, own_by ho h1 (by decide) hT⟩
    · obtain ⟨q1, a', c', q2, q3, q4, q5, q6⟩ := h2 i p' (by omega) hp
      exact ⟨q1, a', c', ho' i 0 _ (by omega) q2, ho' i 1 _ (by omega) q3, q4, q5, own_by q6 h1 (by decide) hT⟩
  · obtain ⟨q1, a', c', q2, q3, q4, q5, q6⟩ := h3 i p' (by omega) hp
    exact ⟨q1, a', c', ho' i 0 _ (by omega) q2, ho' i 1 _ (by omega) q3, q4, q5, q6.below hB⟩
theorem PmSt.own (h : PmSt W H A n cap ps m) (hn : n = ps.length) (hm : ps.length ≤ m) : OwnPs W H (.slice A n cap) ps := by
  obtain ⟨ys, h1, h2, _⟩ := h
  refine ⟨ys, by rw [← hn]; exact h1, fun i p hp => h2 i p ?_ hp⟩
  have := (List.getElem?_eq_some_iff.1 hp).1
  omega
end

end Go.Proofs.Ytpgklhecmafnbaa.Chk
