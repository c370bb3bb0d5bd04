/-
  Of the texts Fl28, Fl29, Fl30, Fl31: what the laws reach.
-/
import Derived.Test.YtfgfiiknbkakaaaFC16
import Derived.Shelf.SlSortCmp.NoneTotal

set_option linter.unusedVariables false
set_option linter.unusedSimpArgs false
set_option maxRecDepth 20000
namespace Go.Proofs.Ytfgfiiknbkakaaa.Fl
open Go.ChangeShapes Go.WideShapes Go.ChangeAt Go.RowKit Go.Deep Go.Maps Go.Proofs.Ytfgfiiknbkakaaa.Words Go.Proofs.Ytfgfiiknbkakaaa.Oct Go.Proofs.Ytfgfiiknbkakaaa.Par Go.Proofs.Ytfgfiiknbkakaaa.Chk Go.Proofs.Ytfgfiiknbkakaaa.Mx
def cmpN (a b : Nat) : Int := if a < b then -1 else if b < a then 1 else 0
theorem isnan16 (x : Nat) (w : World) : Calls Try.prog 74 #[.int .u16 (x : Int)] w fun e w' => e = .returned (.bool false) ∧ w = w' := by
  go_enter Try.func74, Try.ntmps74
  go_wp2
  go_ret
  exact ⟨rfl, rfl⟩
theorem ret_i64 {x y : Int} (h : x = y) : Ending.returned (.int .i64 x) = .returned (.int .i64 y) := by rw [h]
set_option maxHeartbeats 1000000 in
theorem compare16 (a b : Nat) (w : World) : Calls Try.prog 64 #[.int .u16 (a : Int), .int .u16 (b : Int)] w fun e w' => e = .returned (.int .i64 (cmpN a b)) ∧ w = w' := by
  obtain ⟨c, hc⟩ : ∃ c, c = cmpN a b := ⟨_, rfl⟩
  rw [← hc]
  have HC := Lib.hid hc
  clear hc
  rcases Nat.lt_trichotomy a b with h | h | h
  · have h1 : (a : Int) < (b : Int) := by omega
    go_enter Try.func64, Try.ntmps64
    go_wp2_with (go_at_call 74; refine (isnan16 _ _).mono ?_; rintro e w' ⟨rfl, rfl⟩)
    go_ret
    exact ⟨ret_i64 (by rw [HC.out]; unfold cmpN; rw [if_pos h]), rfl⟩
  · subst h
    go_enter Try.func64, Try.ntmps64
    go_wp2_with (go_at_call 74; refine (isnan16 _ _).mono ?_; rintro e w' ⟨rfl, rfl⟩)
    go_ret
    exact ⟨ret_i64 (by rw [HC.out]; unfold cmpN; simp), rfl⟩
  · have h1 : (b : Int) < (a : Int) := by omega
    have h2 : ¬ (a : Int) < (b : Int) := by omega
    go_enter Try.func64, Try.ntmps64
    go_wp2_with (go_at_call 74; refine (isnan16 _ _).mono ?_; rintro e w' ⟨rfl, rfl⟩)
    go_ret
    exact ⟨ret_i64 (by rw [HC.out]; unfold cmpN; rw [if_neg (by omega), if_pos h]), rfl⟩
instance (a b : Skp) : Decidable (skLt a b) := by unfold skLt; infer_instance
def encS (x : Skp) : List Value := [.int .u16 (x.1 : Int), .bool x.2.1, .int .u32 (x.2.2 : Int)]
def cfS (x y : Skp) : Int := if x.1 = y.1 ∧ x.2.1 ≠ y.2.1 then (if x.2.1 = true then 1 else -1) else cmpN x.1 y.1
theorem cfS_lt (x y : Skp) : ltOf cfS x y = decide (skLt x y) := by
  obtain ⟨a, b, c⟩ := x
  obtain ⟨d, e, f⟩ := y
  unfold ltOf cfS cmpN skLt
  rcases Nat.lt_trichotomy a d with h | h | h
  · rw [if_neg (fun e => by omega), if_pos h]
    simp [h]
  · subst h
    cases b <;> cases e <;> simp
  · rw [if_neg (fun e => by omega), if_neg (by omega), if_pos h]
    have h1 : ¬ a < d := by omega
    have h2 : ¬ a = d := by omega
    simp [h1, h2]
theorem cfS_swo : Go.Sort.SWO (ltOf cfS) where
  irrefl x := by
    rw [cfS_lt, decide_eq_false_iff_not]
    rintro (h | ⟨_, h1, h2⟩)
    · omega
    · rw [h1] at h2; cases h2
  trans x y z h1 h2 := by
    rw [cfS_lt, decide_eq_true_eq] at *
    rcases h1 with h1 | ⟨h1, h3, h4⟩ <;> rcases h2 with h2 | ⟨h2, h5, h6⟩
    · exact .inl (by omega)
    · exact .inl (by omega)
    · exact .inl (by omega)
    · rw [h4] at h5; cases h5
  ntrans x y z h1 h2 := by
    rw [cfS_lt, decide_eq_false_iff_not] at *
    rintro (h | ⟨h, h3, h4⟩)
    · by_cases e : x.1 < y.1
      · exact h1 (.inl e)
      · exact h2 (.inl (by omega))
    · by_cases e : x.1 < y.1
      · exact h1 (.inl e)
      · by_cases e2 : y.1 < z.1
        · exact h2 (.inl e2)
        · cases hy : y.2.1
          · exact h2 (.inr ⟨by omega, hy, h4⟩)
          · exact h1 (.inr ⟨by omega, h3, hy⟩)
set_option maxHeartbeats 2000000 in
theorem skips1_any (x y : Skp) (W : World) : Calls Try.prog 63 #[.agg #[.int .u16 (x.1 : Int), .bool x.2.1, .int .u32 (x.2.2 : Int)], .agg #[.int .u16 (y.1 : Int), .bool y.2.1, .int .u32 (y.2.2 : Int)]] W fun e w' => e = .returned (.int .i64 (cfS x y)) ∧ ∃ q os', w' = Go.Sort.grow (W.drewN q) os' := by
  obtain ⟨a, b, c⟩ := x
  obtain ⟨d, e, f⟩ := y
  simp only
  have hfin : ∀ o1 o2 : Obj, ∃ q os', (W.alloc o1).alloc o2 = Go.Sort.grow (W.drewN q) os' := fun o1 o2 => ⟨0, _, by rw [Go.Sort.alloc_eq_grow, Go.Sort.alloc_eq_grow, Go.Sort.grow_grow]; rfl⟩
  have hcmp := fun W' => compare16 a d W'
  obtain ⟨r, hr⟩ : ∃ r, r = cfS (a, b, c) (d, e, f) := ⟨_, rfl⟩
  rw [← hr]
  obtain ⟨r2, hr2⟩ : ∃ r2, r2 = cmpN a d := ⟨_, rfl⟩
  simp only [← hr2] at hcmp
  have HR := Lib.hid hr
  have HR2 := Lib.hid hr2
  clear hr hr2
  by_cases h : a = d
  · subst h
    cases b <;> cases e
    · go_enter Try.func63, Try.ntmps63
      go_wp2_with (go_at_call 64; refine (hcmp _).mono ?_; rintro e w' ⟨rfl, rfl⟩)
      go_ret
      exact ⟨ret_i64 (by rw [HR.out, HR2.out]; unfold cfS; simp), hfin _ _⟩
    · go_enter Try.func63, Try.ntmps63
      go_wp2_with (fail)
      go_ret
      exact ⟨ret_i64 (by rw [HR.out]; unfold cfS; simp), hfin _ _⟩
    · go_enter Try.func63, Try.ntmps63
      go_wp2_with (fail)
      go_ret
      exact ⟨ret_i64 (by rw [HR.out]; unfold cfS; simp), hfin _ _⟩
    · go_enter Try.func63, Try.ntmps63
      go_wp2_with (go_at_call 64; refine (hcmp _).mono ?_; rintro e w' ⟨rfl, rfl⟩)
      go_ret
      exact ⟨ret_i64 (by rw [HR.out, HR2.out]; unfold cfS; simp), hfin _ _⟩
  · have h1 : ¬ (a : Int) = (d : Int) := by omega
    have h2 : ((a : Int) == (d : Int)) = false := beq_no h1
    go_enter Try.func63, Try.ntmps63
    go_wp2_with (go_at_call 64; refine (hcmp _).mono ?_; rintro e w' ⟨rfl, rfl⟩)
    go_ret
    exact ⟨ret_i64 (by rw [HR.out, HR2.out]; unfold cfS; rw [if_neg (fun e => h e.1)]), hfin _ _⟩
theorem fr_sortK {w : World} {g k : Nat} {d : Array Skp} {os : Array Obj} : Fr (fun i => i = g) w (sortWorldK encS 3 w g 0 k d os) := by
  refine ⟨rfl, rfl, rfl, size_sortWorldK_c encS 3 w g 0 k d os, fun i hi hne => ?_⟩
  unfold sortWorldK
  rw [Go.Sort.heap_grow_old _ _ (by rw [Go.Sort.size_putRowK]; exact hi)]
  have : ¬ g = i := fun e => hne e.symm
  simp [Go.Sort.putRowK, Go.Sort.putRow, Go.Sort.mapBlock, Go.Sort.ahead, Array.getElem?_modify, this]
theorem skips1_enters : ∀ args W, (callFunc 63 args).run Try.prog W = .ok (.enter 63 args) W := enters_of Try.func63 (by kernel_rfl) rfl
theorem isagg_sk : ∀ w, (isAgg 122).run Try.prog w = .ok true w := fun w => by
  unfold isAgg
  simp [Try.underlying122, TypeDesc.isRow]
theorem sizeof_sk : ∀ w, (Go.sizeOf 122).run Try.prog w = .ok 3 w := fun w => by kernel_rfl
theorem cell_add0F (w : World) (g i : Nat) : w.cell? ((⟨g, 0, none⟩ : Addr).add i) = w.cell? ⟨g, i, none⟩ := by
  unfold Addr.add
  split
  · rename_i e; rw [e]
  · simp
/-- What sorting leaves. -/
def SortSk (w : World) (base : Nat) (v : Value) (n : Nat) (ys : List Skp) (e : Ending) (w' : World) : Prop :=
  ∃ (zs : List Skp) (A : Option Addr) (c : Nat), e = .returned (.tuple #[]) ∧ v = .slice A n c ∧ n ≤ c ∧ c ≤ 9223372036854775807 ∧ zs.Perm ys ∧ zs.Pairwise (fun a b => ¬ skLt b a) ∧ Reads w' w'.heap.size 3 A n (skC zs) ∧ Below base w w' ∧ ∀ ad, A = some ad → kd w' ad.block = some (122 + 1)
theorem skC_enc (l : List Skp) : ∀ (i : Nat) x, l[i]? = some x → ∀ c, c < 3 → (skC l)[i * 3 + c]? = (encS x)[c]? := fun i x hx c hc => by
  obtain ⟨h0, h1, h2⟩ := skC_at l i x hx
  have : c = 0 ∨ c = 1 ∨ c = 2 := by omega
  rcases this with rfl | rfl | rfl
  · exact h0
  · exact h1
  · exact h2
theorem skC_len (l : List Skp) : (skC l).length = l.length * 3 := by
  induction l with
  | nil => rfl
  | cons a l ih =>
    have : skC (a :: l) = encS a ++ skC l := by simp [skC, encS]
    rw [this, List.length_append, ih, List.length_cons]
    show 3 + _ = _
    omega
set_option maxHeartbeats 1000000 in
theorem sort_skips {w : World} {base n : Nat} {v : Value} {ys : List Skp} (hown : w.ownsRow base 122 3 v n (skC ys)) (hb : base ≤ w.heap.size) (hz : n ≤ 2000000001) :
    Calls Try.prog 62 #[v, .func (.func 63) #[] #[]] w (SortSk w base v n ys) := by
  obtain ⟨hlen, h⟩ := hown
  have hl : ys.length = n := by rw [skC_len] at hlen; omega
  rcases Nat.eq_zero_or_pos n with h0 | hpos
  · subst h0
    have hys : ys = [] := List.eq_nil_of_length_eq_zero hl
    subst hys
    obtain ⟨A, c, rfl, hc, hkd⟩ : ∃ A c, v = .slice A 0 c ∧ c ≤ 9223372036854775807 ∧ ∀ ad, A = some ad → kd w ad.block = some (122 + 1) := by
      rcases h with ⟨rfl, _⟩ | ⟨g, cap, cur, rfl, hg, hh, _, h1, _⟩
      · exact ⟨none, 0, rfl, by omega, fun ad e => by cases e⟩
      · exact ⟨_, cap, rfl, by unfold maxLen at h1; omega, fun ad e => by injection e with e; rw [← e]; exact kd_blk hh⟩
    have hS := AnyF.slices_SortFunc_none (P := Try.prog) (ρ := Try.sortQ_ren) { Try.sortQ with } A c (.func (.func 63) #[] #[]) w
    change Calls Try.prog 62 _ _ _ at hS
    refine hS.mono ?_
    rintro e w' ⟨rfl, rfl⟩
    exact ⟨[], A, c, rfl, rfl, Nat.zero_le _, hc, List.Perm.refl _, List.Pairwise.nil, ⟨rfl, fun h => absurd h (by omega)⟩, Below.refl _ _, hkd⟩
  · rcases h with ⟨_, h⟩ | ⟨g, cap, cur, rfl, hg, hblk, hnc, hcm, hcs, htk⟩
    · omega
    · obtain ⟨d, hd⟩ : ∃ d : Array Skp, d = ys.toArray := ⟨_, rfl⟩
      have hds : d.size = n := by rw [hd]; simpa using hl
      have hB : Blk w g 122 cur := hblk
      have hlt := hB.lt
      have hH : Go.Sort.HoldsK encS 3 w g 0 d := fun j hj => by
        rw [Go.Sort.size_flatK] at hj
        refine ⟨?_, hB.frozen (0 + j)⟩
        have hj3 : j / 3 < ys.length := by omega
        rw [hB.cell (0 + j), Nat.zero_add, Go.Sort.get_flatK _ _ _ _ hj]
        have h2 : (cur.toList.take (n * 3))[j]? = (skC ys)[j]? := by rw [htk]
        rw [List.getElem?_take_of_lt (by omega), Array.getElem?_toList] at h2
        rw [h2]
        have h3 := skC_enc ys (j / 3) _ (List.getElem?_eq_getElem hj3) (j % 3) (Nat.mod_lt _ (by omega))
        rw [show j / 3 * 3 + j % 3 = j by omega] at h3
        rw [h3]
        have h4 : d[j / 3]! = ys[j / 3] := by rw [hd]; simp [hj3]
        rw [h4]
        have h5 : j % 3 < 3 := Nat.mod_lt _ (by omega)
        have h6 : j % 3 < (encS ys[j / 3]).length := h5
        rw [List.getElem?_eq_getElem h6, getElem!_pos (encS ys[j / 3]) (j % 3) h6]
        rfl
      have hcmp : CmpLays Try.prog 63 #[] encS 3 cfS g 0 d.size w := fun m os dk hs x y => skips1_any x y _
      have hS := AnyQ.slices_SortFunc Try.sortQ 3 isagg_sk sizeof_sk encS (fun _ => rfl) (fun x v hv => by simp [encS] at hv; rcases hv with rfl | rfl | rfl <;> rfl) cfS cfS_swo 63 #[] g 0 cap d w skips1_enters hcmp hH hlt (by omega)
      change Calls Try.prog 62 _ _ _ at hS
      rw [hds] at hS
      refine hS.mono ?_
      rintro e w' ⟨rfl, d', k, os, ⟨p1, p2, p3⟩, hso, rfl⟩
      have hds' : d'.size = n := p1.trans hds
      have hH' := holdsK_sortWorldK_c encS 3 w g 0 d d' k os hH hlt p1
      have hff : Fr (fun i => i = g) w (sortWorldK encS 3 w g 0 k d' os) := fr_sortK
      refine ⟨d'.toList, _, cap, rfl, rfl, hnc, by unfold maxLen at hcm; omega, ?_, ?_, ⟨by rw [skC_len]; simp [hds'], fun _ => ⟨_, rfl, Nat.lt_of_lt_of_le hlt hff.size, fun j u hu => ?_⟩⟩, hff.to_below hb (fun i e => by rw [show i = g from e]; exact hg), fun ad e => ?_⟩
      · have h1 : d'.toList.Perm d.toList := by
          have h2 := p3
          rw [Array.toList_extract, Array.toList_extract, List.extract_eq_take_drop, List.extract_eq_take_drop] at h2
          simp only [List.drop_zero, Nat.sub_zero] at h2
          rw [List.take_of_length_le (by simp; omega), List.take_of_length_le (by simp; omega)] at h2
          exact h2
        have h4 : d.toList = ys := by rw [hd]
        rw [h4] at h1
        exact h1
      · rw [List.pairwise_iff_getElem]
        intro i j hi hj hij
        have hi' : i < d'.size := by simpa using hi
        have hj' : j < d'.size := by simpa using hj
        have h1 := hso i j (Nat.zero_le _) hij (by omega)
        rw [cfS_lt, decide_eq_false_iff_not, getElem!_pos d' i hi', getElem!_pos d' j hj'] at h1
        simpa using h1
      · have hj : j < n * 3 := by
          have := (List.getElem?_eq_some_iff.1 hu).1
          rw [skC_len, Array.length_toList] at this
          omega
        have hj3 : j / 3 < d'.size := by omega
        have h1 := (hH' j (by rw [Go.Sort.size_flatK]; omega)).1
        rw [Nat.zero_add, Go.Sort.get_flatK _ _ _ _ (by omega)] at h1
        have h3 := skC_enc d'.toList (j / 3) d'[j / 3] (by rw [Array.getElem?_toList, Array.getElem?_eq_getElem hj3]) (j % 3) (Nat.mod_lt _ (by omega))
        rw [show j / 3 * 3 + j % 3 = j by omega, hu] at h3
        have h6 : j % 3 < (encS d'[j / 3]).length := Nat.mod_lt _ (by omega)
        rw [getElem!_pos d' _ hj3, getElem!_pos (encS d'[j / 3]) (j % 3) h6] at h1
        rw [List.getElem?_eq_getElem h6] at h3
        rw [cell_add0F, h1, h3]
        rfl
      · injection e with e
        rw [← e]
        unfold kd sortWorldK
        rw [Go.Sort.heap_grow_old _ _ (by rw [Go.Sort.size_putRowK]; exact hlt)]
        have hblk' : w.heap[g]? = some (.cells cur 122 (0, 0)) := hblk
        simp [Go.Sort.putRowK, Go.Sort.putRow, Go.Sort.mapBlock, Go.Sort.ahead, Array.getElem?_modify, hblk', Go.Sort.onCells]
end Go.Proofs.Ytfgfiiknbkakaaa.Fl

set_option linter.unusedVariables false
set_option linter.unusedSimpArgs false
set_option maxRecDepth 20000
namespace Go.Proofs.Ytfgfiiknbkakaaa.Fl
open Go.ChangeShapes Go.WideShapes Go.ChangeAt Go.RowKit Go.Deep Go.Maps Go.Proofs.Ytfgfiiknbkakaaa.Words Go.Proofs.Ytfgfiiknbkakaaa.Oct Go.Proofs.Ytfgfiiknbkakaaa.Par Go.Proofs.Ytfgfiiknbkakaaa.Chk Go.Proofs.Ytfgfiiknbkakaaa.Mx
section
variable {w w' : World} {p : Nat} {a : Ad} {m : FM} {s : FS} {inter : Bool}
def keyS (x : Skp) : Ln := (x.1, x.2.1)
/-- What the loop over the lines holds. -/
structure SkpS (w wr : World) (la q : Nat) (inter : Bool) (lf : Ln → Option Nat) (left : Ln → Bool) (cnt : Nat) (v : Value) (n : Nat) (sk : List Skp) : Prop where
  rg : RangeX lnX wr la q (lfF lf) left cnt
  own : wr.ownsRow (q + 1) 122 3 v n (skC sk)
  nd : (sk.map keyS).Nodup
  mem : ∀ x, x ∈ sk ↔ lf (keyS x) = some x.2.2 ∧ left (keyS x) = false ∧ (inter = true ∨ x.2.1 = false)
  dom : ∀ x ∈ sk, x.1 < 65536
  bel : Below w.heap.size w wr
theorem SkpS.few {wr : World} {la q cnt n : Nat} {lf : Ln → Option Nat} {left : Ln → Bool} {v : Value} {sk : List Skp} (h : SkpS w wr la q inter lf left cnt v n sk) : sk.length = n ∧ n ≤ 131072 := by
  have h1 : sk.length = n := by
    have := h.own.1
    rw [skC_len] at this
    omega
  refine ⟨h1, ?_⟩
  have h2 : ((sk.map keyS).map lnN).Nodup := List.pairwise_map.2 (List.Pairwise.imp_of_mem (fun {a b} ha hb hne e => hne (by
    obtain ⟨a1, a2⟩ := a
    obtain ⟨b1, b2⟩ := b
    simp only [lnN] at e
    cases a2 <;> cases b2 <;> simp at e ⊢ <;> omega)) h.nd)
  have h3 := nodup_sub _ (List.range 131072) h2 (fun x hx => by
    obtain ⟨g, hg, rfl⟩ := List.mem_map.1 hx
    obtain ⟨y, hy, rfl⟩ := List.mem_map.1 hg
    have := h.dom y hy
    refine List.mem_range.2 ?_
    unfold lnN keyS
    simp only
    split <;> omega)
  rw [List.length_range, List.length_map, List.length_map] at h3
  omega
/-- All lines were gone through: sorted, these are the skips. -/
theorem skOk_of {sk zs : List Skp} {lf : Ln → Option Nat} (hp : zs.Perm sk) (hs : zs.Pairwise (fun a b => ¬ skLt b a)) (hn : (sk.map keyS).Nodup) (hm : ∀ x, x ∈ sk ↔ lf (keyS x) = some x.2.2 ∧ (inter = true ∨ x.2.1 = false)) : SkOk inter lf zs := by
  refine ⟨?_, fun x => by rw [hp.mem_iff]; exact hm x⟩
  have h1 : (zs.map keyS).Nodup := ((hp.map keyS).nodup_iff).2 hn
  have h2 : zs.Pairwise (fun a b => keyS a ≠ keyS b) := List.pairwise_map.1 h1
  refine (hs.and h2).imp ?_
  rintro ⟨a1, a2, a3⟩ ⟨b1, b2, b3⟩ ⟨h3, h4⟩
  unfold skLt at *
  unfold keyS at h4
  simp only at *
  rcases Nat.lt_trichotomy a1 b1 with h | h | h
  · exact .inl h
  · subst h
    cases a2 <;> cases b2
    · exact absurd rfl h4
    · exact .inr ⟨rfl, rfl, rfl⟩
    · exact absurd (.inr ⟨rfl, rfl, rfl⟩) h3
    · exact absurd rfl h4
  · exact absurd (.inl h) h3
def SkipsDone (w : World) (m : FM) (inter : Bool) (e : Ending) (w' : World) : Prop := ∃ (A : Option Addr) (n c : Nat) (zs : List Skp), e = .returned (.slice A n c) ∧ n = zs.length ∧ n ≤ c ∧ c ≤ 9223372036854775807 ∧ SkOk inter m.lf zs ∧ Reads w' w'.heap.size 3 A n (skC zs) ∧ Below w.heap.size w w' ∧ ∀ ad, A = some ad → kd w' ad.block = some (122 + 1)
set_option maxHeartbeats 8000000 in
theorem skips_s (h : FlM w p a m) : Calls Try.prog 42 #[.pointer (some ⟨p, 9, none⟩), .bool inter] w (SkipsDone w m inter) := by
  have c10 : w.cell? ⟨p, 9 + 1, none⟩ = some (.map (some a.la)) := h.blk.cell 10
  obtain ⟨w1, cnt, hrun, hrg, hgr, hsz⟩ := MapX.range h.lat (t := 84) Try.underlying84
  have hb1 : Below w.heap.size w w1 := grown_below (Below.refl _ _) hgr (Nat.le_refl _) (fun g hg => by cases hg)
  obtain ⟨q, hq⟩ : ∃ q, q = w.heap.size := ⟨_, rfl⟩
  rw [← hq] at hrg hrun
  obtain ⟨i0, hi0, hz0, hz1, hz2⟩ := info_parts3 skip_info
  have HLA : Hid (a.la < w.heap.size) := h.lat.lt
  have HS0 : Hid (SkpS w w1 a.la q inter m.lf (fun x => (lfF m.lf x).isSome) cnt (.slice none 0 0) 0 []) := by
    refine ⟨hrg, World.ownsRow_nil _ _ _ _, List.nodup_nil, fun x => ⟨fun hx => (by cases hx), fun hx => ?_⟩, fun x hx => (by cases hx), hb1⟩
    have h1 := hx.2.1
    unfold lfF at h1
    rw [hx.1] at h1
    cases h1
  have HQ : Hid (q = w.heap.size) := hq
  clear hrg hgr hsz hq hb1 h
  go_enter Try.func42, Try.ntmps42
  go_upto_region 3 with (fail)
  go_loopw [5] (fun v5 wr => ∃ (left : Ln → Bool) (cnt : Nat) (n : Nat) (sk : List Skp), Hid (SkpS w wr a.la q inter m.lf left cnt v5 n sk)) (fun _ wr => wr.rangeLeft a.la q)
  case atStart => exact ⟨_, _, 0, [], HS0⟩
  case round =>
    clear HS0 hrun c10
    obtain ⟨left, cnt, n, sk, HG⟩ := hrel
    obtain ⟨A, c, rfl, hac, hcb⟩ := own_slice HG.out.own
    have hn := HG.out.few
    rcases HG.out.rg.next 0 with ⟨hall, hrun2⟩ | ⟨g, v, w2, cnt2, hdom, hlg, hfg, hrun2, hrg2, hlt2, hgr2, hsz2, hen⟩
    · have hsort := sort_skips HG.out.own (by have := HG.out.rg.lt; omega) (by omega)
      have HALL := Lib.hid hall
      have HNN := Lib.hid hn
      clear hall hn
      go_wp2_with (go_at_call 62; refine hsort.mono ?_; rintro e w5 ⟨zs, A5, c5, rfl, hv5, h5a, h5b, h5c, h5d, h5e, h5f, h5g⟩; injection hv5 with hv1 hv2 hv3; subst hv1 hv3; clear hv2 h5a h5b; have HC5 := Lib.hid h5c; have HD5 := Lib.hid h5d; have HE5 := Lib.hid h5e; have HF5 := Lib.hid h5f; have HG5 := Lib.hid h5g; clear h5c h5d h5e h5f h5g)
      go_ret
      refine ⟨A, n, c, zs, rfl, ?_, hac, hcb, ?_, HE5.out, HG.out.bel.trans (HF5.out.mono (by have := HQ.out; omega)), HG5.out⟩
      · rw [HC5.out.length_eq]; exact HNN.out.1.symm
      · exact skOk_of HC5.out HD5.out HG.out.nd (fun x => by rw [HG.out.mem, HALL.out]; simp)
    · obtain ⟨x, hx, rfl⟩ : ∃ x, m.lf g = some x ∧ v = .int .u32 (x : Int) := by
        have hfg' : lfF m.lf g = some v := hfg
        unfold lfF at hfg'
        cases hl : m.lf g with
        | none => rw [hl] at hfg'; cases hfg'
        | some x => rw [hl] at hfg'; injection hfg' with hfg'; exact ⟨x, rfl, hfg'.symm⟩
      obtain ⟨sn, lo⟩ := g
      have hrun3 : (Instr.next (.pointer (some ⟨q, 0, none⟩)) false 0).run Try.prog wr = .ok (.tuple #[.bool true, .agg #[.int .u16 (sn : Int), .bool lo], .int .u32 (x : Int)]) w2 := hrun2
      have hen3 : (Instr.entry (.pointer (some ⟨q, 0, none⟩))).run Try.prog w2 = .ok (.tuple #[.agg #[.int .u16 (sn : Int), .bool lo], .int .u32 (x : Int)]) w2 := hen
      have hfr2 : Fr (fun i => i = q) wr w2 := (Fr.of_grown hgr2).mono (fun i hi e => by injection e)
      have HO2 : Hid (w2.ownsRow (q + 1) 122 3 (.slice A n c) n (skC sk)) := hfr2.own HG.out.own (fun g hg e => by have := (HG.out.own.lt g hg).1; have e' : g = q := e; omega)
      have HB2 : Hid (Below w.heap.size w w2) := below_fr HG.out.bel hfr2 (Nat.le_refl _) (fun i e => by have e' : i = q := e; rw [e', HQ.out]; exact Nat.le_refl _)
      have hns : ∀ y ∈ sk, keyS y ≠ (sn, lo) := fun y hy e => by
        have := ((HG.out.mem y).1 hy).2.1
        rw [e, hlg] at this
        cases this
      have HNS := Lib.hid hns
      have HRG := Lib.hid hrg2
      have HCE : Hid (wr.rangeLeft a.la q = cnt) := HG.out.rg.left_eq
      have HLT := Lib.hid hlt2
      have HX := Lib.hid hx
      have HLG := Lib.hid hlg
      have HDM : Hid (sn < 65536) := hdom
      have HND := Lib.hid HG.out.nd
      have HMEM := Lib.hid HG.out.mem
      have HDO := Lib.hid HG.out.dom
      have HNN := Lib.hid hn
      have hq2 : q + 1 ≤ w2.heap.size := HRG.out.lt
      -- what the list is when this line is not told
      have HNO : Hid (¬ (inter = true ∨ lo = false) → ∀ W, Below w2.heap.size w2 W → SkpS w W a.la q inter m.lf (fun y => left y && !decide (y = (sn, lo))) cnt2 (.slice A n c) n sk) := fun hno W hW => by
        have hfW : Fr (fun i => w2.heap.size ≤ i) w2 W := Fr.of_below hW
        have hla := HLA.out
        have hql := HQ.out
        have hbs := HB2.out.size
        refine ⟨HRG.out.fr hfW (fun e => by have e' : w2.heap.size ≤ a.la := e; omega) (fun e => by have e' : w2.heap.size ≤ q := e; omega), hfW.own HO2.out (fun g hg e => by have e' : w2.heap.size ≤ g := e; have := (HO2.out.lt g hg).2; omega), HND.out, fun y => ?_, HDO.out, HB2.out.trans (hW.mono hbs)⟩
        rw [HMEM.out]
        constructor
        · rintro ⟨b1, b2, b3⟩; exact ⟨b1, by simp [b2], b3⟩
        · rintro ⟨b1, b2, b3⟩
          have hne : keyS y ≠ (sn, lo) := fun e => by
            have e2 : y.2.1 = lo := by have := congrArg Prod.snd e; exact this
            rw [e2] at b3
            exact hno b3
          exact ⟨b1, by simpa [hne] using b2, b3⟩
      have HYE : Hid ((inter = true ∨ lo = false) → ∀ (W W' : World) (v' : Value) (n' : Nat), Below w2.heap.size w2 W → W'.ownsRow (q + 1) 122 3 v' n' (skC sk ++ [.int .u16 (sn : Int), .bool lo, .int .u32 (x : Int)]) → W.grownBy W' (Value.slice A n c).ownBlock → SkpS w W' a.la q inter m.lf (fun y => left y && !decide (y = (sn, lo))) cnt2 v' n' (sk ++ [(sn, lo, x)])) := fun hyes W W' v' n' hW hown hgrw => by
        have hfW : Fr (fun i => q + 1 ≤ i) w2 W' := ((Fr.of_below hW).mono (fun i _ e => by have e' : w2.heap.size ≤ i := e; show q + 1 ≤ i; omega)).grown hgrw (fun g hg => .inl (HO2.out.lt g hg).1)
        have hla := HLA.out
        have hql := HQ.out
        refine ⟨HRG.out.fr hfW (fun e => by have e' : q + 1 ≤ a.la := e; omega) (fun e => by have e' : q + 1 ≤ q := e; omega), by rw [skC_snoc]; exact hown, ?_, fun y => ?_, fun y hy => ?_, below_fr HB2.out hfW (Nat.le_refl _) (fun i e => by have e' : q + 1 ≤ i := e; omega)⟩
        · rw [List.map_append, List.nodup_append]
          refine ⟨HND.out, by simp, fun k hk k' hk' e => ?_⟩
          obtain ⟨y, hy, rfl⟩ := List.mem_map.1 hk
          rw [List.map_singleton, List.mem_singleton] at hk'
          exact HNS.out y hy (e.trans hk')
        · rw [List.mem_append, List.mem_singleton, HMEM.out]
          constructor
          · rintro (⟨b1, b2, b3⟩ | rfl)
            · exact ⟨b1, by simp [b2], b3⟩
            · exact ⟨HX.out, by simp [keyS], hyes⟩
          · rintro ⟨b1, b2, b3⟩
            by_cases hne : keyS y = (sn, lo)
            · right
              rw [hne, HX.out] at b1
              injection b1 with b1
              obtain ⟨y1, y2, y3⟩ := y
              unfold keyS at hne
              injection hne with e1 e2
              simp only at e1 e2 b1
              rw [e1, e2, b1]
            · exact .inl ⟨b1, by simpa [hne] using b2, b3⟩
        · rcases List.mem_append.1 hy with hy | hy
          · exact HDO.out y hy
          · rw [List.mem_singleton.1 hy]; exact HDM.out
      clear hrun2 hen hfg hfr2 hns hrg2 hlt2 hgr2 hsz2 hx hlg hdom hn HG
      have finish : ∀ (W : World) (v' : Value) (n' : Nat) (sk' : List Skp), SkpS w W a.la q inter m.lf (fun y => left y && !decide (y = (sn, lo))) cnt2 v' n' sk' → True := fun _ _ _ _ _ => trivial
      clear finish
      cases inter
      · cases lo
        · have HYE' := Lib.hid (HYE.out (.inr rfl))
          have hn131 := HNN.out
          go_wp2_with (at_builtin; refine wpList_append_any _ rfl (.tmp 24) (.tmp 31) _ rfl (q + 1) 122 i0 _ 3 8 Try.underlying32 hi0 hz0 hz1 hz2 rfl (by omega) (.slice A n c) n _ rfl ((((Fr.refl (fun _ => False) w2).alloc _).alloc _).own HO2.out (fun _ _ h => h)) (w2.heap.size + 1 + 1) (some ⟨w2.heap.size + 1, 0, none⟩) 1 1 [.int .u16 (sn : Int), .bool false, .int .u32 (x : Int)] rfl (blk_reads (blk_newAt (w2.alloc _) (w2.heap.size + 1) (by simp) 122 #[.int .u16 (sn : Int), .bool false, .int .u32 (x : Int)]) rfl) (by simp [Value.oneCell']) (by simp only [maxLen]; omega) (by omega) (by simp; omega) ?_; intro v7 w7 hown7 hg7 hat7; have HS7 := Lib.hid (HYE'.out _ w7 v7 (n + 1) (((Below.refl _ w2).alloc (Nat.le_refl _) _).alloc (by simp) _) hown7 hg7); obtain ⟨A7, c7, rfl, h7a, h7b⟩ := own_slice hown7; clear hown7 hg7 hat7)
          go_roundw
          case rel => exact ⟨_, cnt2, n + 1, _, HS7⟩
          case measure => rw [HS7.out.rg.left_eq, HCE.out]; exact HLT.out
        · have HNO' := Lib.hid (HNO.out (by simp))
          go_wp2_with fail
          go_roundw
          case rel => exact ⟨_, cnt2, n, sk, HNO'.out _ (below_one _ _)⟩
          case measure => rw [(HNO'.out _ (below_one _ _)).rg.left_eq, HCE.out]; exact HLT.out
      · have HYE' := Lib.hid (HYE.out (.inl rfl))
        have hn131 := HNN.out
        go_wp2_with (at_builtin; refine wpList_append_any _ rfl (.tmp 24) (.tmp 31) _ rfl (q + 1) 122 i0 _ 3 8 Try.underlying32 hi0 hz0 hz1 hz2 rfl (by omega) (.slice A n c) n _ rfl ((((Fr.refl (fun _ => False) w2).alloc _).alloc _).own HO2.out (fun _ _ h => h)) (w2.heap.size + 1 + 1) (some ⟨w2.heap.size + 1, 0, none⟩) 1 1 [.int .u16 (sn : Int), .bool lo, .int .u32 (x : Int)] rfl (blk_reads (blk_newAt (w2.alloc _) (w2.heap.size + 1) (by simp) 122 #[.int .u16 (sn : Int), .bool lo, .int .u32 (x : Int)]) rfl) (by simp [Value.oneCell']) (by simp only [maxLen]; omega) (by omega) (by simp; omega) ?_; intro v7 w7 hown7 hg7 hat7; have HS7 := Lib.hid (HYE'.out _ w7 v7 (n + 1) (((Below.refl _ w2).alloc (Nat.le_refl _) _).alloc (by simp) _) hown7 hg7); obtain ⟨A7, c7, rfl, h7a, h7b⟩ := own_slice hown7; clear hown7 hg7 hat7)
        go_roundw
        case rel => exact ⟨_, cnt2, n + 1, _, HS7⟩
        case measure => rw [HS7.out.rg.left_eq, HCE.out]; exact HLT.out
end
end Go.Proofs.Ytfgfiiknbkakaaa.Fl

set_option linter.unusedVariables false
set_option linter.unusedSimpArgs false
set_option maxRecDepth 20000
namespace Go.Proofs.Ytfgfiiknbkakaaa.Fl
open Go.ChangeShapes Go.WideShapes Go.ChangeAt Go.RowKit Go.Deep Go.Maps Go.Proofs.Ytfgfiiknbkakaaa.Words Go.Proofs.Ytfgfiiknbkakaaa.Oct Go.Proofs.Ytfgfiiknbkakaaa.Par Go.Proofs.Ytfgfiiknbkakaaa.Chk Go.Proofs.Ytfgfiiknbkakaaa.Mx
def pcK (k t : Nat) (zs : List Skp) : Ck := { zeroC k with tsn := t, skips := zs }
abbrev pcA (k t : Nat) (zs : List Skp) (A : Option Addr) (n c : Nat) : Array Value := ckArr (pcK k t zs) nilV nilV (.slice A n c) nilV nilV
theorem built_pc (t : Nat) (zs : List Skp) (A : Option Addr) (n c : Nat) : Try.prog.built 35 [(0, .int .u8 192), (5, .int .u32 (t : Int)), (16, .slice A n c)] = some (pcA 192 t zs A n c) := by kernel_rfl
theorem pc_set (t : Nat) (zs : List Skp) (A : Option Addr) (n c : Nat) : (pcA 192 t zs A n c).setIfInBounds 0 (.int .u8 194) = pcA 194 t zs A n c := rfl
theorem pc_one (k t : Nat) (zs : List Skp) (A : Option Addr) (n c : Nat) : (pcA k t zs A n c).all (·.oneCell') = true := by simp [pcA, ckArr, Value.oneCell']
theorem exec_build_pc {ρ : Operand → Value} {o : Oper} {w : World} {x0 x5 x16 : Operand} (ho : o.op = .build 35 #[(0, x0), (5, x5), (16, x16)]) {t : Nat} {zs : List Skp} {A : Option Addr} {n c : Nat} (h0 : ρ x0 = .int .u8 192) (h5 : ρ x5 = .int .u32 (t : Int)) (h16 : ρ x16 = .slice A n c) :
    (execOp ρ o).run Try.prog w = .ok (.value (.agg (pcA 192 t zs A n c))) w := by
  refine exec_buildR ho ?_
  have e : ((#[(0, x0), (5, x5), (16, x16)] : Array (Nat × Operand)).map fun (i, x) => (i, ρ x)).toList = [(0, .int .u8 192), (5, .int .u32 (t : Int)), (16, .slice A n c)] := by simp [h0, h5, h16]
  rw [e]
  exact built_pc t zs A n c
theorem exec_alloc_zk {ρ : Operand → Value} {o : Oper} {w : World} (ho : o.op = .alloc 35) : (execOp ρ o).run Try.prog w = .ok (.value (.pointer (some ⟨w.heap.size, 0, none⟩))) (w.alloc (.cells zkA 35)) := by
  unfold execOp
  simp [ho, alloc_zk]
/-- What skips answers; the chunk that holds it; a variable for it. -/
structure SkL (V : World) (inter : Bool) (lf : Ln → Option Nat) (A : Option Addr) (n c : Nat) (zs : List Skp) : Prop where
  hn : n = zs.length
  hc : n ≤ c ∧ c ≤ 9223372036854775807
  ok : SkOk inter lf zs
  rd : Reads V V.heap.size 3 A n (skC zs)
  kd : ∀ ad, A = some ad → kd V ad.block = some (122 + 1)
theorem SkL.below {V V' : World} {inter : Bool} {lf : Ln → Option Nat} {A : Option Addr} {n c : Nat} {zs : List Skp} (h : SkL V inter lf A n c zs) (hb : Below V.heap.size V V') : SkL V' inter lf A n c zs := ⟨h.hn, h.hc, h.ok, (h.rd.below hb).more hb.size, fun ad e => by
  have h1 := h.kd ad e
  have h2 := hb.block ad.block (kd_lt h1)
  unfold Fl.kd at *
  rw [h2]; exact h1⟩
theorem reads_fr {w w' : World} {S : Nat → Prop} {B size n : Nat} {A : Option Addr} {xs : List Value} (k : Reads w B size A n xs) (hf : Fr S w w') (hB : B ≤ w.heap.size) (hA : ∀ x, A = some x → ¬ S x.block) : Reads w' B size A n xs :=
  ⟨k.1, fun hn => by
    obtain ⟨ad, e, hb, hc⟩ := k.2 hn
    refine ⟨ad, e, hb, fun j u hu => (World.cell?_of_block (hf.block _ (by rw [block_of_add]; omega) (by rw [block_of_add]; exact hA ad e))).trans (hc j u hu)⟩⟩
theorem SkL.set {V V' : World} {inter : Bool} {lf : Ln → Option Nat} {A : Option Addr} {n c g : Nat} {zs : List Skp} (h : SkL V inter lf A n c zs) (hf : Fr (fun i => i = g) V V') (hg : Fl.kd V g = some (35 + 1)) : SkL V' inter lf A n c zs := by
  have hne : ∀ ad : Addr, A = some ad → ¬ ad.block = g := fun ad e e2 => by
    have h1 := h.kd ad e
    rw [e2, hg] at h1
    exact absurd h1 (by decide)
  exact ⟨h.hn, h.hc, h.ok, (reads_fr h.rd hf (Nat.le_refl _) (fun x e e2 => hne x e e2)).more hf.size, fun ad e => kd_fr (h.kd ad e) hf (fun e2 => hne ad e e2)⟩
def SkV (inter : Bool) (lf : Ln → Option Nat) (v : Value) (V : World) : Prop := ∃ A n c zs, v = .slice A n c ∧ SkL V inter lf A n c zs
def PcV (t : Nat) (inter : Bool) (lf : Ln → Option Nat) (v : Value) (V : World) : Prop := ∃ A n c zs, v = .agg (pcA 192 t zs A n c) ∧ SkL V inter lf A n c zs
def BxV (L : Nat) (v : Value) (V : World) : Prop := ∃ g, v = .pointer (some ⟨g, 0, none⟩) ∧ L ≤ g ∧ CkBlk V g zkA
theorem SkV.lasts {inter : Bool} {lf : Ln → Option Nat} {v : Value} {V V' : World} (h : SkV inter lf v V) (hb : Below V.heap.size V V') : SkV inter lf v V' := by
  obtain ⟨A, n, c, zs, e, h⟩ := h
  exact ⟨A, n, c, zs, e, h.below hb⟩
theorem PcV.lasts {t : Nat} {inter : Bool} {lf : Ln → Option Nat} {v : Value} {V V' : World} (h : PcV t inter lf v V) (hb : Below V.heap.size V V') : PcV t inter lf v V' := by
  obtain ⟨A, n, c, zs, e, h⟩ := h
  exact ⟨A, n, c, zs, e, h.below hb⟩
theorem BxV.lasts {L : Nat} {v : Value} {V V' : World} (h : BxV L v V) (hb : Below V.heap.size V V') : BxV L v V' := by
  obtain ⟨g, e, hl, h⟩ := h
  exact ⟨g, e, hl, blk_below h hb⟩
section
variable {w w' : World} {p : Nat} {a : Ad} {m : FM} {s : FS} {inter : Bool}
theorem lat_ok (h : IvM m s) : ∀ k x, s.lat k = some x → k.1 < 65536 ∧ x < 4294967296 := by
  have key : ∀ (l : List Pt) (f : Ln → Option Nat), (∀ q ∈ l, q.c.ok) → (∀ k x, f k = some x → k.1 < 65536 ∧ x < 4294967296) → ∀ k x, (l.foldl latF f) k = some x → k.1 < 65536 ∧ x < 4294967296 := by
    intro l
    induction l with
    | nil => intro f _ hf k x hx; exact hf k x hx
    | cons q l ih =>
      intro f hq hf
      refine ih _ (fun r hr => hq r (List.mem_cons_of_mem _ hr)) (fun k x hx => ?_)
      unfold latF at hx
      have hok := hq q List.mem_cons_self
      split at hx
      · rename_i e
        injection hx with hx
        refine ⟨by rw [e]; exact hok.st, ?_⟩
        rw [← hx]
        unfold laterN
        split
        · exact hok.mid
        · cases hfk : f k with
          | none => exact hok.mid
          | some y => exact (hf k y hfk).2
      · exact hf k x hx
  exact key s.row _ (fun q hq => (h.ok q (List.takeWhile_subset _ hq)).ok) (fun k x hx => by cases hx)
theorem ck_pc {w : World} {k t : Nat} {zs : List Skp} {A : Option Addr} {n c : Nat} {lf : Ln → Option Nat} (hk : k < 256) (ht : t < 4294967296) (hl : ∀ k x, lf k = some x → k.1 < 65536 ∧ x < 4294967296) (h : SkL w inter lf A n c zs) : CkAt w w.heap.size (pcA k t zs A n c) (pcK k t zs) := by
  obtain ⟨rfl, hc, ok, rd, _⟩ := h
  refine ⟨⟨hk, ht, by show 0 < _; omega, by show 0 < _; omega, by show 0 < _; omega, by show 0 < _; omega, by show 0 < _; omega, by show 0 < _; omega, by show 0 < _; omega, by show 0 < _; omega, fun _ h => by simp [pcK, zeroC] at h, fun _ h => by simp [pcK, zeroC] at h, fun x hx => ?_, fun _ h => by simp [pcK, zeroC] at h⟩, ⟨none, 0⟩, ⟨none, 0⟩, ⟨A, c⟩, ⟨none, 0⟩, ⟨none, 0⟩, ?_⟩
  · exact hl _ _ ((ok.mem x).1 hx).1
  · exact ⟨rfl, ⟨Nat.le_refl _, by simp [pcK, zeroC]⟩, ⟨Nat.le_refl _, by simp [pcK, zeroC]⟩, hc, ⟨Nat.le_refl _, by simp [pcK, zeroC]⟩, ⟨Nat.le_refl _, by simp [pcK, zeroC]⟩, Reads.none_, Reads.none_, rd, Ps.nil _ _ _, by unfold Byt; exact Reads.none_⟩
theorem zk_at (w : World) (B : Nat) : CkAt w B zkA (zeroC 0) := by
  have h := rest_ok (c := zeroC 0) ⟨by show 0 < _; omega, by show 0 < _; omega, by show 0 < _; omega, by show 0 < _; omega, by show 0 < _; omega, by show 0 < _; omega, by show 0 < _; omega, by show 0 < _; omega, by show 0 < _; omega, by show 0 < _; omega, fun _ h => by simp [zeroC] at h, fun _ h => by simp [zeroC] at h, fun _ h => by simp [zeroC] at h, fun _ h => by simp [zeroC] at h⟩
  exact ck_body (c := zeroC 0) h rfl rfl rfl rfl rfl (Nat.le_refl _) (by omega) (by unfold Byt; exact Reads.none_)
def PointDone (w : World) (p : Nat) (a : Ad) (m : FM) (s : FS) (inter : Bool) (e : Ending) (w' : World) : Prop := ∃ (cs : Array Value) (c : Ck) (ok : Bool) (m' : FM), e = .returned (.tuple #[.agg cs, .bool ok]) ∧ CkAt w' w'.heap.size cs c ∧ ((s.row = [] ∧ ok = false ∧ c = zeroC 0) ∨ (s.row ≠ [] ∧ ok = true ∧ ∃ sk, SkOk inter s.lat sk ∧ c = pointC s inter sk)) ∧ FlS w' p a m' s ∧ Stp w w' p a m a m' ∧ ∀ (ad : Addr) (n cp : Nat), cs[16]? = some (.slice (some ad) n cp) → kd w' ad.block = some (122 + 1)
set_option maxHeartbeats 8000000 in
theorem point_s (h : FlS w p a m s) : Calls Try.prog 15 #[fptr p, .bool inter] w (PointDone w p a m s inter) := by
  have hB1 := below_one w (.cells zkA 35)
  have k1 := Blk.new w 35 zkA
  obtain ⟨W1, hW1⟩ : ∃ W1, W1 = w.alloc (.cells zkA 35) := ⟨_, rfl⟩
  obtain ⟨g4, hg4⟩ : ∃ g4, g4 = w.heap.size := ⟨_, rfl⟩
  rw [← hW1] at hB1 k1
  rw [← hg4] at k1
  have h1 := h.below hB1
  have HS1 := Lib.hid h1
  have HB1 := Lib.hid hB1
  have HK1 := Lib.hid k1
  have HG4 : Hid (w.heap.size ≤ g4) := by rw [hg4]; exact Nat.le_refl _
  have HN4 : Hid (¬ FG p a m g4) := fun e => by have := h.mem.lt e; omega
  have c1 : W1.cell? ⟨p, 1, none⟩ = some a.v := h1.mem.blk.cell 1
  have HLO : Hid (∀ k x, s.lat k = some x → k.1 < 65536 ∧ x < 4294967296) := lat_ok h.inv
  obtain ⟨A, cp, hv, _, _, _⟩ := h.list
  rw [hv] at c1
  have HV := Lib.hid hv
  obtain ⟨N, hN⟩ : ∃ N, N = s.ps.length := ⟨_, rfl⟩
  rw [← hN] at c1
  have HN := Lib.hid hN
  clear h h1 hB1 k1 hv hN
  go_enter Try.func15, Try.ntmps15
  go_upto_region 1 with (with_reducible refine wpList_alloc_run _ rfl 35 rfl (alloc_zk _) ?_)
  rw [← hW1, ← hg4]
  clear hW1 hg4
  go_still_tail 7, (by kernel_rfl)
  change wpList _ _ _ _ _ W1.drew
  obtain ⟨V1, hV1⟩ : ∃ V1, V1 = W1.drew := ⟨_, rfl⟩
  have hbd : Below W1.heap.size W1 V1 := by rw [hV1]; exact Below.drew (Below.refl _ _)
  rw [← hV1]
  have HSV := Lib.hid (HS1.out.below hbd)
  have HKV := Lib.hid (blk_below HK1.out hbd)
  have HBV : Hid (Below w.heap.size w V1) := HB1.out.trans (hbd.mono HB1.out.size)
  have hex := extend_s HSV.out
  rw [HV.out, ← HN.out] at hex
  clear hV1 hbd c1 HS1 HK1 HB1
  go_wp2_with fail
  refine hex.mono ?_
  rintro e W2 ⟨m1, rfl, hs1, ht1, hrl, hlf⟩
  have HS2 := Lib.hid hs1
  have HT2 : Hid (Stp w W2 p a m a m1) := ⟨((Fr.refl (FG p a m) w).grows HBV.out).same ht1.fr, fun i hi => (ht1.sub i hi).imp id (fun e => Nat.le_trans HBV.out.size e)⟩
  have HK2 : Hid (CkBlk W2 g4 zkA) := ht1.fr.blk HKV.out HN4.out
  have HN42 : Hid (¬ FG p a m1 g4) := fun e => by
    rcases ht1.sub g4 e with h3 | h3
    · exact HN4.out h3
    · have := HKV.out.lt; omega
  have HRL := Lib.hid hrl
  have HLF := Lib.hid hlf
  obtain ⟨rl, hrle⟩ : ∃ rl, rl = m1.rl := ⟨_, rfl⟩
  have HRE := Lib.hid hrle
  have c9 : W2.cell? ⟨p, 9, none⟩ = some (.int .i64 (rl : Int)) := by rw [hrle]; exact hs1.mem.blk.cell 9
  have hrb : rl ≤ 1048576 := by rw [hrle]; exact Nat.le_trans hs1.inv.rl.1 hs1.inv.lt
  clear hs1 ht1 hrl hlf hrle hex HSV HKV
  by_cases h0 : rl = 0
  · subst h0
    go_wp2_with (first
      | (refine wpList_build_0 rfl 35 rfl zkA built_zk ?_)
      | (refine wpList_store_row rfl 35 _ _ rfl g4 zkA rfl rfl 35 zkA HK2.out chunk_info rfl (bareA_one _ _ _ _) ?_))
    (try simp only [Exit.inBlock, Exit.then])
    refine bodyPost_ret (res_ct rfl _ _ g4 zkA rfl rfl (setRow_blk HK2.out)) rfl ?_
    have hf := setRow_fr W2 g4 zkA
    refine ⟨zkA, zeroC 0, false, m1, rfl, zk_at _ _, .inl ⟨List.eq_nil_of_length_eq_zero (by rw [← HRL.out]; exact HRE.out.symm), rfl, rfl⟩, ⟨HS2.out.mem.fr hf (fun i e _ hx => HN42.out (by rw [← show i = g4 from e]; exact hx)), HS2.out.inv⟩, ⟨HT2.out.fr.trans hf (fun x hx e => by have h1 := HG4.out; have h2 : x = g4 := e; omega), HT2.out.sub⟩, fun ad n cp e => by
      have e' : (some nilV : Option Value) = some (.slice (some ad) n cp) := e
      injection e' with e'
      injection e' with e' _ _
      cases e'⟩
  · have hz : ((rl : Int) == 0) = false := beq_no (by omega)
    have hz2 : ¬ (rl : Int) = 0 := by omega
    go_upto_region 4 with (fail)
    obtain ⟨mk, hmk⟩ : ∃ mk, mk = s.mark := ⟨_, rfl⟩
    obtain ⟨t, ht⟩ : ∃ t, t = (mk + rl) % 4294967296 := ⟨_, rfl⟩
    have hw1 : IntKind.u32.wrap (rl : Int) = (rl : Int) := by rw [IntKind.wrap_u32]; omega
    have hw2 : IntKind.u32.wrap ((mk : Int) + (rl : Int)) = (t : Int) := by rw [IntKind.wrap_u32]; omega
    have HMK := Lib.hid hmk
    have HTT := Lib.hid ht
    obtain ⟨V2, hV2⟩ : ∃ V2, V2 = W2.drew := ⟨_, rfl⟩
    have HV2 := Lib.hid hV2
    have hbd : Below W2.heap.size W2 V2 := by rw [hV2]; exact Below.drew (Below.refl _ _)
    have HS3 := Lib.hid (HS2.out.below hbd)
    have HK3 : Hid (CkBlk V2 g4 zkA) := blk_below HK2.out hbd
    have HT3 := Lib.hid (HT2.out.grows hbd)
    have HCE : Hid (∀ V, Below V2.heap.size V2 V → V.cell? ⟨p, 0, none⟩ = some (.int .u32 (mk : Int)) ∧ V.cell? ⟨p, 9, none⟩ = some (.int .i64 (rl : Int)) ∧ FlM V p a m1) := fun V hb => by
      have hm := HS3.out.mem.below hb
      refine ⟨?_, by rw [HRE.out]; exact hm.blk.cell 9, hm⟩
      have h5 := hm.blk.cell 0
      rw [HS3.out.inv.mk_, ← HMK.out] at h5
      exact h5
    clear hmk ht hV2 hbd HS2 HK2 HT2 c9
    refine wp_region_stage_tail 18 (fun _ V V' => Below V.heap.size V V') (fun _ V => Below V2.heap.size V2 V) [(false, .exact (fptr p)),
        (false, .exact (fptr p)),
        (false, .exact (.pointer (some ⟨p, 0, none⟩))),
        (false, .exact (.int .u32 (mk : Int))),
        (false, .exact (fptr p)),
        (false, .exact (fptr p)),
        (false, .exact (.pointer (some ⟨p, 9, none⟩))),
        (false, .exact (.pointer (some ⟨p, 9, none⟩))),
        (false, .exact (.int .i64 (rl : Int))),
        (false, .exact (.int .u32 (rl : Int))),
        (false, .exact (.int .u32 (t : Int))),
        (false, .exact (fptr p)),
        (false, .exact (fptr p)),
        (false, .exact (.pointer (some ⟨p, 9, none⟩))),
        (false, .exact (.bool inter)),
        (false, .grows (SkV inter s.lat)),
        (false, .grows (PcV t inter s.lat)),
        (false, .grows (BxV V2.heap.size))] (by kernel_rfl) (by kernel_rfl) (by kernel_rfl) rfl (of_decide_eq_true (by kernel_rfl)) (by kernel_rfl) (by kernel_rfl) ?lasts ?start ?walk
    case lasts => exact ⟨fun m v V V' _ h k => SkV.lasts h k, fun m v V V' _ h k => PcV.lasts h k, fun m v V V' _ h k => BxV.lasts h k, trivial⟩
    case start => exact (by rw [← HV2.out]; exact Below.refl _ _)
    case walk =>
      simp only [List.take_succ_cons, List.take_zero, List.drop_succ_cons, List.drop_zero]
      refine stageT_pure rfl (fun _ V => Below.refl _ V) (fun V m hS hl => by go_simp) ?_
      simp only [Act.put, List.setIfInBounds_toArray, List.set_cons_zero, List.set_cons_succ, List.cons_append, List.nil_append]
      refine stageT_pure rfl (fun _ V => Below.refl _ V) (fun V m hS hl => by go_simp) ?_
      simp only [Act.put, List.setIfInBounds_toArray, List.set_cons_zero, List.set_cons_succ, List.cons_append, List.nil_append]
      refine stageT_pure rfl (fun _ V => Below.refl _ V) (fun V m hS hl => by go_simp) ?_
      simp only [Act.put, List.setIfInBounds_toArray, List.set_cons_zero, List.set_cons_succ, List.cons_append, List.nil_append]
      refine stageT_pure rfl (fun _ V => Below.refl _ V) (fun V m hS hl => by
          have hc := (HCE.out V hS).1
          go_simp) ?_
      simp only [Act.put, List.setIfInBounds_toArray, List.set_cons_zero, List.set_cons_succ, List.cons_append, List.nil_append]
      refine stageT_pure rfl (fun _ V => Below.refl _ V) (fun V m hS hl => by go_simp) ?_
      simp only [Act.put, List.setIfInBounds_toArray, List.set_cons_zero, List.set_cons_succ, List.cons_append, List.nil_append]
      refine stageT_pure rfl (fun _ V => Below.refl _ V) (fun V m hS hl => by go_simp) ?_
      simp only [Act.put, List.setIfInBounds_toArray, List.set_cons_zero, List.set_cons_succ, List.cons_append, List.nil_append]
      refine stageT_pure rfl (fun _ V => Below.refl _ V) (fun V m hS hl => by go_simp) ?_
      simp only [Act.put, List.setIfInBounds_toArray, List.set_cons_zero, List.set_cons_succ, List.cons_append, List.nil_append]
      refine stageT_pure rfl (fun _ V => Below.refl _ V) (fun V m hS hl => by go_simp) ?_
      simp only [Act.put, List.setIfInBounds_toArray, List.set_cons_zero, List.set_cons_succ, List.cons_append, List.nil_append]
      refine stageT_pure rfl (fun _ V => Below.refl _ V) (fun V m hS hl => by
          have hc := (HCE.out V hS).2.1
          go_simp) ?_
      simp only [Act.put, List.setIfInBounds_toArray, List.set_cons_zero, List.set_cons_succ, List.cons_append, List.nil_append]
      refine stageT_pure rfl (fun _ V => Below.refl _ V) (fun V m hS hl => by go_simp) ?_
      simp only [Act.put, List.setIfInBounds_toArray, List.set_cons_zero, List.set_cons_succ, List.cons_append, List.nil_append]
      refine stageT_pure rfl (fun _ V => Below.refl _ V) (fun V m hS hl => by go_simp) ?_
      simp only [Act.put, List.setIfInBounds_toArray, List.set_cons_zero, List.set_cons_succ, List.cons_append, List.nil_append]
      refine stageT_pure rfl (fun _ V => Below.refl _ V) (fun V m hS hl => by go_simp) ?_
      simp only [Act.put, List.setIfInBounds_toArray, List.set_cons_zero, List.set_cons_succ, List.cons_append, List.nil_append]
      refine stageT_pure rfl (fun _ V => Below.refl _ V) (fun V m hS hl => by go_simp) ?_
      simp only [Act.put, List.setIfInBounds_toArray, List.set_cons_zero, List.set_cons_succ, List.cons_append, List.nil_append]
      refine stageT_pure rfl (fun _ V => Below.refl _ V) (fun V m hS hl => by go_simp) ?_
      simp only [Act.put, List.setIfInBounds_toArray, List.set_cons_zero, List.set_cons_succ, List.cons_append, List.nil_append]
      refine stageT_pure rfl (fun _ V => Below.refl _ V) (fun V m hS hl => by go_simp) ?_
      simp only [Act.put, List.setIfInBounds_toArray, List.set_cons_zero, List.set_cons_succ, List.cons_append, List.nil_append]
      refine stageT_grows rfl (fun V m hS hl => by
          go_simp
          refine Calls.mono (skips_s (HCE.out V hS).2.2) ?_
          rintro e V' ⟨A, n, c, zs, rfl, e1, e2, e3, e4, e5, hb, e6⟩
          exact ⟨_, rfl, hb, ⟨A, n, c, zs, rfl, ⟨e1, ⟨e2, e3⟩, by rw [← HLF.out]; exact e4, e5, e6⟩⟩, hS.trans (hb.mono hS.size)⟩) (fun v37 => ?_)
      simp only [Act.put, List.setIfInBounds_toArray, List.set_cons_zero, List.set_cons_succ, List.cons_append, List.nil_append]
      refine stageT_grows rfl (fun V m hS hl => by
          obtain ⟨A, n, c, zs, e1, hk⟩ := (hl.1 (by kernel_rfl))
          show Words.Leaves _ _ _
          rw [exec_build_pc (zs := zs) rfl rfl rfl e1]
          exact ⟨Below.refl _ _, ⟨A, n, c, zs, rfl, hk⟩, hS⟩) (fun v38 => ?_)
      simp only [Act.put, List.setIfInBounds_toArray, List.set_cons_zero, List.set_cons_succ, List.cons_append, List.nil_append]
      refine stageT_grows rfl (fun V m hS hl => by
          show Words.Leaves _ _ _
          rw [exec_alloc_zk rfl]
          exact ⟨below_one _ _, ⟨_, rfl, hS.size, Blk.new _ _ _⟩, hS.trans ((below_one _ _).mono hS.size)⟩) (fun v6 => ?_)
      simp only [Act.put, List.setIfInBounds_toArray, List.set_cons_zero, List.set_cons_succ, List.cons_append, List.nil_append]
      refine stageT_nil (fun V5 hS hF => ?_)
      have hF2 : SkV inter s.lat v37 V5 ∧ PcV t inter s.lat v38 V5 ∧ BxV V2.heap.size v6 V5 ∧ True := hF
      obtain ⟨A8, n8, c8, zs, hv38, hsk⟩ := hF2.2.1
      obtain ⟨g6, hv6, hg6, hk6⟩ := hF2.2.2.1
      have hb5 : Below V2.heap.size V2 V5 := hS
      obtain ⟨R, hR⟩ : ∃ R, R = pcA 192 t zs A8 n8 c8 := ⟨_, rfl⟩
      rw [hv38, hv6, ← hR]
      have HR := Lib.hid hR
      have HRS : Hid (R.size = 19) := by rw [hR]; rfl
      have HCI : Hid ((Try.prog.info? 35).map (·.size) = some R.size) := by rw [HRS.out]; exact chunk_info
      have HZS : Hid (zkA.size = R.size) := by rw [HRS.out]; rfl
      have HR1 : Hid (R.all (·.oneCell') = true) := by rw [hR]; exact pc_one _ _ _ _ _ _
      have HSK := Lib.hid hsk
      have HK6 := Lib.hid hk6
      have HG6 : Hid (V2.heap.size ≤ g6) := hg6
      have HB5 := Lib.hid hb5
      have HK45 := Lib.hid (blk_below HK3.out hb5)
      clear hF hF2 hS hv38 hv6 hsk hg6 hk6 hb5 hR HCE
      obtain ⟨V6, hV6⟩ : ∃ V6, V6 = V5.setRow g6 R := ⟨_, rfl⟩
      have hf6 : Fr (fun i => i = g6) V5 V6 := by rw [hV6]; exact setRow_fr _ _ _
      have HKR : Hid (Blk V6 g6 35 R) := by rw [hV6]; exact setRow_blk HK6.out
      have hg46 : g4 ≠ g6 := fun e => by have h1 := HK3.out.lt; have h2 := HG6.out; omega
      have HK46 : Hid (CkBlk V6 g4 zkA) := hf6.blk HK45.out hg46
      have HB6 : Hid (Below V2.heap.size V2 V6) := below_fr HB5.out hf6 (Nat.le_refl _) (fun i e => by rw [show i = g6 from e]; exact HG6.out)
      have HSK6 : Hid (SkL V6 inter s.lat A8 n8 c8 zs) := HSK.out.set hf6 (kd_blk HK6.out)
      have c0 : V6.cell? ⟨g6, 0, none⟩ = some (.int .u8 192) := (HKR.out.cell 0).trans (by rw [HR.out]; rfl)
      have f0 := HKR.out.frozen 0
      have HEND : Hid (∀ (k : Nat) (V7 : World) (R' : Array Value), k = (if inter = true then 194 else 192) → R' = pcA k t zs A8 n8 c8 → Fr (fun i => i = g6) V6 V7 → PointDone w p a m s inter (.returned (.tuple #[.agg R', .bool true])) (V7.setRow g4 R')) := fun k V7 R' hk hR' hf7 => by
        have hb7 : Below V2.heap.size V2 V7 := below_fr HB6.out hf7 (Nat.le_refl _) (fun i e => by rw [show i = g6 from e]; exact HG6.out)
        have hf4 : Fr (fun i => i = g4) V7 (V7.setRow g4 R') := setRow_fr _ _ _
        have h47 : CkBlk V7 g4 zkA := hf7.blk HK46.out (fun e => by have e' : g4 = g6 := e; have h1 := HK3.out.lt; have h2 := HG6.out; omega)
        have hs7 := HS3.out.below hb7
        have hl := (HSK6.out.set hf7 (kd_blk HKR.out)).set hf4 (kd_blk h47)
        have htb : t < 4294967296 := by rw [HTT.out]; exact Nat.mod_lt _ (by omega)
        have hck := ck_pc (k := k) (by rw [hk]; split <;> omega) htb HLO.out hl
        rw [← hR'] at hck
        have hrow : rl = s.row.length := by rw [HRE.out, HRL.out]
        refine ⟨R', pcK k t zs, true, m1, rfl, hck, .inr ⟨fun e => h0 (by rw [hrow, e]; rfl), rfl, zs, hl.ok, ?_⟩, ⟨hs7.mem.fr hf4 (fun i e _ hx => HN42.out (by rw [← show i = g4 from e]; exact hx)), hs7.inv⟩, ⟨(HT3.out.fr.grows hb7).trans hf4 (fun x hx e => by have h1 := HG4.out; have h2 : x = g4 := e; omega), HT3.out.sub⟩, fun ad n cp e => ?_⟩
        rotate_left
        · rw [hR'] at e
          have e' : (some (.slice A8 n8 c8) : Option Value) = some (.slice (some ad) n cp) := e
          injection e' with e'
          injection e' with e' _ _
          exact hl.kd ad e'
        unfold pcK pointC
        rw [hk, HTT.out, HMK.out, hrow]
      clear hf6 hg46 HK45 HB5 hz hz2 hw1 hw2
      go_upto_region 5 with (refine wpList_store_row rfl 35 _ _ rfl g6 R rfl rfl 35 zkA HK6.out HCI.out HZS.out HR1.out ?_)
      rw [← hV6]
      clear hV6
      cases inter
      · have HE := Lib.hid (HEND.out 192 V6 R rfl HR.out (Fr.refl _ _))
        go_wp2_with (first
          | (refine wpList_load_row rfl 35 _ rfl g6 rfl 35 R (0, 0) _ HKR.out Try.underlying35 rfl HCI.out ?_)
          | (refine wpList_store_row rfl 35 _ _ rfl g4 R rfl rfl 35 zkA HK46.out HCI.out HZS.out HR1.out ?_))
        (try simp only [Exit.inBlock, Exit.then])
        refine bodyPost_ret (res_ct rfl _ _ g4 R HRS.out rfl (setRow_blk HK46.out)) rfl ?_; exact HE.out
      · obtain ⟨R2, hR2⟩ : ∃ R2, R2 = pcA 194 t zs A8 n8 c8 := ⟨_, rfl⟩
        obtain ⟨V7, hV7⟩ : ∃ V7, V7 = V6.setCell ⟨g6, 0, none⟩ (.int .u8 194) := ⟨_, rfl⟩
        have hf7 : Fr (fun i => i = g6) V6 V7 := by rw [hV7]; exact fr_set _
        have HKR2 : Hid (Blk V7 g6 35 R2) := by
          have h1 := HKR.out.set_ 0 (.int .u8 194)
          rw [HR.out, pc_set] at h1
          rw [hV7, hR2]
          exact h1
        have HE := Lib.hid (HEND.out 194 V7 R2 rfl hR2 hf7)
        have HRS2 : Hid (R2.size = 19) := by rw [hR2]; rfl
        have HCI2 : Hid ((Try.prog.info? 35).map (·.size) = some R2.size) := by rw [HRS2.out]; exact chunk_info
        have HZS2 : Hid (zkA.size = R2.size) := by rw [HRS2.out]; rfl
        have HR12 : Hid (R2.all (·.oneCell') = true) := by rw [hR2]; exact pc_one _ _ _ _ _ _
        have HK47 : Hid (CkBlk V7 g4 zkA) := hf7.blk HK46.out (fun e => by have e' : g4 = g6 := e; have h1 := HK3.out.lt; have h2 := HG6.out; omega)
        clear hR2 hf7 HEND
        go_upto_region 7 with (fail)
        rw [← hV7]
        clear hV7 c0 f0
        go_wp2_with (first
          | (refine wpList_load_row rfl 35 _ rfl g6 rfl 35 R2 (0, 0) _ HKR2.out Try.underlying35 rfl HCI2.out ?_)
          | (refine wpList_store_row rfl 35 _ _ rfl g4 R2 rfl rfl 35 zkA HK47.out HCI2.out HZS2.out HR12.out ?_))
        (try simp only [Exit.inBlock, Exit.then])
        refine bodyPost_ret (res_ct rfl _ _ g4 R2 HRS2.out rfl (setRow_blk HK47.out)) rfl ?_; exact HE.out
end
end Go.Proofs.Ytfgfiiknbkakaaa.Fl

set_option linter.unusedVariables false
set_option linter.unusedSimpArgs false
set_option maxRecDepth 20000
namespace Go.Proofs.Ytfgfiiknbkakaaa.Fl
open Go.ChangeShapes Go.WideShapes Go.ChangeAt Go.RowKit Go.Deep Go.Maps Go.Proofs.Ytfgfiiknbkakaaa.Words Go.Proofs.Ytfgfiiknbkakaaa.Oct Go.Proofs.Ytfgfiiknbkakaaa.Par Go.Proofs.Ytfgfiiknbkakaaa.Chk Go.Proofs.Ytfgfiiknbkakaaa.Mx
/-- The flight in memory, its blocks told. -/
def FR (w : World) (G : Nat → Prop) (p : Nat) (s : FS) : Prop := ∃ a m, (∀ i, G i ↔ FG p a m i) ∧ FlS w p a m s ∧ MiOk s
section
variable {w w' : World} {G : Nat → Prop} {p : Nat} {a a' : Ad} {m m' : FM} {s s' : FS}
theorem FR.of (h : FlS w p a m s) (hm : MiOk s) : FR w (FG p a m) p s := ⟨a, m, fun _ => Iff.rfl, h, hm⟩
theorem Stp.sub' (h : Stp w w' p a m a' m') (hG : ∀ i, G i ↔ FG p a m i) : ∀ i, FG p a' m' i → G i ∨ w.heap.size ≤ i := fun i hi => (h.sub i hi).imp (fun e => (hG i).2 e) id
theorem Stp.fr' (h : Stp w w' p a m a' m') (hG : ∀ i, G i ↔ FG p a m i) : Fr G w w' := h.fr.mono fun i _ e => (hG i).2 e
theorem late_mi (h : MiOk s) : MiOk s.late := fun q hq h0 => by
  change q ∈ s.ps.map _ at hq
  obtain ⟨x, hx, rfl⟩ := List.mem_map.1 hq
  by_cases e : x.st = 0
  · rw [if_pos e] at h0
    cases h0
  · rw [if_neg e] at h0
    exact absurd h0 e
theorem send_mi (h : MiOk s) (k : Int) (lk ln : Nat) (c : Ck) (now : Nat) : MiOk (s.send k lk ln c now) := fun q hq h0 => by
  change q ∈ s.ps ++ [_] at hq
  rcases List.mem_append.1 hq with hq | hq
  · exact h q hq h0
  · rw [List.mem_singleton.1 hq]; exact Nat.zero_le _
theorem FlM.nskip (h : FlM w p a m) {i : Nat} (hi : FG p a m i) : kd w i ≠ some (122 + 1) := by
  rcases hi with rfl | hi | rfl | rfl | rfl | rfl | ⟨k, hk, hi⟩ | ⟨x, hx, hi⟩
  · rw [kd_blk h.blk]; decide
  · rw [kd_psv h.prt hi]; decide
  · rw [kd_mapz h.gon]; decide
  · rw [kd_mapz h.num]; decide
  · rw [kd_mapx h.dea]; decide
  · rw [kd_mapx h.lat]; decide
  · rw [kd_num (h.row k hk) hi]; decide
  · rw [kd_own (h.bod x hx) hi]; decide
theorem flI : FlI FR where
  fr := by
    rintro w w' G S p s ⟨a, m, hG, h, hm⟩ hf hn
    exact ⟨a, m, hG, ⟨h.mem.fr hf (fun i hi hl hx => hn i hi hl ((hG i).2 hx)), h.inv⟩, hm⟩
  lt := by
    rintro w G p s ⟨a, m, hG, h, hm⟩ i hi
    exact h.mem.lt ((hG i).1 hi)
  bd := by
    rintro w G p s ⟨a, m, hG, h, hm⟩
    exact ⟨h.inv.mark, h.inv.len.1, h.inv.len.2⟩
  new := by
    intro w M hM
    refine (new_s w M hM).mono ?_
    rintro e w' ⟨p, a, m, rfl, h, hm, hg, hb⟩
    exact ⟨FG p a m, p, rfl, FR.of h hm, hg, hb⟩
  send := by
    rintro w G p s k lk ln now c A n cp ⟨a, m, hG, h, hm⟩ h1 h2 h3 h4 h5 h6 h7 h8 h9 hn hnc hcp hy hA
    refine (send_s h h1 h2 h3 h4 h5 h6 h7 h8 h9 hn hy (fun ad e hx => hA ad e ((hG _).2 hx))).mono ?_
    rintro e w' ⟨A', cp', a', m', rfl, hs, ht⟩
    exact ⟨A', cp', FG p a' m', by rw [hn], FR.of hs (send_mi hm _ _ _ _ _), ht.sub' hG, ht.fr' hG⟩
  ack := by
    rintro w G p s cs c now ⟨a, m, hG, h, hm⟩ hnow hc hg
    refine (ack_s h hm hnow hc (fun ad n cp e hx => hg ad n cp e ((hG _).2 hx))).mono ?_
    rintro e w' ⟨a', m', rfl, hs, hm', ht⟩
    exact ⟨FG p a' m', rfl, FR.of hs hm', ht.sub' hG, ht.fr' hG⟩
  late := by
    rintro w G p s ⟨a, m, hG, h, hm⟩
    refine (late_s h).mono ?_
    rintro e w' ⟨k, m', rfl, hs, ht⟩
    exact ⟨k, FG p a m', rfl, FR.of hs (late_mi hm), ht.sub' hG, ht.fr' hG⟩
  again := by
    rintro w G p s now ⟨a, m, hG, h, hm⟩ hnow
    refine (again_s h hm hnow).mono ?_
    rintro e w' ⟨c, A, cp, ok, s', r, m', rfl, h1, h2, hs, hm', ht⟩
    exact ⟨c, A, cp, ok, s', r, FG p a m', rfl, h1, h2, FR.of hs hm', ht.sub' hG, ht.fr' hG⟩
  expire := by
    rintro w G p s now ⟨a, m, hG, h, hm⟩ hnow
    refine (expire_s h hm hnow).mono ?_
    rintro e w' ⟨v, l, m', rfl, h1, h2, h3, hs, hm', ht, hv⟩
    exact ⟨v, l, FG p a m', rfl, h1, h2, h3, FR.of hs hm', ht.sub' hG, hv, ht.fr' hG⟩
  point := by
    rintro w G p s inter ⟨a, m, hG, h, hm⟩
    refine (point_s h).mono ?_
    rintro e w' ⟨cs, c, ok, m', rfl, h1, h2, hs, ht, hk⟩
    exact ⟨cs, c, ok, FG p a m', rfl, h1, h2, FR.of hs hm, ht.sub' hG, fun ad n cp e => ⟨fun hx => hs.mem.nskip hx (hk ad n cp e), kd_lt (hk ad n cp e)⟩, ht.fr' hG⟩
  left := by
    rintro w G p s ⟨a, m, hG, h, hm⟩
    refine (left_s h).mono ?_
    rintro e w' ⟨rfl, rfl⟩
    exact ⟨rfl, Below.refl _ _⟩
  bytes := by
    rintro w G p s ⟨a, m, hG, h, hm⟩
    refine (bytes_s h).mono ?_
    rintro e w' ⟨rfl, rfl⟩
    exact ⟨rfl, Below.refl _ _⟩
  next := by
    rintro w G p s ⟨a, m, hG, h, hm⟩
    exact next_s h
  mark := by
    rintro w G p s ⟨a, m, hG, h, hm⟩
    refine (mark_s h).mono ?_
    rintro e w' ⟨rfl, rfl⟩
    exact ⟨rfl, Below.refl _ _⟩
end
end Go.Proofs.Ytfgfiiknbkakaaa.Fl
