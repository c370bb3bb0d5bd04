/-
  Of the texts TmR2, TmR3, MapX, FlPlain, FlMap: what the laws reach.
-/
import Derived.Test.YtfgfiiknbkakaaaTB3
import Derived.Test.YtfgfiiknbkakaaaTB1
import Derived.Maps.Range
import Derived.Maps.OwnSet
import Derived.Test.YtfgfiiknbkakaaaTB2
import Derived.IntWalk
import Derived.OpenShut
import Derived.DeepKeys4

set_option linter.unusedVariables false
set_option linter.unusedSimpArgs false
set_option maxRecDepth 20000
namespace Go.Proofs.Ytfgfiiknbkakaaa.Tm
open Go.ChangeShapes Go.WideShapes Go.ChangeAt Go.RowKit Go.Deep Go.Proofs.Ytfgfiiknbkakaaa.Words
section
variable {w w' W V : World} {p n cap i B : Nat} {A : Option Addr} {L M l : List K} {G S : Nat → Prop} {k : Int} {x y : K} {a : Nat}
theorem blk2 (W : World) (x : K) : Reads (W.alloc (.cells #[.int .i64 x.2, .int .u64 (x.1 : Int)] 74)) (W.heap.size + 1) 2 (some ⟨W.heap.size, 0, none⟩) 1 (tmC [x]) := by
  have h := Blk.new W 74 #[.int .i64 x.2, .int .u64 (x.1 : Int)]
  refine ⟨rfl, fun _ => ⟨_, rfl, Nat.lt_succ_self _, fun j u hu => ?_⟩⟩
  rw [h.cellAdd j, ← Array.getElem?_toList]
  exact hu
set_option maxHeartbeats 3200000 in
theorem rstop_t (h : RT w G p L) (hk : -9223372036854775808 ≤ k ∧ k ≤ 9223372036854775807) : Calls Try.prog 21 #[tptr p, .int .i64 k] w (RStopDone w G p L k) := by
  have hG : ∀ i, G i → i < w.heap.size := fun i hi => rt_rep.lt h i hi
  obtain ⟨A, n, cap, h⟩ := h
  obtain ⟨i0, hi0, hz0, hz1, hz2⟩ := info_parts3 tm_info
  have hn := h.hn
  have hfew := h.few
  have hcp := h.hc
  have HGG := Lib.hid hG
  have HN := Lib.hid hn
  have HS0 : Hid (StS w w G p L A n cap (stop k (L.take 0)) (.slice none 0 0)) := ⟨h, Below.refl _ _, World.ownsRow_nil _ _ _ _⟩
  have c0 : w.cell? ⟨p, 0, none⟩ = some (.slice A n cap) := h.blk.cell 0
  have hnb : n ≤ 1000000 := by omega
  have HF := Lib.hid hfew
  have HOK := Lib.hid h.ok
  clear h hG hn hfew
  go_enter Try.func21, Try.ntmps21
  go_upto_region 3 with (fail)
  obtain ⟨wo, hwo⟩ : ∃ wo : World, wo = w := ⟨_, rfl⟩
  go_loopw [5, 7, 14] (fun v5 _ v14 wr => ∃ (i m : Nat) (Av : Option Addr) (cv : Nat), v5 = .slice Av m cv ∧ v14 = .int .i64 (i : Int) ∧ i ≤ n ∧ m ≤ i ∧ m ≤ cv ∧ cv ≤ 9223372036854775807 ∧ Hid (m = (stop k (L.take i)).length ∧ StS w wr G p L A n cap (stop k (L.take i)) (.slice Av m cv))) (fun _ _ v14 _ => n - (intOf v14).toNat)
  case atStart => exact ⟨0, 0, none, 0, rfl, rfl, Nat.zero_le _, Nat.le_refl _, Nat.le_refl _, by omega, rfl, HS0⟩
  case round =>
    clear HS0 c0
    obtain ⟨i, m, Av, cv, rfl, rfl, hi, hm, hmc, hcv, HS⟩ := hrel
    by_cases hin : i < n
    · obtain ⟨ad, x, rfl, hB, hx, c1, c2⟩ := tm_at HS.out.2.rep.rd HN.out hin
      have HST := Lib.hid (stop_take (k := k) hx)
      obtain ⟨xa, hxa⟩ : ∃ xa, xa = x.1 := ⟨_, rfl⟩
      obtain ⟨xk, hxk⟩ : ∃ xk, xk = x.2 := ⟨_, rfl⟩
      rw [← hxa] at c2
      rw [← hxk] at c1
      have HX : Hid (x = (xa, xk)) := by show x = _; rw [hxa, hxk]
      clear hxa hxk hx
      go_upto_region 5 with (fail)
      obtain ⟨W1, hW1⟩ : ∃ W1, W1 = wr.alloc (.cells #[.int .i64 xk, .int .u64 (xa : Int)] 74) := ⟨_, rfl⟩
      obtain ⟨g, hg⟩ : ∃ g, g = wr.heap.size := ⟨_, rfl⟩
      have bk : Blk W1 g 74 #[.int .i64 xk, .int .u64 (xa : Int)] := by rw [hW1, hg]; exact Blk.new _ _ _
      have HS1 : Hid (StS w W1 G p L (some ad) n cap (stop k (L.take i)) (.slice Av m cv)) := by rw [hW1]; exact HS.out.2.grows HGG.out (below_new _ _)
      have HM := Lib.hid HS.out.1
      rw [← hW1, ← hg]
      have k0 : W1.cell? ⟨g, 0, none⟩ = some (.int .i64 xk) := bk.cell 0
      have k1 : W1.cell? ⟨g, 1, none⟩ = some (.int .u64 (xa : Int)) := bk.cell 1
      clear hW1 hg bk c1 c2 HS hB
      by_cases hxk : xk = k
      · have HS2 : Hid (m = (stop k (L.take (i + 1))).length ∧ StS w W1 G p L (some ad) n cap (stop k (L.take (i + 1))) (.slice Av m cv)) := by
          have e := HST.out
          rw [HX.out, if_pos hxk, List.append_nil] at e
          rw [e]
          exact ⟨HM.out, HS1.out⟩
        have HXK := Lib.hid hxk
        have hxb : (xk != k) = false := by simpa using hxk
        clear hxk HS1 HM HST
        go_wp2_with fail
        go_roundw
        case rel => exact ⟨i + 1, m, Av, cv, rfl, by go_num, by omega, by omega, hmc, hcv, HS2⟩
        case measure => simp [intOf]; omega
      · have HST2 : Hid (stop k (L.take (i + 1)) = stop k (L.take i) ++ [(xa, xk)]) := by
          have e := HST.out
          rw [HX.out, if_neg hxk] at e
          exact e
        have hxb : (xk != k) = true := by simpa using hxk
        have HS2 := Lib.hid (HS1.out.grows HGG.out (below_new W1 (.cells #[.int .i64 xk, .int .u64 (xa : Int)] 74)))
        have HO2 := Lib.hid HS2.out.own
        rw [← HM.out] at HO2
        have HR2 := Lib.hid (blk2 W1 (xa, xk))
        have HW2 : Hid (w.heap.size ≤ (W1.alloc (.cells #[.int .i64 xk, .int .u64 (xa : Int)] 74)).heap.size) := HS2.out.bel.size
        obtain ⟨m1, hm1⟩ : ∃ m1, m1 = m + 1 := ⟨_, rfl⟩
        have HM1 : Hid (m1 = (stop k (L.take (i + 1))).length) := by show m1 = _; rw [hm1, HST2.out, List.length_append, ← HM.out]; rfl
        have HM1E : Hid (m + 1 = m1) := hm1.symm
        have hm1b : m1 ≤ i + 1 := by omega
        clear HST hxk hm1
        go_wp2_with (at_builtin; refine wpList_append_any _ rfl (.tmp 22) (.tmp 24) _ rfl w.heap.size 74 i0 _ 2 16 Try.underlying60 hi0 hz0 hz1 hz2 rfl (by omega) (.slice Av m cv) m (tmC (stop k (L.take i))) rfl HO2.out _ (some ⟨W1.heap.size, 0, none⟩) 1 1 (tmC [(xa, xk)]) rfl HR2.out (tmC_one _) (by simp only [maxLen]; omega) (by omega) HW2.out ?_; rw [HM1E.out]; intro v10 W10 ho10 hg10 _; obtain ⟨A10, c10, rfl, hc10, hd10⟩ := own_slice ho10; have HNX := Lib.hid (HS2.out.app (l := [(xa, xk)]) HGG.out hg10 (by rw [HM1.out, HST2.out]) ho10); rw [← HST2.out] at HNX; clear ho10 hg10)
        have HNY := Lib.hid (And.intro HM1.out HNX.out)
        go_roundw
        case rel => exact ⟨i + 1, m1, A10, c10, rfl, by go_num, by omega, hm1b, hc10, hd10, HNY⟩
        case measure => simp [intOf]; omega
    · have hie : i = n := by omega
      subst hie
      have hT : L.take i = L := by rw [HN.out]; exact List.take_length
      have HSF : Hid (m = (stop k L).length ∧ StS w wr G p L A i cap (stop k L) (.slice Av m cv)) := by
        have h := HS.out
        rw [hT] at h
        exact h
      have c0 : wr.cell? ⟨p, 0, none⟩ = some (.slice A i cap) := HSF.out.2.rep.blk.cell 0
      have f0 := HSF.out.2.rep.blk.frozen 0
      have HB : Hid (decide ((m : Int) < (i : Int)) = has k L) := by
        rw [← stop_len, ← HSF.out.1, ← HN.out]
        exact decide_eq_decide.2 (by omega)
      have HB' : Hid (decide (m < i) = has k L) := by
        show decide (m < i) = _
        rw [← stop_len, ← HSF.out.1, ← HN.out]
      have HFN : Hid (∃ G', RTp (wr.setCell ⟨p, 0, none⟩ (.slice Av m cv)) G' p (stop k L) Av m cv ∧ (∀ i, G' i → G i ∨ w.heap.size ≤ i) ∧ Fr G w (wr.setCell ⟨p, 0, none⟩ (.slice Av m cv))) :=
        HSF.out.2.rep.laid HSF.out.2.bel HGG.out (by have h := HSF.out.2.own; rw [← HSF.out.1] at h; exact h) HSF.out.1 (HOK.out.stop k) (Nat.le_trans stop_le HF.out)
      clear HS hT hi
      go_wp2_with fail
      go_ret
      obtain ⟨G', h1, h2, h3⟩ := HFN.out
      exact ⟨G', congrArg (fun b => Ending.returned (.bool b)) (by first | exact HB.out | exact HB'.out), ⟨_, _, _, h1⟩, h2, h3⟩
end
end Go.Proofs.Ytfgfiiknbkakaaa.Tm

set_option linter.unusedVariables false
set_option linter.unusedSimpArgs false
set_option maxRecDepth 20000
namespace Go.Proofs.Ytfgfiiknbkakaaa.Tm
open Go.ChangeShapes Go.WideShapes Go.ChangeAt Go.RowKit Go.Deep Go.Proofs.Ytfgfiiknbkakaaa.Words
section
variable {w w' W V : World} {p n cap i B m : Nat} {A : Option Addr} {L M l : List K} {G S : Nat → Prop} {k : Int} {x y z : K} {a : Nat} {v v' : Value}
theorem ins_no : ∀ {l m : List K}, (∀ y ∈ l, ¬ lt z y) → ins z (l ++ m) = l ++ ins z m
  | [], _, _ => rfl
  | y :: l, m, h => by
    show (if lt z y then z :: y :: (l ++ m) else y :: ins z (l ++ m)) = _
    rw [if_neg (h y List.mem_cons_self), ins_no (fun x hx => h x (List.mem_cons_of_mem _ hx))]
    rfl
theorem ins_yes : ∀ {l m : List K}, (∃ y ∈ l, lt z y) → ins z (l ++ m) = ins z l ++ m
  | [], _, h => by obtain ⟨y, hy, _⟩ := h; cases hy
  | y :: l, m, h => by
    show (if lt z y then z :: y :: (l ++ m) else y :: ins z (l ++ m)) = (if lt z y then z :: y :: l else y :: ins z l) ++ m
    by_cases hy : lt z y
    · rw [if_pos hy, if_pos hy]; rfl
    · rw [if_neg hy, if_neg hy]
      obtain ⟨x, hx, hl⟩ := h
      rcases List.mem_cons.1 hx with rfl | hx
      · exact absurd hl hy
      · rw [ins_yes ⟨x, hx, hl⟩]; rfl
/-- The row as far as it is laid. -/
def curL (z : K) (M : List K) (i : Nat) (d : Bool) : List K := if d then ins z (M.take i) else M.take i
def Dn (z : K) (M : List K) (i : Nat) (d : Bool) : Prop := if d then ∃ y ∈ M.take i, lt z y else ∀ y ∈ M.take i, ¬ lt z y
theorem take_s (h : M[i]? = some x) : M.take (i + 1) = M.take i ++ [x] := by rw [List.take_add_one, h]; rfl
theorem cur_keep (h : M[i]? = some x) {d : Bool} (hd : Dn z M i d) (hk : d = true ∨ ¬ lt z x) : Dn z M (i + 1) d ∧ curL z M (i + 1) d = curL z M i d ++ [x] := by
  unfold Dn curL at *
  rw [take_s h]
  cases d with
  | true =>
    rw [if_pos rfl] at hd
    rw [if_pos rfl, if_pos rfl, if_pos rfl]
    obtain ⟨y, hy, hl⟩ := hd
    exact ⟨⟨y, List.mem_append_left _ hy, hl⟩, ins_yes ⟨y, hy, hl⟩⟩
  | false =>
    rw [if_neg (by simp)] at hd
    rw [if_neg (by simp), if_neg (by simp), if_neg (by simp)]
    refine ⟨fun y hy => ?_, rfl⟩
    rcases List.mem_append.1 hy with hy | hy
    · exact hd y hy
    · rw [List.mem_singleton.1 hy]
      rcases hk with hk | hk
      · cases hk
      · exact hk
theorem cur_put (h : M[i]? = some x) (hd : Dn z M i false) (hk : lt z x) : Dn z M (i + 1) true ∧ curL z M (i + 1) true = curL z M i false ++ [z] ++ [x] := by
  unfold Dn curL at *
  rw [if_neg (by simp)] at hd
  rw [if_pos rfl, if_pos rfl, if_neg (by simp), take_s h]
  refine ⟨⟨x, List.mem_append_right _ List.mem_cons_self, hk⟩, ?_⟩
  rw [ins_no hd]
  show _ ++ (if lt z x then [z, x] else _) = _
  rw [if_pos hk, List.append_assoc]
  rfl
theorem cur_end {d : Bool} (hn : n = M.length) (hd : Dn z M n d) : ins z M = if d then curL z M n d else curL z M n d ++ [z] := by
  unfold Dn curL at *
  subst hn
  rw [List.take_length] at *
  cases d with
  | true => rfl
  | false =>
    rw [if_neg (by simp)] at hd
    rw [if_neg (by simp), if_neg (by simp)]
    have := ins_no (m := []) hd
    rw [List.append_nil] at this
    exact this
theorem cur_len {d : Bool} : (curL z M i d).length ≤ M.length + 1 := by
  unfold curL
  have h1 : (M.take i).length ≤ M.length := by rw [List.length_take]; exact Nat.min_le_right _ _
  split
  · rw [ins_len]; omega
  · omega
theorem StS.ownA (h : StS w W G p L A n cap M v) (hm : m = M.length) (o : Obj) : (W.alloc o).ownsRow w.heap.size 74 2 v m (tmC M) := by subst hm; exact h.own.alloc o
theorem StS.szA (h : StS w W G p L A n cap M v) (o : Obj) : w.heap.size ≤ (W.alloc o).heap.size := by rw [World.size_alloc]; have := h.bel.size; omega
theorem StS.one (hG : ∀ i, G i → i < w.heap.size) (h : StS w W G p L A n cap M v) {o : Obj} {m1 : Nat} (hm : m1 = M.length + 1) (hg : (W.alloc o).grownBy V v.ownBlock) (ho : V.ownsRow w.heap.size 74 2 v' m1 (tmC M ++ tmC [z])) : StS w V G p L A n cap (M ++ [z]) v' ∧ m1 = (M ++ [z]).length := by
  have e : m1 = (M ++ [z]).length := by rw [hm, List.length_append]; rfl
  exact ⟨(h.grows hG (below_new W o)).app (l := [z]) hG hg e ho, e⟩
def RSetDone (w : World) (G : Nat → Prop) (p : Nat) (L : List K) (k : Int) (a : Nat) (e : Ending) (w' : World) : Prop := ∃ G', e = .returned (.tuple #[]) ∧ RT w' G' p (put k a L) ∧ (∀ i, G' i → G i ∨ w.heap.size ≤ i) ∧ Fr G w w'
theorem rset_fin {w1 : World} {G1 G2 : Nat → Prop} (hg : ∀ i, G1 i → G i ∨ w.heap.size ≤ i) (hf : Fr G w w1) (h : RT w' G2 p (put k a L)) (hg2 : ∀ i, G2 i → G1 i ∨ w1.heap.size ≤ i) (hf2 : Fr G1 w1 w') : RSetDone w G p L k a (.returned (.tuple #[])) w' :=
  ⟨G2, rfl, h, fun i hi => by
    rcases hg2 i hi with h1 | h1
    · exact hg i h1
    · exact .inr (Nat.le_trans hf.size h1), hf.trans hf2 (fun x hx h1 => by
    rcases hg x h1 with h2 | h2
    · exact h2
    · omega)⟩
set_option maxHeartbeats 6400000 in
theorem rset_t (h : RT w G p L) (hl : L.length < 1000000) (hk : -9223372036854775808 ≤ k ∧ k ≤ 9223372036854775807) (ha : a ≤ 18446744073709551615) : Calls Try.prog 19 #[tptr p, .int .i64 k, .int .u64 (a : Int)] w (RSetDone w G p L k a) := by
  have HOKL := Lib.hid (rt_rep.ok h).1
  have hst := rstop_t h hk
  have HLL := Lib.hid hl
  obtain ⟨i0, hi0, hz0, hz1, hz2⟩ := info_parts3 tm_info
  clear h hl
  go_enter Try.func19, Try.ntmps19
  go_upto_region 1 with (go_at_call 21; refine hst.mono ?_; rintro e w1 ⟨G1, rfl, hr1, hg1, hf1⟩)
  have HG1 := Lib.hid hg1
  have HF1 := Lib.hid hf1
  obtain ⟨M, hM⟩ : ∃ M, M = stop k L := ⟨_, rfl⟩
  rw [← hM] at hr1
  have HM := Lib.hid hM
  have HGG : Hid (∀ i, G1 i → i < w1.heap.size) := fun i hi => rt_rep.lt hr1 i hi
  obtain ⟨A, n, cap, hr1⟩ := hr1
  have HN := Lib.hid hr1.hn
  have hnb : n < 1000000 := by
    have h1 := hr1.hn
    have h2 := stop_le (k := k) (L := L)
    have h3 := HLL.out
    rw [hM] at h1
    omega
  have hcp := hr1.hc
  obtain ⟨z, hz⟩ : ∃ z : K, z = (a, k) := ⟨_, rfl⟩
  have HZ := Lib.hid hz
  have HS0 : Hid (0 = (curL z M 0 false).length ∧ StS w1 w1 G1 p M A n cap (curL z M 0 false) (.slice none 0 0) ∧ Dn z M 0 false) := ⟨rfl, ⟨hr1, Below.refl _ _, World.ownsRow_nil _ _ _ _⟩, by unfold Dn; rw [if_neg (by simp)]; intro y hy; cases hy⟩
  have c0 : w1.cell? ⟨p, 0, none⟩ = some (.slice A n cap) := hr1.blk.cell 0
  clear hg1 hf1 hM hr1 hst hz
  go_upto_region 4 with (fail)
  obtain ⟨wo, hwo⟩ : ∃ wo : World, wo = w1 := ⟨_, rfl⟩
  go_loopw [6, 7, 9, 18] (fun v6 v7 _ v18 wr => ∃ (i m : Nat) (Av : Option Addr) (cv : Nat) (d : Bool), v6 = .slice Av m cv ∧ v7 = .bool d ∧ v18 = .int .i64 (i : Int) ∧ i ≤ n ∧ m ≤ n + 1 ∧ m ≤ cv ∧ cv ≤ 9223372036854775807 ∧ Hid (m = (curL z M i d).length ∧ StS w1 wr G1 p M A n cap (curL z M i d) (.slice Av m cv) ∧ Dn z M i d)) (fun _ _ _ v18 _ => n - (intOf v18).toNat)
  case atStart => exact ⟨0, 0, none, 0, false, rfl, rfl, rfl, Nat.zero_le _, Nat.zero_le _, Nat.le_refl _, by omega, HS0⟩
  case round =>
    clear HS0 c0
    obtain ⟨i, m, Av, cv, d, rfl, rfl, rfl, hi, hm, hmc, hcv, HS⟩ := hrel
    by_cases hin : i < n
    · obtain ⟨ad, x, rfl, hB, hx, c1, c2⟩ := tm_at HS.out.2.1.rep.rd HN.out hin
      have HXI := Lib.hid hx
      obtain ⟨xa, hxa⟩ : ∃ xa, xa = x.1 := ⟨_, rfl⟩
      obtain ⟨xk, hxk⟩ : ∃ xk, xk = x.2 := ⟨_, rfl⟩
      rw [← hxa] at c2
      rw [← hxk] at c1
      have HX : Hid (x = (xa, xk)) := by show x = _; rw [hxa, hxk]
      clear hxa hxk hx
      go_upto_region 6 with (fail)
      obtain ⟨W1, hW1⟩ : ∃ W1, W1 = wr.alloc (.cells #[.int .i64 xk, .int .u64 (xa : Int)] 74) := ⟨_, rfl⟩
      obtain ⟨g, hg⟩ : ∃ g, g = wr.heap.size := ⟨_, rfl⟩
      have bk : Hid (Blk W1 g 74 #[.int .i64 xk, .int .u64 (xa : Int)]) := by rw [hW1, hg]; exact Blk.new _ _ _
      have HGW : Hid (w1.heap.size ≤ g) := by rw [hg]; exact HS.out.2.1.bel.size
      have HS1 : Hid (StS w1 W1 G1 p M (some ad) n cap (curL z M i d) (.slice Av m cv)) := by rw [hW1]; exact HS.out.2.1.grows HGG.out (below_new _ _)
      have HML := Lib.hid HS.out.1
      have HDN := Lib.hid HS.out.2.2
      have HNG : Hid (¬ (Value.slice Av m cv).ownBlock = some g) := fun e => by have := (HS.out.2.1.own.lt g e).2; omega
      rw [← hW1, ← hg]
      have k0 : W1.cell? ⟨g, 0, none⟩ = some (.int .i64 xk) := bk.out.cell 0
      have k1 : W1.cell? ⟨g, 1, none⟩ = some (.int .u64 (xa : Int)) := bk.out.cell 1
      clear hW1 hg c1 c2 HS hB
      go_cut [41] from 22 to 41 (fun v41 wx => W1 = wx ∧ ∃ b : Bool, v41 = .bool b ∧ Hid (b = (!d && decide (lt z x))))
      case first =>
        have HLT : Hid (decide (lt z x) = (decide (a < xa) || (decide (a = xa) && decide (k < xk)))) := by
          show decide (lt z x) = _
          rw [HZ.out, HX.out]
          unfold lt
          by_cases h1 : a < xa <;> by_cases h2 : a = xa <;> by_cases h3 : k < xk <;> simp [h1, h2, h3]
        cases d with
        | true =>
          have HB : Hid (false = (!true && decide (lt z x))) := rfl
          go_wp2_with fail
          go_meet
          exact ⟨rfl, false, rfl, HB⟩
        | false =>
          by_cases h1 : a < xa
          · have h1I : (a : Int) < (xa : Int) := by omega
            have HB : Hid (true = (!false && decide (lt z x))) := by show true = _; rw [HLT.out]; simp [h1]
            go_wp2_with fail
            go_meet
            exact ⟨rfl, true, rfl, HB⟩
          · have h1I : ¬ (a : Int) < (xa : Int) := by omega
            by_cases h2 : a = xa
            · by_cases h3 : k < xk
              · have HB : Hid (true = (!false && decide (lt z x))) := by show true = _; rw [HLT.out]; simp [h2, h3]
                have h2I : ((a : Int) == (xa : Int)) = true := by simp; omega
                clear h1 h2
                go_wp2_with fail
                go_meet
                exact ⟨rfl, true, rfl, HB⟩
              · have HB : Hid (false = (!false && decide (lt z x))) := by show false = _; rw [HLT.out]; simp [h1, h3]
                have h2I : ((a : Int) == (xa : Int)) = true := by simp; omega
                clear h1 h2
                go_wp2_with fail
                go_meet
                exact ⟨rfl, false, rfl, HB⟩
            · have HB : Hid (false = (!false && decide (lt z x))) := by show false = _; rw [HLT.out]; simp [h1, h2]
              have h2I : ((a : Int) == (xa : Int)) = false := by simp; omega
              clear h1 h2
              go_wp2_with fail
              go_meet
              exact ⟨rfl, false, rfl, HB⟩
      case rest =>
        obtain ⟨rfl, b, rfl, HB⟩ := hcut
        obtain ⟨m1, hm1⟩ : ∃ m1, m1 = m + 1 := ⟨_, rfl⟩
        have HM1 : Hid (m + 1 = m1) := hm1.symm
        cases b with
        | true =>
          obtain ⟨hdf, hlt⟩ : d = false ∧ lt z x := by
            have h := HB.out
            cases d with
            | true => cases h
            | false => exact ⟨rfl, of_decide_eq_true h.symm⟩
          subst hdf
          obtain ⟨hdn, hcu⟩ := cur_put HXI.out HDN.out hlt
          have HDN2 := Lib.hid hdn
          have HCU := Lib.hid hcu
          obtain ⟨m2, hm2⟩ : ∃ m2, m2 = m1 + 1 := ⟨_, rfl⟩
          have HM2 : Hid (m1 + 1 = m2) := hm2.symm
          have hm2b : m2 ≤ n + 1 := by
            have h1 := cur_len (z := z) (M := M) (i := i + 1) (d := true)
            rw [hcu, List.length_append, List.length_append, ← HML.out, ← HN.out] at h1
            have h2 : m + 1 + 1 ≤ n + 1 := h1
            omega
          have hm1b : m1 ≤ n + 1 := by omega
          clear hlt hdn hcu hm1 hm2 HB HDN
          have HBK : Hid (∀ (o : Obj) (V : World), (W1.alloc o).grownBy V (Value.slice Av m cv).ownBlock → V.cell? ⟨g, 0, none⟩ = some (.int .i64 xk) ∧ V.cell? ⟨g, 1, none⟩ = some (.int .u64 (xa : Int))) := fun o V hg => by
            have h1 : Fr (fun i => (Value.slice Av m cv).ownBlock = some i) W1 V := ((Fr.refl _ W1).alloc o).grown hg (fun g e => .inl e)
            have h2 := h1.blk bk.out (fun e => HNG.out e)
            exact ⟨h2.cell 0, h2.cell 1⟩
          go_wp2_with (first
            | (at_builtin; refine wpList_append_any _ rfl (.tmp 42) (.tmp 46) _ rfl w1.heap.size 74 i0 _ 2 16 Try.underlying60 hi0 hz0 hz1 hz2 rfl (by omega) (.slice Av m cv) m (tmC (curL z M i false)) rfl (HS1.out.ownA HML.out _) _ (some ⟨W1.heap.size, 0, none⟩) 1 1 (tmC [(a, k)]) rfl (blk2 W1 (a, k)) (tmC_one _) (by simp only [maxLen]; omega) (by omega) (HS1.out.szA _) ?_; rw [HM1.out]; intro v10 W10 ho10 hg10 _; obtain ⟨A10, c10, rfl, hcHQ10, hdHQ10⟩ := own_slice ho10; have HQ10 := Lib.hid (HS1.out.one (z := (a, k)) HGG.out (by rw [← HM1.out, HML.out]) hg10 ho10); have HB10 := Lib.hid (HBK.out _ _ hg10); clear ho10 hg10; have HS2 := Lib.hid HQ10.out.1; have HML2 := Lib.hid HQ10.out.2; have kk0 : W10.cell? ⟨g, 0, none⟩ = some (.int .i64 xk) := (HB10.out).1; have kk1 : W10.cell? ⟨g, 1, none⟩ = some (.int .u64 (xa : Int)) := (HB10.out).2)
            | (at_builtin; refine wpList_append_any _ rfl (.tmp 48) (.tmp 50) _ rfl w1.heap.size 74 i0 _ 2 16 Try.underlying60 hi0 hz0 hz1 hz2 rfl (by omega) (.slice A10 m1 c10) m1 (tmC (curL z M i false ++ [(a, k)])) rfl (HS2.out.ownA HML2.out _) _ (some ⟨W10.heap.size, 0, none⟩) 1 1 (tmC [(xa, xk)]) rfl (blk2 W10 (xa, xk)) (tmC_one _) (by simp only [maxLen]; omega) (by omega) (HS2.out.szA _) ?_; rw [HM2.out]; intro v10 W11 ho10 hg10 _; obtain ⟨A11, c11, rfl, hcHQ11, hdHQ11⟩ := own_slice ho10; have HQ11 := Lib.hid (HS2.out.one (z := (xa, xk)) HGG.out (by rw [← HM2.out, HML2.out]) hg10 ho10); clear ho10 hg10))
          have HNX : Hid (m2 = (curL z M (i + 1) true).length ∧ StS w1 W11 G1 p M (some ad) n cap (curL z M (i + 1) true) (.slice A11 m2 c11) ∧ Dn z M (i + 1) true) := by
            rw [HCU.out]
            have h := HQ11.out
            rw [← HX.out] at h
            have hz' := HZ.out
            rw [← hz'] at h
            exact ⟨h.2, h.1, HDN2.out⟩
          go_roundw
          case rel => exact ⟨i + 1, m2, A11, c11, true, rfl, rfl, by go_num, by omega, hm2b, hcHQ11, hdHQ11, HNX⟩
          case measure => simp [intOf]; omega
        | false =>
          have hk2 : d = true ∨ ¬ lt z x := by
            have h := HB.out
            cases d with
            | true => exact .inl rfl
            | false => exact .inr (of_decide_eq_false h.symm)
          obtain ⟨hdn, hcu⟩ := cur_keep HXI.out HDN.out hk2
          have HDN2 := Lib.hid hdn
          have HCU := Lib.hid hcu
          have hm1b : m1 ≤ n + 1 := by
            have h1 := cur_len (z := z) (M := M) (i := i + 1) (d := d)
            rw [hcu, List.length_append, ← HML.out, ← HN.out] at h1
            have h2 : m + 1 ≤ n + 1 := h1
            omega
          clear hk2 hdn hcu hm1 HB HDN
          go_wp2_with (first
            | (at_builtin; refine wpList_append_any _ rfl (.tmp 48) (.tmp 50) _ rfl w1.heap.size 74 i0 _ 2 16 Try.underlying60 hi0 hz0 hz1 hz2 rfl (by omega) (.slice Av m cv) m (tmC (curL z M i d)) rfl (HS1.out.ownA HML.out _) _ (some ⟨W1.heap.size, 0, none⟩) 1 1 (tmC [(xa, xk)]) rfl (blk2 W1 (xa, xk)) (tmC_one _) (by simp only [maxLen]; omega) (by omega) (HS1.out.szA _) ?_; rw [HM1.out]; intro v10 W10 ho10 hg10 _; obtain ⟨A10, c10, rfl, hcHQ10, hdHQ10⟩ := own_slice ho10; have HQ10 := Lib.hid (HS1.out.one (z := (xa, xk)) HGG.out (by rw [← HM1.out, HML.out]) hg10 ho10); clear ho10 hg10))
          have HNX : Hid (m1 = (curL z M (i + 1) d).length ∧ StS w1 W10 G1 p M (some ad) n cap (curL z M (i + 1) d) (.slice A10 m1 c10) ∧ Dn z M (i + 1) d) := by
            rw [HCU.out]
            have h := HQ10.out
            rw [← HX.out] at h
            exact ⟨h.2, h.1, HDN2.out⟩
          go_roundw
          case rel => exact ⟨i + 1, m1, A10, c10, d, rfl, rfl, by go_num, by omega, hm1b, hcHQ10, hdHQ10, HNX⟩
          case measure => simp [intOf]; omega
    · have hie : i = n := by omega
      subst hie
      clear hin hi
      have HEND := Lib.hid (cur_end HN.out HS.out.2.2)
      have HPUT : Hid (ins z M = put k a L) := by show ins z M = _; rw [HZ.out, HM.out]; rfl
      have hlen : (put k a L).length ≤ 1000000 := by have h1 := put_le (k := k) (a := a) (L := L); have h2 := HLL.out; omega
      have HOK := Lib.hid (HOKL.out.put hk ha)
      cases d with
      | true =>
        have HSF : Hid (m = (put k a L).length ∧ StS w1 wr G1 p M A i cap (put k a L) (.slice Av m cv)) := by
          have e := HEND.out
          rw [if_pos rfl, HPUT.out] at e
          rw [e]
          exact ⟨HS.out.1, HS.out.2.1⟩
        have c0 : wr.cell? ⟨p, 0, none⟩ = some (.slice A i cap) := HSF.out.2.rep.blk.cell 0
        have f0 := HSF.out.2.rep.blk.frozen 0
        have HFN := Lib.hid (HSF.out.2.rep.laid (M := put k a L) HSF.out.2.bel HGG.out (by have h := HSF.out.2.own; rw [← HSF.out.1] at h; exact h) HSF.out.1 HOK.out hlen)
        clear HS HEND
        go_wp2_with fail
        go_end0
        obtain ⟨G2, h1, h2, h3⟩ := HFN.out
        exact rset_fin HG1.out HF1.out ⟨_, _, _, h1⟩ h2 h3
      | false =>
        obtain ⟨m1, hm1⟩ : ∃ m1, m1 = m + 1 := ⟨_, rfl⟩
        have HM1 : Hid (m + 1 = m1) := hm1.symm
        have HML := Lib.hid HS.out.1
        have HS1 := Lib.hid HS.out.2.1
        have HE2 : Hid (curL z M i false ++ [(a, k)] = put k a L) := by
          have e := HEND.out
          rw [if_neg (by simp), HPUT.out] at e
          show _ = put k a L
          rw [e, HZ.out]
        clear HS HEND hm1
        go_upto_region 13 with (first
          | (at_builtin; refine wpList_append_any _ rfl (.tmp 55) (.tmp 59) _ rfl w1.heap.size 74 i0 _ 2 16 Try.underlying60 hi0 hz0 hz1 hz2 rfl (by omega) (.slice Av m cv) m (tmC (curL z M i false)) rfl (HS1.out.ownA HML.out _) _ (some ⟨wr.heap.size, 0, none⟩) 1 1 (tmC [(a, k)]) rfl (blk2 wr (a, k)) (tmC_one _) (by simp only [maxLen]; omega) (by omega) (HS1.out.szA _) ?_; rw [HM1.out]; intro v10 W10 ho10 hg10 _; obtain ⟨A10, c10, rfl, hcHQ10, hdHQ10⟩ := own_slice ho10; have HQ10 := Lib.hid (HS1.out.one (z := (a, k)) HGG.out (by rw [← HM1.out, HML.out]) hg10 ho10); clear ho10 hg10))
        have HSF : Hid (m1 = (put k a L).length ∧ StS w1 W10 G1 p M A i cap (put k a L) (.slice A10 m1 c10)) := by
          have h := HQ10.out
          rw [HE2.out] at h
          exact ⟨h.2, h.1⟩
        have c0 : W10.cell? ⟨p, 0, none⟩ = some (.slice A i cap) := HSF.out.2.rep.blk.cell 0
        have f0 := HSF.out.2.rep.blk.frozen 0
        have HFN := Lib.hid (HSF.out.2.rep.laid (M := put k a L) HSF.out.2.bel HGG.out (by have h := HSF.out.2.own; rw [← HSF.out.1] at h; exact h) HSF.out.1 HOK.out hlen)
        clear HQ10
        go_wp2_with fail
        go_end0
        obtain ⟨G2, h1, h2, h3⟩ := HFN.out
        exact rset_fin HG1.out HF1.out ⟨_, _, _, h1⟩ h2 h3
end
end Go.Proofs.Ytfgfiiknbkakaaa.Tm

set_option linter.unusedVariables false
set_option linter.unusedSimpArgs false
namespace Go.Proofs.Ytfgfiiknbkakaaa.Mx
open Go.ChangeShapes Go.WideShapes Go.ChangeAt Go.RowKit Go.Maps Go.Proofs.Ytfgfiiknbkakaaa.Words
open Go.ChangeMaps (notKey putKey delKey setBlock)
open Go.MapKept (stamped_iff)
open Go.WideElems (Fit rd rg pl rd_key rd_val rg_of)
def anyE (v : Value) : Option (DataW Value × List MemPlace) := some (.held v, [])
def tok : DataW Value → Option Value
  | .held v => some v
  | _ => none
def look (D : DataW Value) (kl : Lit) : Option Value := tok (D.atKey kl .nil)
/-- The keys of a type, named by the things of another one. -/
structure KX (P : Program) (k : TypeId) (κ : Type) where
  enc : κ → Value
  lit : κ → Lit
  dom : κ → Prop
  key : ∀ x, dom x → keyOf P k (enc x) = some (lit x)
  inj : ∀ x y, dom x → dom y → lit x = lit y → x = y
  sur : ∀ v l, keyOf P k v = some l → ∃ x, dom x ∧ v = enc x ∧ l = lit x
  law : Keyed P k
  few : ∀ l : List κ, l.Nodup → (∀ x ∈ l, dom x) → l.length ≤ 1125899906842624
section
variable {P : Program} {k : TypeId} {κ : Type} {X : KX P k κ} {w w' : World} {b r n : Nat} {D : DataW Value} {f : κ → Option Value}
theorem keys_list (X : KX P k κ) : ∀ (es : List MapEntry), (∀ e ∈ es, ∃ l, keyOf P k e.key = some l) → ∃ xs : List κ, xs.map X.enc = es.map (·.key) ∧ ∀ x ∈ xs, X.dom x
  | [], _ => ⟨[], rfl, by simp⟩
  | e :: es, h => by
    obtain ⟨xs, h1, h2⟩ := keys_list X es (fun e' he => h e' (List.mem_cons_of_mem _ he))
    obtain ⟨l, hl⟩ := h e List.mem_cons_self
    obtain ⟨x, hx, e1, _⟩ := X.sur _ _ hl
    exact ⟨x :: xs, by simp [h1, e1], fun y hy => by
      rcases List.mem_cons.1 hy with rfl | hy
      · exact hx
      · exact h2 y hy⟩
theorem fit_few (X : KX P k κ) {R : Value → Option (DataW Value × List MemPlace)} {es : Array MapEntry} {clock : Nat} (F : Fit P k R es clock) : es.size ≤ 1125899906842624 := by
  obtain ⟨xs, h1, h2⟩ := keys_list X es.toList F.keys
  have hn : es.toList.Pairwise (fun x y => x.key ≠ y.key) := ((stamped_iff es clock).1 F.stamped).2.2
  have hnd : xs.Nodup := by
    have h3 : (es.toList.map (·.key)).Pairwise (· ≠ ·) := List.pairwise_map.2 hn
    rw [← h1] at h3
    have h4 := List.pairwise_map.1 h3
    exact h4.imp (fun {a b} hab e => hab (by rw [e]))
  have h5 := X.few xs hnd h2
  have h6 : xs.length = es.toList.length := by have := congrArg List.length h1; simpa using this
  rw [h6] at h5
  simpa using h5
theorem own_few (X : KX P k κ) (h : w.ownsMap P k anyE b n D) : w.ownsMap P k anyE b 1125899906842624 D := by
  obtain ⟨es, clock, hb, F, hs, hD⟩ := h
  exact ⟨es, clock, hb, F, fit_few X F, hD⟩
structure MapX (X : KX P k κ) (w : World) (b : Nat) (f : κ → Option Value) : Prop where
  ex : ∃ D, w.ownsMap P k anyE b 1125899906842624 D ∧ ∀ x, X.dom x → f x = look D (X.lit x)
  out : ∀ x, ¬ X.dom x → f x = none
def putF [DecidableEq κ] (f : κ → Option Value) (x : κ) (v : Value) : κ → Option Value := fun y => if y = x then some v else f y
def delF [DecidableEq κ] (f : κ → Option Value) (x : κ) : κ → Option Value := fun y => if y = x then none else f y
theorem MapX.new (X : KX P k κ) (w : World) : MapX X (w.alloc (.map #[] 0)) w.heap.size (fun _ => none) :=
  ⟨⟨.map [], (World.ownsMap_made w P k anyE).mono (Nat.zero_le _), fun x _ => rfl⟩, fun _ _ => rfl⟩
theorem MapX.lt (h : MapX X w b f) : b < w.heap.size := by obtain ⟨D, h1, _⟩ := h.ex; exact h1.lt
theorem MapX.same (h : MapX X w b f) (e : w'.heap[b]? = w.heap[b]?) : MapX X w' b f := by
  obtain ⟨D, ⟨es, clock, hb, F, hs, hD⟩, h2⟩ := h.ex
  exact ⟨⟨D, ⟨es, clock, e.trans hb, F, hs, hD⟩, h2⟩, h.out⟩
theorem MapX.fr {S : Nat → Prop} (h : MapX X w b f) (hf : Fr S w w') (hb : ¬ S b) : MapX X w' b f := h.same (hf.block b h.lt hb)
theorem MapX.drewN (h : MapX X w b f) (n : Nat) : MapX X (w.drewN n) b f := h.same rfl
theorem MapX.drew (h : MapX X w b f) : MapX X w.drew b f := h.same rfl
theorem MapX.look_run (h : MapX X w b f) {t e : TypeId} (ht : P.underlying t = some (.map k e)) {z : Value} (hz : (zeroValue e).run P w = .ok z w) (c : Bool) {x : κ} (hx : X.dom x) :
    (Instr.lookup t (.map (some b)) (X.enc x) c).run P w = .ok (if c then .tuple #[(f x).getD z, .bool (f x).isSome] else (f x).getD z) w := by
  obtain ⟨D, ⟨es, clock, hb, F, _, rfl⟩, h2⟩ := h.ex
  have h3 := h2 x hx
  rcases Maps.fit_look c X.law ht hz hb F (X.key x hx) with ⟨hrun, _, hat⟩ | ⟨e0, y, _, _, hrun, hRv, hat, _⟩
  · unfold look at h3
    rw [hat .nil] at h3
    rw [h3, hrun]
    rfl
  · unfold look at h3
    rw [hat .nil] at h3
    have e1 : y.1 = .held e0.val := by unfold anyE at hRv; injection hRv with hRv; rw [← hRv]
    rw [e1] at h3
    have h4 : f x = some e0.val := h3
    rw [h4, hrun]
    rfl
theorem MapX.look (h : MapX X w b f) {t e : TypeId} (ht : P.underlying t = some (.map k e)) {z : Value} (hz : (zeroValue e).run P w = .ok z w) {x : κ} (hx : X.dom x) :
    (Instr.lookup t (.map (some b)) (X.enc x) false).run P w = .ok ((f x).getD z) w := h.look_run ht hz false hx
theorem MapX.put [DecidableEq κ] (h : MapX X w b f) {t e : TypeId} (ht : P.underlying t = some (.map k e)) {x : κ} (hx : X.dom x) (v : Value) :
    ∃ w1, (Instr.mapUpdate t (.map (some b)) (X.enc x) v).run P w = .ok () w1 ∧ MapX X w1 b (putF f x v) ∧ w.mapTurned w1 b := by
  obtain ⟨D, hown, h2⟩ := h.ex
  obtain ⟨w1, hrun, hown1, hturn⟩ := hown.store X.law ht (by unfold maxLen; omega) (X.key x hx) (show anyE v = some (.held v, []) from rfl)
  refine ⟨w1, hrun, ⟨⟨_, own_few X hown1, fun y hy => ?_⟩, fun y hy => ?_⟩, hturn⟩
  · unfold putF Mx.look
    by_cases e : y = x
    · subst e
      rw [if_pos rfl, atKey_put_same hown.isMap (X.law.key (X.key y hy))]
      rfl
    · rw [if_neg e, atKey_put_other (fun e' => e (X.inj _ _ hy hx e')), h2 y hy]
      rfl
  · unfold putF
    rw [if_neg (fun e => hy (by rw [e]; exact hx))]
    exact h.out y hy
theorem MapX.del [DecidableEq κ] (h : MapX X w b f) {t e : TypeId} (ht : P.underlying t = some (.map k e)) {x : κ} (hx : X.dom x) (ty : TypeId) :
    ∃ w1, (Builtin.delete_ #[t, k] ty #[.map (some b), X.enc x]).run P w = .ok (.tuple #[]) w1 ∧ MapX X w1 b (delF f x) ∧ w.mapTurned w1 b := by
  obtain ⟨D, hown, h2⟩ := h.ex
  obtain ⟨w1, hrun, hown1, hturn⟩ := hown.drop X.law ht (X.key x hx) ty
  refine ⟨w1, hrun, ⟨⟨_, hown1, fun y hy => ?_⟩, fun y hy => ?_⟩, hturn⟩
  · unfold delF Mx.look
    by_cases e : y = x
    · subst e
      rw [if_pos rfl, atKey_del_same]
      rfl
    · rw [if_neg e, atKey_del_other (fun e' => e (X.inj _ _ hy hx e')), h2 y hy]
      rfl
  · unfold delF
    split
    · rfl
    · exact h.out y hy
theorem MapX.len (h : MapX X w b f) {t e : TypeId} (ht : P.underlying t = some (.map k e)) (ty : TypeId) :
    ∃ n : Nat, (Builtin.len_ #[t] ty #[.map (some b)]).run P w = .ok (.int .i64 (n : Int)) w ∧ n ≤ 1125899906842624 ∧ (n = 0 ↔ ∀ x, f x = none) := by
  obtain ⟨D, hown, h2⟩ := h.ex
  refine ⟨Maps.size D, hown.len ht ty, hown.size_le, ?_⟩
  obtain ⟨es, clock, hb, F, hs, rfl⟩ := hown
  have hsz : Maps.size (DataW.map ((es.toList.map (rg P k anyE)).foldr DataW.insert [])) = es.size := by simp [Maps.size, length_sorted]
  rw [hsz]
  constructor
  · intro h0 x
    rcases Classical.em (X.dom x) with hx | hx
    · rw [h2 x hx]
      have : es = #[] := Array.eq_empty_of_size_eq_zero h0
      subst this
      rfl
    · exact h.out x hx
  · intro hall
    rcases Nat.eq_zero_or_pos es.size with h0 | h0
    · exact h0
    · exfalso
      have hmem : es[0] ∈ es.toList := by simp
      obtain ⟨l, hl⟩ := F.keys _ hmem
      obtain ⟨x, hx, e1, e2⟩ := X.sur _ _ hl
      have h3 := h2 x hx
      rw [hall x] at h3
      obtain ⟨y, hy⟩ := F.reads _ hmem
      obtain ⟨z, hz, hzd⟩ := rd_val hy
      have hkey := rd_key hy
      rw [hl] at hkey
      injection hkey with hkey
      have hat := (atKey_sorted (es.toList.map (rg P k anyE)) (Maps.fit_rising X.law F) l (X.law.key hl)).2 (rg P k anyE es[0]) (List.mem_map.2 ⟨_, hmem, rfl⟩) (by rw [rg_of hy]; exact hkey.symm) .nil
      unfold Mx.look at h3
      rw [← e2, hat, rg_of hy] at h3
      unfold anyE at hz
      injection hz with hz
      have e4 : y.2 = .held es[0].val := by rw [hzd, ← hz]
      rw [e4] at h3
      cases h3
structure RangeX (X : KX P k κ) (w : World) (b r : Nat) (f : κ → Option Value) (left : κ → Bool) (cnt : Nat) : Prop where
  ex : ∃ D lf, w.ranges P k anyE b r 1125899906842624 D lf cnt ∧ (∀ x, X.dom x → f x = look D (X.lit x)) ∧ ∀ x, X.dom x → left x = lf (X.lit x)
  out : ∀ x, ¬ X.dom x → f x = none ∧ left x = false
variable {left : κ → Bool} {cnt : Nat}
theorem RangeX.map (h : RangeX X w b r f left cnt) : MapX X w b f := by
  obtain ⟨D, lf, h1, h2, h3⟩ := h.ex
  exact ⟨⟨D, h1.owns, h2⟩, fun x hx => (h.out x hx).1⟩
theorem RangeX.ne (h : RangeX X w b r f left cnt) : r ≠ b := by obtain ⟨D, lf, h1, _⟩ := h.ex; exact h1.ne
theorem RangeX.lt (h : RangeX X w b r f left cnt) : r < w.heap.size := by obtain ⟨D, lf, h1, _⟩ := h.ex; exact h1.lt
theorem RangeX.fr {S : Nat → Prop} (h : RangeX X w b r f left cnt) (hf : Fr S w w') (hb : ¬ S b) (hr : ¬ S r) : RangeX X w' b r f left cnt := by
  have l1 := h.map.lt
  have l2 := h.lt
  obtain ⟨D, lf, ⟨es, clock, since, seen, c0, h1, F, hs, hD, h4, rest⟩, h2, h3⟩ := h.ex
  exact ⟨⟨D, lf, ⟨es, clock, since, seen, c0, (hf.block b l1 hb).trans h1, F, hs, hD, (hf.block r l2 hr).trans h4, rest⟩, h2, h3⟩, h.out⟩
theorem MapX.range (h : MapX X w b f) {t e : TypeId} (ht : P.underlying t = some (.map k e)) :
    ∃ w1 cnt, (Instr.range t (.map (some b))).run P w = .ok (.pointer (some ⟨w.heap.size, 0, none⟩)) w1 ∧ RangeX X w1 b w.heap.size f (fun x => (f x).isSome) cnt ∧ w.grownBy w1 none ∧ w1.heap.size = w.heap.size + 1 := by
  obtain ⟨D, hown, h2⟩ := h.ex
  obtain ⟨w1, hrun, hrg, hg, hs⟩ := hown.range X.law ht
  refine ⟨w1, _, hrun, ⟨⟨D, _, hrg, h2, fun x hx => ?_⟩, fun x hx => ⟨h.out x hx, by rw [h.out x hx]; rfl⟩⟩, hg, hs⟩
  rw [h2 x hx]
  obtain ⟨es, clock, hb, F, _, rfl⟩ := hown
  obtain ⟨hrun2, hh⟩ := (show (∃ z : World, z = w) ∧ True from ⟨⟨w, rfl⟩, trivial⟩)
  rcases Classical.em (∃ e ∈ es.toList, keyOf P k e.key = some (X.lit x)) with ⟨e0, hmem, hl⟩ | hno
  · obtain ⟨y, hy⟩ := F.reads _ hmem
    obtain ⟨z, hz, hzd⟩ := rd_val hy
    have hkey := rd_key hy
    rw [hl] at hkey
    injection hkey with hkey
    have hat := fun zd => (atKey_sorted (es.toList.map (rg P k anyE)) (Maps.fit_rising X.law F) (X.lit x) (X.law.key hl)).2 (rg P k anyE e0) (List.mem_map.2 ⟨_, hmem, rfl⟩) (by rw [rg_of hy]; exact hkey.symm) zd
    have e4 : y.2 = .held e0.val := by
      unfold anyE at hz
      injection hz with hz
      rw [hzd, ← hz]
    rw [rg_of hy, e4] at hat
    unfold Mx.look
    rw [hat .nil, Maps.has_true_of_atKey hat]
    rfl
  · have hhas : Maps.has (DataW.map ((es.toList.map (rg P k anyE)).foldr DataW.insert [])) (X.lit x) = false := by
      cases hc : Maps.has (DataW.map ((es.toList.map (rg P k anyE)).foldr DataW.insert [])) (X.lit x)
      · rfl
      · exfalso
        obtain ⟨p, hp, hpk⟩ := List.any_eq_true.1 hc
        obtain ⟨e0, hm, rfl⟩ := List.mem_map.1 (mem_sorted.1 hp)
        obtain ⟨y, hy⟩ := F.reads _ hm
        rw [rg_of hy] at hpk
        exact hno ⟨e0, hm, by rw [rd_key hy, WideAt.sameKey_eq hpk]⟩
    rw [hhas]
    unfold Mx.look
    rw [atKey_of_not_has hhas]
    rfl
theorem RangeX.next [DecidableEq κ] (h : RangeX X w b r f left cnt) (ty : TypeId) :
    ((∀ x, left x = false) ∧ (Instr.next (.pointer (some ⟨r, 0, none⟩)) false ty).run P w = .ok (.tuple #[.bool false]) w) ∨
    ∃ x v w1 cnt1, X.dom x ∧ left x = true ∧ f x = some v ∧ (Instr.next (.pointer (some ⟨r, 0, none⟩)) false ty).run P w = .ok (.tuple #[.bool true, X.enc x, v]) w1 ∧
      RangeX X w1 b r f (fun y => left y && !decide (y = x)) cnt1 ∧ cnt1 < cnt ∧ w.grownBy w1 (some r) ∧ w1.heap.size = w.heap.size ∧ (Instr.entry (.pointer (some ⟨r, 0, none⟩))).run P w1 = .ok (.tuple #[X.enc x, v]) w1 := by
  obtain ⟨D, lf, h1, h2, h3⟩ := h.ex
  rcases h1.next X.law ty with ⟨h0, hl, hrun⟩ | ⟨key, v, kl, y, w1, cnt1, hkey, hlk, hv, hat, hrun, hrg, hlt, hgr, hsz, hen⟩
  · refine .inl ⟨fun x => ?_, hrun⟩
    rcases Classical.em (X.dom x) with hx | hx
    · rw [h3 x hx]; exact hl _
    · exact (h.out x hx).2
  · obtain ⟨x, hx, rfl, rfl⟩ := X.sur _ _ hkey
    refine .inr ⟨x, v, w1, cnt1, hx, by rw [h3 x hx]; exact hlk, ?_, hrun, ⟨⟨D, _, hrg, h2, fun z hz => ?_⟩, fun z hz => ⟨(h.out z hz).1, by rw [(h.out z hz).2]; rfl⟩⟩, hlt, hgr, hsz, hen⟩
    · rw [h2 x hx]
      unfold Mx.look
      rw [hat .nil]
      unfold anyE at hv
      injection hv with hv
      rw [← hv]
      rfl
    · show (left z && !decide (z = x)) = _
      rw [h3 z hz]
      congr 2
      by_cases e : z = x
      · subst e
        rw [decide_eq_true rfl, WideAt.sameKey_self (X.law.key hkey)]
      · rw [decide_eq_false e, sameKey_ne (fun e' => e (X.inj _ _ hz hx e'))]
theorem RangeX.del [DecidableEq κ] (h : RangeX X w b r f left cnt) {t e : TypeId} (ht : P.underlying t = some (.map k e)) {x : κ} (hx : X.dom x) (ty : TypeId) :
    ∃ w1 cnt1, (Builtin.delete_ #[t, k] ty #[.map (some b), X.enc x]).run P w = .ok (.tuple #[]) w1 ∧ RangeX X w1 b r (delF f x) (fun y => left y && !decide (y = x)) cnt1 ∧ cnt1 ≤ cnt ∧ w.mapTurned w1 b := by
  obtain ⟨D, lf, h1, h2, h3⟩ := h.ex
  obtain ⟨w1, cnt1, hrun, hrg, hle, hturn⟩ := h1.drop X.law ht (X.key x hx) ty
  refine ⟨w1, cnt1, hrun, ⟨⟨_, _, hrg, fun y hy => ?_, fun z hz => ?_⟩, fun z hz => ⟨?_, by rw [(h.out z hz).2]; rfl⟩⟩, hle, hturn⟩
  · unfold delF Mx.look
    by_cases e : y = x
    · subst e
      rw [if_pos rfl, atKey_del_same]
      rfl
    · rw [if_neg e, atKey_del_other (fun e' => e (X.inj _ _ hy hx e')), h2 y hy]
      rfl
  · show (left z && !decide (z = x)) = _
    rw [h3 z hz]
    congr 2
    by_cases e : z = x
    · subst e
      rw [decide_eq_true rfl, WideAt.sameKey_self (X.law.key (X.key z hx))]
    · rw [decide_eq_false e, sameKey_ne (fun e' => e (X.inj _ _ hz hx e'))]
  · unfold delF
    split
    · rfl
    · exact (h.out z hz).1
end
end Go.Proofs.Ytfgfiiknbkakaaa.Mx

set_option linter.unusedVariables false
set_option linter.unusedSimpArgs false
namespace Go.Proofs.Ytfgfiiknbkakaaa.Fl
open Go.Proofs.Ytfgfiiknbkakaaa.Chk
/-- A fragment: its message, its limit, how often it was sent and when, how often it was missed, its state (0 in flight, 1 lost, 2 arrived, 3 abandoned), its chunk. -/
structure Pt where
  m : Int
  lk : Nat
  ln : Nat
  sent : Nat
  wn : Nat
  mi : Nat
  st : Nat
  c : Ck
def Pt.left (p : Pt) : Bool := p.st == 0 || p.st == 1
def Pt.spent (p : Pt) : Bool := p.lk == 1 && decide (p.ln < p.sent)
def restC (c : Ck) : Ck := { zeroC 0 with st := c.st, lo := c.lo, mid := c.mid }
def Pt.turn (tz : Nat) (p : Pt) : Pt := { p with st := tz, c := if tz ≤ 1 then p.c else restC p.c }
/-- A flight: its mark, its fragments, which messages were abandoned and not told yet, whether nothing was forgotten yet, the messages of all that was ever sent. -/
structure FS where
  mark : Nat
  ps : List Pt
  gone : Int → Bool
  fresh : Bool
  ms : List Int
def tsnOf (mark i : Nat) : Nat := (mark + i + 1) % 4294967296
def FS.next (s : FS) : Nat := tsnOf s.mark s.ps.length
def FS.turn (s : FS) (i tz : Nat) : FS := { s with ps := s.ps.modify i (Pt.turn tz) }
def FS.left (s : FS) : Nat := s.ps.countP Pt.left
def bytesP (p : Pt) : Nat := if p.st = 0 then p.c.body.length else 0
def FS.bytes (s : FS) : Nat := (s.ps.map bytesP).sum
def FS.abandon (s : FS) (m : Int) : FS := { s with ps := s.ps.map (fun p => if p.m = m ∧ p.left = true then p.turn 3 else p), gone := fun x => decide (x = m) || s.gone x }
structure AS where
  s : FS
  newest : Nat
  bytes : Nat
  rtt : Int
structure Ak where
  bytes : Nat
  on : Bool
  lost : Bool
  rtt : Int
  bad : Bool
def firstLost (s : FS) (i : Nat) : Prop := ∃ p, s.ps[i]? = some p ∧ p.st = 1 ∧ ∀ j q, j < i → s.ps[j]? = some q → q.st ≠ 1
def againP (now : Nat) (p : Pt) : Pt := { p with st := 0, sent := (p.sent + 1) % 18446744073709551616, wn := now, mi := 0 }
inductive AgainR (now : Nat) : FS → FS → Option Ck → Prop
  | none {s : FS} : (∀ p ∈ s.ps, p.st ≠ 1) → AgainR now s s none
  | skip {s s' : FS} {r : Option Ck} {i : Nat} {p : Pt} : firstLost s i → s.ps[i]? = some p → p.spent = true → AgainR now (s.abandon p.m) s' r → AgainR now s s' r
  | hit {s : FS} {i : Nat} {p : Pt} : firstLost s i → s.ps[i]? = some p → p.spent = false → AgainR now s { s with ps := s.ps.modify i (againP now) } (some p.c)
abbrev Ln := Nat × Bool
def FS.row (s : FS) : List Pt := s.ps.takeWhile fun p => p.st == 3
def skLt (a b : Skp) : Prop := a.1 < b.1 ∨ (a.1 = b.1 ∧ a.2.1 = false ∧ b.2.1 = true)
/-- The list of what is skipped. -/
structure SkOk (inter : Bool) (f : Ln → Option Nat) (sk : List Skp) : Prop where
  sort : sk.Pairwise skLt
  mem : ∀ a, a ∈ sk ↔ f (a.1, a.2.1) = some a.2.2 ∧ (inter = true ∨ a.2.1 = false)
end Go.Proofs.Ytfgfiiknbkakaaa.Fl

set_option linter.unusedVariables false
set_option linter.unusedSimpArgs false
set_option maxRecDepth 20000
namespace Go.Proofs.Ytfgfiiknbkakaaa.Fl
open Go.ChangeShapes Go.WideShapes Go.ChangeAt Go.RowKit Go.Deep Go.Maps Go.Proofs.Ytfgfiiknbkakaaa.Words Go.Proofs.Ytfgfiiknbkakaaa.Mx
open Go.ChangeMaps (notKey putKey delKey setBlock heap_setBlock_same)
open Go.MapKept (stamped_iff)
open Go.WideElems (Fit rd rg pl rd_key rd_val rg_of)
def i64ok (x : Int) : Prop := -9223372036854775808 ≤ x ∧ x ≤ 9223372036854775807
theorem i64_wf {a : Int} : (Lit.int .i64 a).wf = true ↔ i64ok a := by simp [Lit.wf, IntKind.min, IntKind.max, IntKind.bits, IntKind.signed, i64ok]
section
variable {P : Program} {k : TypeId} {w w' : World} {b : Nat} {D : DataW Value} {f : Int → Option Value}
/-- A map of keys of the kind int: what it holds at each. -/
structure MapZ (P : Program) (k : TypeId) (w : World) (b : Nat) (f : Int → Option Value) : Prop where
  und : P.underlying k = some (.int .i64)
  ex : ∃ D n, w.ownsMap P k anyE b n D ∧ n ≤ 1125899906842624 ∧ ∀ x, i64ok x → f x = Mx.look D (.int .i64 x)
  out : ∀ x, ¬ i64ok x → f x = none
/-- All that it holds stands at keys of this list. -/
def Few (f : Int → Option Value) (L : List Int) : Prop := ∀ x, f x ≠ none → x ∈ L
theorem keyz (hu : P.underlying k = some (.int .i64)) {x : Int} (hx : i64ok x) : keyOf P k (.int .i64 x) = some (.int .i64 x) := keyOf_int_mk hu (i64_wf.2 hx)
theorem surz (hu : P.underlying k = some (.int .i64)) {v : Value} {l : Lit} (h : keyOf P k v = some l) : ∃ x, i64ok x ∧ v = .int .i64 x ∧ l = .int .i64 x := by
  cases v <;> simp [keyOf, hu, mapKey] at h
  obtain ⟨⟨rfl, hw⟩, rfl⟩ := h
  exact ⟨_, i64_wf.1 hw, rfl, rfl⟩
theorem keysz (hu : P.underlying k = some (.int .i64)) : ∀ (es : List MapEntry), (∀ e ∈ es, ∃ l, keyOf P k e.key = some l) → ∃ xs : List Int, xs.map (fun x => Value.int .i64 x) = es.map (·.key) ∧ ∀ x ∈ xs, i64ok x
  | [], _ => ⟨[], rfl, by simp⟩
  | e :: es, h => by
    obtain ⟨xs, h1, h2⟩ := keysz hu es (fun e' he => h e' (List.mem_cons_of_mem _ he))
    obtain ⟨l, hl⟩ := h e List.mem_cons_self
    obtain ⟨x, hx, e1, _⟩ := surz hu hl
    exact ⟨x :: xs, by simp [h1, e1], fun y hy => by
      rcases List.mem_cons.1 hy with rfl | hy
      · exact hx
      · exact h2 y hy⟩
theorem nodup_sub {α : Type} [DecidableEq α] : ∀ (l L : List α), l.Nodup → (∀ x ∈ l, x ∈ L) → l.length ≤ L.length
  | [], _, _, _ => Nat.zero_le _
  | x :: l, L, hn, h => by
    have hx : x ∈ L := h x List.mem_cons_self
    have hn' := List.nodup_cons.1 hn
    have h2 := nodup_sub l (L.erase x) hn'.2 (fun y hy => (List.mem_erase_of_ne (fun e => hn'.1 (by rw [← e]; exact hy))).2 (h y (List.mem_cons_of_mem _ hy)))
    rw [List.length_erase_of_mem hx] at h2
    have hpos := List.length_pos_of_mem hx
    simp only [List.length_cons]
    omega
/-- How many it holds: no more than that list has. -/
theorem fit_fewz (hu : P.underlying k = some (.int .i64)) {n : Nat} (h : w.ownsMap P k anyE b n D) (h2 : ∀ x, i64ok x → f x = Mx.look D (.int .i64 x)) {L : List Int} (hL : Few f L) : w.ownsMap P k anyE b L.length D := by
  obtain ⟨es, clock, hb, F, hs, rfl⟩ := h
  refine ⟨es, clock, hb, F, ?_, rfl⟩
  obtain ⟨xs, e1, e2⟩ := keysz hu es.toList F.keys
  have hn : es.toList.Pairwise (fun x y => x.key ≠ y.key) := ((stamped_iff es clock).1 F.stamped).2.2
  have hnd : xs.Nodup := by
    have h3 : (es.toList.map (·.key)).Pairwise (· ≠ ·) := List.pairwise_map.2 hn
    rw [← e1] at h3
    exact (List.pairwise_map.1 h3).imp (fun {a b} hab e => hab (by rw [e]))
  have h6 : xs.length = es.toList.length := by have := congrArg List.length e1; simpa using this
  have h5 := nodup_sub xs L hnd (fun x hx => hL x (by
    have hx1 : Value.int .i64 x ∈ es.toList.map (·.key) := by rw [← e1]; exact List.mem_map.2 ⟨x, hx, rfl⟩
    obtain ⟨e0, hmem, he0⟩ := List.mem_map.1 hx1
    obtain ⟨y, hy⟩ := F.reads _ hmem
    obtain ⟨z, hz, hzd⟩ := rd_val hy
    have hkey := rd_key hy
    rw [he0, keyz hu (e2 x hx)] at hkey
    injection hkey with hkey
    have K : Keyed P k := int_keyed hu
    have hat := (atKey_sorted (es.toList.map (rg P k anyE)) (Maps.fit_rising K F) (.int .i64 x) (K.key (keyz hu (e2 x hx)))).2 (rg P k anyE e0) (List.mem_map.2 ⟨_, hmem, rfl⟩) (by rw [rg_of hy]; exact hkey.symm) .nil
    rw [h2 x (e2 x hx)]
    unfold Mx.look
    rw [hat, rg_of hy]
    unfold anyE at hz
    injection hz with hz
    have e4 : y.2 = .held e0.val := by rw [hzd, ← hz]
    rw [e4]
    intro h; cases h))
  have : es.size = es.toList.length := by simp
  omega
theorem MapZ.new (hu : P.underlying k = some (.int .i64)) (w : World) : MapZ P k (w.alloc (.map #[] 0)) w.heap.size (fun _ => none) :=
  ⟨hu, ⟨.map [], 0, World.ownsMap_made w P k anyE, by omega, fun x _ => rfl⟩, fun _ _ => rfl⟩
theorem MapZ.lt (h : MapZ P k w b f) : b < w.heap.size := by obtain ⟨D, n, h1, _⟩ := h.ex; exact h1.lt
theorem MapZ.same (h : MapZ P k w b f) (e : w'.heap[b]? = w.heap[b]?) : MapZ P k w' b f := by
  obtain ⟨D, n, ⟨es, clock, hb, F, hs, hD⟩, hn, h2⟩ := h.ex
  exact ⟨h.und, ⟨D, n, ⟨es, clock, e.trans hb, F, hs, hD⟩, hn, h2⟩, h.out⟩
theorem MapZ.fr {S : Nat → Prop} (h : MapZ P k w b f) (hf : Fr S w w') (hb : ¬ S b) : MapZ P k w' b f := h.same (hf.block b h.lt hb)
theorem MapZ.look (h : MapZ P k w b f) {t e : TypeId} (ht : P.underlying t = some (.map k e)) {z : Value} (hz : (zeroValue e).run P w = .ok z w) {x : Int} (hx : i64ok x) :
    (Instr.lookup t (.map (some b)) (.int .i64 x) false).run P w = .ok ((f x).getD z) w := by
  obtain ⟨D, n, ⟨es, clock, hb, F, _, rfl⟩, _, h2⟩ := h.ex
  have h3 := h2 x hx
  rcases Maps.fit_look false (int_keyed h.und) ht hz hb F (keyz h.und hx) with ⟨hrun, _, hat⟩ | ⟨e0, y, _, _, hrun, hRv, hat, _⟩
  · unfold Mx.look at h3
    rw [hat .nil] at h3
    rw [h3, hrun]
    rfl
  · unfold Mx.look at h3
    rw [hat .nil] at h3
    have e1 : y.1 = .held e0.val := by unfold anyE at hRv; injection hRv with hRv; rw [← hRv]
    rw [e1] at h3
    have h4 : f x = some e0.val := h3
    rw [h4, hrun]
    rfl
theorem MapZ.put (h : MapZ P k w b f) {t e : TypeId} (ht : P.underlying t = some (.map k e)) {x : Int} (hx : i64ok x) (v : Value) {L : List Int} (hL : Few f L) (hl : L.length ≤ 1073741824) :
    ∃ w1, (Instr.mapUpdate t (.map (some b)) (.int .i64 x) v).run P w = .ok () w1 ∧ MapZ P k w1 b (putF f x v) ∧ w.mapTurned w1 b := by
  obtain ⟨D, n, hown, hn, h2⟩ := h.ex
  have hown2 := fit_fewz h.und hown h2 hL
  have K : Keyed P k := int_keyed h.und
  obtain ⟨w1, hrun, hown1, hturn⟩ := hown2.store K ht (by unfold maxLen; omega) (keyz h.und hx) (show anyE v = some (.held v, []) from rfl)
  refine ⟨w1, hrun, ⟨h.und, ⟨_, _, hown1, by omega, fun y hy => ?_⟩, fun y hy => ?_⟩, hturn⟩
  · unfold putF Mx.look
    by_cases e : y = x
    · subst e
      rw [if_pos rfl, atKey_put_same hown2.isMap (K.key (keyz h.und hy))]
      rfl
    · rw [if_neg e, atKey_put_other (fun e' => e (by injection e')), h2 y hy]
      rfl
  · unfold putF
    rw [if_neg (fun e => hy (by rw [e]; exact hx))]
    exact h.out y hy
theorem MapZ.del (h : MapZ P k w b f) {t e : TypeId} (ht : P.underlying t = some (.map k e)) {x : Int} (hx : i64ok x) (ty : TypeId) :
    ∃ w1, (Builtin.delete_ #[t, k] ty #[.map (some b), .int .i64 x]).run P w = .ok (.tuple #[]) w1 ∧ MapZ P k w1 b (delF f x) ∧ w.mapTurned w1 b := by
  obtain ⟨D, n, hown, hn, h2⟩ := h.ex
  have K : Keyed P k := int_keyed h.und
  obtain ⟨w1, hrun, hown1, hturn⟩ := hown.drop K ht (keyz h.und hx) ty
  refine ⟨w1, hrun, ⟨h.und, ⟨_, _, hown1, hn, fun y hy => ?_⟩, fun y hy => ?_⟩, hturn⟩
  · unfold delF Mx.look
    by_cases e : y = x
    · subst e
      rw [if_pos rfl, atKey_del_same]
      rfl
    · rw [if_neg e, atKey_del_other (fun e' => e (by injection e')), h2 y hy]
      rfl
  · unfold delF
    split
    · rfl
    · exact h.out y hy
theorem fit_empty (P : Program) (k : TypeId) (clock : Nat) : Fit P k anyE #[] clock := by
  refine ⟨by simp, ?_, by simp⟩
  exact (stamped_iff #[] clock).2 ⟨by simp, by simp, by simp⟩
theorem run_clear_map {t e : TypeId} (ht : P.underlying t = some (.map k e)) {es : Array MapEntry} {clock : Nat} (hb : w.heap[b]? = some (.map es clock)) (ty : TypeId) :
    (Builtin.clear_ #[t] ty #[.map (some b)]).run P w = .ok (.tuple #[]) (setBlock w b (.map #[] clock)) := by
  simp [Builtin.clear_, run_underlying ht, MapKept.run_getObj_map hb, MapKept.run_setObj_map _ hb, Result.andThen]
  rfl
theorem MapZ.clear (h : MapZ P k w b f) {t e : TypeId} (ht : P.underlying t = some (.map k e)) (ty : TypeId) :
    ∃ w1, (Builtin.clear_ #[t] ty #[.map (some b)]).run P w = .ok (.tuple #[]) w1 ∧ MapZ P k w1 b (fun _ => none) ∧ w.mapTurned w1 b := by
  obtain ⟨D, n, ⟨es, clock, hb, F, hs, hD⟩, hn, h2⟩ := h.ex
  exact ⟨_, run_clear_map ht hb ty, ⟨h.und, ⟨.map [], 0, ⟨#[], clock, heap_setBlock_same hb _, fit_empty P k clock, by simp, rfl⟩, by omega, fun x _ => rfl⟩, fun _ _ => rfl⟩, ⟨es, clock, _, _, hb, rfl⟩⟩
end
section
variable {P : Program} {k : TypeId} {κ : Type} {X : KX P k κ} {w : World} {b : Nat} {f : κ → Option Value}
end
end Go.Proofs.Ytfgfiiknbkakaaa.Fl
