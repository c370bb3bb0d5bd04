/-
  Contracts of package mac: Hash.
-/
import Derived.Test.YtmbgjijajakgeaaDoorMac4
import Derived.Test.YtmbgjijajakgeaaDoorMac7
set_option linter.unusedVariables false
set_option linter.unusedSimpArgs false
namespace Go.Proofs.YtmbgjijajakgeaaDoor.Sha
attribute [local go_sem] Oper.semAt_some
open Go.ChangeShapes Go.WideShapes Go.ChangeAt Go.RowKit Go.Proofs.YtmbgjijajakgeaaDoor.Words

/-- A slice of slices of bytes that is read. -/
structure Pts (w : World) (B : Nat) (A : Option Addr) (n : Nat) (xs : List Value) (ls : List (List UInt8)) : Prop where
  row : Reads w B 1 A n xs
  len : xs.length = ls.length
  at_ : ∀ (j : Nat) (l : List UInt8), ls[j]? = some l → ∃ a c, xs[j]? = some (Value.slice a l.length c) ∧ l.length ≤ c ∧ c ≤ 9223372036854775807 ∧ Byt w B a l
section
variable {w w' : World} {B B' n st : Nat} {A : Option Addr} {xs : List Value} {ls : List (List UInt8)}
theorem Pts.below (h : Pts w B A n xs ls) (hb : Below B w w') : Pts w' B A n xs ls :=
  ⟨h.row.below hb, h.len, fun j l hl => by
    obtain ⟨a, c, h1, h2, h3, h4⟩ := h.at_ j l hl
    exact ⟨a, c, h1, h2, h3, h4.below hb⟩⟩
theorem Pts.more (h : Pts w B A n xs ls) (hB : B ≤ B') : Pts w B' A n xs ls :=
  ⟨h.row.more hB, h.len, fun j l hl => by
    obtain ⟨a, c, h1, h2, h3, h4⟩ := h.at_ j l hl
    exact ⟨a, c, h1, h2, h3, h4.more hB⟩⟩
theorem Pts.n_eq (h : Pts w B A n xs ls) : ls.length = n := by have := h.row.1; have := h.len; omega
theorem Pts.one (h : Pts w B A n xs ls) : ∀ u ∈ xs, u.oneCell' = true := by
  intro u hu
  obtain ⟨j, hj⟩ := List.getElem?_of_mem hu
  have hlt : j < ls.length := by have := (List.getElem?_eq_some_iff.1 hj).1; have := h.len; omega
  obtain ⟨a, c, h1, _⟩ := h.at_ j _ (List.getElem?_eq_getElem hlt)
  rw [hj] at h1
  cases h1
  rfl
theorem Pts.slb (h : Pts w B A n xs ls) (hst : B ≤ st) : SlB st w B xs ls :=
  ⟨h.len, fun j l hl => by
    obtain ⟨a, c, h1, h2, h3, h4⟩ := h.at_ j l hl
    refine ⟨a, c, h1, h2, h3, h4, fun hn x hx => ?_⟩
    obtain ⟨ad, e, hb, _⟩ := h4.2 hn
    rw [hx] at e
    cases e
    omega⟩
theorem SlB.more (h : SlB st w B xs ls) (hB : B ≤ B') : SlB st w B' xs ls :=
  ⟨h.1, fun j l hl => by
    obtain ⟨a, c, h1, h2, h3, h4, h5⟩ := h.2 j l hl
    exact ⟨a, c, h1, h2, h3, h4.more hB, h5⟩⟩
theorem SlB.append {xs2 : List Value} {ls2 : List (List UInt8)} (h : SlB st w B xs ls) (k : SlB st w B xs2 ls2) : SlB st w B (xs ++ xs2) (ls ++ ls2) := by
  refine ⟨by simp [h.1, k.1], fun j l hl => ?_⟩
  by_cases hj : j < ls.length
  · rw [List.getElem?_append_left hj] at hl
    obtain ⟨a, c, h1, h2⟩ := h.2 j l hl
    exact ⟨a, c, by rw [List.getElem?_append_left (by rw [h.1]; exact hj)]; exact h1, h2⟩
  · rw [List.getElem?_append_right (by omega)] at hl
    obtain ⟨a, c, h1, h2⟩ := k.2 _ l hl
    exact ⟨a, c, by rw [List.getElem?_append_right (by rw [h.1]; omega), h.1]; exact h1, h2⟩
theorem SlB.single {a : Option Addr} {c : Nat} {l : List UInt8} (h1 : l.length ≤ c) (h2 : c ≤ 9223372036854775807) (h3 : Byt w B a l) (h4 : ∀ x, a = some x → x.block ≠ st) : SlB st w B [.slice a l.length c] [l] :=
  ⟨rfl, fun j m hm => by
    match j, hm with
    | 0, hm => simp only [List.getElem?_cons_zero, Option.some.injEq] at hm; subst hm; exact ⟨a, c, rfl, h1, h2, h3, fun _ => h4⟩⟩
end

theorem Pts.elem {w : World} {B n : Nat} {A : Option Addr} {xs : List Value} {ls : List (List UInt8)} (h : Pts w B A n xs ls) {j : Nat} (hj : j < n) :
    ∃ ad a m c r, A = some ad ∧ w.cell? (ad.add j) = some (.slice a m c) ∧ m = r.length ∧ ls[j]? = some r := by
  have e : ls[j]? = some (ls[j]'(by rw [h.n_eq]; exact hj)) := List.getElem?_eq_getElem _
  obtain ⟨a, c, h1, _⟩ := h.at_ j _ e
  obtain ⟨ad, e1, _, hc⟩ := h.row.2 (by omega)
  exact ⟨ad, a, _, c, _, e1, hc j _ h1, rfl, e⟩
theorem blk_reads {w : World} {g B : Nat} {t : TypeId} {cs : List Value} (h : Blk w g t cs.toArray) (hB : g < B) : Reads w B 1 (some ⟨g, 0, none⟩) cs.length cs :=
  ⟨by omega, fun _ => ⟨_, rfl, hB, fun j u hu => by rw [h.cellAdd]; simpa using hu⟩⟩
theorem semAt_plain {o : Oper} (h : ∀ c, o.op ≠ .defer c) (r : Option Nat) (ρ : Operand → Value) : Oper.semAt r ρ o = execOp ρ o := by
  cases r with
  | none => rw [Oper.semAt_none]
  | some l => exact Oper.semAt_some l ρ o h
theorem wpIn_load_any {F : Fence} {n : Nat} {P : Program} {o : Oper} {a : Act} {w : World} {K : Act → World → Prop} {Q : Exit → Act → World → Prop} (ty : TypeId) (x : Operand) (ho : o.op = .load ty x) {vx v : Value} (hx : a.eval x = vx)
    (hr : (Instr.loadAt ty vx).run P w = .ok v w) (h : K (a.put o.dst v) w) : o.wpIn F n P a w K Q := by
  unfold Oper.wpIn
  refine ⟨fun f hf => by simp [Oper.about, ho] at hf, ?_⟩
  rw [semAt_plain (by intro c; rw [ho]; intro e; cases e)]
  unfold execOp
  simp only [ho, hx, Sem.run_bind, Sem.run_pure, Result.andThen_ok, hr]
  exact h
theorem wpIn_store_any {F : Fence} {n : Nat} {P : Program} {o : Oper} {a : Act} {w w' : World} {K : Act → World → Prop} {Q : Exit → Act → World → Prop} (ty : TypeId) (x y : Operand) (ho : o.op = .store ty x y) {vx vy : Value} (hx : a.eval x = vx) (hy : a.eval y = vy)
    (hr : (Instr.storeAt ty vx vy).run P w = .ok () w') (h : K (a.put o.dst undef) w') : o.wpIn F n P a w K Q := by
  unfold Oper.wpIn
  refine ⟨fun f hf => by simp [Oper.about, ho] at hf, ?_⟩
  rw [semAt_plain (by intro c; rw [ho]; intro e; cases e)]
  unfold execOp
  simp only [ho, hx, hy, Sem.run_bind, Sem.run_pure, Result.andThen_ok, hr]
  exact h
theorem wpIn_alloc_any {F : Fence} {n : Nat} {P : Program} {o : Oper} {a : Act} {w w' : World} {K : Act → World → Prop} {Q : Exit → Act → World → Prop} (ty : TypeId) (ho : o.op = .alloc ty) {v : Value}
    (hr : (Instr.alloc ty true (.tuple #[])).run P w = .ok v w') (h : K (a.put o.dst v) w') : o.wpIn F n P a w K Q := by
  unfold Oper.wpIn
  refine ⟨fun f hf => by simp [Oper.about, ho] at hf, ?_⟩
  rw [semAt_plain (by intro c; rw [ho]; intro e; cases e)]
  unfold execOp
  simp only [ho, Sem.run_bind, Sem.run_pure, Result.andThen_ok, hr]
  exact h
theorem load_u8 {w : World} {g : Nat} {l : List Nat} (h : Blk w g 80 (U l)) (hl : l.length = 8) : (Instr.loadAt 80 (.pointer (some ⟨g, 0, none⟩))).run Tryd.prog w = .ok (.agg (U l)) w := by
  have := run_loadVar_row (P := Tryd.prog) w g 80 80 (U l) (0, 0) _ h Tryd.underlying80 rfl (by rw [U_size, hl]; exact size_w8)
  simp [Instr.loadAt, Instr.sureAddr, this]
theorem store_u8 {w : World} {g : Nat} {l m : List Nat} (h : Blk w g 80 (U l)) (hl : l.length = 8) (hm : m.length = 8) : (Instr.storeAt 80 (.pointer (some ⟨g, 0, none⟩)) (.agg (U m))).run Tryd.prog w = .ok () (w.setRow g (U m)) := by
  have := run_storeVar_row w g 80 80 (P := Tryd.prog) (U l) (U m) h (by rw [U_size, hm]; exact size_w8) (by rw [U_size, U_size, hl, hm]) (U_one _)
  simp [Instr.storeAt, Instr.sureAddr, this]
theorem store_b64 {w : World} {g : Nat} {l m : List UInt8} (h : Blk w g 67 (V l)) (hl : l.length = 64) (hm : m.length = 64) : (Instr.storeAt 67 (.pointer (some ⟨g, 0, none⟩)) (.agg (V m))).run Tryd.prog w = .ok () (w.setRow g (V m)) := by
  have := run_storeVar_row w g 67 67 (P := Tryd.prog) (V l) (V m) h (by rw [V_size, hm]; exact size_b64) (by rw [V_size, V_size, hl, hm]) (V_one _)
  simp [Instr.storeAt, Instr.sureAddr, this]
theorem row_far {w : World} {g g' : Nat} {t : TypeId} {cs : Array Value} (h : Blk w g t cs) (hne : g ≠ g') (cs' : Array Value) : Blk (w.setRow g' cs') g t cs := (setRow_other w g' g cs' hne).trans h
theorem fr_new {S : Nat → Prop} {W W' : World} (h : Fr (fun k => W.heap.size ≤ k) W W') : Fr S W W' := h.mono (fun x hx h => absurd hx (by omega))
/-- The digest as far as byte k. -/
def outP (s : List Nat) (k : Nat) : List UInt8 := (out s).take k ++ List.replicate (32 - k) 0
theorem outP_length {s : List Nat} (h : s.length = 8) {k : Nat} (hk : k ≤ 32) : (outP s k).length = 32 := by have := out_length h; simp [outP]; omega
theorem outP_zero (s : List Nat) : outP s 0 = Zb 32 := rfl
theorem outP_all {s : List Nat} (h : s.length = 8) : outP s 32 = out s := by have := out_length h; simp [outP, List.take_of_length_le (Nat.le_of_eq this)]
theorem outP_step {s : List Nat} (h : s.length = 8) {k : Nat} {b : UInt8} (hb : (out s)[k]? = some b) : outP s (k + 1) = (outP s k).set k b := by
  obtain ⟨h1, rfl⟩ := List.getElem?_eq_some_iff.1 hb
  have hl := out_length h
  have ht : ((out s).take k).length = k := by simp; omega
  unfold outP
  rw [List.take_succ_eq_append_getElem h1, List.set_append_right _ _ (by omega), ht, Nat.sub_self, show 32 - k = (32 - (k + 1)) + 1 by omega, List.replicate_succ, List.set_cons_zero, List.append_assoc]
  rfl
theorem out_at {s : List Nat} (h : s.length = 8) {i j : Nat} (hi : i < 8) (hj : j < 4) : ∃ b : UInt8, (out s)[4 * i + j]? = some b ∧ ∀ d : Int, d = (2 : Int) ^ (24 - 8 * j) → ((s.getD i 0 : Nat) : Int) / d % 256 = (b.toNat : Int) := by
  have hj4 : j = 0 ∨ j = 1 ∨ j = 2 ∨ j = 3 := by omega
  have hi8 : i = 0 ∨ i = 1 ∨ i = 2 ∨ i = 3 ∨ i = 4 ∨ i = 5 ∨ i = 6 ∨ i = 7 := by omega
  match s, h with
  | [x0, x1, x2, x3, x4, x5, x6, x7], _ =>
    rcases hi8 with rfl | rfl | rfl | rfl | rfl | rfl | rfl | rfl <;> rcases hj4 with rfl | rfl | rfl | rfl <;> refine ⟨_, rfl, fun d hd => ?_⟩ <;> rw [UInt8.toNat_ofNat', hd] <;> simp only [List.getD_cons_zero, List.getD_cons_succ] <;> omega
theorem stD {Z wr : World} {g i j : Nat} {s : List Nat} {b : UInt8} (h : Hid (Blk (wr.setCell ⟨g, i, none⟩ (.int .u8 (b.toNat : Int))) g 41 (V (outP s j)) ∧ Below g Z (wr.setCell ⟨g, i, none⟩ (.int .u8 (b.toNat : Int))))) (x : Int) (hx : x = (b.toNat : Int)) :
    Hid (Blk (wr.setCell ⟨g, i, none⟩ (.int .u8 x)) g 41 (V (outP s j)) ∧ Below g Z (wr.setCell ⟨g, i, none⟩ (.int .u8 x))) := by rw [hx]; exact h
/-- Between two blocks. -/
structure HSt (w W : World) (N q : Nat) (LL : List UInt8) : Prop where
  st : Blk W (N + 1) 80 (U (feed q h0 LL))
  res : Blk W N 41 (V (Zb 32))
  laid : Laid W
  below : Below w.heap.size w W
theorem HSt.later {w W W' : World} {N q B : Nat} {LL : List UInt8} (h : HSt w W N q LL) (hb : Below B W W') (hB : N + 2 ≤ B) (hN : N = w.heap.size) (h2 : 2 ≤ N) : HSt w W' N q LL :=
  ⟨h.st.below hb (by omega), h.res.below hb (by omega), h.laid.below hb (by omega), h.below.trans (hb.mono (by omega))⟩
theorem blocks_any (A : Option Addr) (n c : Nat) (w : World) : Calls Tryd.prog 40 #[.slice A n c] w fun e w' =>
    e = .returned (.func (.func 48) #[] #[.pointer (some ⟨w.heap.size, 0, none⟩)]) ∧ w' = w.alloc (.cells #[.slice A n c] 66) := by
  go_enter Tryd.func40, Tryd.ntmps40
  go_wp2
  go_ret
  exact ⟨rfl, rfl⟩
set_option maxRecDepth 20000 in
set_option maxHeartbeats 2000000 in
theorem hash_any {A : Option Addr} {n c : Nat} {xs : List Value} {ls : List (List UInt8)} {w : World} (hP : Pts w w.heap.size A n xs ls) (hn : n ≤ 90) (hL : ls.flatten.length ≤ 900000) (hK : Laid w) :
    Calls Tryd.prog 28 #[.slice A n c] w fun e w' => e = .returned (.agg (V (hash ls.flatten))) ∧ Below w.heap.size w w' := by
  obtain ⟨N, hN⟩ : ∃ N, N = w.heap.size := ⟨_, rfl⟩
  refine (callsIn_wide (n := 4)).1 ?_
  refine callsIn_of_wp_marks Tryd.func28 rfl trivial ?_ rfl
  simp only [Tryd.ntmps28, List.size_toArray, List.length_cons, List.length_nil, Nat.reduceAdd, Nat.reduceSub, Array.replicate_succ, Array.replicate_zero, List.push_toArray, List.append_toArray, List.nil_append, List.cons_append]
  refine wpIn_wide.2 ?_
  have HP := Lib.hid hP
  have HK := Lib.hid hK
  clear hP hK
  obtain ⟨W1, hW1⟩ : ∃ Wn, Wn = w.alloc (.cells (V (Zb 32)) 41) := ⟨_, rfl⟩
  have HAL := Lib.hid (alloc_b32 w)
  rw [← hW1, ← hN] at HAL
  have hb1 : Below w.heap.size w W1 := by rw [hW1]; exact (Below.refl _ _).alloc (Nat.le_refl _) _
  have hs1 : W1.heap.size = N + 1 := by rw [hW1, hN]; simp
  have HR1 : Hid (Blk W1 N 41 (V (Zb 32))) := by
    show Blk _ _ _ _
    rw [hW1, hN]; exact Blk.new w _ _
  have HP1 : Hid (Pts W1 N A n xs ls) := by rw [hN]; exact HP.out.below hb1
  have HK1 : Hid (Laid W1) := HK.out.below hb1 HK.out.size
  have HB1 : Hid (Below w.heap.size w W1) := hb1
  have HN := Lib.hid hN
  clear hW1 hb1 hN
  go_wp2_with (with_reducible refine wpList_alloc_run _ rfl 41 rfl HAL.out ?_)
  obtain ⟨T, hT⟩ : ∃ T, T = ls.flatten.length := ⟨_, rfl⟩
  have hT9 : T ≤ 900000 := by rw [hT]; exact hL
  have HT := Lib.hid hT
  have HL := Lib.hid hL
  clear hT hL
  go_loop [3, 14] (fun s i => ∃ k t : Nat, k ≤ n ∧ t ≤ 900000 ∧ i = .int .i64 (k : Int) ∧ s = .int .u64 (t : Int) ∧ Hid (t = (ls.take k).flatten.length)) (fun _ i => n - (intOf i).toNat)
  case atStart => exact ⟨0, 0, Nat.zero_le _, Nat.zero_le _, rfl, rfl, rfl⟩
  case round =>
    obtain ⟨k, t, hk, ht9, rfl, rfl, ht⟩ := hrel
    by_cases hlt : k < n
    · obtain ⟨ad, a, m, ca, r, rfl, hc, hm, hr⟩ := HP1.out.elem hlt
      have hH : Hid (t + m = (ls.take (k + 1)).flatten.length) := by rw [ht.out, hm]; exact len_part hr
      have h9 : t + m ≤ 900000 := by
        rw [hH.out]
        refine Nat.le_trans ?_ HL.out
        conv => rhs; rw [← List.take_append_drop (k + 1) ls, List.flatten_append, List.length_append]
        omega
      clear hm hr ht
      go_wp2
      go_round
      case rel => exact ⟨k + 1, t + m, by omega, h9, by go_num, by go_num, hH⟩
      case measure => simp [intOf]; omega
    · obtain rfl : k = n := by omega
      obtain rfl : t = T := by rw [ht.out, HT.out, ← HP1.out.n_eq, List.take_length]
      clear ht
      obtain ⟨tf, frf, hf1⟩ := HK1.out.1
      have HF1 := Lib.hid hf1
      clear hf1
      obtain ⟨W2, hW2⟩ : ∃ Wn, Wn = (W1.alloc (.cells (U (Zs 8)) 80)).setRow (N + 1) (U h0) := ⟨_, rfl⟩
      have HS2 : Hid (Blk W2 (N + 1) 80 (U h0)) := by
        show Blk _ _ _ _
        rw [hW2]
        exact setRow_heap _ (N + 1) _ _ _ _ (by rw [← hs1]; exact Blk.new W1 _ _)
      have hb2 : Below W1.heap.size W1 W2 := by rw [hW2]; exact below_setRow ((Below.refl _ _).alloc (Nat.le_refl _) _) (by omega) _
      have hs2 : W2.heap.size = N + 2 := by rw [hW2]; simp [World.setRow, hs1]
      have HP2 : Hid (Pts W2 N A k xs ls) := HP1.out.below (hb2.mono (by omega))
      have HK2 : Hid (Laid W2) := HK1.out.below hb2 HK1.out.size
      have HR2 : Hid (Blk W2 N 41 (V (Zb 32))) := HR1.out.below hb2 (by omega)
      have HB2 : Hid (Below w.heap.size w W2) := HB1.out.trans (hb2.mono (by have := HN.out; omega))
      have HEND := Lib.hid (end_any t (by omega) W2)
      go_wp2_with (first
        | (with_reducible refine wpList_alloc_run _ rfl 80 rfl (alloc_w8 _) ?_)
        | (refine wpList_load_row rfl 80 _ rfl 0 rfl tf (U h0) frf _ HF1.out Tryd.underlying80 rfl (by rw [U_size]; exact size_w8) ?_)
        | (refine wpList_store_row rfl 80 _ _ rfl (N + 1) (U h0) (by rw [← hs1]; rfl) rfl 80 (U (Zs 8)) (by rw [← hs1]; exact Blk.new W1 _ _) (by rw [U_size]; exact size_w8) (by rw [U_size, U_size]; rfl) (U_one _) ?_; rw [← hW2]))
      rw [← hW2]
      refine HEND.out.mono ?_
      rintro e W3 ⟨g, m, rfl, hm, hg, hgb, hb3⟩
      have HS3 : Hid (Blk W3 (N + 1) 80 (U h0)) := HS2.out.below hb3 (by omega)
      have HP3 : Hid (Pts W3 N A k xs ls) := HP2.out.below (hb3.mono (by omega))
      have HK3 : Hid (Laid W3) := HK2.out.below hb3 HK2.out.size
      have HR3 : Hid (Blk W3 N 41 (V (Zb 32))) := HR2.out.below hb3 (by omega)
      have HB3 : Hid (Below w.heap.size w W3) := HB2.out.trans (hb3.mono (by have := HN.out; omega))
      have hs3 := hb3.size
      have HM := Lib.hid hm
      have HGB := Lib.hid hgb
      clear hW2 hb2 HS2 HP2 HK2 HR2 HB2 HEND hb3 hm hgb HP1 HR1 HB1 HK1 HF1
      obtain ⟨G, hG⟩ : ∃ G, G = W3.heap.size := ⟨_, rfl⟩
      obtain ⟨W4, hW4⟩ : ∃ Wn, Wn = (W3.alloc (.cells #[.slice (some ⟨g, 0, none⟩) m m] 22)).alloc (.cells #[.slice A k c, .slice (some ⟨G, 0, none⟩) 1 1] 66) := ⟨_, rfl⟩
      have hb4 : Below W3.heap.size W3 W4 := by rw [hW4]; exact ((Below.refl _ _).alloc (Nat.le_refl _) _).alloc (by simp) _
      have hs4 : W4.heap.size = G + 2 := by rw [hW4, hG]; simp
      have HTW : Hid (Two W4 W4.heap.size (some ⟨G + 1, 0, none⟩) A k c xs (some ⟨G, 0, none⟩) 1 1 [.slice (some ⟨g, 0, none⟩) m m]) := by
        refine ⟨?_, (HP3.out.below (hb4.mono (by omega))).row.more (by omega), ?_, HP3.out.one, fun u hu => by simp only [List.mem_singleton] at hu; subst hu; rfl⟩
        · refine blk_reads (t := 66) (cs := [.slice A k c, .slice (some ⟨G, 0, none⟩) 1 1]) ?_ (by omega)
          rw [hW4, hG]
          simpa using Blk.new (W3.alloc (.cells #[.slice (some ⟨g, 0, none⟩) m m] 22)) 66 #[.slice A k c, .slice (some ⟨W3.heap.size, 0, none⟩) 1 1]
        · refine blk_reads (t := 22) (cs := [.slice (some ⟨g, 0, none⟩) m m]) ?_ (by omega)
          rw [hW4, hG]
          exact (Blk.new W3 _ _).alloc _
      have HS4 : Hid (Blk W4 (N + 1) 80 (U h0)) := HS3.out.below hb4 (by omega)
      have HP4 : Hid (Pts W4 N A k xs ls) := HP3.out.below (hb4.mono (by omega))
      have HK4 : Hid (Laid W4) := HK3.out.below hb4 HK3.out.size
      have HR4 : Hid (Blk W4 N 41 (V (Zb 32))) := HR3.out.below hb4 (by omega)
      have HB4 : Hid (Below w.heap.size w W4) := HB3.out.trans (hb4.mono (by have := HN.out; omega))
      have HGB4 : Hid (Blk W4 g 5 (V (endL t))) := HGB.out.below hb4 (by have := HGB.out.lt; omega)
      have HCC := Lib.hid (concat_any (c0 := 2) HTW.out (by omega) (by omega))
      clear hb4 HTW HS3 HP3 HK3 HR3 HB3 HGB
      go_wp2_with fail
      rw [← hG, ← hW4]
      refine HCC.out.mono ?_
      rintro e W5 ⟨v5, rfl, hv5, hb5⟩
      obtain ⟨A5, c5, rfl, hc5, hc5'⟩ := own_slice hv5
      obtain ⟨g5, cap5, e5, hg5, hlt5⟩ := hv5.form (by omega)
      obtain ⟨W6, hW6⟩ : ∃ Wn, Wn = W5.alloc (.cells #[.slice A5 (k + 1) c5] 66) := ⟨_, rfl⟩
      obtain ⟨X, hX⟩ : ∃ X, X = W5.heap.size := ⟨_, rfl⟩
      have hb6 : Below W5.heap.size W5 W6 := by rw [hW6]; exact (Below.refl _ _).alloc (Nat.le_refl _) _
      have hb46 : Below W4.heap.size W4 W6 := hb5.trans (hb6.mono hb5.size)
      have hs5 := hb5.size
      have hs6 : W6.heap.size = X + 1 := by rw [hW6, hX]; simp
      have HBX : Hid (W6.cell? ⟨X, 0, none⟩ = some (.slice A5 (k + 1) c5)) := by
        show _ = _
        rw [hW6, hX]
        exact (Blk.new W5 _ _).cell 0
      have HS6 : Hid (Blk W6 (N + 1) 80 (U h0)) := HS4.out.below hb46 (by omega)
      have HK6 : Hid (Laid W6) := HK4.out.below hb46 HK4.out.size
      have HR6 : Hid (Blk W6 N 41 (V (Zb 32))) := HR4.out.below hb46 (by omega)
      have HB6 : Hid (Below w.heap.size w W6) := HB4.out.trans (hb46.mono (by have := HN.out; omega))
      have HPR : Hid (Prt (N + 1) W6 W6.heap.size A5 (k + 1) (xs ++ [.slice (some ⟨g, 0, none⟩) m m]) (ls ++ [endL t])) := by
        have e5' : A5 = some ⟨g5, 0, none⟩ := by cases e5; rfl
        refine ⟨((Reads.of_own hv5).below hb6).more hb6.size, fun _ x hx => by rw [e5'] at hx; cases hx; show g5 ≠ N + 1; omega, ?_⟩
        refine SlB.append (((HP4.out.below (hb46.mono (by omega))).slb (by omega)).more (by omega)) ?_
        rw [HM.out]
        refine SlB.single (Nat.le_refl _) (by rw [endL_length]; unfold zerosN; omega) ((HGB4.out.below hb46 HGB4.out.lt).byt (by have := HGB4.out.lt; omega) (by rw [List.take_of_length_le (by simp [V, u8s_length])]; rfl)) (fun x hx => by cases hx; show g ≠ N + 1; omega)
      have hG3 : N + 2 ≤ G := by omega
      have HBA := Lib.hid (blocks_any A5 (k + 1) c5 W5)
      clear hb46 hb6 hb5 hv5 e5 hg5 hlt5 HS4 HK4 HR4 HB4 HP4 HGB4 HCC hW4 hG
      go_wp2_with fail
      refine HBA.out.mono ?_
      rintro e W7 ⟨rfl, rfl⟩
      rw [← hX, ← hW6]
      go_wp2_with fail
      rw [← hX, ← hW6]
      obtain ⟨LL, hLL⟩ : ∃ LL, LL = (ls ++ [endL t]).flatten := ⟨_, rfl⟩
      have hHH := blocks_hands (st := N + 1) (Bx := X) (w := W6) (by omega) HBX.out (by omega) (by omega) HPR.out (by omega) (by
        rw [List.flatten_append, List.length_append, ← HT.out]
        simp only [List.flatten_cons, List.flatten_nil, List.append_nil, endL_length]
        unfold zerosN
        omega)
      rw [← hLL] at hHH
      have HLL := Lib.hid hLL
      have HHH := Lib.hid hHH
      have hN2 : 2 ≤ N := by have := HK.out.size; have := HN.out; omega
      have hX4 : G + 2 ≤ X := by omega
      have HX := Lib.hid hX
      clear hHH hLL hW6 hX hs5
      refine wp_range_hands rfl (enters_of Tryd.func48 (by kernel_rfl) rfl) (st := N + 1) (by omega) rfl HHH.out (fun q W => Hid (HSt w W N q LL)) (fun q A A' h hb => h.out.later hb (by omega) HN.out hN2) ⟨HS6.out, HR6.out, HK6.out, HB6.out⟩
        (fun T0 q a' A => ∃ b, Hid (Blk A b 67 (V (blk LL q))) ∧ a' = { tmps := (T0.setIfInBounds 32 (.agg (V (blk LL q)))).setIfInBounds 7 (.pointer (some ⟨b, 0, none⟩)), defers := [] }) ?ax ?assign ?body ?done
      case ax =>
        rintro q a' A l r o ⟨b, hb, rfl⟩ hl
        refine ⟨b, ?_, rfl⟩
        show Blk _ _ _ _
        refine (World.putObj_heap_other ?_).trans hb.out
        rintro rfl
        have h1 := hb.out
        unfold Blk at h1
        rw [hl] at h1
        cases h1
      case assign =>
        intro l q W K hq hK
        have hbl : (blk LL q).length = 64 := blk_length (by omega)
        have hst := store_b64 (Blk.new W 67 (V (Zb 64))) (by simp [Zb]) hbl
        have hfr : Fr (fun _ => False) W ((W.alloc (.cells (V (Zb 64)) 67)).setRow W.heap.size (V (blk LL q))) := by
          refine ⟨rfl, rfl, rfl, by simp [World.setRow], fun k hk _ => (setRow_other _ _ k _ (by omega)).trans (Below.heap_alloc W _ k hk)⟩
        have hbb : Blk ((W.alloc (.cells (V (Zb 64)) 67)).setRow W.heap.size (V (blk LL q))) W.heap.size 67 (V (blk LL q)) := setRow_heap _ _ _ _ _ _ (Blk.new W _ _)
        simp only [List.setIfInBounds_toArray, List.set_cons_succ, List.set_cons_zero]
        gi_wp2_with (first | (refine wpIn_alloc_any 67 rfl (alloc_b64 _) ?_) | (refine wpIn_store_any 67 _ _ rfl rfl rfl hst ?_))
        exact hK _ _ hfr ⟨_, hbb, by simp only [List.setIfInBounds_toArray, List.set_cons_succ, List.set_cons_zero]⟩
      case body =>
        intro l q a' W hs hq hax hsz
        obtain ⟨b, hb, rfl⟩ := hax
        simp only [List.setIfInBounds_toArray, List.set_cons_succ, List.set_cons_zero]
        have hbl : (blk LL q).length = 64 := blk_length (by omega)
        have hf8 : W8 (feed q h0 LL) := W8.feed _ _ W8.h0
        have hl1 := load_u8 hs.out.st hf8.1
        have hl2 := load_b64 hb.out hbl
        have HMX := Lib.hid (mix_any (feed q h0 LL) hf8 (blk LL q) hbl W hs.out.laid)
        gi_wp2_with (first | (refine wpIn_load_any 80 _ rfl rfl hl1 ?_) | (refine wpIn_load_any 67 _ rfl rfl hl2 ?_))
        refine ⟨trivial, ?_⟩
        refine (CallsIn.inRound l (callsIn_wide.2 HMX.out)).mono ?_
        rintro e W2 ⟨rfl, hb2⟩
        have hs2' := hs.out.later hb2 (by omega) HN.out hN2
        have hm8 : (mix (feed q h0 LL) (blk LL q)).length = 8 := (W8.mix hf8 _).1
        have hst2 := store_u8 hs2'.st hf8.1 hm8
        have hfin : Hid (wentOn (N + 1) (fun q W => Hid (HSt w W N q LL)) (q + 1) W .normal { tmps := #[], defers := [] } (W2.setRow (N + 1) (U (mix (feed q h0 LL) (blk LL q))))) := by
          refine ⟨?_, ?_⟩
          · exact fr_setRow (S := fun k => k = N + 1) (g := N + 1) (fr_new (Fr.of_below hb2)) rfl _
          · refine ⟨?_, (row_far hs2'.res (by omega) _), ?_, ?_⟩
            · rw [feed_snoc]; exact setRow_heap _ _ _ _ _ _ hs2'.st
            · exact hs2'.laid.below (below_setRow (B := N) (Below.refl _ _) (by omega) _) hN2
            · exact below_setRow hs2'.below (by have := HN.out; omega) _
        clear hs2' hb2 hl1 hl2 HMX hs hb
        gi_wp2_with (refine wpIn_store_any 80 _ _ rfl rfl rfl hst2 ?_)
        exact hfin.out
      case done =>
        intro W hs hD
        dsimp only
        have hf8 : W8 (feed (LL.length / 64) h0 LL) := W8.feed _ _ W8.h0
        obtain ⟨s, hsd⟩ : ∃ s, s = feed (LL.length / 64) h0 LL := ⟨_, rfl⟩
        have HSD := Lib.hid hsd
        have hst1 := hs.out.st
        rw [← hsd] at hf8 hst1
        obtain ⟨Y, hY⟩ : ∃ Y, Y = W.heap.size := ⟨_, rfl⟩
        obtain ⟨Z, hZ⟩ : ∃ Z, Z = W.alloc (.cells (V (Zb 32)) 41) := ⟨_, rfl⟩
        have hbz : Below W.heap.size W Z := by rw [hZ]; exact (Below.refl _ _).alloc (Nat.le_refl _) _
        have hal := alloc_b32 W
        rw [← hZ, ← hY] at hal
        have HDG : Hid (Blk Z Y 41 (V (Zb 32))) := by
          show Blk _ _ _ _
          rw [hZ, hY]; exact Blk.new W _ _
        have hst0 : Hid (Blk Z (N + 1) 80 (U s)) := hst1.below hbz hst1.lt
        have HRZ : Hid (Blk Z N 41 (V (Zb 32))) := hs.out.res.below hbz hs.out.res.lt
        have HBZ : Hid (Below w.heap.size w Z) := hs.out.below.trans (hbz.mono (by have := hs.out.below.size; omega))
        have hNY : N < Y := by have := hs.out.res.lt; omega
        obtain ⟨D, hDd⟩ : ∃ D, D = W6.heap.size := ⟨_, rfl⟩
        rw [← hDd] at hD ⊢
        have hDY : D < Y := by have := (Array.getElem?_eq_some_iff.1 hD).1; omega
        have HDZ : Hid (Z.heap[D]? = some (.deferred (some []))) := (hbz.block D (by omega)).trans hD
        have HF8 := Lib.hid hf8
        have HAL2 := Lib.hid hal
        have hND : N + 1 < D := by omega
        clear hD hbz hst1 hal hZ hY hs hsd hf8 hDd
        go_wp2_with (first
          | (with_reducible refine wpList_alloc_run _ rfl 41 rfl HAL2.out ?_)
          | (refine wpList_load_row rfl 80 _ rfl (N + 1) rfl 80 (U s) (0, 0) _ hst0.out Tryd.underlying80 rfl (by rw [U_size, HF8.out.1]; exact size_w8) ?_))
        go_loopw [37] (fun i wr => ∃ i' : Nat, i' ≤ 8 ∧ i = .int .i64 (i' : Int) ∧ Hid (Blk wr Y 41 (V (outP s (4 * i'))) ∧ Below Y Z wr)) (fun i _ => 8 - (intOf i).toNat)
        case atStart => exact ⟨0, Nat.zero_le _, rfl, by rw [Nat.mul_zero, outP_zero]; exact HDG.out, Below.refl _ _⟩
        case round =>
          obtain ⟨i, hi, rfl, hd⟩ := hrel
          by_cases hlt : i < 8
          · have hix := fun w => ix_w8 HF8.out.1 hlt w
            obtain ⟨x, hxd⟩ : ∃ x, x = s.getD i 0 := ⟨_, rfl⟩
            have hx32 : x < 4294967296 := by rw [hxd]; exact HF8.out.lt i
            rw [← hxd] at hix
            have HXD0 := Lib.hid hxd
            clear hxd
            go_wp2
            go_loopw [41] (fun jv wr => ∃ j : Nat, j ≤ 4 ∧ jv = .int .i64 (j : Int) ∧ Hid (Blk wr Y 41 (V (outP s (4 * i + j))) ∧ Below Y Z wr)) (fun jv _ => 4 - (intOf jv).toNat)
            case atStart => exact ⟨0, Nat.zero_le _, rfl, hd⟩
            case round =>
              obtain ⟨j, hj, rfl, hd⟩ := hrel
              have hxd := HXD0.out
              have h4 : j = 0 ∨ j = 1 ∨ j = 2 ∨ j = 3 ∨ j = 4 := by omega
              rcases h4 with rfl | rfl | rfl | rfl | rfl
              · have c1 := cellV hd.out.1 (i := 4 * i) (by rw [outP_length HF8.out.1 (by omega)]; omega)
                have z1 := hd.out.1.frozen (4 * i)
                obtain ⟨b, hb, hv⟩ := out_at HF8.out.1 hlt (j := 0) (by omega)
                rw [← hxd] at hv
                have HE : Hid (Blk (wr.setCell ⟨Y, 4 * i, none⟩ (.int .u8 (b.toNat : Int))) Y 41 (V (outP s (4 * i + 1))) ∧ Below Y Z (wr.setCell ⟨Y, 4 * i, none⟩ (.int .u8 (b.toNat : Int)))) := by
                  rw [show 4 * i + 1 = 4 * i + 1 by omega, outP_step HF8.out.1 (show (out s)[4 * i]? = some b from hb), ← V_set]
                  exact ⟨hd.out.1.set_ _ _, hd.out.2.setCell (p := ⟨Y, _, none⟩) (Nat.le_refl _) _⟩
                have HV := Lib.hid hv
                have HXD := Lib.hid hxd
                clear hv hb hxd
                go_wp2
                go_roundw
                case rel => exact ⟨1, by omega, rfl, stD (g := Y) (i := 4 * i) (j := 4 * i + 1) (Z := Z) (b := b) HE _ (by have h := HV.out 16777216 (by decide); omega)⟩
                case measure => simp [intOf]
              · have c1 := cellV hd.out.1 (i := 4 * i + 1) (by rw [outP_length HF8.out.1 (by omega)]; omega)
                have z1 := hd.out.1.frozen (4 * i + 1)
                obtain ⟨b, hb, hv⟩ := out_at HF8.out.1 hlt (j := 1) (by omega)
                rw [← hxd] at hv
                have HE : Hid (Blk (wr.setCell ⟨Y, 4 * i + 1, none⟩ (.int .u8 (b.toNat : Int))) Y 41 (V (outP s (4 * i + 2))) ∧ Below Y Z (wr.setCell ⟨Y, 4 * i + 1, none⟩ (.int .u8 (b.toNat : Int)))) := by
                  rw [show 4 * i + 2 = 4 * i + 1 + 1 by omega, outP_step HF8.out.1 (show (out s)[4 * i + 1]? = some b from hb), ← V_set]
                  exact ⟨hd.out.1.set_ _ _, hd.out.2.setCell (p := ⟨Y, _, none⟩) (Nat.le_refl _) _⟩
                have HV := Lib.hid hv
                have HXD := Lib.hid hxd
                clear hv hb hxd
                go_wp2
                go_roundw
                case rel => exact ⟨2, by omega, rfl, stD (g := Y) (i := 4 * i + 1) (j := 4 * i + 2) (Z := Z) (b := b) HE _ (by have h := HV.out 65536 (by decide); omega)⟩
                case measure => simp [intOf]
              · have c1 := cellV hd.out.1 (i := 4 * i + 2) (by rw [outP_length HF8.out.1 (by omega)]; omega)
                have z1 := hd.out.1.frozen (4 * i + 2)
                obtain ⟨b, hb, hv⟩ := out_at HF8.out.1 hlt (j := 2) (by omega)
                rw [← hxd] at hv
                have HE : Hid (Blk (wr.setCell ⟨Y, 4 * i + 2, none⟩ (.int .u8 (b.toNat : Int))) Y 41 (V (outP s (4 * i + 3))) ∧ Below Y Z (wr.setCell ⟨Y, 4 * i + 2, none⟩ (.int .u8 (b.toNat : Int)))) := by
                  rw [show 4 * i + 3 = 4 * i + 2 + 1 by omega, outP_step HF8.out.1 (show (out s)[4 * i + 2]? = some b from hb), ← V_set]
                  exact ⟨hd.out.1.set_ _ _, hd.out.2.setCell (p := ⟨Y, _, none⟩) (Nat.le_refl _) _⟩
                have HV := Lib.hid hv
                have HXD := Lib.hid hxd
                clear hv hb hxd
                go_wp2
                go_roundw
                case rel => exact ⟨3, by omega, rfl, stD (g := Y) (i := 4 * i + 2) (j := 4 * i + 3) (Z := Z) (b := b) HE _ (by have h := HV.out 256 (by decide); omega)⟩
                case measure => simp [intOf]
              · have c1 := cellV hd.out.1 (i := 4 * i + 3) (by rw [outP_length HF8.out.1 (by omega)]; omega)
                have z1 := hd.out.1.frozen (4 * i + 3)
                obtain ⟨b, hb, hv⟩ := out_at HF8.out.1 hlt (j := 3) (by omega)
                rw [← hxd] at hv
                have HE : Hid (Blk (wr.setCell ⟨Y, 4 * i + 3, none⟩ (.int .u8 (b.toNat : Int))) Y 41 (V (outP s (4 * i + 4))) ∧ Below Y Z (wr.setCell ⟨Y, 4 * i + 3, none⟩ (.int .u8 (b.toNat : Int)))) := by
                  rw [show 4 * i + 4 = 4 * i + 3 + 1 by omega, outP_step HF8.out.1 (show (out s)[4 * i + 3]? = some b from hb), ← V_set]
                  exact ⟨hd.out.1.set_ _ _, hd.out.2.setCell (p := ⟨Y, _, none⟩) (Nat.le_refl _) _⟩
                have HV := Lib.hid hv
                have HXD := Lib.hid hxd
                clear hv hb hxd
                go_wp2
                go_roundw
                case rel => exact ⟨4, by omega, rfl, stD (g := Y) (i := 4 * i + 3) (j := 4 * i + 4) (Z := Z) (b := b) HE _ (by have h := HV.out 1 (by decide); omega)⟩
                case measure => simp [intOf]
              · clear hxd
                go_wp2
                go_roundw
                case rel => exact ⟨i + 1, by omega, by go_num, by rw [show 4 * (i + 1) = 4 * i + 4 by omega]; exact hd⟩
                case measure => simp [intOf]; omega
          · obtain rfl : i = 8 := by omega
            rw [outP_all HF8.out.1] at hd
            obtain ⟨o, ho⟩ : ∃ o, o = out s := ⟨_, rfl⟩
            have hol : o.length = 32 := by rw [ho]; exact out_length HF8.out.1
            rw [← ho] at hd
            have HOL := Lib.hid hol
            have HO := Lib.hid ho
            have HD1 := Lib.hid hd.out.1
            have HRW : Hid (Blk wr N 41 (V (Zb 32))) := HRZ.out.below hd.out.2 (by omega)
            have hDw : wr.heap[D]? = some (.deferred (some [])) := (hd.out.2.block D hDY).trans HDZ.out
            have HDW := Lib.hid hDw
            have HBF := Lib.hid (HBZ.out.trans (hd.out.2.mono (by have := HN.out; omega)))
            clear hol ho hd hDw
            go_wp2_with (first
              | (refine wpList_load_row rfl 41 _ rfl Y rfl 41 (V o) (0, 0) _ HD1.out Tryd.underlying41 rfl (by rw [V_size, HOL.out]; exact size_b32) ?_)
              | (refine wpList_store_row rfl 41 _ _ rfl N (V o) rfl rfl 41 (V (Zb 32)) HRW.out (by rw [V_size, HOL.out]; exact size_b32) (by rw [V_size, V_size, HOL.out]; rfl) (V_one _) ?_))
            have hDr : (wr.setRow N (V o)).heap[D]? = some (.deferred (some [])) := (setRow_other wr N D _ (by omega)).trans HDW.out
            refine ⟨by simp, .inl ⟨_, _, rfl, run_takeDeferred hDr, ?_⟩⟩
            have hrow : ((wr.setRow N (V o)).putObj D (.deferred none)).heap[N]? = some (.cells (V o) 41 (0, 0)) := (World.putObj_heap_other (by omega)).trans (setRow_heap wr N _ _ _ _ HRW.out)
            refine ⟨_, results_cell_row Tryd.results28 _ _ N 41 (V o) (0, 0) _ rfl hrow Tryd.underlying41 rfl (by rw [V_size, HOL.out]; exact size_b32), ?_⟩
            refine ⟨?_, (below_setRow HBF.out (by have := HN.out; omega) _).trans (below_putObj (by have := HN.out; omega) _)⟩
            have hLe : LL = ls.flatten ++ endL ls.flatten.length := by rw [HLL.out, List.flatten_append, HT.out]; simp
            rw [HO.out, HSD.out, hLe, List.length_append]
            rfl
end Go.Proofs.YtmbgjijajakgeaaDoor.Sha
