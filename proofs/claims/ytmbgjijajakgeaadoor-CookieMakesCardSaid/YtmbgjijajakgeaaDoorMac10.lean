/-
  Contracts of package mac: Seal.
-/
import Derived.Test.YtmbgjijajakgeaaDoorMac9
import Derived.Test.YtmbgjijajakgeaaDoorStageT
set_option linter.unusedVariables false
set_option linter.unusedSimpArgs false
namespace Go.Proofs.YtmbgjijajakgeaaDoor.Sha
open Go.ChangeShapes Go.WideShapes Go.ChangeAt Go.RowKit Go.Proofs.YtmbgjijajakgeaaDoor.Words

/-- The key as it is copied. -/
def keyS (k : List UInt8) : List UInt8 := if 64 < k.length then hash k else k
theorem keyS_length (k : List UInt8) : (keyS k).length ≤ 64 := by
  unfold keyS
  by_cases h : 64 < k.length
  · rw [if_pos h, hash_length]; omega
  · rw [if_neg h]; omega
theorem key64_eq (k : List UInt8) : key64 k = keyS k ++ List.replicate (64 - (keyS k).length) 0 := rfl
theorem copy_key {w : World} {g : Nat} {l : List UInt8} {a : Option Addr} {B n c : Nat} (hb : Blk w g 67 (V (Zb 64))) (hn : n = l.length) (h64 : n ≤ 64) (hr : Byt w B a l) :
    ∃ w', (∀ ty, (Builtin.copy_ #[22, 22] ty #[.slice (some ⟨g, 0, none⟩) 64 64, .slice a n c]).run Tryd.prog w = .ok (goInt (n : Int)) w') ∧ Blk w' g 67 (V (l ++ List.replicate (64 - l.length) 0)) ∧ Below g w w' ∧ w'.heap.size = w.heap.size := by
  rcases Nat.eq_zero_or_pos n with h0 | h0
  · have hl : l = [] := List.eq_nil_of_length_eq_zero (by omega)
    subst hl h0
    exact ⟨w, fun ty => run_copy_none (P := Tryd.prog) w _ _ ty 5 _ a 64 64 0 c Tryd.underlying22 (by kernel_rfl) (by rfl), hb, Below.refl _ _, rfl⟩
  · have h := fun ty => copy_b64 (f := 0) (c := c) hb (by simp [Zb]) (by omega) hn h0 hr ty
    simp only [Nat.sub_zero, List.take_zero, List.nil_append, Nat.zero_add] at h
    rw [show min n 64 = n by omega] at h
    refine ⟨_, h, ?_, below_setRow (Below.refl _ _) (Nat.le_refl _) _, by simp [World.setRow]⟩
    have e : l.take n ++ (Zb 64).drop n = l ++ List.replicate (64 - l.length) 0 := by
      rw [hn, List.take_length]
      unfold Zb
      rw [List.drop_replicate]
    rw [← e]
    exact setRow_heap _ _ _ _ _ _ hb
/-- Where Seal stands with its key. -/
structure KSt (w W1 W : World) (N : Nat) (A : Option Addr) (n c : Nat) (kb : List UInt8) : Prop where
  len : n = (keyS kb).length
  byt : Byt W W.heap.size A (keyS kb)
  res : Blk W N 41 (V (Zb 32))
  pad : Blk W (N + 1) 67 (V (Zb 64))
  below : Below w.heap.size w W
  from_ : Below N W1 W
  size : N + 2 ≤ W.heap.size
theorem pts_one {w : World} {B g : Nat} {t : TypeId} {a : Option Addr} {n c : Nat} {l : List UInt8} (hb : Blk w g t #[.slice a n c]) (hg : g < B) (hn : n = l.length) (h1 : n ≤ c) (h2 : c ≤ 9223372036854775807) (h3 : Byt w B a l) : Pts w B (some ⟨g, 0, none⟩) 1 [.slice a n c] [l] := by
  subst hn
  refine ⟨blk_reads (cs := [.slice a l.length c]) hb hg, rfl, fun j m hm => ?_⟩
  match j, hm with
  | 0, hm => simp only [List.getElem?_cons_zero, Option.some.injEq] at hm; subst hm; exact ⟨a, c, rfl, h1, h2, h3⟩
theorem pts_two {w : World} {B g : Nat} {t : TypeId} {a a' : Option Addr} {n c n' c' : Nat} {l l' : List UInt8} (hb : Blk w g t #[.slice a n c, .slice a' n' c']) (hg : g < B) (hn : n = l.length) (h1 : n ≤ c) (h2 : c ≤ 9223372036854775807) (h3 : Byt w B a l)
    (hn' : n' = l'.length) (h1' : n' ≤ c') (h2' : c' ≤ 9223372036854775807) (h3' : Byt w B a' l') : Pts w B (some ⟨g, 0, none⟩) 2 [.slice a n c, .slice a' n' c'] [l, l'] := by
  subst hn hn'
  refine ⟨blk_reads (cs := [.slice a l.length c, .slice a' l'.length c']) hb hg, rfl, fun j m hm => ?_⟩
  match j, hm with
  | 0, hm => simp only [List.getElem?_cons_zero, Option.some.injEq] at hm; subst hm; exact ⟨a, c, rfl, h1, h2, h3⟩
  | 1, hm => simp only [List.getElem?_cons_succ, List.getElem?_cons_zero, Option.some.injEq] at hm; subst hm; exact ⟨a', c', rfl, h1', h2', h3'⟩

theorem Pts.join {w : World} {B n1 n2 : Nat} {A A1 A2 : Option Addr} {xs1 xs2 : List Value} {ls1 ls2 : List (List UInt8)} (hr : Reads w B 1 A (n1 + n2) (xs1 ++ xs2)) (h : Pts w B A1 n1 xs1 ls1) (k : Pts w B A2 n2 xs2 ls2) : Pts w B A (n1 + n2) (xs1 ++ xs2) (ls1 ++ ls2) := by
  refine ⟨hr, by simp [h.len, k.len], fun j l hl => ?_⟩
  by_cases hj : j < ls1.length
  · rw [List.getElem?_append_left hj] at hl
    obtain ⟨a, c, h1, h2⟩ := h.at_ j l hl
    exact ⟨a, c, by rw [List.getElem?_append_left (by rw [h.len]; exact hj)]; exact h1, h2⟩
  · rw [List.getElem?_append_right (by omega)] at hl
    obtain ⟨a, c, h1, h2⟩ := k.at_ _ l hl
    exact ⟨a, c, by rw [List.getElem?_append_right (by rw [h.len]; omega), h.len]; exact h1, h2⟩

theorem exec_load {P : Program} {ρ : Operand → Value} {o : Oper} {ty : TypeId} {x : Operand} {vx v : Value} {w : World} (ho : o.op = .load ty x) (hx : ρ x = vx) (hr : (Instr.loadAt ty vx).run P w = .ok v w) : (execOp ρ o).run P w = .ok (.value v) w := by
  unfold execOp
  simp only [ho, hx, Sem.run_bind, Sem.run_pure, Result.andThen_ok, hr]
theorem exec_slice {P : Program} {ρ : Operand → Value} {o : Oper} {ty : TypeId} {x : Operand} {vx v : Value} {w : World} (ho : o.op = .slice ty x none none none) (hx : ρ x = vx) (hr : (Instr.sliceAt ty vx none none none).run P w = .ok v w) : (execOp ρ o).run P w = .ok (.value v) w := by
  unfold execOp
  simp only [ho, hx, Option.map_none, Sem.run_bind, Sem.run_pure, Result.andThen_ok, hr]
def MaskO (m : List UInt8) (v : Value) (W : World) : Prop := ∃ g, v = .slice (some ⟨g, 0, none⟩) 64 64 ∧ Blk W g 67 (V m)
set_option maxRecDepth 20000 in
set_option maxHeartbeats 2000000 in
theorem seal_any {Ak A : Option Addr} {nk ck n c : Nat} {kb : List UInt8} {xs : List Value} {ls : List (List UInt8)} {w : World} (hnk : nk = kb.length) (hk1 : nk ≤ ck) (hk2 : ck ≤ 9223372036854775807) (hkb : Byt w w.heap.size Ak kb) (hkl : nk ≤ 800000)
    (hP : Pts w w.heap.size A n xs ls) (hn : n ≤ 80) (hL : ls.flatten.length ≤ 800000) (hK : Laid w) :
    Calls Tryd.prog 14 #[.slice Ak nk ck, .slice A n c] w fun e w' => e = .returned (.agg (V (seal_ kb ls.flatten))) ∧ Below w.heap.size w w' := by
  obtain ⟨N, hN⟩ : ∃ N, N = w.heap.size := ⟨_, rfl⟩
  obtain ⟨W1, hW1⟩ : ∃ Wn, Wn = (w.alloc (.cells (V (Zb 32)) 41)).alloc (.cells (V (Zb 64)) 67) := ⟨_, rfl⟩
  have hb1 : Below w.heap.size w W1 := by rw [hW1]; exact ((Below.refl _ _).alloc (Nat.le_refl _) _).alloc (by simp) _
  have hs1 : W1.heap.size = N + 2 := by rw [hW1, hN]; simp
  have HR1 : Hid (Blk W1 N 41 (V (Zb 32))) := by
    show Blk _ _ _ _
    rw [hW1, hN]; exact (Blk.new w _ _).alloc _
  have HD1 : Hid (Blk W1 (N + 1) 67 (V (Zb 64))) := by
    show Blk _ _ _ _
    rw [hW1, hN]; simpa using Blk.new (w.alloc (.cells (V (Zb 32)) 41)) 67 (V (Zb 64))
  have HP1 : Hid (Pts W1 N A n xs ls) := by rw [hN]; exact hP.below hb1
  have HKB1 : Hid (Byt W1 N Ak kb) := by rw [hN]; exact hkb.below hb1
  have HK1 : Hid (Laid W1) := hK.below hb1 hK.size
  have HB1 : Hid (Below w.heap.size w W1) := hb1
  have HNK := Lib.hid hnk
  have HL := Lib.hid hL
  have hN2 : 2 ≤ N := by rw [hN]; exact hK.size
  have HN := Lib.hid hN
  have hW1' := Lib.hid hW1
  clear hP hkb hK hb1 hN hnk hL hW1
  go_enter Tryd.func14, Tryd.ntmps14
  go_upto_if 10 with (first | (with_reducible refine wpList_alloc_run _ rfl 41 rfl (alloc_b32 _) ?_) | (with_reducible refine wpList_alloc_run _ rfl 67 rfl (alloc_b64 _) ?_))
  rw [← hW1'.out, ← HN.out]
  go_cut [0] from 10 to 14 (fun s0 wx => ∃ A' n' c', s0 = .slice A' n' c' ∧ n' ≤ c' ∧ c' ≤ 9223372036854775807 ∧ n' ≤ 64 ∧ Hid (KSt w W1 wx N A' n' c' kb))
  case first =>
    by_cases h64 : 64 < nk
    · go_wp2_with fail
      obtain ⟨W2, hW2⟩ : ∃ Wn, Wn = W1.alloc (.cells #[.slice Ak nk ck] 22) := ⟨_, rfl⟩
      have hb2 : Below W1.heap.size W1 W2 := by rw [hW2]; exact (Below.refl _ _).alloc (Nat.le_refl _) _
      have hs2 : W2.heap.size = N + 3 := by rw [hW2]; simp [hs1]
      have hPk : Pts W2 W2.heap.size (some ⟨N + 2, 0, none⟩) 1 [.slice Ak nk ck] [kb] :=
        pts_one (t := 22) (by rw [hW2, ← hs1]; exact Blk.new W1 _ _) (by omega) HNK.out hk1 hk2 ((HKB1.out.below (hb2.mono (by omega))).more (by omega))
      have hHA := hash_any (c := 1) hPk (by omega) (by simp; rw [← HNK.out]; omega) (HK1.out.below hb2 HK1.out.size)
      rw [show [kb].flatten = kb by simp] at hHA
      rw [← hW2]
      refine hHA.mono ?_
      rintro e W3 ⟨rfl, hb3⟩
      have hs3 := hb3.size
      obtain ⟨G, hG⟩ : ∃ G, G = W3.heap.size := ⟨_, rfl⟩
      obtain ⟨W4, hW4⟩ : ∃ Wn, Wn = (W3.alloc (.cells (V (Zb 32)) 41)).setRow G (V (hash kb)) := ⟨_, rfl⟩
      have hlh := hash_length kb
      have hb4 : Below W3.heap.size W3 W4 := by rw [hW4]; exact below_setRow ((Below.refl _ _).alloc (Nat.le_refl _) _) (by omega) _
      have hs4 : W4.heap.size = G + 1 := by rw [hW4, hG]; simp [World.setRow]
      have hb14 : Below W1.heap.size W1 W4 := hb2.trans ((hb3.mono (by omega)).trans (hb4.mono (by omega)))
      have HS4 : Hid (KSt w W1 W4 N (some ⟨G, 0, none⟩) 32 32 kb) := by
        refine ⟨?_, ?_, HR1.out.below hb14 (by omega), HD1.out.below hb14 (by omega), HB1.out.trans (hb14.mono (by have := HN.out; omega)), hb14.mono (by omega), by omega⟩
        · unfold keyS; rw [if_pos (by rw [← HNK.out]; exact h64), hlh]
        · unfold keyS
          rw [if_pos (by rw [← HNK.out]; exact h64)]
          refine Blk.byt (t := 41) (cs := V (hash kb)) ?_ (by omega) (by rw [List.take_of_length_le (by simp [V, u8s_length])]; rfl)
          rw [hW4]
          exact setRow_heap _ G _ _ _ _ (by rw [hG]; exact Blk.new W3 _ _)
      have hsl := fun W => slice_all32 G W
      have HLH := Lib.hid hlh
      clear hW2 hb2 hPk hHA hb3 hb4 hb14 hlh
      go_wp2_with (first
        | (with_reducible refine wpList_alloc_run _ rfl 41 rfl (alloc_b32 _) ?_)
        | (refine wpList_store_row rfl 41 _ _ rfl W3.heap.size (V (hash kb)) rfl rfl 41 (V (Zb 32)) (Blk.new W3 _ _) (by rw [V_size, HLH.out]; exact size_b32) (by rw [V_size, V_size, HLH.out]; rfl) (V_one _) ?_; rw [← hG, ← hW4]))
      rw [← hG, ← hW4]
      go_wp2_with fail
      go_meet
      exact ⟨some ⟨G, 0, none⟩, 32, 32, rfl, Nat.le_refl _, by omega, by omega, HS4⟩
    · have HS4 : Hid (KSt w W1 W1 N Ak nk ck kb) := by
        have hks : keyS kb = kb := by unfold keyS; rw [if_neg (by rw [← HNK.out]; exact h64)]
        refine ⟨by rw [hks]; exact HNK.out, by rw [hks]; exact HKB1.out.more (by omega), HR1.out, HD1.out, HB1.out, Below.refl _ _, by omega⟩
      go_wp2_with fail
      go_meet
      exact ⟨Ak, nk, ck, rfl, hk1, hk2, by omega, HS4⟩
  case rest =>
  obtain ⟨A', n', c', rfl, h1, h2, h3, HS⟩ := hcut
  obtain ⟨W5, hcp, hbp, hb5, hs5⟩ := copy_key (c := c') HS.out.pad HS.out.len h3 HS.out.byt
  rw [← key64_eq] at hbp
  have HR5 : Hid (Blk W5 N 41 (V (Zb 32))) := HS.out.res.below hb5 (by omega)
  have HP5 : Hid (Pts W5 N A n xs ls) := (HP1.out.below HS.out.from_).below (hb5.mono (by omega))
  have HK5 : Hid (Laid W5) := (HK1.out.below HS.out.from_ hN2).below hb5 (by omega)
  have HB5 : Hid (Below w.heap.size w W5) := HS.out.below.trans (hb5.mono (by have := HN.out; omega))
  have HD5 := Lib.hid hbp
  have hsz := HS.out.size
  have hsl := fun W => slice_all64 (N + 1) W
  have hkl64 := key64_length kb
  obtain ⟨k6, hk6⟩ : ∃ k6, k6 = key64 kb := ⟨_, rfl⟩
  rw [← hk6] at HD5 hkl64
  have HK6 := Lib.hid hk6
  have HKL := Lib.hid hkl64
  clear hbp hb5 HR1 HD1 HP1 HK1 HB1 HKB1 hW1' hk6 hkl64
  go_wp2_with (refine wpList_load_row rfl 67 _ rfl (N + 1) rfl 67 (V k6) (0, 0) _ HD5.out Tryd.underlying67 rfl (by rw [V_size, HKL.out]; exact size_b64) ?_)
  refine (masked_any k6 HKL.out 0x36 54 rfl W5).mono ?_
  rintro e W6 ⟨g6, rfl, hg6, hgb6, hb6⟩
  obtain ⟨m6, hm6⟩ : ∃ m6, m6 = mask 0x36 k6 := ⟨_, rfl⟩
  have hml : m6.length = 64 := by rw [hm6]; simp [mask, HKL.out]
  rw [← hm6] at hgb6
  obtain ⟨X, hX⟩ : ∃ X, X = W6.heap.size := ⟨_, rfl⟩
  obtain ⟨W7, hW7⟩ : ∃ Wn, Wn = (W6.alloc (.cells #[.slice (some ⟨g6, 0, none⟩) 64 64] 22)).alloc (.cells #[.slice (some ⟨X, 0, none⟩) 1 1, .slice A n c] 66) := ⟨_, rfl⟩
  have hb7 : Below W6.heap.size W6 W7 := by rw [hW7]; exact ((Below.refl _ _).alloc (Nat.le_refl _) _).alloc (by simp) _
  have hs7 : W7.heap.size = X + 2 := by rw [hW7, hX]; simp
  have hs6 := hb6.size
  have hb57 : Below W5.heap.size W5 W7 := hb6.trans (hb7.mono hb6.size)
  have hs5 : W5.heap.size = wc.heap.size := hs5
  have hBX : Blk W7 X 22 #[.slice (some ⟨g6, 0, none⟩) 64 64] := by rw [hW7, hX]; exact (Blk.new W6 _ _).alloc _
  have hP7 : Pts W7 N A n xs ls := HP5.out.below (hb57.mono (by omega))
  have hg7 : Blk W7 g6 67 (V m6) := hgb6.below hb7 hgb6.lt
  have hg6X : g6 < X := by rw [hX]; exact hgb6.lt
  have hTW : Two W7 W7.heap.size (some ⟨X + 1, 0, none⟩) (some ⟨X, 0, none⟩) 1 1 [.slice (some ⟨g6, 0, none⟩) 64 64] A n c xs := by
    refine ⟨?_, blk_reads (t := 22) (cs := [.slice (some ⟨g6, 0, none⟩) 64 64]) hBX (by omega), hP7.row.more (by omega), fun u hu => by simp only [List.mem_singleton] at hu; subst hu; rfl, HP5.out.one⟩
    refine blk_reads (t := 66) (cs := [.slice (some ⟨X, 0, none⟩) 1 1, .slice A n c]) ?_ (by omega)
    rw [hW7, hX]
    simpa using Blk.new (W6.alloc (.cells #[.slice (some ⟨g6, 0, none⟩) 64 64] 22)) 66 #[.slice (some ⟨W6.heap.size, 0, none⟩) 1 1, .slice A n c]
  have HCC := Lib.hid (concat_any (c0 := 2) hTW (by omega) (by omega))
  have hP1 : Pts W7 W7.heap.size (some ⟨X, 0, none⟩) 1 [.slice (some ⟨g6, 0, none⟩) 64 64] [m6] :=
    pts_one (t := 22) hBX (by omega) hml.symm (Nat.le_refl _) (by omega) (hg7.byt (by omega) (by rw [List.take_of_length_le (by simp [V, u8s_length])]; rfl))
  have HP1 := Lib.hid hP1
  have HP7 := Lib.hid (hP7.more (show N ≤ W7.heap.size by omega))
  have HR7 : Hid (Blk W7 N 41 (V (Zb 32))) := HR5.out.below hb57 (by omega)
  have HD7 : Hid (Blk W7 (N + 1) 67 (V k6)) := HD5.out.below hb57 (by omega)
  have HK7 : Hid (Laid W7) := HK5.out.below hb57 HK5.out.size
  have HB7 : Hid (Below w.heap.size w W7) := HB5.out.trans (hb57.mono (by have := HN.out; omega))
  have HM6 := Lib.hid hm6
  have HML := Lib.hid hml
  have hXN : N + 2 ≤ X := by omega
  have HX := Lib.hid hX
  have HW7 := Lib.hid hW7
  clear hgb6 hb6 hb7 hb57 hBX hP7 hg7 hTW hP1 HR5 HP5 HK5 HB5 HD5 hm6 hml hg6 hX hW7
  go_wp2_with fail
  rw [← HX.out, ← HW7.out]
  refine HCC.out.mono ?_
  rintro e W8 ⟨v8, rfl, hv8, hb8⟩
  obtain ⟨A8, c8, rfl, hc8, hc8'⟩ := own_slice hv8
  have hs8 := hb8.size
  have hP8 : Pts W8 W8.heap.size A8 (1 + n) ([.slice (some ⟨g6, 0, none⟩) 64 64] ++ xs) ([m6] ++ ls) :=
    Pts.join (Reads.of_own hv8) ((HP1.out.below hb8).more hb8.size) ((HP7.out.below hb8).more hb8.size)
  have HHA := Lib.hid (hash_any (c := c8) hP8 (by omega) (by rw [List.flatten_append, List.length_append]; simp only [List.flatten_cons, List.flatten_nil, List.append_nil, HML.out]; have := HL.out; omega) (HK7.out.below hb8 HK7.out.size))
  have HR8 : Hid (Blk W8 N 41 (V (Zb 32))) := HR7.out.below hb8 (by omega)
  have HD8 : Hid (Blk W8 (N + 1) 67 (V k6)) := HD7.out.below hb8 (by omega)
  have HK8 : Hid (Laid W8) := HK7.out.below hb8 HK7.out.size
  have HB8 : Hid (Below w.heap.size w W8) := HB7.out.trans (hb8.mono (by have := HN.out; omega))
  clear hb8 hv8 hP8 HR7 HD7 HK7 HB7 HCC HP1 HP7 HW7
  go_wp2_with fail
  refine HHA.out.mono ?_
  rintro e W9 ⟨rfl, hb9⟩
  have hs9 := hb9.size
  obtain ⟨h9, hh9⟩ : ∃ h9, h9 = hash ([m6] ++ ls).flatten := ⟨_, rfl⟩
  have hl9 : h9.length = 32 := by rw [hh9]; exact hash_length _
  rw [← hh9]
  obtain ⟨Y, hY⟩ : ∃ Y, Y = W9.heap.size := ⟨_, rfl⟩
  obtain ⟨W10, hW10⟩ : ∃ Wn, Wn = (W9.alloc (.cells (V (Zb 32)) 41)).setRow Y (V h9) := ⟨_, rfl⟩
  have hb10 : Below W9.heap.size W9 W10 := by rw [hW10]; exact below_setRow ((Below.refl _ _).alloc (Nat.le_refl _) _) (by omega) _
  have hb810 : Below W8.heap.size W8 W10 := hb9.trans (hb10.mono hb9.size)
  have hs10 : W10.heap.size = Y + 1 := by rw [hW10, hY]; simp [World.setRow]
  have HY10 : Hid (Blk W10 Y 41 (V h9)) := by
    show Blk _ _ _ _
    rw [hW10]; exact setRow_heap _ Y _ _ _ _ (by rw [hY]; exact Blk.new W9 _ _)
  have HR10 : Hid (Blk W10 N 41 (V (Zb 32))) := HR8.out.below hb810 (by omega)
  have HD10 : Hid (Blk W10 (N + 1) 67 (V k6)) := HD8.out.below hb810 (by omega)
  have HK10 : Hid (Laid W10) := HK8.out.below hb810 HK8.out.size
  have HB10 : Hid (Below w.heap.size w W10) := HB8.out.trans (hb810.mono (by have := HN.out; omega))
  have HH9 := Lib.hid hh9
  have HL9 := Lib.hid hl9
  have hYN : N + 2 ≤ Y := by omega
  have HYY := Lib.hid hY
  have HW10 := Lib.hid hW10
  clear hb9 hb10 hb810 hh9 hl9 HR8 HD8 HK8 HB8 HHA hY hW10
  go_wp2_with (first
    | (with_reducible refine wpList_alloc_run _ rfl 41 rfl (alloc_b32 _) ?_)
    | (refine wpList_store_row rfl 41 _ _ rfl W9.heap.size (V h9) rfl rfl 41 (V (Zb 32)) (Blk.new W9 _ _) (by rw [V_size, HL9.out]; exact size_b32) (by rw [V_size, V_size, HL9.out]; rfl) (V_one _) ?_))
  simp only [Act.put, List.setIfInBounds_toArray, List.set_cons_succ, List.set_cons_zero]
  rw [← HYY.out, ← HW10.out]
  obtain ⟨m11, hm11⟩ : ∃ m11, m11 = mask 0x5C k6 := ⟨_, rfl⟩
  have hml11 : m11.length = 64 := by rw [hm11]; simp [mask, HKL.out]
  have HMS : Hid (∀ W, Calls Tryd.prog 30 #[.agg (V k6), .int .u8 92] W fun e w' => ∃ g, e = .returned (.slice (some ⟨g, 0, none⟩) 64 64) ∧ g = W.heap.size ∧ Blk w' g 67 (V m11) ∧ Below W.heap.size W w') := by
    show ∀ W, _
    intro W
    rw [hm11]
    exact masked_any k6 HKL.out 0x5C 92 rfl W
  have HM11 := Lib.hid hm11
  have HML11 := Lib.hid hml11
  have HST : Hid (Below W10.heap.size W10 W10.drew) := Below.drew (Below.refl _ _)
  have HS10 := Lib.hid hs10
  clear HW10 hm11 hml11 hs10
  refine wp_region_stage_tail 3 (fun _ V V' => Below V.heap.size V V') (fun m V => Hid (Below W10.heap.size W10 V)) [(false, .exact (.agg (Sha.V k6))),
      (false, .grows (MaskO m11)),
      (false, .exact (.slice (some ⟨Y, 0, none⟩) 32 32))] (by kernel_rfl) (by kernel_rfl) (by kernel_rfl) rfl (of_decide_eq_true (by kernel_rfl)) (by kernel_rfl) (by kernel_rfl) ?lasts ?start ?walk
  case lasts => exact ⟨fun m v V V' _ h k => by obtain ⟨g, rfl, h⟩ := h; exact ⟨g, rfl, h.below k h.lt⟩, trivial⟩
  case start => exact HST
  case walk =>
    simp only [List.take_succ_cons, List.take_zero, List.drop_succ_cons, List.drop_zero]
    refine stageT_pure rfl (fun _ V => Below.refl _ V) (fun V m hS hl => by exact exec_load rfl rfl (load_b64 (HD10.out.below hS.out HD10.out.lt) HKL.out)) ?_
    simp only [Act.put, List.setIfInBounds_toArray, List.set_cons_zero, List.set_cons_succ, List.cons_append, List.nil_append]
    refine stageT_grows rfl (fun V m hS hl => by
        go_simp
        refine (HMS.out V).mono ?_
        rintro e V' ⟨g11, rfl, hg, hgb, hb⟩
        exact ⟨_, rfl, hb, ⟨g11, rfl, hgb⟩, hS.out.trans (hb.mono hS.out.size)⟩) (fun v26 => ?_)
    simp only [Act.put, List.setIfInBounds_toArray, List.set_cons_zero, List.set_cons_succ, List.cons_append, List.nil_append]
    refine stageT_pure rfl (fun _ V => Below.refl _ V) (fun V m hS hl => by exact exec_slice rfl rfl (slice_all32 Y V)) ?_
    simp only [Act.put, List.setIfInBounds_toArray, List.set_cons_zero, List.set_cons_succ, List.cons_append, List.nil_append]
    refine stageT_nil (fun V2 hS hF => ?_)
    have hF2 : MaskO m11 v26 V2 ∧ True := hF
    obtain ⟨g11, rfl, hg11⟩ := hF2.1
    have HG11 := Lib.hid hg11
    have HS2 := Lib.hid hS.out
    clear hS hF hF2 hg11
    show wpList _ _ _ _ _ _
    go_wp2_with fail
    obtain ⟨Z, hZ⟩ : ∃ Z, Z = V2.heap.size := ⟨_, rfl⟩
    obtain ⟨W11, hW11⟩ : ∃ Wn, Wn = V2.alloc (.cells #[.slice (some ⟨g11, 0, none⟩) 64 64, .slice (some ⟨Y, 0, none⟩) 32 32] 22) := ⟨_, rfl⟩
    have hb11 : Below V2.heap.size V2 W11 := by rw [hW11]; exact (Below.refl _ _).alloc (Nat.le_refl _) _
    have hs11 : W11.heap.size = Z + 1 := by rw [hW11, hZ]; simp
    have hY2 : Blk V2 Y 41 (V h9) := HY10.out.below HS2.out HY10.out.lt
    have hP11 : Pts W11 W11.heap.size (some ⟨Z, 0, none⟩) 2 [.slice (some ⟨g11, 0, none⟩) 64 64, .slice (some ⟨Y, 0, none⟩) 32 32] [m11, h9] := by
      refine pts_two (t := 22) (by rw [hW11, hZ]; exact Blk.new V2 _ _) (by omega) HML11.out.symm (Nat.le_refl _) (by omega) ?_ HL9.out.symm (Nat.le_refl _) (by omega) ?_
      · exact (HG11.out.below hb11 HG11.out.lt).byt (by have := HG11.out.lt; omega) (by rw [List.take_of_length_le (by simp [V, u8s_length])]; rfl)
      · exact (hY2.below hb11 hY2.lt).byt (by have := hY2.lt; omega) (by rw [List.take_of_length_le (by simp [V, u8s_length])]; rfl)
    have hb1011 : Below W10.heap.size W10 W11 := HS2.out.trans (hb11.mono HS2.out.size)
    have HHA := Lib.hid (hash_any (c := 2) hP11 (by omega) (by simp [HML11.out, HL9.out]) (HK10.out.below hb1011 HK10.out.size))
    have HR11 : Hid (Blk W11 N 41 (V (Zb 32))) := HR10.out.below hb1011 (by have := HS10.out; omega)
    have HB11 : Hid (Below w.heap.size w W11) := HB10.out.trans (hb1011.mono (by have := HN.out; have := HS10.out; omega))
    have hN11 : N + 2 ≤ W11.heap.size := by have := HS2.out.size; have := HS10.out; omega
    rw [← hZ, ← hW11]
    clear hb1011 hP11 hY2 hb11 hZ hW11 hs11
    refine HHA.out.mono ?_
    rintro e W12 ⟨rfl, hb12⟩
    obtain ⟨o, ho⟩ : ∃ o, o = hash [m11, h9].flatten := ⟨_, rfl⟩
    have hol : o.length = 32 := by rw [ho]; exact hash_length _
    rw [← ho]
    have HO : Hid (o = seal_ kb ls.flatten) := by
      show o = _
      rw [ho, HM11.out, HH9.out, HM6.out, HK6.out]
      simp [seal_]
    have HOL := Lib.hid hol
    have HR12 : Hid (Blk W12 N 41 (V (Zb 32))) := HR11.out.below hb12 (by omega)
    have HB12 : Hid (Below w.heap.size w W12) := HB11.out.trans (hb12.mono (by have := HN.out; omega))
    clear ho hol hb12 HHA
    go_wp2_with (refine wpList_store_row rfl 41 _ _ rfl N (V o) rfl rfl 41 (V (Zb 32)) HR12.out (by rw [V_size, HOL.out]; exact size_b32) (by rw [V_size, V_size, HOL.out]; rfl) (V_one _) ?_)
    refine bodyPost_ret (results_cell_row Tryd.results14 _ _ N 41 (V o) (0, 0) _ rfl (setRow_heap W12 N _ _ _ _ HR12.out) Tryd.underlying41 rfl (by rw [V_size, HOL.out]; exact size_b32)) rfl ?_
    exact ⟨by rw [HO.out], below_setRow HB12.out (by have := HN.out; omega) _⟩
end Go.Proofs.YtmbgjijajakgeaaDoor.Sha
