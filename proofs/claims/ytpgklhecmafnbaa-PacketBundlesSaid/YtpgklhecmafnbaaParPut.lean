/-
  The document's Put of parameters.
-/
import Derived.Test.YtpgklhecmafnbaaParRef
set_option linter.unusedVariables false
set_option linter.unusedSimpArgs false
namespace Go.Proofs.Ytpgklhecmafnbaa.Par
open Go.ChangeShapes Go.WideShapes Go.ChangeAt Go.RowKit Go.Deep Go.Proofs.Ytpgklhecmafnbaa.Words Go.Proofs.Ytpgklhecmafnbaa.Oct

theorem sizeL_take (ls : List Prm) (k : Nat) : sizeL (ls.take k) ≤ sizeL ls := by
  induction ls generalizing k with
  | nil => simp
  | cons p ls ih =>
    cases k with
    | zero => simp [sizeL]
    | succ k => rw [List.take_succ_cons, sizeL_cons, sizeL_cons]; have := ih k; omega
/-- Where a list of bytes stands beside the loop's variable. -/
structure BSt (w V : World) (gv : Nat) (b : Value) (l : List UInt8) (cs : Array Value) : Prop where
  own : Own V w.heap.size b l
  blk : Blk V gv 131 cs
  below : Below w.heap.size w V
section
variable {w V V' : World} {gv : Nat} {b b' : Value} {l l' : List UInt8} {cs : Array Value}
theorem BSt.grows (h : BSt w V gv b l cs) (k : Below V.heap.size V V') : BSt w V' gv b l cs :=
  ⟨(Fr.of_below k).own h.own (fun g hg hi => by have := (h.own.lt g hg).2; omega), h.blk.below k h.blk.lt, h.below.trans (k.mono h.below.size)⟩
theorem BSt.app (h : BSt w V gv b l cs) (ho : Own V' w.heap.size b' l') (hg : V.grownBy V' b.ownBlock) : BSt w V' gv b' l' cs :=
  ⟨ho, (Fr.of_grown hg).blk h.blk (fun e => own_blk_ne h.own h.blk (by decide) e.symm), h.below.grown hg h.below.size (fun g hg => (h.own.lt g hg).1)⟩
theorem BSt.own_n {A : Option Addr} {n c : Nat} (h : BSt w V gv (.slice A n c) l cs) (hn : n = l.length) : V.ownsRow w.heap.size 5 1 (.slice A n c) n (u8s l) := by
  have := h.own
  unfold Own at this
  rw [← hn] at this
  exact this
end
theorem pad_four (l : List UInt8) (p : Prm) (h : l.length % 4 = 0) : padN (((l ++ be p.1 2) ++ be (p.2.length + 4) 2) ++ p.2).length 4 = padC p.2.length := by
  simp only [List.length_append, be_length, padN, padC]
  rw [if_pos (by decide)]
  simp only [show ((4 : Int).toNat) = 4 by rfl]
  omega
/-- What the document's Put answers. -/
def PutTold (w : World) (ls : List Prm) (e : Ending) (w' : World) : Prop :=
  (∃ v, e = .returned (.tuple #[v, .bool true]) ∧ Own w' w.heap.size v (encL ls) ∧ (∀ p ∈ ls, p.2.length ≤ 65531)) ∨
  (e = .returned (.tuple #[.slice none 0 0, .bool false]) ∧ ∃ p ∈ ls, 65531 < p.2.length)
set_option maxHeartbeats 4000000 in
set_option maxRecDepth 100000 in
theorem rput_any (A : Option Addr) (ls : List Prm) (n c : Nat) (w : World) (hn : n = ls.length) (hs : sizeL ls ≤ 450000) (h : Ps w w.heap.size A ls) :
    Calls Try.prog 85 #[.slice A n c] w fun e w' => PutTold w ls e w' ∧ Below w.heap.size w w' := by
  obtain ⟨i0, hi0, hz0, hz1, hz2⟩ := info_parts3 u8_info
  have HP := Lib.hid h
  have HN := Lib.hid hn
  have hn2 : n ≤ 112500 := by have := len_le_size ls; omega
  have HS := Lib.hid hs
  clear h hn hs
  go_enter Try.func85, Try.ntmps85
  go_wp2_with fail
  go_loopw [2, 3, 4, 6, 9] (fun _ _ s _ i wr => ∃ (k nb : Nat) (Ax : Option Addr) (cx : Nat), k ≤ n ∧ i = .int .i64 k ∧ s = .slice Ax nb cx ∧ nb ≤ 900000 ∧ nb ≤ cx ∧ cx ≤ 9223372036854775807 ∧ Hid (nb = (encL (ls.take k)).length) ∧ Hid (Own wr w.heap.size (.slice Ax nb cx) (encL (ls.take k))) ∧ Hid (Below w.heap.size w wr) ∧ Hid (∀ p ∈ ls.take k, p.2.length ≤ 65531)) (fun _ _ _ _ i _ => n - (intOf i).toNat)
  case atStart => exact ⟨0, 0, none, 0, by omega, rfl, rfl, by omega, by omega, by omega, rfl, World.ownsRow_nil _ _ _ _, Below.refl _ _, fun p hp => by simp at hp⟩
  case round =>
    obtain ⟨k, nb, Ax, cx, hk, rfl, rfl, hnb, hnc, hcx, HNB, HO, HB, HSM⟩ := hrel
    by_cases hlt : k < n
    · have hk2 : k < ls.length := by rw [← HN.out]; exact hlt
      obtain ⟨ad, a, cv, rfl, hblk, hp16, hc0, hc1, hvc, hvm, hvb⟩ := (HP.out.below HB.out) k _ (List.getElem?_eq_getElem hk2)
      have hvw : ∃ A0 : Option Addr, True := ⟨none, trivial⟩
      obtain ⟨p, hp⟩ : ∃ p, p = ls[k] := ⟨_, rfl⟩
      rw [← hp] at hp16 hc0 hc1 hvc hvb
      have hpm : p ∈ ls := by rw [hp]; exact List.getElem_mem _
      have hpl : 4 + p.2.length ≤ 450000 := by have := val_le_size ls p hpm; have := HS.out; omega
      have HT : Hid (ls.take (k + 1) = ls.take k ++ [p]) := by rw [List.take_succ_eq_append_getElem hk2, hp]; rfl
      have HEL : Hid ((encL (ls.take (k + 1))).length ≤ 900000) := by have h1 := encL_le (ls.take (k + 1)); have h2 := sizeL_take ls (k + 1); have := HS.out; show _ ≤ _; omega
      have HPM := Lib.hid hpm
      have HVB := Lib.hid hvb
      obtain ⟨nv, hnv⟩ : ∃ nv, nv = p.2.length := ⟨_, rfl⟩
      rw [← hnv] at hc1 hvc hpl
      have HNV := Lib.hid hnv
      obtain ⟨kd, hkd⟩ : ∃ kd, kd = p.1 := ⟨_, rfl⟩
      rw [← hkd] at hp16 hc0
      have HKD := Lib.hid hkd
      obtain ⟨gv, hgv⟩ : ∃ gv, gv = wr.heap.size := ⟨_, rfl⟩
      have HS0 : Hid (BSt w (wr.alloc (.cells #[.int .u16 (kd : Int), .slice a nv cv] 131)) gv (.slice Ax nb cx) (encL (ls.take k)) #[.int .u16 (kd : Int), .slice a nv cv]) := by
        have ha := (Below.refl wr.heap.size wr).alloc (Nat.le_refl _) (.cells #[.int .u16 (kd : Int), .slice a nv cv] 131)
        refine ⟨(Fr.of_below ha).own HO.out (fun g hg hi => by have := (HO.out.lt g hg).2; omega), by rw [hgv]; exact Blk.new _ _ _, HB.out.trans (ha.mono HB.out.size)⟩
      clear hp hvb hnv hkd hpm hvw
      by_cases hbig : (65531 : Int) < (nv : Int)
      · go_wp2_with fail
        go_ret2
        exact ⟨.inr ⟨rfl, p, HPM.out, by rw [← HNV.out]; omega⟩, HS0.out.below⟩
      · go_upto_region 7 with (fail)
        obtain ⟨W1, hW1⟩ : ∃ W1, W1 = wr.alloc (.cells #[.int .u16 (kd : Int), .slice a nv cv] 131) := ⟨_, rfl⟩
        rw [← hW1] at HS0 ⊢
        rw [← hgv]
        have HVB1 : Hid (∀ V, Hid (Below w.heap.size w V) → Reads V w.heap.size 1 a nv (u8s p.2)) := fun V hb => by
          have h0 := HVB.out.keep (w' := V) (fun q hq => (hb.out.cell hq).trans (HB.out.cell hq).symm)
          unfold Byt at h0
          rw [← HNV.out] at h0
          exact h0
        have HLN : Hid (nb + 2 + 2 + nv + 3 ≤ 900000 + 10) := by
          have h1 := HEL.out
          rw [HT.out, encL_snoc, List.length_append, encP_length, ← HNB.out, ← HNV.out] at h1
          show _ ≤ _
          omega
        have hln := HLN.out
        clear hW1 hgv
        have c0 : W1.cell? ⟨gv, 0, none⟩ = some (.int .u16 (kd : Int)) := HS0.out.blk.cell 0
        have w1' : IntKind.u64.wrap (kd : Int) = (kd : Int) := by simp [IntKind.wrap, IntKind.bits, IntKind.signed]; omega
        have w2' : IntKind.u64.wrap ((nv : Int) + 4) = ((nv + 4 : Nat) : Int) := by simp [IntKind.wrap, IntKind.bits, IntKind.signed]; omega
        go_wp2_with fail
        refine (text_any kd 2 (by omega) (by omega) W1).mono ?_
        rintro e V2 ⟨⟨u, rfl, ho2⟩, hb2⟩
        obtain ⟨A2, c2, rfl, _, _, HY2⟩ := own_as (n := 2) ho2 (by rw [be_length])
        have HS2 := Lib.hid (HS0.out.grows hb2)
        have hsz2 := HS2.out.below.size
        clear ho2 hb2
        go_wp2_with (at_builtin; refine wpList_append_any _ rfl (.tmp 17) (.tmp 21) _ rfl w.heap.size 5 i0 _ 1 1 Try.underlying22 hi0 hz0 hz1 hz2 rfl (by omega) (.slice Ax nb cx) nb (u8s (encL (ls.take k))) rfl (HS2.out.own_n HNB.out) V2.heap.size A2 2 c2 (u8s (be kd 2)) rfl (by have := HY2.out; unfold Byt at this; rw [be_length] at this; exact this) (u8s_one _) (by simp only [maxLen]; omega) (by omega) hsz2 ?_; intro v3 V3 hown3 hg3 hat3; obtain ⟨A3, c3, rfl, hc3, hm3⟩ := own_slice hown3; have HS3 := Lib.hid (HS2.out.app (l' := encL (ls.take k) ++ be kd 2) (by have := hown3; unfold Own; rw [List.length_append, be_length, ← HNB.out, u8s_append]; exact this) hg3); have c1 : V3.cell? ⟨gv, 1, none⟩ = some (.slice a nv cv) := HS3.out.blk.cell 1; clear hown3 hg3 hat3)
        rw [show (nv : Int) + 4 = ((nv + 4 : Nat) : Int) by omega]
        refine (text_any (nv + 4) 2 (by omega) (by omega) V3).mono ?_
        rintro e V4 ⟨⟨u, rfl, ho4⟩, hb4⟩
        obtain ⟨A4, c4, rfl, _, _, HY4⟩ := own_as (n := 2) ho4 (by rw [be_length])
        have HS4 := Lib.hid (HS3.out.grows hb4)
        have hsz4 := HS4.out.below.size
        have HN3 : Hid (nb + 2 = (encL (ls.take k) ++ be kd 2).length) := by rw [List.length_append, be_length, ← HNB.out]; rfl
        clear ho4 hb4 c1
        go_wp2_with (first
          | (at_builtin; refine wpList_append_any _ rfl (.tmp 23) (.tmp 29) _ rfl w.heap.size 5 i0 _ 1 1 Try.underlying22 hi0 hz0 hz1 hz2 rfl (by omega) (.slice A3 (nb + 2) c3) (nb + 2) (u8s (encL (ls.take k) ++ be kd 2)) rfl (HS4.out.own_n HN3.out) V4.heap.size A4 2 c4 (u8s (be (nv + 4) 2)) rfl (by have := HY4.out; unfold Byt at this; rw [be_length] at this; exact this) (u8s_one _) (by simp only [maxLen]; omega) (by omega) hsz4 ?_; intro v5 V5 hown5 hg5 hat5; obtain ⟨A5, c5, rfl, hc5, hm5⟩ := own_slice hown5; have HS5 := Lib.hid (HS4.out.app (l' := (encL (ls.take k) ++ be kd 2) ++ be (nv + 4) 2) (by have := hown5; unfold Own; rw [List.length_append, be_length, ← HN3.out, u8s_append]; exact this) hg5); have HN5 : Hid (nb + 2 + 2 = ((encL (ls.take k) ++ be kd 2) ++ be (nv + 4) 2).length) := (by rw [List.length_append, be_length, ← HN3.out]; rfl); have c5' : V5.cell? ⟨gv, 1, none⟩ = some (.slice a nv cv) := HS5.out.blk.cell 1; have hsz5 := HS5.out.below.size; clear hown5 hg5 hat5)
          | (at_builtin; refine wpList_append_any _ rfl (.tmp 31) (.tmp 33) _ rfl w.heap.size 5 i0 _ 1 1 Try.underlying22 hi0 hz0 hz1 hz2 rfl (by omega) (.slice A5 (nb + 2 + 2) c5) (nb + 2 + 2) (u8s ((encL (ls.take k) ++ be kd 2) ++ be (nv + 4) 2)) rfl (HS5.out.own_n HN5.out) w.heap.size a nv cv (u8s p.2) rfl (HVB1.out _ HS5.out.below) (u8s_one _) (by simp only [maxLen]; omega) (by omega) hsz5 ?_; intro v6 V6 hown6 hg6 hat6; obtain ⟨A6, c6, rfl, hc6, hm6⟩ := own_slice hown6; have HS6 := Lib.hid (HS5.out.app (l' := ((encL (ls.take k) ++ be kd 2) ++ be (nv + 4) 2) ++ p.2) (by have := hown6; unfold Own; rw [List.length_append, ← HNV.out, ← HN5.out, u8s_append]; exact this) hg6); have HN6 : Hid (nb + 2 + 2 + nv = (((encL (ls.take k) ++ be kd 2) ++ be (nv + 4) 2) ++ p.2).length) := (by rw [List.length_append, ← HNV.out, ← HN5.out]; rfl); clear hown6 hg6 hat6))
        refine Calls.mono (by have := pad_any w.heap.size (.slice A6 (nb + 2 + 2 + nv) c6) _ 4 (by omega) V6 (by rw [← HN6.out]; omega) HS6.out.own HS6.out.below.size; exact this) ?_
        rintro e V7 ⟨v7, rfl, ho7, hg7, hat7⟩
        have HE : Hid ((((encL (ls.take k) ++ be kd 2) ++ be (nv + 4) 2) ++ p.2) ++ List.replicate (padN (((encL (ls.take k) ++ be kd 2) ++ be (nv + 4) 2) ++ p.2).length 4) 0 = encL (ls.take (k + 1))) := by
          have e1 := HKD.out
          have e2 := HNV.out
          subst e1 e2
          rw [pad_four _ p (encL_mod _), HT.out, encL_snoc]
          show _ = _
          simp only [encP, List.append_assoc]
        rw [HE.out] at ho7
        obtain ⟨A7, c7, rfl, hc7, hm7⟩ := own_slice ho7
        have HB7 : Hid (Below w.heap.size w V7) := HS6.out.below.grown hg7 HS6.out.below.size (fun g hg => (HS6.out.own.lt g hg).1)
        have HO7 := Lib.hid ho7
        obtain ⟨n7, hn7⟩ : ∃ n7, n7 = (encL (ls.take (k + 1))).length := ⟨_, rfl⟩
        have hl7 := HEL.out
        rw [← hn7] at hc7 hl7 HO7 ⊢
        have HN7 := Lib.hid hn7
        clear ho7 hg7 hat7 hn7
        go_wp2_with fail
        go_roundw
        case rel =>
          refine ⟨k + 1, n7, A7, c7, by omega, by go_num, rfl, hl7, hc7, hm7, HN7, HO7, HB7, fun q hq => ?_⟩
          rw [HT.out] at hq
          rcases List.mem_append.1 hq with hq | hq
          · exact HSM.out q hq
          · simp only [List.mem_singleton] at hq
            subst hq
            rw [← HNV.out]; omega
        case measure => simp [intOf]; omega
    · obtain rfl : k = n := by omega
      go_wp2_with fail
      go_ret2
      refine ⟨.inl ⟨_, rfl, ?_, ?_⟩, HB.out⟩
      · have := HO.out
        rwa [List.take_of_length_le (by rw [HN.out]; exact Nat.le_refl _)] at this
      · have := HSM.out
        rwa [List.take_of_length_le (by rw [HN.out]; exact Nat.le_refl _)] at this
end Go.Proofs.Ytpgklhecmafnbaa.Par
