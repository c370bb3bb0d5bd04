/-
  Contracts of package param: Put, Get, Find of the code as it landed.
-/
import Derived.Test.YtabkjgklmibagaaParLaw
import Derived.Test.YtabkjgklmibagaaOctW
set_option linter.unusedVariables false
set_option linter.unusedSimpArgs false
namespace Go.Proofs.Ytabkjgklmibagaa.Par
open Go.ChangeShapes Go.WideShapes Go.ChangeAt Go.RowKit Go.Deep Go.Proofs.Ytabkjgklmibagaa.Words Go.Proofs.Ytabkjgklmibagaa.Oct

/-! ### Find -/
/-! ### Put -/
/-- Where the writer stands beside the loop's variable. -/
structure WSt (w V : World) (p gv : Nat) (v : Value) (l : List UInt8) (cs : Array Value) : Prop where
  wr : Wr V p w.heap.size v l
  blk : Blk V gv 74 cs
  below : Below w.heap.size w V
  ne : gv ≠ p
  le : w.heap.size ≤ p
theorem WSt.step {w V V' : World} {p gv : Nat} {v : Value} {l l' : List UInt8} {cs : Array Value} {e : Ending} (h : WSt w V p gv v l cs) (k : Wrote V p w.heap.size v l' e V') :
    ∃ v', e = .returned (.tuple #[]) ∧ Hid (WSt w V' p gv v' l' cs) := by
  obtain ⟨v', rfl, hw, hf, _⟩ := k
  refine ⟨v', rfl, hw, hf.blk h.blk ?_, below_fr h.below hf (Nat.le_refl _) ?_, h.ne, h.le⟩
  · rintro (rfl | e)
    · exact h.ne rfl
    · exact own_blk_ne h.wr.own h.blk (by decide) e.symm
  · rintro x (rfl | e)
    · exact h.le
    · exact (h.wr.own.lt x e.symm).1
set_option maxHeartbeats 4000000 in
set_option maxRecDepth 100000 in
theorem put_c : PutC := by
  intro A ls n c w hn hnc hcm hs h
  have HP := Lib.hid h
  have HN := Lib.hid hn
  have hn2 : n ≤ 112500 := by have := len_le_size ls; omega
  have HS := Lib.hid hs
  clear h hn hs
  have HW0 : Hid (Wr (w.alloc (.cells #[.slice none 0 0] 62)) w.heap.size w.heap.size (.slice none 0 0) []) := ⟨Blk.new _ _ _, World.ownsRow_nil _ _ _ _⟩
  have HB0 : Hid (Below w.heap.size w (w.alloc (.cells #[.slice none 0 0] 62))) := (Below.refl _ _).alloc (Nat.le_refl _) _
  go_enter Try.func49, Try.ntmps49
  go_wp2_with fail
  go_loopw [2, 3, 6, 11] (fun _ _ _ i wr => ∃ (k : Nat) (v : Value), k ≤ n ∧ i = .int .i64 k ∧ Hid (Wr wr w.heap.size w.heap.size v (encL (ls.take k))) ∧ Hid (Below w.heap.size w wr) ∧ Hid (∀ p ∈ ls.take k, p.2.length ≤ 65531)) (fun _ _ _ i _ => n - (intOf i).toNat)
  case atStart => exact ⟨0, .slice none 0 0, by omega, rfl, HW0, HB0, fun p hp => by simp at hp⟩
  case round =>
    obtain ⟨k, v, hk, rfl, HW, HB, HSM⟩ := hrel
    have hsz := HW.out.blk.lt
    by_cases hlt : k < n
    · have hk2 : k < ls.length := by rw [← HN.out]; exact hlt
      obtain ⟨ad, a, cv, rfl, hblk, hp16, hc0, hc1, hvc, hvm, hvb⟩ := (HP.out.below HB.out) k _ (List.getElem?_eq_getElem hk2)
      obtain ⟨p, hp⟩ : ∃ p, p = ls[k] := ⟨_, rfl⟩
      rw [← hp] at hp16 hc0 hc1 hvc hvb
      have hpm : p ∈ ls := by rw [hp]; exact List.getElem_mem _
      have hpl : 4 + p.2.length ≤ 450000 := by have := val_le_size ls p hpm; have := HS.out; omega
      have HT : Hid (ls.take (k + 1) = ls.take k ++ [p]) := by rw [List.take_succ_eq_append_getElem hk2, hp]; rfl
      have HEL : Hid ((encL (ls.take (k + 1))).length ≤ 900000) := by have h1 := encL_le (ls.take (k + 1)); have h2 := sizeL_take ls (k + 1); have := HS.out; show _ ≤ _; omega
      have HPM := Lib.hid hpm
      have HVB := Lib.hid hvb
      obtain ⟨nv, hnv⟩ : ∃ nv, nv = p.2.length := ⟨_, rfl⟩
      rw [← hnv] at hc1 hvc hpl
      have HNV := Lib.hid hnv
      obtain ⟨kd, hkd⟩ : ∃ kd, kd = p.1 := ⟨_, rfl⟩
      rw [← hkd] at hp16 hc0
      have HKD := Lib.hid hkd
      obtain ⟨gv, hgv⟩ : ∃ gv, gv = wr.heap.size := ⟨_, rfl⟩
      have HS0 : Hid (WSt w (wr.alloc (.cells #[.int .u16 (kd : Int), .slice a nv cv] 74)) w.heap.size gv v (encL (ls.take k)) #[.int .u16 (kd : Int), .slice a nv cv]) := by
        have ha := (Below.refl wr.heap.size wr).alloc (Nat.le_refl _) (.cells #[.int .u16 (kd : Int), .slice a nv cv] 74)
        exact ⟨HW.out.grows ha, by rw [hgv]; exact Blk.new _ _ _, HB.out.trans (ha.mono HB.out.size), by omega, Nat.le_refl _⟩
      have HBA : Hid (Below wr.heap.size wr (wr.alloc (.cells #[.int .u16 (kd : Int), .slice a nv cv] 74))) := (Below.refl wr.heap.size wr).alloc (Nat.le_refl _) _
      clear hp hvb hnv hkd hpm
      by_cases hbig : (65531 : Int) < (nv : Int)
      · go_wp2_with fail
        go_ret2
        exact ⟨.inr ⟨none, 0, rfl, p, HPM.out, by rw [← HNV.out]; omega⟩, HS0.out.below⟩
      · go_upto_region 7 with (fail)
        obtain ⟨W1, hW1⟩ : ∃ W1, W1 = wr.alloc (.cells #[.int .u16 (kd : Int), .slice a nv cv] 74) := ⟨_, rfl⟩
        rw [← hW1] at HS0 ⊢
        rw [← hgv]
        have HVB1 : Hid (∀ V, Below w.heap.size w V → Byt V w.heap.size a p.2) := fun V hb => HVB.out.keep (w' := V) (fun q hq => (hb.cell hq).trans (HB.out.cell hq).symm)
        have HLN : Hid ((encL (ls.take k)).length + nv + 8 ≤ 900000 + 10) := by
          have h1 := HEL.out
          rw [HT.out, encL_snoc, List.length_append, encP_length, ← HNV.out] at h1
          show _ ≤ _
          omega
        clear hW1 hgv HBA
        have c0 : W1.cell? ⟨gv, 0, none⟩ = some (.int .u16 (kd : Int)) := HS0.out.blk.cell 0
        have w2 : IntKind.u16.wrap (4 + (nv : Int)) = ((nv + 4 : Nat) : Int) := by simp [IntKind.wrap, IntKind.bits, IntKind.signed]; omega
        have w2' : IntKind.u16.wrap ((nv : Int) + 4) = ((nv + 4 : Nat) : Int) := by simp [IntKind.wrap, IntKind.bits, IntKind.signed]; omega
        go_wp2_with fail
        refine (wr_u16 kd hp16 HS0.out.wr HS0.out.below.size (by have := HLN.out; omega)).mono ?_
        intro e V2 hd
        obtain ⟨v2, rfl, HS2⟩ := HS0.out.step hd
        have c1 : V2.cell? ⟨gv, 1, none⟩ = some (.slice a nv cv) := HS2.out.blk.cell 1
        clear hd c0
        go_wp2_with fail
        refine (wr_u16 (nv + 4) (by omega) HS2.out.wr HS2.out.below.size (by rw [List.length_append, be_length]; have := HLN.out; omega)).mono ?_
        intro e V3 hd
        obtain ⟨v3, rfl, HS3⟩ := HS2.out.step hd
        have c2 : V3.cell? ⟨gv, 1, none⟩ = some (.slice a nv cv) := HS3.out.blk.cell 1
        clear hd c1
        go_wp2_with fail
        refine (wr_put HS3.out.wr HS3.out.below.size (by rw [List.length_append, List.length_append, be_length, be_length]; have := HLN.out; omega) HNV.out (by omega) (HVB1.out V3 HS3.out.below)).mono ?_
        intro e V4 hd
        obtain ⟨v4, rfl, HS4⟩ := HS3.out.step hd
        clear hd c2
        go_wp2_with fail
        refine (wr_pad 4 HS4.out.wr HS4.out.below.size (by rw [List.length_append, List.length_append, List.length_append, be_length, be_length, ← HNV.out]; have := HLN.out; omega) (by omega)).mono ?_
        intro e V5 hd
        obtain ⟨v5, rfl, HS5⟩ := HS4.out.step hd
        have HE : Hid ((((encL (ls.take k) ++ be kd 2) ++ be (nv + 4) 2) ++ p.2) ++ List.replicate (padN (((encL (ls.take k) ++ be kd 2) ++ be (nv + 4) 2) ++ p.2).length 4) 0 = encL (ls.take (k + 1))) := by
          have e1 := HKD.out
          have e2 := HNV.out
          subst e1 e2
          rw [pad_four _ p (encL_mod _), HT.out, encL_snoc]
          show _ = _
          simp only [encP, List.append_assoc]
        rw [HE.out] at HS5
        clear hd
        go_wp2_with fail
        go_roundw
        case rel =>
          refine ⟨k + 1, v5, by omega, by go_num, HS5.out.wr, HS5.out.below, fun q hq => ?_⟩
          rw [HT.out] at hq
          rcases List.mem_append.1 hq with hq | hq
          · exact HSM.out q hq
          · simp only [List.mem_singleton] at hq
            subst hq
            rw [← HNV.out]; omega
        case measure => simp [intOf]; omega
    · obtain rfl : k = n := by omega
      have HFull : Hid (ls.take k = ls) := List.take_of_length_le (by rw [HN.out]; exact Nat.le_refl _)
      have HW1 : Hid (Wr wr w.heap.size w.heap.size v (encL ls)) := by have := HW.out; rw [HFull.out] at this; exact this
      have HEL : Hid ((encL ls).length ≤ 900000) := by have h1 := encL_le ls; have := HS.out; show _ ≤ _; omega
      go_wp2_with fail
      refine (wr_out HW1.out (by have := HEL.out; omega)).mono ?_
      rintro e V2 ⟨⟨u, rfl, ho⟩, hb⟩
      have HO := Lib.hid ho
      have HB2 : Hid (Below w.heap.size w V2) := HB.out.trans (hb.mono HB.out.size)
      clear ho hb
      go_wp2_with fail
      go_ret2
      refine ⟨.inl ⟨u, rfl, own_mono HO.out HB.out.size, ?_⟩, HB2.out⟩
      have := HSM.out
      rwa [HFull.out] at this

end Go.Proofs.Ytabkjgklmibagaa.Par
