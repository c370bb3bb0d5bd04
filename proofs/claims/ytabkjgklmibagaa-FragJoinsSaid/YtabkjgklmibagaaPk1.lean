/-
  Packets: which chunks may be one's (packet.Alone, formed; the document's Alone, Fits).
-/
import Derived.Test.YtabkjgklmibagaaPkPlain
import Derived.Test.YtabkjgklmibagaaCks
import Derived.BigQuiet
set_option linter.unusedVariables false
set_option linter.unusedSimpArgs false
namespace Go.Proofs.Ytabkjgklmibagaa.Chk
open Go.ChangeShapes Go.WideShapes Go.ChangeAt Go.RowKit Go.Deep Go.Proofs.Ytabkjgklmibagaa.Words Go.Proofs.Ytabkjgklmibagaa.Oct Go.Proofs.Ytabkjgklmibagaa.Par

theorem alone_any (kd : Nat) (hk : kd < 256) (w : World) : Calls Try.prog 29 #[.int .u8 (kd : Int)] w fun e w' => e = .returned (.bool (aloneK kd)) ∧ w = w' := by
  have hc : kd = 1 ∨ kd = 2 ∨ kd = 14 ∨ (kd ≠ 1 ∧ kd ≠ 2 ∧ kd ≠ 14) := by omega
  rcases hc with rfl | rfl | rfl | hc
  · go_enter Try.func29, Try.ntmps29
    go_wp2_with fail
    go_ret
    exact ⟨rfl, rfl⟩
  · go_enter Try.func29, Try.ntmps29
    go_wp2_with fail
    go_ret
    exact ⟨rfl, rfl⟩
  · go_enter Try.func29, Try.ntmps29
    go_wp2_with fail
    go_ret
    exact ⟨rfl, rfl⟩
  · have hb : Hid (aloneK kd = false) := by show _ = _; unfold aloneK; simp; omega
    have h1 : ((kd : Int) == 1) = false := by simp; omega
    have h2 : ((kd : Int) == 2) = false := by simp; omega
    have h3 : ((kd : Int) == 14) = false := by simp; omega
    clear hc
    go_enter Try.func29, Try.ntmps29
    go_wp2_with fail
    go_ret
    exact ⟨ret_bool (by rw [hb.out]), rfl⟩

/-! ### formed -/
/-- A variable that holds a slice. -/
abbrev SlV (w : World) (g : Nat) (v : Value) : Prop := Blk w g 28 #[v]
set_option maxHeartbeats 2000000 in
set_option maxRecDepth 100000 in
theorem pred_k {w : World} {B g n c : Nat} {A : Option Addr} {cs : Array Value} {ck : Ck} (h : CkAt w B cs ck) (hg : SlV w g (.slice A n c)) (hn : n ≤ 1000000) :
    Calls Try.prog 28 #[.agg cs, .pointer (some ⟨g, 0, none⟩)] w fun e w' => e = .returned (.bool (decide (1 < n) && aloneK ck.kind)) ∧ Below w.heap.size w w' := by
  obtain ⟨_, _, _, _, _, hc, _⟩ := h.parts
  have e0 := hc.c0
  have hk := h.ok.kind
  obtain ⟨kd, hkd⟩ : ∃ kd, kd = ck.kind := ⟨_, rfl⟩
  rw [← hkd] at e0 hk ⊢
  have HBL := Lib.hid (Blk.new w 42 cs)
  have HB := Lib.hid ((Below.refl w.heap.size w).alloc (Nat.le_refl _) (.cells cs 42))
  have HG := Lib.hid hg
  clear h hc hkd hg
  go_enter Try.func28, Try.ntmps28
  go_upto_region 1 with (fail)
  obtain ⟨W1, hW1⟩ : ∃ W1, W1 = w.alloc (.cells cs 42) := ⟨_, rfl⟩
  rw [← hW1] at HBL HB ⊢
  obtain ⟨g0, hg0⟩ : ∃ g0, g0 = w.heap.size := ⟨_, rfl⟩
  have HG0 : Hid (CkBlk W1 g0 cs) := by rw [hg0]; exact HBL
  rw [← hg0]
  have f0 := HG0.out.at e0
  have c0 : W1.cell? ⟨g, 0, none⟩ = some (.slice A n c) := (HG.out.below HB.out HG.out.lt).cell 0
  clear hW1 HBL hg0 e0
  by_cases h1 : (1 : Int) < (n : Int)
  · have d1 : decide (1 < n) = true := by simp; omega
    go_wp2_with fail
    refine (alone_any kd hk W1).mono ?_
    rintro e w2 ⟨rfl, rfl⟩
    go_wp2_with fail
    go_ret
    exact ⟨ret_bool (by first | rfl | (rw [d1]; rfl)), HB.out⟩
  · have d1 : decide (1 < n) = false := by simp; omega
    go_wp2_with fail
    go_ret
    exact ⟨ret_bool (by first | rfl | (rw [d1]; rfl)), HB.out⟩
def findI (p : Ck → Bool) (ls : List Ck) (r : Int) : Prop := (0 ≤ r ∧ ls.any p = true) ∨ (r = -1 ∧ ls.any p = false)
theorem anyC_take {p : Ck → Bool} {l : List Ck} {k : Nat} (hk : k < l.length) (h : (l.take k).any p = false) (h0 : p l[k] = false) : (l.take (k + 1)).any p = false := by
  rw [List.take_succ_eq_append_getElem hk, List.any_append, h]
  simp [h0]
theorem anyC_at {p : Ck → Bool} {l : List Ck} {k : Nat} (hk : k < l.length) (h : p l[k] = true) : l.any p = true := List.any_eq_true.2 ⟨_, List.getElem_mem hk, h⟩
set_option maxHeartbeats 4000000 in
set_option maxRecDepth 100000 in
theorem idx_k {w : World} {B g n c : Nat} {A : Option Addr} {ls : List Ck} (h : Cks w B A ls) (hB : B ≤ w.heap.size) (hn : n = ls.length) (hn6 : n ≤ 1000000) (hg : SlV w g (.slice A n c)) :
    Calls Try.prog 40 #[.slice A n c, .func (.func 28) #[] #[.pointer (some ⟨g, 0, none⟩)]] w fun e w' =>
      (∃ r : Int, e = .returned (.int .i64 r) ∧ r < 9223372036854775808 ∧ findI (fun ck => decide (1 < n) && aloneK ck.kind) ls r) ∧ Below w.heap.size w w' := by
  have HN := Lib.hid hn
  have HC := Lib.hid h
  have HG := Lib.hid hg
  obtain ⟨p, hp⟩ : ∃ p : Ck → Bool, p = fun ck => decide (1 < n) && aloneK ck.kind := ⟨_, rfl⟩
  have HP := Lib.hid hp
  rw [← hp]
  have HBs := Lib.hid hB
  clear h hn hg hp hB
  go_enter Try.func40, Try.ntmps40
  go_wp2_with fail
  go_loopw [4, 5, 8] (fun _ _ i wr => ∃ k : Nat, k ≤ n ∧ i = .int .i64 k ∧ Hid ((ls.take k).any p = false) ∧ Hid (Below w.heap.size w wr)) (fun _ _ i _ => n - (intOf i).toNat)
  case atStart => exact ⟨0, by omega, rfl, rfl, Below.refl _ _⟩
  case round =>
    obtain ⟨k, hk, rfl, HA, HW⟩ := hrel
    by_cases hlt : k < n
    · have hk2 : k < ls.length := by rw [← HN.out]; exact hlt
      obtain ⟨ad, cs, rfl, hblk, hsz, hat, hcell⟩ := (HC.out.keep (w' := wr) (fun q hq => HW.out.cell (Nat.lt_of_lt_of_le hq HBs.out))).nth hk2
      obtain ⟨ck, hck⟩ : ∃ ck, ck = ls[k] := ⟨_, rfl⟩
      rw [← hck] at hat
      have HSZ := Lib.hid hsz
      have HCELL := Lib.hid hcell
      have hcall := pred_k hat (HG.out.below HW.out HG.out.lt) hn6
      have HPK : Hid ((decide (1 < n) && aloneK ck.kind) = p ck) := by rw [HP.out]; rfl
      rw [HPK.out] at hcall
      obtain ⟨r, hr⟩ : ∃ r, r = p ck := ⟨_, rfl⟩
      rw [← hr] at hcall
      have HR : Hid (r = p ls[k]) := by rw [← hck]; exact hr
      clear hsz hat hcell hck hblk HPK hr
      cases r
      · have HA2 : Hid ((ls.take (k + 1)).any p = false) := anyC_take hk2 HA.out HR.out.symm
        go_wp2_with (first
          | (refine wpList_load_any rfl 42 _ rfl (ad.add (k * 19)) rfl cs _ HCELL.out Try.underlying42 rfl (by rw [HSZ.out]; exact chunk_info) ?_)
          | (go_at_call 28; refine hcall.mono ?_; rintro e w' ⟨rfl, hbw⟩; have HW2 := Lib.hid (HW.out.trans (hbw.mono HW.out.size))))
        go_roundw
        case rel => exact ⟨k + 1, by omega, by go_num, HA2, HW2⟩
        case measure => simp [intOf]; omega
      · have HA2 : Hid (ls.any p = true) := anyC_at hk2 HR.out.symm
        go_wp2_with (first
          | (refine wpList_load_any rfl 42 _ rfl (ad.add (k * 19)) rfl cs _ HCELL.out Try.underlying42 rfl (by rw [HSZ.out]; exact chunk_info) ?_)
          | (go_at_call 28; refine hcall.mono ?_; rintro e w' ⟨rfl, hbw⟩; have HW2 := Lib.hid (HW.out.trans (hbw.mono HW.out.size))))
        go_ret
        exact ⟨⟨k, rfl, by omega, .inl ⟨by omega, HA2.out⟩⟩, HW2.out⟩
    · obtain rfl : k = n := by omega
      go_wp2_with fail
      go_ret
      refine ⟨⟨-1, rfl, by omega, .inr ⟨rfl, ?_⟩⟩, HW.out⟩
      have := HA.out
      rwa [List.take_of_length_le (by rw [HN.out]; exact Nat.le_refl _)] at this
theorem contains_k {w : World} {B g n c : Nat} {A : Option Addr} {ls : List Ck} (h : Cks w B A ls) (hB : B ≤ w.heap.size) (hn : n = ls.length) (hn6 : n ≤ 1000000) (hg : SlV w g (.slice A n c)) :
    Calls Try.prog 27 #[.slice A n c, .func (.func 28) #[] #[.pointer (some ⟨g, 0, none⟩)]] w fun e w' =>
      e = .returned (.bool (decide (1 < n) && anyAlone ls)) ∧ Below w.heap.size w w' := by
  have C := Lib.hid (idx_k h hB hn hn6 hg)
  obtain ⟨b, hb⟩ : ∃ b, b = (decide (1 < n) && anyAlone ls) := ⟨_, rfl⟩
  have HB : Hid (b = ls.any fun ck => decide (1 < n) && aloneK ck.kind) := by
    rw [hb]
    show _ = _
    unfold anyAlone
    cases decide (1 < n)
    · simp
    · simp
  rw [← hb]
  clear h hn hg hB hb
  go_enter Try.func27, Try.ntmps27
  go_wp2_with fail
  refine C.out.mono ?_
  rintro e w1 ⟨⟨r, rfl, hr, HA⟩, HW⟩
  have HD : Hid (b = decide (0 ≤ r)) := by
    rw [HB.out]
    show _ = _
    rcases HA with ⟨h1, h2⟩ | ⟨h1, h2⟩
    · rw [h2, decide_eq_true h1]
    · rw [h2, h1]; rfl
  clear HA
  go_wp2_with fail
  go_ret
  exact ⟨ret_bool (by rw [HD.out]), HW⟩
set_option maxHeartbeats 4000000 in
set_option maxRecDepth 100000 in
theorem formed_k {w : World} {B n c : Nat} {A : Option Addr} {ls : List Ck} (h : Cks w B A ls) (hB : B ≤ w.heap.size) (hn : n = ls.length) (hn6 : n ≤ 1000000) :
    Calls Try.prog 17 #[.slice A n c] w fun e w' => e = .returned (.bool (fitsL ls)) ∧ Below w.heap.size w w' := by
  have HC := Lib.hid h
  have HN := Lib.hid hn
  have HBs := Lib.hid hB
  obtain ⟨f, hf⟩ : ∃ f, f = fitsL ls := ⟨_, rfl⟩
  have HF := Lib.hid hf
  rw [← hf]
  have hmf : ∀ (fn : Fn) (first cap : Array Value) (w : World), (Instr.makeFunc fn first cap).run Try.prog w = .ok (.func fn first cap) w := fun _ _ _ _ => rfl
  have HBL := Lib.hid (Blk.new w 28 #[.slice A n c])
  have HB := Lib.hid ((Below.refl w.heap.size w).alloc (Nat.le_refl _) (.cells #[.slice A n c] 28))
  clear h hn hf hB
  go_enter Try.func17, Try.ntmps17
  go_upto_region 1 with (fail)
  obtain ⟨W1, hW1⟩ : ∃ W1, W1 = w.alloc (.cells #[.slice A n c] 28) := ⟨_, rfl⟩
  rw [← hW1] at HBL HB ⊢
  obtain ⟨g0, hg0⟩ : ∃ g0, g0 = w.heap.size := ⟨_, rfl⟩
  have HG0 : Hid (SlV W1 g0 (.slice A n c)) := by rw [hg0]; exact HBL
  rw [← hg0]
  have c0 : W1.cell? ⟨g0, 0, none⟩ = some (.slice A n c) := HG0.out.cell 0
  clear hW1 HBL hg0
  by_cases h0 : n = 0
  · subst h0
    have HF0 : Hid (f = false) := by rw [HF.out]; show _ = _; unfold fitsL; rw [← HN.out]; rfl
    go_wp2_with fail
    go_ret
    exact ⟨ret_bool HF0.out.symm, HB.out⟩
  by_cases h64 : (64 : Int) < (n : Int)
  · have HF0 : Hid (f = false) := by
      rw [HF.out]; show _ = _; unfold fitsL; rw [← HN.out, show decide (n ≤ 64) = false by simp; omega]; simp
    have d0 : ((n : Int) == 0) = false := by simp; omega
    go_wp2_with fail
    go_ret
    exact ⟨ret_bool HF0.out.symm, HB.out⟩
  have d0 : ((n : Int) == 0) = false := by simp; omega
  have d1 : ¬ (64 : Int) < (n : Int) := h64
  have HF1 : Hid (f = !(decide (1 < n) && anyAlone ls)) := by
    rw [HF.out]
    show _ = _
    unfold fitsL
    rw [← HN.out, show decide (1 ≤ n) = true by simp; omega, show decide (n ≤ 64) = true by simp; omega]
    by_cases h1 : n = 1
    · subst h1; simp
    · rw [show decide (n = 1) = false by simp [h1], show decide (1 < n) = true by simp; omega]
      simp
  clear h0 h64
  go_wp2_with fail
  refine (contains_k (HC.out.keep (w' := W1) (fun q hq => HB.out.cell (Nat.lt_of_lt_of_le hq HBs.out))) (Nat.le_trans HBs.out HB.out.size) HN.out hn6 HG0.out).mono ?_
  rintro e w2 ⟨rfl, hb2⟩
  have HB2 := Lib.hid (HB.out.trans (hb2.mono HB.out.size))
  obtain ⟨r, hr⟩ : ∃ r, r = (decide (1 < n) && anyAlone ls) := ⟨_, rfl⟩
  have HR : Hid (f = !r) := by rw [hr]; exact HF1
  rw [← hr]
  clear hr hb2
  go_wp2_with fail
  go_ret
  exact ⟨ret_bool HR.out.symm, HB2.out⟩
end Go.Proofs.Ytabkjgklmibagaa.Chk
