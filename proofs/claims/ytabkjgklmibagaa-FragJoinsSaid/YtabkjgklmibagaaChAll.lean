/-
  Contracts of package chunk's writer: all of it.
-/
import Derived.Test.YtabkjgklmibagaaChZ
set_option linter.unusedVariables false
set_option linter.unusedSimpArgs false
namespace Go.Proofs.Ytabkjgklmibagaa.Chk
open Go.ChangeShapes Go.WideShapes Go.ChangeAt Go.RowKit Go.Deep Go.Proofs.Ytabkjgklmibagaa.Words Go.Proofs.Ytabkjgklmibagaa.Oct Go.Proofs.Ytabkjgklmibagaa.Par

/-- How great a chunk is. -/
structure Small (c : Ck) : Prop where
  body : c.body.length ≤ 450000
  skips : 8 * c.skips.length ≤ 450000
  ps : sizeL c.ps ≤ 450000
/-- What the writer of all leaves. -/
def ChunkDone (w : World) (p B : Nat) (v : Value) (c : Ck) (e : Ending) (w' : World) : Prop :=
  ∃ l' lg', WroteE w p B v l' lg' e w' ∧ l'.length ≤ 990000 ∧
    ((lg' = false ∧ l' = cont c ∧ (c.kind = 3 → c.gaps.length ≤ 65535 ∧ c.dups.length ≤ 65535) ∧ (hasPs c.kind = true → ∀ p ∈ c.ps, p.2.length ≤ 65531)) ∨ (lg' = true ∧ tooLong c))

set_option maxHeartbeats 8000000 in
set_option maxRecDepth 100000 in
theorem chunk_w {w : World} {p B C : Nat} {v : Value} {cs : Array Value} {c : Ck} (h : WrE w p B v [] false) (hB : B ≤ w.heap.size) (hs : Small c) (hK : known c.kind = true) (hc : CkAt w C cs c) (hp : C ≤ p) (hC : C ≤ B) :
    Calls Try.prog 32 #[rptr p, .agg cs] w (ChunkDone w p B v c) := by
  obtain ⟨g, d, s, pp, b, hcc, hll⟩ := hc.parts
  have ok := hc.ok
  have H0 := Lib.hid h
  have HW1 := Lib.hid (WC.init (cs := cs) h hB)
  have HO := Lib.hid ok
  have HAT := Lib.hid hc
  have HSZ := Lib.hid hcc.size
  have e0 := hcc.c0
  have e5 := hcc.c5
  have e17 := hcc.c17
  have e18 := hcc.c18
  have HRB := Lib.hid hll.body
  have HRP := Lib.hid hll.ps
  have hp1 := hll.okp.1
  have hp2 := hll.okp.2
  obtain ⟨nb, hnb⟩ : ∃ n, n = c.body.length := ⟨_, rfl⟩
  obtain ⟨np, hnp⟩ : ∃ n, n = c.ps.length := ⟨_, rfl⟩
  have HNB := Lib.hid hnb
  have HNP := Lib.hid hnp
  have hnb4 : nb ≤ 450000 := by rw [hnb]; exact hs.body
  have HSS := Lib.hid hs.skips
  have HSP := Lib.hid hs.ps
  have HL : Hid (([] : List UInt8).length ≤ 10) := by show _ ≤ _; simp
  rw [← hnb] at e18
  rw [← hnp] at e17 hp1
  clear hcc hc h ok hll hnb hnp hs
  go_enter Try.func32, Try.ntmps32
  go_upto_region 1 with (fail)
  obtain ⟨W1, hW1⟩ : ∃ W1, W1 = w.alloc (.cells cs 42) := ⟨_, rfl⟩
  rw [← hW1] at HW1 ⊢
  obtain ⟨gc, hgc⟩ : ∃ gc, gc = w.heap.size := ⟨_, rfl⟩
  rw [← hgc] at HW1 ⊢
  clear hW1 hgc
  rcases kinds hK with hk | hk | hk | hk | hk | hk | hk | hk | hk | hk | hk | hk | hk | hk | hk | hk | hk
  · rw [hk] at e0
    have fe0 := HW1.out.blk.at e0
    go_wp2_with (refine wpList_load_row rfl 42 _ rfl gc rfl 42 cs (0, 0) _ HW1.out.blk Try.underlying42 rfl (by rw [HSZ.out]; exact chunk_info) ?_)
    clear fe0
    refine (frag_w HW1.out.ws.wr HW1.out.ws.size (by simp) (HW1.out.ws.at_ H0.out HAT.out hp hC) (by omega)).mono ?_
    intro e W2 hd
    obtain ⟨v2, rfl, HW2⟩ := HW1.out.step hd
    clear hd
    have HFL : Hid ((fragE c).length ≤ 20) := by show _ ≤ _; unfold fragE; split <;> simp [be_length]
    go_wp2_with fail
    have fe18 := HW2.out.blk.at e18
    go_still_tail 5, (by kernel_rfl)
    change wpList _ _ _ _ _ W2.drew
    obtain ⟨V9, hV⟩ : ∃ V, V = W2.drew := ⟨_, rfl⟩
    have HD9 := Lib.hid HW2.out.drew
    rw [← hV] at HD9 ⊢
    clear hV HW2
    go_wp2_with fail
    refine (wre_put HD9.out.ws.wr HD9.out.ws.size (by simp only [List.nil_append]; have := HFL.out; omega) HNB.out (by omega) (HD9.out.ws.reads H0.out HRB.out hp hC)).mono ?_
    intro e W10 hd
    obtain ⟨v10, rfl, HW10⟩ := HD9.out.step hd
    clear hd
    go_wp2_with fail
    go_end0
    refine ⟨_, false, HW10.out.ws.done, ?_, .inl ⟨rfl, ?_, ?_⟩⟩
    · (try simp only [List.nil_append, List.length_append, be_length, List.length_nil]); have := HNB.out; have := HFL.out; omega
    · simp [cont, hasBody, hasPs, hk]
    · simp [hasPs, hk]
  · rw [hk] at e0
    have fe0 := HW1.out.blk.at e0
    go_wp2_with (refine wpList_load_row rfl 42 _ rfl gc rfl 42 cs (0, 0) _ HW1.out.blk Try.underlying42 rfl (by rw [HSZ.out]; exact chunk_info) ?_)
    clear fe0
    refine (greet_w HW1.out.ws.wr HW1.out.ws.size (by simp) (HW1.out.ws.at_ H0.out HAT.out hp hC)).mono ?_
    intro e W2 hd
    obtain ⟨v2, rfl, HW2⟩ := HW1.out.step hd
    clear hd
    have fe17 := HW2.out.blk.at e17
    go_wp2_with fail
    refine (params_w pp.A c.ps np pp.cap HW2.out.ws.wr HW2.out.ws.size (by simp [greetE, be_length]) (HW2.out.ws.pss H0.out HRP.out hp hC) HNP.out hp1 hp2 HSP.out hp hC).mono ?_
    rintro e W10 ⟨l10, lg10, hd, hlen, hor⟩
    obtain ⟨v10, rfl, HW10⟩ := HW2.out.ws.step hd
    have HLEN := Lib.hid hlen
    have HOR := Lib.hid hor
    clear hd hlen hor
    go_wp2_with fail
    go_end0
    refine ⟨l10, lg10, HW10.out.done, by have := HLEN.out; omega, ?_⟩
    rcases HOR.out with ⟨rfl, rfl, hall⟩ | ⟨rfl, hor⟩
    · exact .inl ⟨rfl, by simp [cont, hasBody, hasPs, hk], by simp only [hk]; exact ⟨by omega, fun _ => hall⟩⟩
    · refine .inr ⟨rfl, ?_⟩
      rcases hor with hor | hor
      · exact .inr (.inl ⟨by simp [hasPs, hk], hor⟩)
      · refine .inr (.inr ?_)
        have e : cont c = ([] ++ greetE c) ++ encL c.ps := by simp [cont, hasBody, hasPs, hk]
        rw [e]; exact hor
  · rw [hk] at e0
    have fe0 := HW1.out.blk.at e0
    go_wp2_with (refine wpList_load_row rfl 42 _ rfl gc rfl 42 cs (0, 0) _ HW1.out.blk Try.underlying42 rfl (by rw [HSZ.out]; exact chunk_info) ?_)
    clear fe0
    refine (greet_w HW1.out.ws.wr HW1.out.ws.size (by simp) (HW1.out.ws.at_ H0.out HAT.out hp hC)).mono ?_
    intro e W2 hd
    obtain ⟨v2, rfl, HW2⟩ := HW1.out.step hd
    clear hd
    have fe17 := HW2.out.blk.at e17
    go_wp2_with fail
    refine (params_w pp.A c.ps np pp.cap HW2.out.ws.wr HW2.out.ws.size (by simp [greetE, be_length]) (HW2.out.ws.pss H0.out HRP.out hp hC) HNP.out hp1 hp2 HSP.out hp hC).mono ?_
    rintro e W10 ⟨l10, lg10, hd, hlen, hor⟩
    obtain ⟨v10, rfl, HW10⟩ := HW2.out.ws.step hd
    have HLEN := Lib.hid hlen
    have HOR := Lib.hid hor
    clear hd hlen hor
    go_wp2_with fail
    go_end0
    refine ⟨l10, lg10, HW10.out.done, by have := HLEN.out; omega, ?_⟩
    rcases HOR.out with ⟨rfl, rfl, hall⟩ | ⟨rfl, hor⟩
    · exact .inl ⟨rfl, by simp [cont, hasBody, hasPs, hk], by simp only [hk]; exact ⟨by omega, fun _ => hall⟩⟩
    · refine .inr ⟨rfl, ?_⟩
      rcases hor with hor | hor
      · exact .inr (.inl ⟨by simp [hasPs, hk], hor⟩)
      · refine .inr (.inr ?_)
        have e : cont c = ([] ++ greetE c) ++ encL c.ps := by simp [cont, hasBody, hasPs, hk]
        rw [e]; exact hor
  · rw [hk] at e0
    have fe0 := HW1.out.blk.at e0
    go_wp2_with (refine wpList_load_row rfl 42 _ rfl gc rfl 42 cs (0, 0) _ HW1.out.blk Try.underlying42 rfl (by rw [HSZ.out]; exact chunk_info) ?_)
    clear fe0
    refine (sack_w HW1.out.ws.wr HW1.out.ws.size (by simp) (HW1.out.ws.at_ H0.out HAT.out hp hC) hp hC).mono ?_
    rintro e W2 ⟨l2, lg2, hd, hlen, hor⟩
    obtain ⟨v2, rfl, HW2⟩ := HW1.out.step hd
    have HLEN := Lib.hid hlen
    have HOR := Lib.hid hor
    clear hd hlen hor
    go_wp2_with fail
    go_end0
    refine ⟨l2, lg2, HW2.out.ws.done, by have := HLEN.out; omega, ?_⟩
    rcases HOR.out with ⟨rfl, rfl, h1, h2⟩ | ⟨rfl, hor⟩
    · exact .inl ⟨rfl, by simp [cont, hasBody, hasPs, hk], by simp only [hk]; exact ⟨fun _ => ⟨h1, h2⟩, by simp [hasPs]⟩⟩
    · exact .inr ⟨rfl, .inl ⟨hk, hor⟩⟩
  · rw [hk] at e0
    have fe0 := HW1.out.blk.at e0
    have HFL : Hid ((0 : Nat) ≤ 20) := (by show _ ≤ _; omega)
    go_wp2_with fail
    clear fe0
    have fe18 := HW1.out.blk.at e18
    go_still_tail 5, (by kernel_rfl)
    change wpList _ _ _ _ _ W1.drew
    obtain ⟨V9, hV⟩ : ∃ V, V = W1.drew := ⟨_, rfl⟩
    have HD9 := Lib.hid HW1.out.drew
    rw [← hV] at HD9 ⊢
    clear hV HW1
    go_wp2_with fail
    refine (wre_put HD9.out.ws.wr HD9.out.ws.size (by simp) HNB.out (by omega) (HD9.out.ws.reads H0.out HRB.out hp hC)).mono ?_
    intro e W10 hd
    obtain ⟨v10, rfl, HW10⟩ := HD9.out.step hd
    clear hd
    go_wp2_with fail
    go_end0
    refine ⟨_, false, HW10.out.ws.done, ?_, .inl ⟨rfl, ?_, ?_⟩⟩
    · (try simp only [List.nil_append, List.length_append, be_length, List.length_nil]); have := HNB.out; have := HFL.out; omega
    · simp [cont, hasBody, hasPs, hk]
    · simp [hasPs, hk]
  · rw [hk] at e0
    have fe0 := HW1.out.blk.at e0
    have HFL : Hid ((0 : Nat) ≤ 20) := (by show _ ≤ _; omega)
    go_wp2_with fail
    clear fe0
    have fe18 := HW1.out.blk.at e18
    go_still_tail 5, (by kernel_rfl)
    change wpList _ _ _ _ _ W1.drew
    obtain ⟨V9, hV⟩ : ∃ V, V = W1.drew := ⟨_, rfl⟩
    have HD9 := Lib.hid HW1.out.drew
    rw [← hV] at HD9 ⊢
    clear hV HW1
    go_wp2_with fail
    refine (wre_put HD9.out.ws.wr HD9.out.ws.size (by simp) HNB.out (by omega) (HD9.out.ws.reads H0.out HRB.out hp hC)).mono ?_
    intro e W10 hd
    obtain ⟨v10, rfl, HW10⟩ := HD9.out.step hd
    clear hd
    go_wp2_with fail
    go_end0
    refine ⟨_, false, HW10.out.ws.done, ?_, .inl ⟨rfl, ?_, ?_⟩⟩
    · (try simp only [List.nil_append, List.length_append, be_length, List.length_nil]); have := HNB.out; have := HFL.out; omega
    · simp [cont, hasBody, hasPs, hk]
    · simp [hasPs, hk]
  · rw [hk] at e0
    have fe0 := HW1.out.blk.at e0
    have fe17 := HW1.out.blk.at e17
    go_wp2_with fail
    refine (params_w pp.A c.ps np pp.cap HW1.out.ws.wr HW1.out.ws.size (by simp) (HW1.out.ws.pss H0.out HRP.out hp hC) HNP.out hp1 hp2 HSP.out hp hC).mono ?_
    rintro e W10 ⟨l10, lg10, hd, hlen, hor⟩
    obtain ⟨v10, rfl, HW10⟩ := HW1.out.ws.step hd
    have HLEN := Lib.hid hlen
    have HOR := Lib.hid hor
    clear hd hlen hor
    go_wp2_with fail
    go_end0
    refine ⟨l10, lg10, HW10.out.done, by have := HLEN.out; omega, ?_⟩
    rcases HOR.out with ⟨rfl, rfl, hall⟩ | ⟨rfl, hor⟩
    · exact .inl ⟨rfl, by simp [cont, hasBody, hasPs, hk], by simp only [hk]; exact ⟨by omega, fun _ => hall⟩⟩
    · refine .inr ⟨rfl, ?_⟩
      rcases hor with hor | hor
      · exact .inr (.inl ⟨by simp [hasPs, hk], hor⟩)
      · refine .inr (.inr ?_)
        have e : cont c = [] ++ encL c.ps := by simp [cont, hasBody, hasPs, hk]
        rw [e]; exact hor
  · rw [hk] at e0
    have fe0 := HW1.out.blk.at e0
    go_wp2_with fail
    clear fe0
    have fe5 := HW1.out.blk.at e5
    go_still_tail 5, (by kernel_rfl)
    change wpList _ _ _ _ _ W1.drew
    obtain ⟨V1, hV⟩ : ∃ V, V = W1.drew := ⟨_, rfl⟩
    have HD1 := Lib.hid HW1.out.drew
    rw [← hV] at HD1 ⊢
    clear hV fe5 HW1
    go_wp2_with fail
    refine (wre_u32 c.tsn HO.out.tsn HD1.out.ws.wr HD1.out.ws.size (by (try simp only [List.length_append, be_length, gapsE_length, dupsE_length, sksE_length, sksW_length, List.length_take]); have := HL.out; omega)).mono ?_
    intro e W2 hd
    obtain ⟨v2, rfl, HW2⟩ := HD1.out.step hd
    clear hd
    go_wp2_with fail
    go_end0
    exact ⟨_, false, HW2.out.ws.done, by simp [be_length], .inl ⟨rfl, by simp [cont, hasBody, hasPs, hk], by simp [hasPs, hk]⟩⟩
  · rw [hk] at e0
    have fe0 := HW1.out.blk.at e0
    go_wp2_with fail
    go_end0
    exact ⟨_, false, HW1.out.ws.done, by simp, .inl ⟨rfl, by simp [cont, hasBody, hasPs, hk], by simp [hasPs, hk]⟩⟩
  · rw [hk] at e0
    have fe0 := HW1.out.blk.at e0
    have fe17 := HW1.out.blk.at e17
    go_wp2_with fail
    refine (params_w pp.A c.ps np pp.cap HW1.out.ws.wr HW1.out.ws.size (by simp) (HW1.out.ws.pss H0.out HRP.out hp hC) HNP.out hp1 hp2 HSP.out hp hC).mono ?_
    rintro e W10 ⟨l10, lg10, hd, hlen, hor⟩
    obtain ⟨v10, rfl, HW10⟩ := HW1.out.ws.step hd
    have HLEN := Lib.hid hlen
    have HOR := Lib.hid hor
    clear hd hlen hor
    go_wp2_with fail
    go_end0
    refine ⟨l10, lg10, HW10.out.done, by have := HLEN.out; omega, ?_⟩
    rcases HOR.out with ⟨rfl, rfl, hall⟩ | ⟨rfl, hor⟩
    · exact .inl ⟨rfl, by simp [cont, hasBody, hasPs, hk], by simp only [hk]; exact ⟨by omega, fun _ => hall⟩⟩
    · refine .inr ⟨rfl, ?_⟩
      rcases hor with hor | hor
      · exact .inr (.inl ⟨by simp [hasPs, hk], hor⟩)
      · refine .inr (.inr ?_)
        have e : cont c = [] ++ encL c.ps := by simp [cont, hasBody, hasPs, hk]
        rw [e]; exact hor
  · rw [hk] at e0
    have fe0 := HW1.out.blk.at e0
    have HFL : Hid ((0 : Nat) ≤ 20) := (by show _ ≤ _; omega)
    go_wp2_with fail
    clear fe0
    have fe18 := HW1.out.blk.at e18
    go_still_tail 5, (by kernel_rfl)
    change wpList _ _ _ _ _ W1.drew
    obtain ⟨V9, hV⟩ : ∃ V, V = W1.drew := ⟨_, rfl⟩
    have HD9 := Lib.hid HW1.out.drew
    rw [← hV] at HD9 ⊢
    clear hV HW1
    go_wp2_with fail
    refine (wre_put HD9.out.ws.wr HD9.out.ws.size (by simp) HNB.out (by omega) (HD9.out.ws.reads H0.out HRB.out hp hC)).mono ?_
    intro e W10 hd
    obtain ⟨v10, rfl, HW10⟩ := HD9.out.step hd
    clear hd
    go_wp2_with fail
    go_end0
    refine ⟨_, false, HW10.out.ws.done, ?_, .inl ⟨rfl, ?_, ?_⟩⟩
    · (try simp only [List.nil_append, List.length_append, be_length, List.length_nil]); have := HNB.out; have := HFL.out; omega
    · simp [cont, hasBody, hasPs, hk]
    · simp [hasPs, hk]
  · rw [hk] at e0
    have fe0 := HW1.out.blk.at e0
    go_wp2_with fail
    go_end0
    exact ⟨_, false, HW1.out.ws.done, by simp, .inl ⟨rfl, by simp [cont, hasBody, hasPs, hk], by simp [hasPs, hk]⟩⟩
  · rw [hk] at e0
    have fe0 := HW1.out.blk.at e0
    go_wp2_with fail
    go_end0
    exact ⟨_, false, HW1.out.ws.done, by simp, .inl ⟨rfl, by simp [cont, hasBody, hasPs, hk], by simp [hasPs, hk]⟩⟩
  · rw [hk] at e0
    have fe0 := HW1.out.blk.at e0
    go_wp2_with (refine wpList_load_row rfl 42 _ rfl gc rfl 42 cs (0, 0) _ HW1.out.blk Try.underlying42 rfl (by rw [HSZ.out]; exact chunk_info) ?_)
    clear fe0
    refine (frag_w HW1.out.ws.wr HW1.out.ws.size (by simp) (HW1.out.ws.at_ H0.out HAT.out hp hC) (by omega)).mono ?_
    intro e W2 hd
    obtain ⟨v2, rfl, HW2⟩ := HW1.out.step hd
    clear hd
    have HFL : Hid ((fragE c).length ≤ 20) := by show _ ≤ _; unfold fragE; split <;> simp [be_length]
    go_wp2_with fail
    have fe18 := HW2.out.blk.at e18
    go_still_tail 5, (by kernel_rfl)
    change wpList _ _ _ _ _ W2.drew
    obtain ⟨V9, hV⟩ : ∃ V, V = W2.drew := ⟨_, rfl⟩
    have HD9 := Lib.hid HW2.out.drew
    rw [← hV] at HD9 ⊢
    clear hV HW2
    go_wp2_with fail
    refine (wre_put HD9.out.ws.wr HD9.out.ws.size (by simp only [List.nil_append]; have := HFL.out; omega) HNB.out (by omega) (HD9.out.ws.reads H0.out HRB.out hp hC)).mono ?_
    intro e W10 hd
    obtain ⟨v10, rfl, HW10⟩ := HD9.out.step hd
    clear hd
    go_wp2_with fail
    go_end0
    refine ⟨_, false, HW10.out.ws.done, ?_, .inl ⟨rfl, ?_, ?_⟩⟩
    · (try simp only [List.nil_append, List.length_append, be_length, List.length_nil]); have := HNB.out; have := HFL.out; omega
    · simp [cont, hasBody, hasPs, hk]
    · simp [hasPs, hk]
  · rw [hk] at e0
    have fe0 := HW1.out.blk.at e0
    have fe17 := HW1.out.blk.at e17
    go_wp2_with fail
    refine (params_w pp.A c.ps np pp.cap HW1.out.ws.wr HW1.out.ws.size (by simp) (HW1.out.ws.pss H0.out HRP.out hp hC) HNP.out hp1 hp2 HSP.out hp hC).mono ?_
    rintro e W10 ⟨l10, lg10, hd, hlen, hor⟩
    obtain ⟨v10, rfl, HW10⟩ := HW1.out.ws.step hd
    have HLEN := Lib.hid hlen
    have HOR := Lib.hid hor
    clear hd hlen hor
    go_wp2_with fail
    go_end0
    refine ⟨l10, lg10, HW10.out.done, by have := HLEN.out; omega, ?_⟩
    rcases HOR.out with ⟨rfl, rfl, hall⟩ | ⟨rfl, hor⟩
    · exact .inl ⟨rfl, by simp [cont, hasBody, hasPs, hk], by simp only [hk]; exact ⟨by omega, fun _ => hall⟩⟩
    · refine .inr ⟨rfl, ?_⟩
      rcases hor with hor | hor
      · exact .inr (.inl ⟨by simp [hasPs, hk], hor⟩)
      · refine .inr (.inr ?_)
        have e : cont c = [] ++ encL c.ps := by simp [cont, hasBody, hasPs, hk]
        rw [e]; exact hor
  · rw [hk] at e0
    have fe0 := HW1.out.blk.at e0
    go_wp2_with (refine wpList_load_row rfl 42 _ rfl gc rfl 42 cs (0, 0) _ HW1.out.blk Try.underlying42 rfl (by rw [HSZ.out]; exact chunk_info) ?_)
    clear fe0
    refine (fwd_w HW1.out.ws.wr HW1.out.ws.size (by simp; have := HSS.out; omega) (HW1.out.ws.at_ H0.out HAT.out hp hC) hp hC).mono ?_
    intro e W2 hd
    obtain ⟨v2, rfl, HW2⟩ := HW1.out.step hd
    clear hd
    go_wp2_with fail
    go_end0
    refine ⟨_, false, HW2.out.ws.done, by simp only [List.nil_append, List.length_append, be_length, sksE_length]; have := HSS.out; omega, .inl ⟨rfl, by simp [cont, hasBody, hasPs, hk], by simp [hasPs, hk]⟩⟩
  · rw [hk] at e0
    have fe0 := HW1.out.blk.at e0
    go_wp2_with (refine wpList_load_row rfl 42 _ rfl gc rfl 42 cs (0, 0) _ HW1.out.blk Try.underlying42 rfl (by rw [HSZ.out]; exact chunk_info) ?_)
    clear fe0
    refine (wide_w HW1.out.ws.wr HW1.out.ws.size (by simp; have := HSS.out; omega) (HW1.out.ws.at_ H0.out HAT.out hp hC) hp hC).mono ?_
    intro e W2 hd
    obtain ⟨v2, rfl, HW2⟩ := HW1.out.step hd
    clear hd
    go_wp2_with fail
    go_end0
    refine ⟨_, false, HW2.out.ws.done, by simp only [List.nil_append, List.length_append, be_length, sksW_length]; have := HSS.out; omega, .inl ⟨rfl, by simp [cont, hasBody, hasPs, hk], by simp [hasPs, hk]⟩⟩

end Go.Proofs.Ytabkjgklmibagaa.Chk
