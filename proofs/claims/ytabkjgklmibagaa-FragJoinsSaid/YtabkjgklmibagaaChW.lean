/-
  Contracts of package chunk's writer.
-/
import Derived.Test.YtabkjgklmibagaaChMem
set_option linter.unusedVariables false
set_option linter.unusedSimpArgs false
namespace Go.Proofs.Ytabkjgklmibagaa.Chk
open Go.ChangeShapes Go.WideShapes Go.ChangeAt Go.RowKit Go.Deep Go.Proofs.Ytabkjgklmibagaa.Words Go.Proofs.Ytabkjgklmibagaa.Oct Go.Proofs.Ytabkjgklmibagaa.Par

/-- Where a writer of package chunk stands: since w, V is reached. -/
structure WS (w V : World) (p B : Nat) (v0 v : Value) (l : List UInt8) (lg : Bool) : Prop where
  wr : WrE V p B v l lg
  fr : Fr (AtW p v0) w V
  mv : v.ownBlock = v0.ownBlock ∨ ∃ g, v.ownBlock = some g ∧ w.heap.size ≤ g
  low : B ≤ w.heap.size
theorem WroteE.keep {V V' : World} {p B g : Nat} {v : Value} {l l' : List UInt8} {lg lg' : Bool} {e : Ending} {t : TypeId} {cs : Array Value} (h : WrE V p B v l lg) (k : WroteE V p B v l' lg' e V') (hb : Blk V g t cs) (h1 : 5 ≠ t) (h2 : t ≠ 80) : Blk V' g t cs := by
  obtain ⟨v', _, _, hf, _⟩ := k
  refine hf.blk hb ?_
  rintro (rfl | e)
  · exact Blk.ne_ hb h.blk h2 rfl
  · exact own_blk_ne h.own hb h1 e.symm
section
variable {w V V' : World} {p B : Nat} {v0 v : Value} {l l' : List UInt8} {lg lg' : Bool}
theorem WS.refl (h : WrE w p B v l lg) (hB : B ≤ w.heap.size) : WS w w p B v v l lg := ⟨h, Fr.refl _ _, .inl rfl, hB⟩
theorem WS.size (h : WS w V p B v0 v l lg) : B ≤ V.heap.size := Nat.le_trans h.low h.fr.size
theorem WS.grows (h : WS w V p B v0 v l lg) (k : Below V.heap.size V V') : WS w V' p B v0 v l lg := ⟨h.wr.grows k, h.fr.grows k, h.mv, h.low⟩
theorem WS.drew (h : WS w V p B v0 v l lg) : WS w V.drew p B v0 v l lg := ⟨⟨h.wr.blk, (Fr.refl (fun _ => False) V).drew.own h.wr.own (fun _ _ h => h)⟩, h.fr.drew, h.mv, h.low⟩
theorem WS.step {e : Ending} (h : WS w V p B v0 v l lg) (k : WroteE V p B v l' lg' e V') : ∃ v', e = .returned (.tuple #[]) ∧ Hid (WS w V' p B v0 v' l' lg') := by
  obtain ⟨v', he, h1, h2, h3⟩ := k
  refine ⟨v', he, h1, h.fr.trans h2 ?_, ?_, h.low⟩
  · rintro x hx (rfl | e)
    · exact .inl rfl
    · rcases h.mv with hm | ⟨g, hm, hg⟩
      · exact .inr (by rw [e, hm])
      · rw [hm] at e; injection e with e; omega
  · rcases h3 with h3 | ⟨g, h3, hg⟩
    · rw [h3]; exact h.mv
    · exact .inr ⟨g, h3, Nat.le_trans h.fr.size hg⟩
theorem WS.done (h : WS w V p B v0 v l lg) : WroteE w p B v0 l lg (.returned (.tuple #[])) V := ⟨v, rfl, h.wr, h.fr, h.mv⟩
/-- What lies below the writer stays. -/
theorem WS.at_ {C : Nat} {cs : Array Value} {c : Ck} {lg0 : Bool} {l0 : List UInt8} (h : WS w V p B v0 v l lg) (h0 : WrE w p B v0 l0 lg0) (k : CkAt w C cs c) (hp : C ≤ p) (hC : C ≤ B) : CkAt V C cs c :=
  k.fr h.fr (Nat.le_trans hC h.low) (by
    rintro i (rfl | e)
    · exact hp
    · exact Nat.le_trans hC (h0.own.lt i e.symm).1)
theorem WS.reads {C size n : Nat} {A : Option Addr} {xs : List Value} {lg0 : Bool} {l0 : List UInt8} (h : WS w V p B v0 v l lg) (h0 : WrE w p B v0 l0 lg0) (k : Reads w C size A n xs) (hp : C ≤ p) (hC : C ≤ B) : Reads V C size A n xs :=
  k.keep fun q hq => World.cell?_of_block (h.fr.block _ (by have := h.low; omega) (by
    rintro (e | e)
    · omega
    · have := (h0.own.lt _ e.symm).1; omega))
theorem WS.pss {C : Nat} {A : Option Addr} {ls : List Prm} {lg0 : Bool} {l0 : List UInt8} (h : WS w V p B v0 v l lg) (h0 : WrE w p B v0 l0 lg0) (k : Ps w C A ls) (hp : C ≤ p) (hC : C ≤ B) : Ps V C A ls :=
  k.keep fun q hq => World.cell?_of_block (h.fr.block _ (by have := h.low; omega) (by
    rintro (e | e)
    · omega
    · have := (h0.own.lt _ e.symm).1; omega))
end
/-- A writer beside a chunk's variable. -/
structure WC (w V : World) (p B : Nat) (v0 v : Value) (l : List UInt8) (lg : Bool) (g : Nat) (cs : Array Value) : Prop where
  ws : WS w V p B v0 v l lg
  blk : CkBlk V g cs
theorem WC.init {w : World} {p B : Nat} {v : Value} {l : List UInt8} {lg : Bool} {cs : Array Value} (h : WrE w p B v l lg) (hB : B ≤ w.heap.size) : WC w (w.alloc (.cells cs 42)) p B v v l lg w.heap.size cs :=
  ⟨(WS.refl h hB).grows ((Below.refl _ _).alloc (Nat.le_refl _) _), Blk.new w _ cs⟩
theorem WC.step {w V V' : World} {p B g : Nat} {v0 v : Value} {l l' : List UInt8} {lg lg' : Bool} {cs : Array Value} {e : Ending} (h : WC w V p B v0 v l lg g cs) (k : WroteE V p B v l' lg' e V') : ∃ v', e = .returned (.tuple #[]) ∧ Hid (WC w V' p B v0 v' l' lg' g cs) := by
  obtain ⟨v', he, hs⟩ := h.ws.step k
  exact ⟨v', he, hs.out, WroteE.keep h.ws.wr k h.blk (by decide) (by decide)⟩
theorem WC.drew {w V : World} {p B g : Nat} {v0 v : Value} {l : List UInt8} {lg : Bool} {cs : Array Value} (h : WC w V p B v0 v l lg g cs) : WC w V.drew p B v0 v l lg g cs := ⟨h.ws.drew, h.blk.drew⟩

theorem length_w {w : World} {p B : Nat} {v : Value} {l : List UInt8} {lg : Bool} (h : WrE w p B v l lg) (hl : l.length ≤ 1000000) :
    Calls Try.prog 33 #[rptr p] w fun e w' => e = .returned (.int .i64 ((l.length + 4 : Nat) : Int)) ∧ w = w' := by
  have H := Lib.hid h
  go_enter Try.func33, Try.ntmps33
  go_wp2_with fail
  refine (wre_len H.out).mono ?_
  rintro e w1 ⟨rfl, rfl⟩
  go_wp2_with fail
  go_ret
  exact ⟨ret_int (by omega), rfl⟩

set_option maxHeartbeats 2000000 in
set_option maxRecDepth 100000 in
theorem greet_w {w : World} {p B C : Nat} {v : Value} {l : List UInt8} {lg : Bool} {cs : Array Value} {c : Ck} (h : WrE w p B v l lg) (hB : B ≤ w.heap.size) (hl : l.length ≤ 900000) (hc : CkAt w C cs c) :
    Calls Try.prog 42 #[rptr p, .agg cs] w (WroteE w p B v (l ++ greetE c) lg) := by
  obtain ⟨g, d, s, pp, b, hcc, _⟩ := hc.parts
  have ok := hc.ok
  have HW1 := Lib.hid (WC.init (cs := cs) h hB)
  have HO := Lib.hid ok
  have e10 := hcc.c10
  have e11 := hcc.c11
  have e12 := hcc.c12
  have e13 := hcc.c13
  have e5 := hcc.c5
  have HL := Lib.hid hl
  clear hcc hc h ok hl
  go_enter Try.func42, Try.ntmps42
  go_upto_region 1 with (fail)
  obtain ⟨W1, hW1⟩ : ∃ W1, W1 = w.alloc (.cells cs 42) := ⟨_, rfl⟩
  rw [← hW1] at HW1 ⊢
  clear hW1
  have fe10 := HW1.out.blk.at e10
  go_still_tail 5, (by kernel_rfl)
  change wpList _ _ _ _ _ W1.drew
  obtain ⟨V1, hV⟩ : ∃ V, V = W1.drew := ⟨_, rfl⟩
  have HD1 := Lib.hid HW1.out.drew
  rw [← hV] at HD1 ⊢
  clear hV fe10 HW1
  go_wp2_with fail
  refine (wre_u32 c.tag HO.out.tag HD1.out.ws.wr HD1.out.ws.size (by (try simp only [List.length_append, be_length, gapsE_length, dupsE_length, sksE_length, sksW_length, List.length_take]); have := HL.out; omega)).mono ?_
  intro e W2 hd
  obtain ⟨v2, rfl, HW2⟩ := HD1.out.step hd
  clear hd
  go_wp2_with fail
  have fe11 := HW2.out.blk.at e11
  go_still_tail 5, (by kernel_rfl)
  change wpList _ _ _ _ _ W2.drew
  obtain ⟨V2, hV⟩ : ∃ V, V = W2.drew := ⟨_, rfl⟩
  have HD2 := Lib.hid HW2.out.drew
  rw [← hV] at HD2 ⊢
  clear hV fe11 HW2
  go_wp2_with fail
  refine (wre_u32 c.win HO.out.win HD2.out.ws.wr HD2.out.ws.size (by (try simp only [List.length_append, be_length, gapsE_length, dupsE_length, sksE_length, sksW_length, List.length_take]); have := HL.out; omega)).mono ?_
  intro e W3 hd
  obtain ⟨v3, rfl, HW3⟩ := HD2.out.step hd
  clear hd
  go_wp2_with fail
  have fe12 := HW3.out.blk.at e12
  go_still_tail 5, (by kernel_rfl)
  change wpList _ _ _ _ _ W3.drew
  obtain ⟨V3, hV⟩ : ∃ V, V = W3.drew := ⟨_, rfl⟩
  have HD3 := Lib.hid HW3.out.drew
  rw [← hV] at HD3 ⊢
  clear hV fe12 HW3
  go_wp2_with fail
  refine (wre_u16 c.out HO.out.out HD3.out.ws.wr HD3.out.ws.size (by (try simp only [List.length_append, be_length, gapsE_length, dupsE_length, sksE_length, sksW_length, List.length_take]); have := HL.out; omega)).mono ?_
  intro e W4 hd
  obtain ⟨v4, rfl, HW4⟩ := HD3.out.step hd
  clear hd
  go_wp2_with fail
  have fe13 := HW4.out.blk.at e13
  go_still_tail 5, (by kernel_rfl)
  change wpList _ _ _ _ _ W4.drew
  obtain ⟨V4, hV⟩ : ∃ V, V = W4.drew := ⟨_, rfl⟩
  have HD4 := Lib.hid HW4.out.drew
  rw [← hV] at HD4 ⊢
  clear hV fe13 HW4
  go_wp2_with fail
  refine (wre_u16 c.inn HO.out.inn HD4.out.ws.wr HD4.out.ws.size (by (try simp only [List.length_append, be_length, gapsE_length, dupsE_length, sksE_length, sksW_length, List.length_take]); have := HL.out; omega)).mono ?_
  intro e W5 hd
  obtain ⟨v5, rfl, HW5⟩ := HD4.out.step hd
  clear hd
  go_wp2_with fail
  have fe5 := HW5.out.blk.at e5
  go_still_tail 5, (by kernel_rfl)
  change wpList _ _ _ _ _ W5.drew
  obtain ⟨V5, hV⟩ : ∃ V, V = W5.drew := ⟨_, rfl⟩
  have HD5 := Lib.hid HW5.out.drew
  rw [← hV] at HD5 ⊢
  clear hV fe5 HW5
  go_wp2_with fail
  refine (wre_u32 c.tsn HO.out.tsn HD5.out.ws.wr HD5.out.ws.size (by (try simp only [List.length_append, be_length, gapsE_length, dupsE_length, sksE_length, sksW_length, List.length_take]); have := HL.out; omega)).mono ?_
  intro e W6 hd
  obtain ⟨v6, rfl, HW6⟩ := HD5.out.step hd
  clear hd
  go_wp2_with fail
  go_end0
  have := HW6.out.ws.done
  simp only [List.append_assoc] at this
  exact this

set_option maxHeartbeats 2000000 in
set_option maxRecDepth 100000 in
theorem frag_w {w : World} {p B C : Nat} {v : Value} {l : List UInt8} {lg : Bool} {cs : Array Value} {c : Ck} (h : WrE w p B v l lg) (hB : B ≤ w.heap.size) (hl : l.length ≤ 900000) (hc : CkAt w C cs c) (hk : c.kind = 0 ∨ c.kind = 64) :
    Calls Try.prog 41 #[rptr p, .agg cs] w (WroteE w p B v (l ++ fragE c) lg) := by
  obtain ⟨g, d, s, pp, b, hcc, _⟩ := hc.parts
  have ok := hc.ok
  have HW1 := Lib.hid (WC.init (cs := cs) h hB)
  have HO := Lib.hid ok
  have e0 := hcc.c0
  have e1 := hcc.c1
  have e5 := hcc.c5
  have e6 := hcc.c6
  have e7 := hcc.c7
  have e8 := hcc.c8
  have e9 := hcc.c9
  have HL := Lib.hid hl
  have HM : Hid (IntKind.u16.wrap (c.mid : Int) = ((c.mid % 65536 : Nat) : Int)) := by
    show _ = _
    simp [IntKind.wrap, IntKind.bits, IntKind.signed]
  have hm2 : c.mid % 65536 < 65536 := by omega
  obtain ⟨m2, hm⟩ : ∃ m2, m2 = c.mid % 65536 := ⟨_, rfl⟩
  rw [← hm] at hm2 HM
  have HM2 := Lib.hid hm
  have HK := Lib.hid hk
  clear hcc hc h ok hl hm
  go_enter Try.func41, Try.ntmps41
  go_upto_region 1 with (fail)
  obtain ⟨W1, hW1⟩ : ∃ W1, W1 = w.alloc (.cells cs 42) := ⟨_, rfl⟩
  rw [← hW1] at HW1 ⊢
  clear hW1
  rcases hk with hk | hk
  · rw [hk] at e0
    have fe5 := HW1.out.blk.at e5
    go_still_tail 5, (by kernel_rfl)
    change wpList _ _ _ _ _ W1.drew
    obtain ⟨V1, hV⟩ : ∃ V, V = W1.drew := ⟨_, rfl⟩
    have HD1 := Lib.hid HW1.out.drew
    rw [← hV] at HD1 ⊢
    clear hV fe5 HW1
    go_wp2_with fail
    refine (wre_u32 c.tsn HO.out.tsn HD1.out.ws.wr HD1.out.ws.size (by (try simp only [List.length_append, be_length, gapsE_length, dupsE_length, sksE_length, sksW_length, List.length_take]); have := HL.out; omega)).mono ?_
    intro e W2 hd
    obtain ⟨v2, rfl, HW2⟩ := HD1.out.step hd
    clear hd
    go_wp2_with fail
    have fe6 := HW2.out.blk.at e6
    go_still_tail 5, (by kernel_rfl)
    change wpList _ _ _ _ _ W2.drew
    obtain ⟨V2, hV⟩ : ∃ V, V = W2.drew := ⟨_, rfl⟩
    have HD2 := Lib.hid HW2.out.drew
    rw [← hV] at HD2 ⊢
    clear hV fe6 HW2
    go_wp2_with fail
    refine (wre_u16 c.st HO.out.st HD2.out.ws.wr HD2.out.ws.size (by (try simp only [List.length_append, be_length, gapsE_length, dupsE_length, sksE_length, sksW_length, List.length_take]); have := HL.out; omega)).mono ?_
    intro e W3 hd
    obtain ⟨v3, rfl, HW3⟩ := HD2.out.step hd
    clear hd
    have fe0 := HW3.out.blk.at e0
    go_wp2_with fail
    clear fe0
    have hmw : IntKind.u16.wrap (c.mid : Int) = (m2 : Int) := HM.out
    have fe7 := HW3.out.blk.at e7
    go_still_tail 6, (by kernel_rfl)
    change wpList _ _ _ _ _ W3.drew
    obtain ⟨V3, hV⟩ : ∃ V, V = W3.drew := ⟨_, rfl⟩
    have HD3 := Lib.hid HW3.out.drew
    rw [← hV] at HD3 ⊢
    clear hV fe7 HW3
    go_wp2_with fail
    refine (wre_u16 m2 hm2 HD3.out.ws.wr HD3.out.ws.size (by (try simp only [List.length_append, be_length, gapsE_length, dupsE_length, sksE_length, sksW_length, List.length_take]); have := HL.out; omega)).mono ?_
    intro e W4 hd
    obtain ⟨v4, rfl, HW4⟩ := HD3.out.step hd
    clear hd
    go_wp2_with fail
    have fe8 := HW4.out.blk.at e8
    go_still_tail 5, (by kernel_rfl)
    change wpList _ _ _ _ _ W4.drew
    obtain ⟨V4, hV⟩ : ∃ V, V = W4.drew := ⟨_, rfl⟩
    have HD4 := Lib.hid HW4.out.drew
    rw [← hV] at HD4 ⊢
    clear hV fe8 HW4
    go_wp2_with fail
    refine (wre_u32 c.pp HO.out.pp HD4.out.ws.wr HD4.out.ws.size (by (try simp only [List.length_append, be_length, gapsE_length, dupsE_length, sksE_length, sksW_length, List.length_take]); have := HL.out; omega)).mono ?_
    intro e W5 hd
    obtain ⟨v5, rfl, HW5⟩ := HD4.out.step hd
    clear hd
    go_wp2_with fail
    go_end0
    have := HW5.out.ws.done
    unfold fragE
    rw [if_pos hk, ← HM2.out]
    simp only [List.append_assoc] at this
    exact this
  · rw [hk] at e0
    have fe5 := HW1.out.blk.at e5
    go_still_tail 5, (by kernel_rfl)
    change wpList _ _ _ _ _ W1.drew
    obtain ⟨V1, hV⟩ : ∃ V, V = W1.drew := ⟨_, rfl⟩
    have HD1 := Lib.hid HW1.out.drew
    rw [← hV] at HD1 ⊢
    clear hV fe5 HW1
    go_wp2_with fail
    refine (wre_u32 c.tsn HO.out.tsn HD1.out.ws.wr HD1.out.ws.size (by (try simp only [List.length_append, be_length, gapsE_length, dupsE_length, sksE_length, sksW_length, List.length_take]); have := HL.out; omega)).mono ?_
    intro e W2 hd
    obtain ⟨v2, rfl, HW2⟩ := HD1.out.step hd
    clear hd
    go_wp2_with fail
    have fe6 := HW2.out.blk.at e6
    go_still_tail 5, (by kernel_rfl)
    change wpList _ _ _ _ _ W2.drew
    obtain ⟨V2, hV⟩ : ∃ V, V = W2.drew := ⟨_, rfl⟩
    have HD2 := Lib.hid HW2.out.drew
    rw [← hV] at HD2 ⊢
    clear hV fe6 HW2
    go_wp2_with fail
    refine (wre_u16 c.st HO.out.st HD2.out.ws.wr HD2.out.ws.size (by (try simp only [List.length_append, be_length, gapsE_length, dupsE_length, sksE_length, sksW_length, List.length_take]); have := HL.out; omega)).mono ?_
    intro e W3 hd
    obtain ⟨v3, rfl, HW3⟩ := HD2.out.step hd
    clear hd
    have fe0 := HW3.out.blk.at e0
    go_wp2_with fail
    clear fe0
    refine (wre_u16 0 (by omega) HW3.out.ws.wr HW3.out.ws.size (by (try simp only [List.length_append, be_length]); have := HL.out; omega)).mono ?_
    intro e W4 hd
    obtain ⟨v4, rfl, HW4⟩ := HW3.out.step hd
    clear hd
    go_wp2_with fail
    cases hbg : c.bg
    · rw [hbg] at e1
      have fe7 := HW4.out.blk.at e7
      go_still_tail 5, (by kernel_rfl)
      change wpList _ _ _ _ _ W4.drew
      obtain ⟨V4, hV⟩ : ∃ V, V = W4.drew := ⟨_, rfl⟩
      have HD4 := Lib.hid HW4.out.drew
      rw [← hV] at HD4 ⊢
      clear hV fe7 HW4
      go_wp2_with fail
      refine (wre_u32 c.mid HO.out.mid HD4.out.ws.wr HD4.out.ws.size (by (try simp only [List.length_append, be_length, gapsE_length, dupsE_length, sksE_length, sksW_length, List.length_take]); have := HL.out; omega)).mono ?_
      intro e W5 hd
      obtain ⟨v5, rfl, HW5⟩ := HD4.out.step hd
      clear hd
      have fe1 := HW5.out.blk.at e1
      go_wp2_with fail
      clear fe1
      have fe9 := HW5.out.blk.at e9
      go_still_tail 5, (by kernel_rfl)
      change wpList _ _ _ _ _ W5.drew
      obtain ⟨V5, hV⟩ : ∃ V, V = W5.drew := ⟨_, rfl⟩
      have HD5 := Lib.hid HW5.out.drew
      rw [← hV] at HD5 ⊢
      clear hV fe9 HW5
      go_wp2_with fail
      refine (wre_u32 c.fr HO.out.fr HD5.out.ws.wr HD5.out.ws.size (by (try simp only [List.length_append, be_length, gapsE_length, dupsE_length, sksE_length, sksW_length, List.length_take]); have := HL.out; omega)).mono ?_
      intro e W6 hd
      obtain ⟨v6, rfl, HW6⟩ := HD5.out.step hd
      clear hd
      go_wp2_with fail
      go_end0
      have := HW6.out.ws.done
      unfold fragE
      rw [if_neg (by omega), if_neg (by rw [hbg]; decide)]
      simp only [List.append_assoc] at this
      exact this
    · rw [hbg] at e1
      have fe7 := HW4.out.blk.at e7
      go_still_tail 5, (by kernel_rfl)
      change wpList _ _ _ _ _ W4.drew
      obtain ⟨V4, hV⟩ : ∃ V, V = W4.drew := ⟨_, rfl⟩
      have HD4 := Lib.hid HW4.out.drew
      rw [← hV] at HD4 ⊢
      clear hV fe7 HW4
      go_wp2_with fail
      refine (wre_u32 c.mid HO.out.mid HD4.out.ws.wr HD4.out.ws.size (by (try simp only [List.length_append, be_length, gapsE_length, dupsE_length, sksE_length, sksW_length, List.length_take]); have := HL.out; omega)).mono ?_
      intro e W5 hd
      obtain ⟨v5, rfl, HW5⟩ := HD4.out.step hd
      clear hd
      have fe1 := HW5.out.blk.at e1
      go_wp2_with fail
      clear fe1
      have fe8 := HW5.out.blk.at e8
      go_still_tail 5, (by kernel_rfl)
      change wpList _ _ _ _ _ W5.drew
      obtain ⟨V5, hV⟩ : ∃ V, V = W5.drew := ⟨_, rfl⟩
      have HD5 := Lib.hid HW5.out.drew
      rw [← hV] at HD5 ⊢
      clear hV fe8 HW5
      go_wp2_with fail
      refine (wre_u32 c.pp HO.out.pp HD5.out.ws.wr HD5.out.ws.size (by (try simp only [List.length_append, be_length, gapsE_length, dupsE_length, sksE_length, sksW_length, List.length_take]); have := HL.out; omega)).mono ?_
      intro e W6 hd
      obtain ⟨v6, rfl, HW6⟩ := HD5.out.step hd
      clear hd
      go_wp2_with fail
      go_end0
      have := HW6.out.ws.done
      unfold fragE
      rw [if_neg (by omega), if_pos hbg]
      simp only [List.append_assoc] at this
      exact this

end Go.Proofs.Ytabkjgklmibagaa.Chk
