/-
  The contract of package chunk's Put.
-/
import Derived.Test.YtabkjgklmibagaaChAll
set_option linter.unusedVariables false
set_option linter.unusedSimpArgs false
namespace Go.Proofs.Ytabkjgklmibagaa.Chk
open Go.ChangeShapes Go.WideShapes Go.ChangeAt Go.RowKit Go.Deep Go.Proofs.Ytabkjgklmibagaa.Words Go.Proofs.Ytabkjgklmibagaa.Oct Go.Proofs.Ytabkjgklmibagaa.Par

/-- Why a chunk has no bytes. -/
def PutErr (c : Ck) (k : Nat) : Prop :=
  (k = 60 ∧ known c.kind = false) ∨ (k = 42 ∧ known c.kind = true ∧ lacks c = true) ∨ (k = 43 ∧ known c.kind = true ∧ lacks c = false ∧ tooLong c)
/-- What Put answers. -/
def PutDoneC (w : World) (c : Ck) (e : Ending) (w' : World) : Prop :=
  (∃ v, Puts c ∧ e = .returned (.tuple #[v, .int .i64 0]) ∧ Own w' w.heap.size v (bytesC c)) ∨
  (∃ k, PutErr c k ∧ e = .returned (.tuple #[.slice none 0 0, .int .i64 (k : Int)]))
/-- Where Put stands: the chunk's variable, what was written of its contents, the writer of all. -/
structure PW (w V : World) (g0 p q B2 : Nat) (vc v : Value) (x l : List UInt8) (cs : Array Value) : Prop where
  blk : CkBlk V g0 cs
  wr : WrE V p w.heap.size vc x false
  wo : Wr V q B2 v l
  below : Below w.heap.size w V
  hq : w.heap.size ≤ q
  hvc : ∀ g, vc.ownBlock = some g → g < B2
  hB2 : w.heap.size ≤ B2
  size : B2 ≤ V.heap.size
theorem PW.step {w V V' : World} {g0 p q B2 : Nat} {vc v : Value} {x l l' : List UInt8} {cs : Array Value} {e : Ending} (h : PW w V g0 p q B2 vc v x l cs) (k : Wrote V q B2 v l' e V') : ∃ v', e = .returned (.tuple #[]) ∧ Hid (PW w V' g0 p q B2 vc v' x l' cs) := by
  obtain ⟨v', he, h1, h2, h3⟩ := k
  refine ⟨v', he, h2.blk h.blk ?_, h.wr.fr h2 ?_ ?_, h1, below_fr h.below h2 (Nat.le_refl _) ?_, h.hq, h.hvc, h.hB2, Nat.le_trans h.size h2.size⟩
  · rintro (e | e)
    · exact Blk.ne_ h.blk h.wo.blk (by decide) e
    · exact own_blk_ne h.wo.own h.blk (by decide) e.symm
  · rintro (e | e)
    · exact Blk.ne_ h.wr.blk h.wo.blk (by decide) e
    · exact own_blk_ne h.wo.own h.wr.blk (by decide) e.symm
  · rintro g hg (e | e)
    · exact own_blk_ne h.wr.own h.wo.blk (by decide) (by rw [hg, e])
    · have := (h.wo.own.lt g e.symm).1
      have := h.hvc g hg
      omega
  · rintro i (rfl | e)
    · exact h.hq
    · exact Nat.le_trans h.hB2 (h.wo.own.lt i e.symm).1
theorem PW.grows {w V V' : World} {g0 p q B2 : Nat} {vc v : Value} {x l : List UInt8} {cs : Array Value} (h : PW w V g0 p q B2 vc v x l cs) (k : Below V.heap.size V V') : PW w V' g0 p q B2 vc v x l cs :=
  ⟨h.blk.below k h.blk.lt, h.wr.grows k, h.wo.grows k, h.below.trans (k.mono h.below.size), h.hq, h.hvc, h.hB2, Nat.le_trans h.size k.size⟩
theorem frame_eq (k f : Nat) (x : List UInt8) : ((([] ++ be k 1) ++ be f 1) ++ be (x.length + 4) 2) ++ x ++ List.replicate (padN (((([] ++ be k 1) ++ be f 1) ++ be (x.length + 4) 2) ++ x).length 4) 0 = frame k f x := by
  have e : padN (((([] ++ be k 1) ++ be f 1) ++ be (x.length + 4) 2) ++ x).length 4 = padC x.length := by
    simp only [List.length_append, be_length, padN, padC, List.length_nil]
    rw [if_pos (by decide), show ((4 : Int).toNat) = 4 by rfl]
    omega
  rw [e]
  simp only [frame, List.append_assoc, List.nil_append]

set_option maxHeartbeats 8000000 in
set_option maxRecDepth 100000 in
theorem put_k {w : World} {cs : Array Value} {c : Ck} (hs : Small c) (hc : CkAt w w.heap.size cs c) :
    Calls Try.prog 20 #[.agg cs] w fun e w' => PutDoneC w c e w' ∧ Below w.heap.size w w' := by
  have HAT := Lib.hid hc
  have HSM := Lib.hid hs
  have HSZ := Lib.hid hc.size
  have hk := hc.ok.kind
  obtain ⟨g, d, s, pp, b, hcc, hll⟩ := hc.parts
  have e0 := hcc.c0
  have HB1 := Lib.hid (Blk.new w 42 cs)
  have HL1 := Lib.hid ((Below.refl w.heap.size w).alloc (Nat.le_refl _) (.cells cs 42))
  clear hs hc hcc hll
  go_enter Try.func20, Try.ntmps20
  go_upto_region 1 with (fail)
  obtain ⟨W1, hW1⟩ : ∃ W1, W1 = w.alloc (.cells cs 42) := ⟨_, rfl⟩
  rw [← hW1] at HB1 HL1 ⊢
  obtain ⟨g0, hg0⟩ : ∃ g0, g0 = w.heap.size := ⟨_, rfl⟩
  have HB1' : Hid (CkBlk W1 g0 cs) := by rw [hg0]; exact HB1
  have HG0 := Lib.hid hg0
  rw [← hg0] 
  clear hW1 HB1 hg0
  have f0 := HB1'.out.at e0
  go_wp2_with fail
  refine (known_c c.kind hk W1).mono ?_
  rintro e W1' ⟨rfl, rfl⟩
  cases hK : known c.kind
  · go_wp2_with fail
    go_ret2
    exact ⟨.inr ⟨60, .inl ⟨rfl, hK⟩, rfl⟩, HL1.out⟩
  go_wp2_with (refine wpList_load_row rfl 42 _ rfl g0 rfl 42 cs (0, 0) _ HB1'.out Try.underlying42 rfl (by rw [HSZ.out]; exact chunk_info) ?_)
  refine (lacks_c (HAT.out.below HL1.out)).mono ?_
  rintro e W2 ⟨rfl, hb2⟩
  have HB2 : Hid (CkBlk W2 g0 cs) := HB1'.out.below hb2 HB1'.out.lt
  have HL2 := Lib.hid (HL1.out.trans (hb2.mono HL1.out.size))
  clear f0 hb2 HB1' HL1
  cases hLk : lacks c
  · go_upto_region 6 with (fail)
    obtain ⟨p, hp⟩ : ∃ p, p = W2.heap.size := ⟨_, rfl⟩
    rw [← hp]
    have HA3 : Hid (Below W2.heap.size W2 (W2.alloc (.cells #[.slice none 0 0, .bool false] 80))) := (Below.refl _ _).alloc (Nat.le_refl _) _
    have HR3 : Hid (WrE (W2.alloc (.cells #[.slice none 0 0, .bool false] 80)) p w.heap.size (.slice none 0 0) [] false) := ⟨by rw [hp]; exact Blk.new _ _ _, World.ownsRow_nil _ _ _ _⟩
    obtain ⟨W3, hW3⟩ : ∃ W3, W3 = W2.alloc (.cells #[.slice none 0 0, .bool false] 80) := ⟨_, rfl⟩
    rw [← hW3] at HA3 HR3 ⊢
    have HP : Hid (w.heap.size ≤ p) := by rw [hp]; exact HL2.out.size
    have HB3 : Hid (CkBlk W3 g0 cs) := HB2.out.below HA3.out HB2.out.lt
    have HL3 := Lib.hid (HL2.out.trans (HA3.out.mono HL2.out.size))
    clear hW3 hp HA3 HB2 HL2
    go_wp2_with (refine wpList_load_row rfl 42 _ rfl g0 rfl 42 cs (0, 0) _ HB3.out Try.underlying42 rfl (by rw [HSZ.out]; exact chunk_info) ?_)
    refine (chunk_w HR3.out HL3.out.size HSM.out hK (HAT.out.below HL3.out) HP.out (Nat.le_refl _)).mono ?_
    rintro e W4 ⟨l4, lg4, hd, hlen, hor⟩
    have HB4 : Hid (CkBlk W4 g0 cs) := WroteE.keep HR3.out hd HB3.out (by decide) (by decide)
    obtain ⟨v4, rfl, hr4, hf4, hm4⟩ := hd
    have HR4 := Lib.hid hr4
    have HL4 : Hid (Below w.heap.size w W4) := below_fr HL3.out hf4 (Nat.le_refl _) (by
      rintro i (rfl | e)
      · exact HP.out
      · simp [Value.ownBlock] at e)
    have HLEN := Lib.hid hlen
    have HOR := Lib.hid hor
    have c1 : W4.cell? ⟨p, 1, none⟩ = some (.bool lg4) := hr4.blk.cell 1
    clear hr4 hf4 hm4 hlen hor HR3 HL3 HB3
    cases lg4
    · have hcont : l4 = cont c := by
        rcases HOR.out with ⟨_, h, _⟩ | ⟨h, _⟩
        · exact h
        · cases h
      subst hcont
      have HLW := Lib.hid (length_w HR4.out (by have := HLEN.out; omega))
      obtain ⟨n, hn⟩ : ∃ n, n = (cont c).length := ⟨_, rfl⟩
      rw [← hn] at HLW
      have HN := Lib.hid hn
      obtain ⟨n4, hn4⟩ : ∃ n4, n4 = n + 4 := ⟨_, rfl⟩
      rw [← hn4] at HLW
      have HN4 := Lib.hid hn4
      clear hn hn4
      by_cases hbig : (65535 : Int) < (n4 : Int)
      · go_wp2_with fail
        refine HLW.out.mono ?_
        rintro e W5 ⟨rfl, rfl⟩
        go_wp2_with fail
        go_ret2
        exact ⟨.inr ⟨43, .inr (.inr ⟨rfl, hK, hLk, .inr (.inr (by rw [← HN.out]; have := HN4.out; omega))⟩), rfl⟩, HL4.out⟩
      · have HPU : Hid (Puts c) := by
          refine ⟨hK, hLk, ?_⟩
          rintro (⟨h3, h⟩ | ⟨hps, q, hq, h⟩ | h)
          · rcases HOR.out with ⟨_, _, hg, _⟩ | ⟨h, _⟩
            · have := hg h3; omega
            · cases h
          · rcases HOR.out with ⟨_, _, _, hg⟩ | ⟨h, _⟩
            · have := hg hps q hq; omega
            · cases h
          · rw [← HN.out] at h; have := HN4.out; omega
        have hn6 : n4 < 65536 := by omega
        have HN6 := Lib.hid hn6
        have HNB : Hid (n ≤ 65531) := by have := HN4.out; show _ ≤ _; omega
        go_wp2_with fail
        refine HLW.out.mono ?_
        rintro e W5 ⟨rfl, rfl⟩
        obtain ⟨q, hq⟩ : ∃ q, q = W4.heap.size := ⟨_, rfl⟩
        have HA5 : Hid (Below W4.heap.size W4 (W4.alloc (.cells #[.slice none 0 0] 62))) := (Below.refl _ _).alloc (Nat.le_refl _) _
        have HPW : Hid (PW w (W4.alloc (.cells #[.slice none 0 0] 62)) g0 p q (W4.heap.size + 1) v4 (.slice none 0 0) (cont c) [] cs) := by
          refine ⟨HB4.out.below HA5.out HB4.out.lt, HR4.out.grows HA5.out, ⟨by rw [hq]; exact Blk.new _ _ _, World.ownsRow_nil _ _ _ _⟩, HL4.out.trans (HA5.out.mono HL4.out.size), by rw [hq]; exact HL4.out.size, fun g hg => by have := (HR4.out.own.lt g hg).2; omega, by have := HL4.out.size; omega, by simp⟩
        have HQ := Lib.hid hq
        have f0 := HPW.out.blk.at e0
        clear hq
        go_wp2_with fail
        obtain ⟨W5, hW5⟩ : ∃ W5, W5 = W4.alloc (.cells #[.slice none 0 0] 62) := ⟨_, rfl⟩
        obtain ⟨B2, hB2⟩ : ∃ B2, B2 = W4.heap.size + 1 := ⟨_, rfl⟩
        rw [← hW5, ← hB2] at HPW
        rw [← hW5] at f0 ⊢
        rw [← HQ.out]
        clear hW5 HA5 c1 HB4 HR4 HL4 HLW hB2
        refine (wr_u8 c.kind hk HPW.out.wo HPW.out.size (by simp)).mono ?_
        intro e W6 hd
        obtain ⟨v6, rfl, HP6⟩ := HPW.out.step hd
        clear hd f0
        go_wp2_with (refine wpList_load_row rfl 42 _ rfl g0 rfl 42 cs (0, 0) _ HP6.out.blk Try.underlying42 rfl (by rw [HSZ.out]; exact chunk_info) ?_)
        refine (flags_c (HAT.out.below HP6.out.below)).mono ?_
        rintro e W7 ⟨rfl, hb7⟩
        have HP7 := Lib.hid (HP6.out.grows hb7)
        have hf7 : flagsN c < 256 := by
          unfold flagsN loN
          (repeat' split) <;> omega
        obtain ⟨fl, hfl⟩ : ∃ fl, fl = flagsN c := ⟨_, rfl⟩
        rw [← hfl] at hf7 ⊢
        have HFL := Lib.hid hfl
        clear hb7 hfl
        go_wp2_with fail
        refine (wr_u8 fl hf7 HP7.out.wo HP7.out.size (by simp [be_length])).mono ?_
        intro e W8 hd
        obtain ⟨v8, rfl, HP8⟩ := HP7.out.step hd
        clear hd
        have HLW8 := Lib.hid (length_w HP8.out.wr (by rw [← HN.out]; have := HNB.out; omega))
        rw [← HN.out, ← HN4.out] at HLW8
        go_wp2_with fail
        refine HLW8.out.mono ?_
        rintro e W8' ⟨rfl, rfl⟩
        have hw : IntKind.u16.wrap (n4 : Int) = (n4 : Int) := by simp [IntKind.wrap, IntKind.bits, IntKind.signed]; omega
        clear HLW8
        go_wp2_with fail
        refine (wr_u16 n4 HN6.out HP8.out.wo HP8.out.size (by simp [be_length])).mono ?_
        intro e W9 hd
        obtain ⟨v9, rfl, HP9⟩ := HP8.out.step hd
        clear hd hw
        go_wp2_with fail
        refine (wre_out HP9.out.wr (by rw [← HN.out]; have := HNB.out; omega)).mono ?_
        rintro e W10 ⟨⟨u, rfl, ho⟩, hb10⟩
        have HP10 := Lib.hid (HP9.out.grows hb10)
        obtain ⟨A10, c10, rfl, h10a, h10b, HY10⟩ := own_as ho HN.out
        clear ho hb10
        go_wp2_with fail
        refine (wr_put HP10.out.wo HP10.out.size (by simp [be_length]) HN.out (by have := HNB.out; omega) HY10.out).mono ?_
        intro e W11 hd
        obtain ⟨v11, rfl, HP11⟩ := HP10.out.step hd
        clear hd
        go_wp2_with fail
        refine (wr_pad 4 HP11.out.wo HP11.out.size (by simp only [List.length_append, be_length, List.length_nil]; rw [← HN.out]; have := HNB.out; omega) (by omega)).mono ?_
        intro e W12 hd
        obtain ⟨v12, rfl, HP12⟩ := HP11.out.step hd
        clear hd
        have HE := frame_eq c.kind fl (cont c)
        rw [← HN.out, ← HN4.out] at HE
        rw [HE] at HP12
        have HBY : Hid (frame c.kind fl (cont c) = bytesC c) := by rw [HFL.out]; rfl
        rw [HBY.out] at HP12
        have HBL : Hid ((bytesC c).length ≤ 1000000) := by
          rw [← HBY.out]
          show (frame c.kind fl (cont c)).length ≤ _
          simp only [frame, List.length_append, be_length, List.length_replicate, padC, ← HN.out]
          have := HNB.out
          omega
        clear HE
        go_wp2_with fail
        refine (wr_out HP12.out.wo HBL.out).mono ?_
        rintro e W13 ⟨⟨u, rfl, ho⟩, hb13⟩
        go_wp2_with fail
        go_ret2
        exact ⟨.inl ⟨u, HPU.out, rfl, own_mono ho HP12.out.below.size⟩, HP12.out.below.trans (hb13.mono HP12.out.below.size)⟩
    · have HTL : Hid (tooLong c) := by
        rcases HOR.out with ⟨h, _⟩ | ⟨_, h⟩
        · cases h
        · exact h
      go_wp2_with fail
      go_ret2
      exact ⟨.inr ⟨43, .inr (.inr ⟨rfl, hK, hLk, HTL.out⟩), rfl⟩, HL4.out⟩
  · go_wp2_with fail
    go_ret2
    exact ⟨.inr ⟨42, .inr (.inl ⟨rfl, hK, hLk⟩), rfl⟩, HL2.out⟩
end Go.Proofs.Ytabkjgklmibagaa.Chk
