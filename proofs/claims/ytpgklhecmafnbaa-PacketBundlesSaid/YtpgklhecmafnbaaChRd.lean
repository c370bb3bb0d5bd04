/-
  The contract of package chunk's read.
-/
import Derived.Test.YtpgklhecmafnbaaChG
import Derived.Test.YtpgklhecmafnbaaChWays
set_option linter.unusedVariables false
set_option linter.unusedSimpArgs false
namespace Go.Proofs.Ytpgklhecmafnbaa.Chk
open Go.ChangeShapes Go.WideShapes Go.ChangeAt Go.RowKit Go.Deep Go.Proofs.Ytpgklhecmafnbaa.Words Go.Proofs.Ytpgklhecmafnbaa.Oct Go.Proofs.Ytpgklhecmafnbaa.Par

theorem head_of {w : World} {B size n : Nat} {t : TypeId} {v : Value} {xs : List Value} (h : w.ownsRow B t size v n xs) : ∃ hd : Hd, v = hd.v n ∧ hd.okN n ∧ Reads w w.heap.size size hd.A n xs := by
  obtain ⟨A, c, rfl, h1, h2⟩ := own_slice h
  exact ⟨⟨A, c⟩, rfl, ⟨h1, h2⟩, Reads.of_own h⟩
theorem CkOwn.at_ {w : World} {B : Nat} {cs : Array Value} {c : Ck} (h : CkOwn w B cs c) (ok : c.ok) : CkAt w w.heap.size cs c := by
  obtain ⟨gv, dv, sv, pv, bv, rfl, h1, h2, h3, h4, h5⟩ := h
  obtain ⟨g, rfl, g1, g2⟩ := head_of h1
  obtain ⟨d, rfl, d1, d2⟩ := head_of h2
  obtain ⟨s, rfl, s1, s2⟩ := head_of h3
  obtain ⟨b, rfl, b1, b2⟩ := head_of h5
  obtain ⟨A, cp, rfl, p1, p2⟩ := h4.slice
  exact ⟨ok, g, d, s, ⟨A, cp⟩, b, rfl, g1, d1, s1, ⟨p1, p2⟩, b1, g2, d2, s2, h4.ps, b2⟩
/-- A load of a whole variable behind a guard that says yes. -/
theorem wpList_load_want {P : Program} {ops : Array Oper} {rest : List Oper} {o : Oper} {a : Act} {w : World} {Q : Exit → Act → World → Prop} (hgd : Region.wanted o (yielded ops a.tmps) = true) (ty : TypeId) (x : Operand) (ho : o.op = .load ty x)
    (g : Nat) (hx : a.eval x = .pointer (some ⟨g, 0, none⟩)) (t : TypeId) (cs : Array Value) (fr : Nat × Nat) (d : TypeDesc) (hg : w.heap[g]? = some (.cells cs t fr))
    (hu : P.underlying ty = some d) (hd : (match d with | .struct _ | .array _ _ => true | _ => false) = true) (hi : (P.info? ty).map (·.size) = some cs.size)
    (h : wpList P ops Q rest (a.put o.dst (.agg cs)) w) : wpList P ops Q (o :: rest) a w :=
  BigFrame.wpList_want hgd fun _ hK => wp_load_row ty x ho g hx t cs fr d hg hu hd hi (hK _ _ h)
/-- What read answers. -/
def ReadDone (w : World) (g k f : Nat) (x : List UInt8) (e : Ending) (w' : World) : Prop :=
  Fr (fun i => i = g) w w' ∧ ((∃ c' cs, decC k f x = some c' ∧ e = .returned (.bool true) ∧ CkBlk w' g cs ∧ CkOwn w' w.heap.size cs c' ∧ c'.ok) ∨ (decC k f x = none ∧ e = .returned (.bool false)))

set_option maxHeartbeats 4000000 in
set_option maxRecDepth 100000 in
theorem read_k {w : World} {g k f n cap : Nat} {A : Option Addr} {x : List UInt8} (hk : known k = true) (hk2 : k < 256) (hf : f < 256) (hn : n = x.length) (hn2 : n ≤ 200000) (hc : CkBlk w g (ckArr (zeroC k) nilV nilV nilV nilV nilV)) (hy : Byt w w.heap.size A x) :
    Calls Try.prog 35 #[cptr g, .int .u8 (f : Int), .slice A n cap] w (ReadDone w g k f x) := by
  have HN := Lib.hid hn
  have HY := Lib.hid hy
  have HC := Lib.hid hc
  have hg := hc.lt
  clear hn hy hc
  go_enter Try.func35, Try.ntmps35
  go_wp2_with fail
  refine (newReader_any A x n cap w HN.out (by rw [← HN.out]; omega) HY.out).mono ?_
  rintro e W1 ⟨p, G, rfl, hrd, hG, hb1⟩
  have HRD := Lib.hid hrd
  have HB1 := Lib.hid hb1
  have hp1 := hrd.lt
  have hGp := hrd.le
  obtain ⟨r, hr⟩ : ∃ r, r = W1.heap.size := ⟨_, rfl⟩
  clear hrd hb1
  go_upto_region 2 with (fail)
  have HR2 : Hid (RS (W1.alloc (.cells #[rptr p, .bool false] 126)) (W1.alloc (.cells #[rptr p, .bool false] 126)) p G r g x false false (ckArr (zeroC k) nilV nilV nilV nilV nilV)) := by
    have hb := (Below.refl W1.heap.size W1).alloc (Nat.le_refl _) (.cells #[rptr p, .bool false] 126)
    exact ⟨HRD.out.grows hb, by rw [hr]; exact Blk.new _ _ _, (HC.out.below HB1.out hg).alloc _, Fr.refl _ _, by omega, by omega⟩
  have HB2 : Hid (Below w.heap.size w (W1.alloc (.cells #[rptr p, .bool false] 126))) := HB1.out.alloc HB1.out.size _
  obtain ⟨W2, hW2⟩ : ∃ W2, W2 = W1.alloc (.cells #[rptr p, .bool false] 126) := ⟨_, rfl⟩
  rw [← hW2] at HR2 HB2 ⊢
  rw [← hr]
  have HPR : Hid (w.heap.size ≤ p ∧ w.heap.size ≤ r) := ⟨by omega, by rw [hr]; exact HB1.out.size⟩
  clear hW2 hr HRD HB1 HC
  go_wp2_with fail
  refine (setFlags_r hk2 hf HR2.out).mono ?_
  rintro e W3 ⟨rfl, h3⟩
  obtain ⟨bw, hbw⟩ : ∃ bw, bw = (f != flagsN (flagged k f)) := ⟨_, rfl⟩
  rw [Bool.false_or, ← hbw] at h3
  have HR3 := Lib.hid h3
  have HBW := Lib.hid hbw
  clear h3 hbw HR2
  go_wp2_with fail
  refine (chunk_r (by rw [flagged_kind]; exact hk) (by rw [← HN.out]; omega) (flagged_bare k f) HR3.out.here).mono ?_
  rintro e W4 ⟨rfl, hd⟩
  have HFR : Hid (∀ l' b' bw' cs, RS W3 W4 p G r g l' b' bw' cs → Fr (fun i => i = g) w W4) := fun l' b' bw' cs h => by
    have f1 := HR3.out.fr.same h.fr
    have f2 : Fr (fun i => i = g) w W2 := (Fr.of_below HB2.out).mono (fun i hi h => by omega)
    refine f2.trans (S' := fun i => i = g ∨ (i = p ∨ i = r)) ?_ ?_
    · exact f1.mono (fun i _ h => by rcases h with h | h | h <;> simp [h])
    · intro i hi h
      have := HPR.out
      rcases h with h | h | h <;> omega
  have HS3 : Hid (w.heap.size ≤ W3.heap.size) := Nat.le_trans HB2.out.size HR3.out.size
  have hflag : f < 256 := hf
  rcases hd with ⟨cs, c', hdec, h4, ho⟩ | ⟨hdec, l', b', bw', cs, h4, hbad⟩
  · have HR4 := Lib.hid h4
    have HO := Lib.hid ho
    have HDEC := Lib.hid hdec
    have HOK := Lib.hid (decB_ok (flagged_ok' hk2) hdec)
    have HSZ : Hid (cs.size = 19) := by obtain ⟨gv, dv, sv, pv, bv, rfl, _⟩ := ho; rfl
    have d0 : W4.cell? ⟨r, 0, none⟩ = some (rptr p) := h4.rblk.cell 0
    have d1 : W4.cell? ⟨r, 1, none⟩ = some (.bool bw) := h4.rblk.cell 1
    have HEND := Lib.hid (rd_end h4.rd)
    clear h4 ho hdec
    go_wp2_with fail
    refine HEND.out.mono ?_
    rintro e W5 ⟨he, rfl⟩
    obtain rfl : e = .returned (.int .i64 0) := he
    cases bw
    · go_wp2_with (refine wpList_load_want rfl 32 _ rfl g rfl 32 cs (0, 0) _ HR4.out.blk Try.underlying32 rfl (by rw [HSZ.out]; exact chunk_info) ?_)
      refine (lacks_c (HO.out.at_ HOK.out.1)).mono ?_
      rintro e W5 ⟨rfl, hb5⟩
      have HB5 := Lib.hid hb5
      obtain ⟨lk, hlk⟩ : ∃ lk, lk = lacks c' := ⟨_, rfl⟩
      rw [← hlk]
      have HLK := Lib.hid hlk
      clear hb5 hlk
      have HF : Hid (f = flagsN (flagged k f)) := by have := HBW.out; show f = _; simpa using this
      cases lk
      · go_wp2_with fail
        go_ret
        refine ⟨(HFR.out _ _ _ _ HR4.out).grows HB5.out, .inl ⟨c', cs, ?_, rfl, HR4.out.blk.below HB5.out HR4.out.blk.lt, (HO.out.grows HB5.out).mono HS3.out, HOK.out.1⟩⟩
        unfold decC
        rw [if_pos HF.out, HDEC.out]
        simp only
        rw [if_neg (by rw [← HLK.out]; decide)]
      · go_wp2_with fail
        go_ret
        refine ⟨(HFR.out _ _ _ _ HR4.out).grows HB5.out, .inr ⟨?_, rfl⟩⟩
        unfold decC
        rw [if_pos HF.out, HDEC.out]
        simp only
        rw [if_pos HLK.out.symm]
    · go_wp2_with fail
      go_ret
      refine ⟨HFR.out _ _ _ _ HR4.out, .inr ⟨?_, rfl⟩⟩
      unfold decC
      rw [if_neg (by have := HBW.out; intro e; rw [← e] at this; simp at this)]
  · have HNO : Hid (decC k f x = none) := by
      show decC k f x = none
      unfold decC
      rw [hdec]
      split <;> rfl
    have HR4 := Lib.hid h4
    have d0 : W4.cell? ⟨r, 0, none⟩ = some (rptr p) := h4.rblk.cell 0
    have d1 : W4.cell? ⟨r, 1, none⟩ = some (.bool bw') := h4.rblk.cell 1
    have HEND := Lib.hid (rd_end h4.rd)
    by_cases he0 : endOf l' b' = 0
    · have hb : bw' = true := by
        rcases hbad with h | h | h
        · rw [h] at he0; simp [endOf] at he0
        · exact h
        · exfalso
          cases b'
          · simp only [endOf, Bool.false_eq_true, if_false] at he0
            split at he0
            · rename_i hl; exact h (List.eq_nil_of_length_eq_zero hl)
            · cases he0
          · simp [endOf] at he0
      subst hb
      rw [he0] at HEND
      clear h4 hdec hbad
      go_wp2_with fail
      refine HEND.out.mono ?_
      rintro e W5 ⟨rfl, rfl⟩
      go_wp2_with fail
      go_ret
      exact ⟨HFR.out _ _ _ _ HR4.out, .inr ⟨HNO.out, rfl⟩⟩
    · obtain ⟨en, hen⟩ : ∃ en, en = endOf l' b' := ⟨_, rfl⟩
      rw [← hen] at HEND he0
      have he1 : (en == 0) = false := by simpa using he0
      clear h4 hdec hbad hen
      go_wp2_with fail
      refine HEND.out.mono ?_
      rintro e W5 ⟨rfl, rfl⟩
      go_wp2_with fail
      go_ret
      exact ⟨HFR.out _ _ _ _ HR4.out, .inr ⟨HNO.out, rfl⟩⟩
end Go.Proofs.Ytpgklhecmafnbaa.Chk
