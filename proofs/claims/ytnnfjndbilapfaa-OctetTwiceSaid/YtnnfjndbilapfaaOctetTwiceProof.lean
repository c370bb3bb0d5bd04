/-
  PROVED: OctetTwice of flumelaw04 answers true for every input, and its arguments read afterwards as before. CONDITIONS: none beside the form's own.
-/
import Derived.Test.YtnnfjndbilapfaaRows
import Derived.Test.YtnnfjndbilapfaaOctLaw
import Derived.Test.YtnnfjndbilapfaaStage
import Derived.WalkKit
import Derived.ProofKit
import Derived.OpenShut
import Derived.ShutString
import Derived.ChangeOld
import Derived.Below
namespace Go.Proofs.Ytnnfjndbilapfaa.octetTwice
open Go.ChangeShapes Go.WideShapes Go.ChangeAt Go.RowKit
open Go.ChangeMaps (open_string shut_string)
set_option linter.unusedVariables false
set_option linter.unusedSimpArgs false

theorem own : ownKnob Try.prog.godebug = none := by kernel_rfl
theorem laidOut : laidOutB Try.prog = true := by kernel_rfl

/-- What the walk is told of a slice of integers that came in. -/
def IsRow (k : IntKind) (w : World) (a : Option Addr) (len cap : Nat) (zs : List Int) : Prop :=
  (a = none ∧ len = 0 ∧ cap = 0 ∧ zs = []) ∨
  ∃ x, a = some x ∧ len ≤ cap ∧ cap ≤ maxLen ∧ zs.length = cap ∧ (∀ i, i < zs.length → w.cell? (x.add i) = some (.int k (zs.getD i 0))) ∧ ∀ n ∈ zs, (Lit.int k n).wf = true

/-! ### The walk -/
open Words Oct
theorem num_take_be (v n : Nat) (r : List UInt8) : num ((be v n ++ r).take n) = v % 256 ^ n := by
  have : (be v n ++ r).take n = be v n := by
    have := List.take_left (l₁ := be v n) (l₂ := r)
    rwa [be_length] at this
  rw [this, num_be]
theorem drop_be (v n : Nat) (r : List UInt8) : (be v n ++ r).drop n = r := by
  have := List.drop_left (l₁ := be v n) (l₂ := r)
  rwa [be_length] at this
/-- Where the law stands while it reads: what was laid into the writer, and what the reader has left. -/
structure St (w V : World) (pw : Nat) (vw : Value) (all : List UInt8) (p G : Nat) (l : List UInt8) : Prop where
  below : Below w.heap.size w V
  wr : Wr V pw pw vw all
  rd : Rd V p G l false
  base : w.heap.size ≤ pw
  ap : pw < G
  ap2 : ∀ g, vw.ownBlock = some g → g < G
theorem St.step {w V V' : World} {pw : Nat} {vw : Value} {all l l' : List UInt8} {p G : Nat} (h : St w V pw vw all p G l) (hr : Rd V' p G l' false) (hf : Fr (At p) V V') : St w V' pw vw all p G l' :=
  ⟨rd_below h.below (Nat.le_refl _) (by have := h.ap; have := h.base; have := h.rd.le; omega) hf, h.wr.fr hf (fun e => by have : pw = p := e; have := h.ap; have := h.rd.le; omega) (fun g hg e => by have : g = p := e; have := h.ap2 g hg; have := h.rd.le; omega), hr, h.base, h.ap, h.ap2⟩
theorem St.drew {w V : World} {pw : Nat} {vw : Value} {all l : List UInt8} {p G : Nat} (h : St w V pw vw all p G l) : St w V.drew pw vw all p G l :=
  ⟨h.below.drew, h.wr.fr ((Fr.refl (fun _ => False) V).drew) id (fun _ _ h => h), h.rd.fr ((Fr.refl (fun _ => False) V).drew) id id, h.base, h.ap, h.ap2⟩
/-- What was taken, as long as the reader alone goes on. -/
def TookR (a : List UInt8) (n q : Nat) (v : Value) (V : World) : Prop := ∃ A3 c3, v = .slice A3 n c3 ∧ Hid (Byt V V.heap.size A3 a) ∧ ∀ x, A3 = some x → x.block ≠ q
theorem TookR.keep {a : List UInt8} {n q : Nat} {v : Value} {V V' : World} (h : TookR a n q v V) (hf : Fr (At q) V V') : TookR a n q v V' := by
  obtain ⟨A3, c3, e, h1, h2⟩ := h
  exact ⟨A3, c3, e, (hf.byt h1.out (Nat.le_refl _) h2).more hf.size, h2⟩
set_option maxHeartbeats 4000000 in
set_option maxRecDepth 100000 in
theorem walk (a0 : Option Addr) (len0 cap0 : Nat) (z0 : List Int) (a1 : Option Addr) (len1 cap1 : Nat) (z1 : List Int) (a2 : Int) (w : World) (w0 : IsRow .u8 w a0 len0 cap0 z0) (w1 : IsRow .u8 w a1 len1 cap1 z1) (w2 : (Lit.int .u32 a2).wf = true) :
    Calls Try.prog 5 #[.slice a0 len0 cap0, .slice a1 len1 cap1, .int .u32 a2] w fun e w' => e = .returned (.bool true) ∧ Below w.heap.size w w' := by
  obtain ⟨a, hlen, hcap, hc63, hby⟩ := bytes_of w0
  subst hlen
  obtain ⟨b, hlen2, hcap2, hc632, hby2⟩ := bytes_of w1
  subst hlen2
  have bv := bounds_u32 w2
  obtain ⟨v, hv⟩ : ∃ v : Nat, a2 = (v : Int) := ⟨a2.toNat, by omega⟩
  subst hv
  have hv32 : v < 4294967296 := by omega
  have HBA := Lib.hid hby
  have HBB := Lib.hid hby2
  clear hby hby2 w0 w1 w2 bv
  obtain ⟨na, hna⟩ : ∃ n, n = a.length := ⟨_, rfl⟩
  obtain ⟨nb, hnb⟩ : ∃ n, n = b.length := ⟨_, rfl⟩
  rw [← hna] at hcap ⊢
  rw [← hnb] at hcap2 ⊢
  have HNA := Lib.hid hna
  have HNB := Lib.hid hnb
  clear hna hnb
  go_enter Try.func5, Try.ntmps5
  go_wp2_with fail
  refine (first_any w).mono ?_
  rintro e W1 ⟨rfl, hb1⟩
  have HB1 := Lib.hid hb1
  clear hb1
  go_upto_region 3 with (fail)
  go_cut [16] from 11 to 17 (fun s16 wx => s16 = .bool (decide (2000 < na ∨ 2000 < nb)) ∧ W1 = wx)
  case first =>
    by_cases hlt : na < nb
    · go_wp2_with fail
      go_meet
      refine ⟨?_, rfl⟩
      congr 1
      rw [Bool.eq_iff_iff]
      simp only [decide_eq_true_eq]
      omega
    · go_wp2_with fail
      go_meet
      refine ⟨?_, rfl⟩
      congr 1
      rw [Bool.eq_iff_iff]
      simp only [decide_eq_true_eq]
      omega
  case rest =>
  obtain ⟨rfl, rfl⟩ := hcut
  by_cases hbig : 2000 < na ∨ 2000 < nb
  · go_wp2_with fail
    go_ret
    exact ⟨rfl, HB1.out⟩
  · have hna2 : na ≤ 2000 := by omega
    have hnb2 : nb ≤ 2000 := by omega
    go_upto_region 6 with (fail)
    obtain ⟨W2, hW2⟩ : ∃ W2, W2 = W1.alloc (.cells #[.slice none 0 0] 47) := ⟨_, rfl⟩
    have HW2 : Hid (Wr W2 W1.heap.size W1.heap.size (.slice none 0 0) []) := by rw [hW2]; exact wr_zero W1
    have HB2 : Hid (Below w.heap.size w W2) := by rw [hW2]; exact HB1.out.alloc HB1.out.size _
    have HS2 : Hid (W1.heap.size ≤ W2.heap.size) := Nat.le_of_lt HW2.out.blk.lt
    have HP : Hid (w.heap.size ≤ W1.heap.size) := HB1.out.size
    rw [← hW2]
    clear hW2
    obtain ⟨p, hp⟩ : ∃ p, p = W1.heap.size := ⟨_, rfl⟩
    rw [← hp] at HW2 HS2 HP ⊢
    clear hp
    have HBY : Hid (Byt W2 w.heap.size a0 a) := HBA.out.below HB2.out
    go_wp2_with fail
    refine (wr_put HW2.out HS2.out (by simp) HNA.out (by omega) HBY.out).mono ?_
    rintro e W3 ⟨v3, rfl, hwr, hf, _⟩
    rw [List.nil_append] at hwr
    have HW3 := Lib.hid hwr
    have HS3 := Lib.hid (Nat.le_trans HS2.out hf.size)
    have HB3 := Lib.hid (wr_below HB2.out (Nat.le_refl _) HP.out ⟨HW2.out.blk, own_mono HW2.out.own HP.out⟩ hf)
    clear hwr hf
    go_wp2_with fail
    refine (wr_u32 v hv32 HW3.out HS3.out (by rw [← HNA.out]; omega)).mono ?_
    rintro e W4 ⟨v4, rfl, hwr, hf, _⟩
    have HW4 := Lib.hid hwr
    have HS4 := Lib.hid (Nat.le_trans HS3.out hf.size)
    have HB4 := Lib.hid (wr_below HB3.out (Nat.le_refl _) HP.out ⟨HW3.out.blk, own_mono HW3.out.own HP.out⟩ hf)
    clear hwr hf
    obtain ⟨v16, h16⟩ : ∃ x, x = v % 65536 := ⟨_, rfl⟩
    obtain ⟨v8, h8⟩ : ∃ x, x = v % 256 := ⟨_, rfl⟩
    have hw16 : IntKind.u16.wrap (v : Int) = (v16 : Int) := by simp [IntKind.wrap, IntKind.bits, IntKind.signed]; omega
    have hw8 : IntKind.u8.wrap (v : Int) = (v8 : Int) := by simp [IntKind.wrap, IntKind.bits, IntKind.signed]; omega
    have b16 : v16 < 65536 := by omega
    have b8 : v8 < 256 := by omega
    clear h16 h8
    go_wp2_with fail
    refine (wr_u16 v16 b16 HW4.out HS4.out (by rw [List.length_append, be_length, ← HNA.out]; omega)).mono ?_
    rintro e W5 ⟨v5, rfl, hwr, hf, _⟩
    have HW5 := Lib.hid hwr
    have HS5 := Lib.hid (Nat.le_trans HS4.out hf.size)
    have HB5 := Lib.hid (wr_below HB4.out (Nat.le_refl _) HP.out ⟨HW4.out.blk, own_mono HW4.out.own HP.out⟩ hf)
    clear hwr hf
    go_wp2_with fail
    refine (wr_u8 v8 b8 HW5.out HS5.out (by simp only [List.length_append, be_length, ← HNA.out]; omega)).mono ?_
    rintro e W6 ⟨v6, rfl, hwr, hf, _⟩
    have HW6 := Lib.hid hwr
    have HS6 := Lib.hid (Nat.le_trans HS5.out hf.size)
    have HB6 := Lib.hid (wr_below HB5.out (Nat.le_refl _) HP.out ⟨HW5.out.blk, own_mono HW5.out.own HP.out⟩ hf)
    clear hwr hf
    go_wp2_with fail
    refine (wr_put HW6.out HS6.out (by simp only [List.length_append, be_length, ← HNA.out]; omega) HNB.out (by omega) (HBB.out.below HB6.out)).mono ?_
    rintro e W7 ⟨v7, rfl, hwr, hf, _⟩
    have HS7 := Lib.hid (Nat.le_trans HS6.out hf.size)
    have HB7 := Lib.hid (wr_below HB6.out (Nat.le_refl _) HP.out ⟨HW6.out.blk, own_mono HW6.out.own HP.out⟩ hf)
    obtain ⟨r1, hr1⟩ : ∃ r, r = be v8 1 ++ b := ⟨_, rfl⟩
    obtain ⟨r2, hr2⟩ : ∃ r, r = be v16 2 ++ r1 := ⟨_, rfl⟩
    obtain ⟨r3, hr3⟩ : ∃ r, r = be v 4 ++ r2 := ⟨_, rfl⟩
    obtain ⟨all, hall⟩ : ∃ r, r = a ++ r3 := ⟨_, rfl⟩
    have l1 : r1.length = 1 + nb := by rw [hr1, List.length_append, be_length, ← HNB.out]
    have l2 : r2.length = 3 + nb := by rw [hr2, List.length_append, be_length, l1]; omega
    have l3 : r3.length = 7 + nb := by rw [hr3, List.length_append, be_length, l2]; omega
    have l4 : all.length = na + nb + 7 := by rw [hall, List.length_append, ← HNA.out, l3]; omega
    have HW7 : Hid (Wr W7 p p v7 all) := by
      have := hwr
      simp only [List.append_assoc] at this
      rw [hall, hr3, hr2, hr1]
      exact this
    have n1 : num (r1.take 1) = v8 := by rw [hr1, num_take_be]; omega
    have n2 : num (r2.take 2) = v16 := by rw [hr2, num_take_be]; omega
    have n3 : num (r3.take 4) = v := by rw [hr3, num_take_be]; omega
    have d1 : r1.drop 1 = b := by rw [hr1, drop_be]
    have d2 : r2.drop 2 = r1 := by rw [hr2, drop_be]
    have d3 : r3.drop 4 = r2 := by rw [hr3, drop_be]
    have d4 : all.drop na = r3 := by rw [hall, HNA.out, List.drop_left]
    have t4 : all.take na = a := by rw [hall, HNA.out, List.take_left]
    have NUM := Lib.hid (And.intro n1 (And.intro n2 n3))
    have DROP := Lib.hid (And.intro d1 (And.intro d2 (And.intro d3 (And.intro d4 t4))))
    have LEN := Lib.hid (And.intro l1 (And.intro l2 (And.intro l3 l4)))
    clear hwr hf hr1 hr2 hr3 hall n1 n2 n3 d1 d2 d3 d4 t4 l1 l2 l3 l4
    go_wp2_with fail
    obtain ⟨l1, l2, l3, l4⟩ := LEN.out
    refine (wr_out HW7.out (by omega)).mono ?_
    rintro e W8 ⟨⟨u, rfl, ho⟩, hb8⟩
    obtain ⟨N, hN⟩ : ∃ N, N = na + nb + 7 := ⟨_, rfl⟩
    obtain ⟨A, c, rfl, hnc, hc63', HYB⟩ := own_as (n := N) ho (by omega)
    have HN : Hid (N = all.length) := by rw [l4]; exact hN
    have HW8 := Lib.hid (HW7.out.grows hb8)
    have HS8 := Lib.hid (Nat.le_trans HS7.out hb8.size)
    have HB8 := Lib.hid (HB7.out.trans (hb8.mono HB7.out.size))
    have hA : all.length ≤ 1000000 := by omega
    clear ho hb8 l1 l2 l3 l4 hN
    rw [← HN.out] at hA
    go_wp2_with fail
    refine (newReader_any A all N c W8 HN.out (by rw [← HN.out]; exact hA) HYB.out).mono ?_
    rintro e W9 ⟨q, G, rfl, hr9, hG, hb9⟩
    have ST : Hid (St w W9 p v7 all q G all) := ⟨HB8.out.trans (hb9.mono HB8.out.size), HW8.out.grows hb9, hr9, HP.out, by have := HW8.out.blk.lt; omega, fun g hg => by have := (HW8.out.own.lt g hg).2; omega⟩
    clear hr9 hG hb9
    obtain ⟨n1, n2, n3⟩ := NUM.out
    obtain ⟨d1, d2, d3, d4, t4⟩ := DROP.out
    obtain ⟨l1, l2, l3, l4⟩ := LEN.out
    have C1 : Hid (∀ V, Hid (St w V p v7 all q G all) → Calls Try.prog 14 #[rptr q, .int .i64 (na : Int)] V fun e V' => ∃ A3 c3, e = .returned (.slice A3 na c3) ∧ Hid (Byt V' V'.heap.size A3 a) ∧ (∀ x, A3 = some x → x.block ≠ q) ∧ Hid (St w V' p v7 all q G r3) ∧ Fr (At q) V V') := fun V h => by
      refine (rd_take (n := na) h.out.rd (by omega) (by omega)).mono ?_
      rintro e V' ⟨u, rfl, ho, hr, hf⟩
      rw [t4] at ho
      rw [d4] at hr
      have hne : ∀ g, u.ownBlock = some g → g ≠ q := fun g hg => by have := (ho.lt g hg).1; have := h.out.rd.lt; omega
      obtain ⟨A3, c3, rfl, _, _, hb⟩ := own_as (n := na) ho HNA.out
      exact ⟨A3, c3, rfl, hb, fun x hx => hne _ (by subst hx; rfl), h.out.step hr hf, hf⟩
    have C2 : Hid (∀ V, Hid (St w V p v7 all q G r3) → Calls Try.prog 13 #[rptr q] V fun e V' => e = .returned (.int .u32 (v : Int)) ∧ Hid (St w V' p v7 all q G r2) ∧ Fr (At q) V V') := fun V h => by
      refine (rd_u32 h.out.rd (by omega)).mono ?_
      rintro e V' ⟨rfl, hr, hf⟩
      rw [d3] at hr
      rw [n3]
      exact ⟨rfl, h.out.step hr hf, hf⟩
    have C3 : Hid (∀ V, Hid (St w V p v7 all q G r2) → Calls Try.prog 12 #[rptr q] V fun e V' => e = .returned (.int .u16 (v16 : Int)) ∧ Hid (St w V' p v7 all q G r1) ∧ Fr (At q) V V') := fun V h => by
      refine (rd_u16 h.out.rd (by omega)).mono ?_
      rintro e V' ⟨rfl, hr, hf⟩
      rw [d2] at hr
      rw [n2]
      exact ⟨rfl, h.out.step hr hf, hf⟩
    have C4 : Hid (∀ V, Hid (St w V p v7 all q G r1) → Calls Try.prog 10 #[rptr q] V fun e V' => e = .returned (.int .u8 (v8 : Int)) ∧ Hid (St w V' p v7 all q G b) ∧ Fr (At q) V V') := fun V h => by
      refine (rd_u8 h.out.rd (by omega)).mono ?_
      rintro e V' ⟨rfl, hr, hf⟩
      rw [d1] at hr
      rw [n1]
      exact ⟨rfl, h.out.step hr hf, hf⟩
    have C5 : Hid (∀ V, Hid (St w V p v7 all q G b) → Calls Try.prog 14 #[rptr q, .int .i64 (nb : Int)] V fun e V' => ∃ A3 c3, e = .returned (.slice A3 nb c3) ∧ Hid (Byt V' V'.heap.size A3 b) ∧ (∀ x, A3 = some x → x.block ≠ q) ∧ Hid (St w V' p v7 all q G []) ∧ Fr (At q) V V') := fun V h => by
      have hl := HNB.out
      refine (rd_take (n := nb) h.out.rd (by omega) (by omega)).mono ?_
      rintro e V' ⟨u, rfl, ho, hr, hf⟩
      rw [List.take_of_length_le (by omega)] at ho
      rw [List.drop_of_length_le (by omega)] at hr
      have hne : ∀ g, u.ownBlock = some g → g ≠ q := fun g hg => by have := (ho.lt g hg).1; have := h.out.rd.lt; omega
      obtain ⟨A3, c3, rfl, _, _, hb⟩ := own_as (n := nb) ho HNB.out
      exact ⟨A3, c3, rfl, hb, fun x hx => hne _ (by subst hx; rfl), h.out.step hr hf, hf⟩
    have C6 : Hid (∀ V, Hid (St w V p v7 all q G []) → Calls Try.prog 18 #[rptr q] V fun e V' => e = .returned (.int .i64 0) ∧ V = V') := fun V h => rd_end h.out.rd
    have C7 : Hid (∀ m V, Hid (St w V p v7 all q G ([all, r3, r2, r1, b, []].getD m [])) → Calls Try.prog 27 #[rptr p] V fun e V' => e = .returned (.int .i64 ((na : Int) + (nb : Int) + 7)) ∧ V = V') := fun m V h => by
      have := wr_len h.out.wr
      rw [l4] at this
      exact this
    have hsa : ∀ V, Below w.heap.size w V → (convert 22 9 (.slice a0 na cap0)).run Try.prog V = .ok (.string ⟨a.toArray⟩) V := fun V hb => run_str (HBA.out.below hb) _ _ _ Try.underlying22 Try.underlying5 Try.underlying9 na cap0 HNA.out
    have hsb : ∀ V, Below w.heap.size w V → (convert 22 9 (.slice a1 nb cap1)).run Try.prog V = .ok (.string ⟨b.toArray⟩) V := fun V hb => run_str (HBB.out.below hb) _ _ _ Try.underlying22 Try.underlying5 Try.underlying9 nb cap1 HNB.out
    clear n1 n2 n3 d1 d2 d3 d4 t4 l1 l2 l3 l4 hA
    have hw1 : IntKind.i64.wrap ((na : Int) + (nb : Int)) = (na : Int) + (nb : Int) := IntWalk.i64_in _ (by omega)
    have hw2 : IntKind.i64.wrap ((na : Int) + (nb : Int) + 7) = (na : Int) + (nb : Int) + 7 := IntWalk.i64_in _ (by omega)
    go_upto_region 12 with (fail)
    have HST : Hid (∀ m V, Hid (St w V p v7 all q G ([all, r3, r2, r1, b, []].getD m [])) → Below w.heap.size w V) := fun m V h => h.out.below
    have STd : Hid (St w W9.drew p v7 all q G all) := ST.out.drew
    refine wp_region_stage (Fr (At q)) (fun m V => Hid (St w V p v7 all q G ([all, r3, r2, r1, b, []].getD m []))) [(false, .exact (rptr q)),
        (false, .exact (.slice a0 na cap0)),
        (false, .exact (.int .i64 (na : Int))),
        (true, .grows (TookR a na q)),
        (false, .exact (.string ⟨a.toArray⟩)),
        (false, .exact (.slice a0 na cap0)),
        (false, .exact (.string ⟨a.toArray⟩)),
        (false, .exact (.bool true)),
        (false, .exact (.bool true)),
        (false, .exact (rptr q)),
        (true, .exact (.int .u32 (v : Int))),
        (false, .exact (.int .u32 (v : Int))),
        (false, .exact (.bool true)),
        (false, .exact (.bool true)),
        (false, .exact (.bool true)),
        (false, .exact (rptr q)),
        (true, .exact (.int .u16 (v16 : Int))),
        (false, .exact (.int .u32 (v : Int))),
        (false, .exact (.int .u16 (v16 : Int))),
        (false, .exact (.bool true)),
        (false, .exact (.bool true)),
        (false, .exact (.bool true)),
        (false, .exact (rptr q)),
        (true, .exact (.int .u8 (v8 : Int))),
        (false, .exact (.int .u32 (v : Int))),
        (false, .exact (.int .u8 (v8 : Int))),
        (false, .exact (.bool true)),
        (false, .exact (.bool true)),
        (false, .exact (.bool true)),
        (false, .exact (rptr q)),
        (false, .exact (.slice a1 nb cap1)),
        (false, .exact (.int .i64 (nb : Int))),
        (true, .grows (TookR b nb q)),
        (false, .exact (.string ⟨b.toArray⟩)),
        (false, .exact (.slice a1 nb cap1)),
        (false, .exact (.string ⟨b.toArray⟩)),
        (false, .exact (.bool true)),
        (false, .exact (.bool true)),
        (false, .exact (.bool true)),
        (false, .exact (rptr q)),
        (true, .exact (.int .i64 0)),
        (false, .exact (.bool true)),
        (false, .exact (.bool true)),
        (false, .exact (.bool true)),
        (false, .exact (rptr p)),
        (false, .exact (.int .i64 ((na : Int) + (nb : Int) + 7))),
        (false, .exact (.slice a0 na cap0)),
        (false, .exact (.int .i64 (na : Int))),
        (false, .exact (.slice a1 nb cap1)),
        (false, .exact (.int .i64 (nb : Int))),
        (false, .exact (.int .i64 ((na : Int) + (nb : Int)))),
        (false, .exact (.int .i64 ((na : Int) + (nb : Int) + 7))),
        (false, .exact (.bool true)),
        (false, .exact (.bool true)),
        (false, .exact (.bool true))] (by kernel_rfl) (by kernel_rfl) (by kernel_rfl) rfl ?lasts ?start ?walk
    case lasts => exact ⟨fun _ _ _ => TookR.keep, fun _ _ _ => TookR.keep, trivial⟩
    case start => exact STd
    case walk =>
      refine stage_pure rfl (fun V => Fr.refl _ _) (fun V m hS hl => by go_simp) ?_
      simp only [Act.put, List.setIfInBounds_toArray, List.set_cons_zero, List.set_cons_succ, List.cons_append, List.nil_append]
      refine stage_pure rfl (fun V => Fr.refl _ _) (fun V m hS hl => by go_simp) ?_
      simp only [Act.put, List.setIfInBounds_toArray, List.set_cons_zero, List.set_cons_succ, List.cons_append, List.nil_append]
      refine stage_pure rfl (fun V => Fr.refl _ _) (fun V m hS hl => by go_simp) ?_
      simp only [Act.put, List.setIfInBounds_toArray, List.set_cons_zero, List.set_cons_succ, List.cons_append, List.nil_append]
      refine stage_move_grows rfl (fun V hS hl => by
          go_simp
          refine (C1.out V hS).mono ?_
          rintro e V' ⟨A3, c3, rfl, h1, h2, h3, h4⟩
          exact ⟨_, rfl, h4, ⟨A3, c3, rfl, h1, h2⟩, h3⟩) (fun v42 => ?_)
      simp only [Act.put, List.setIfInBounds_toArray, List.set_cons_zero, List.set_cons_succ, List.cons_append, List.nil_append]
      refine stage_pure rfl (fun V => Fr.refl _ _) (fun V m hS hl => by
          obtain ⟨A3, c3, rfl, h1, _⟩ := (hl.1 (by kernel_rfl))
          have hcv := run_str (P := Try.prog) h1.out 22 9 5 Try.underlying22 Try.underlying5 Try.underlying9 na c3 HNA.out
          go_simp) ?_
      simp only [Act.put, List.setIfInBounds_toArray, List.set_cons_zero, List.set_cons_succ, List.cons_append, List.nil_append]
      refine stage_pure rfl (fun V => Fr.refl _ _) (fun V m hS hl => by go_simp) ?_
      simp only [Act.put, List.setIfInBounds_toArray, List.set_cons_zero, List.set_cons_succ, List.cons_append, List.nil_append]
      refine stage_pure rfl (fun V => Fr.refl _ _) (fun V m hS hl => by
          have hb := HST.out m V hS
          go_simp) ?_
      simp only [Act.put, List.setIfInBounds_toArray, List.set_cons_zero, List.set_cons_succ, List.cons_append, List.nil_append]
      refine stage_pure rfl (fun V => Fr.refl _ _) (fun V m hS hl => by go_simp) ?_
      simp only [Act.put, List.setIfInBounds_toArray, List.set_cons_zero, List.set_cons_succ, List.cons_append, List.nil_append]
      refine stage_pure rfl (fun V => Fr.refl _ _) (fun V m hS hl => by go_simp) ?_
      simp only [Act.put, List.setIfInBounds_toArray, List.set_cons_zero, List.set_cons_succ, List.cons_append, List.nil_append]
      refine stage_pure rfl (fun V => Fr.refl _ _) (fun V m hS hl => by go_simp) ?_
      simp only [Act.put, List.setIfInBounds_toArray, List.set_cons_zero, List.set_cons_succ, List.cons_append, List.nil_append]
      refine stage_move rfl (fun V hS hl => by
          go_simp
          refine (C2.out V hS).mono ?_
          rintro e V' ⟨rfl, h3, h4⟩
          exact ⟨_, rfl, h4, rfl, h3⟩) ?_
      simp only [Act.put, List.setIfInBounds_toArray, List.set_cons_zero, List.set_cons_succ, List.cons_append, List.nil_append]
      refine stage_pure rfl (fun V => Fr.refl _ _) (fun V m hS hl => by go_simp) ?_
      simp only [Act.put, List.setIfInBounds_toArray, List.set_cons_zero, List.set_cons_succ, List.cons_append, List.nil_append]
      refine stage_pure rfl (fun V => Fr.refl _ _) (fun V m hS hl => by go_simp) ?_
      simp only [Act.put, List.setIfInBounds_toArray, List.set_cons_zero, List.set_cons_succ, List.cons_append, List.nil_append]
      refine stage_pure rfl (fun V => Fr.refl _ _) (fun V m hS hl => by go_simp) ?_
      simp only [Act.put, List.setIfInBounds_toArray, List.set_cons_zero, List.set_cons_succ, List.cons_append, List.nil_append]
      refine stage_pure rfl (fun V => Fr.refl _ _) (fun V m hS hl => by go_simp) ?_
      simp only [Act.put, List.setIfInBounds_toArray, List.set_cons_zero, List.set_cons_succ, List.cons_append, List.nil_append]
      refine stage_pure rfl (fun V => Fr.refl _ _) (fun V m hS hl => by go_simp) ?_
      simp only [Act.put, List.setIfInBounds_toArray, List.set_cons_zero, List.set_cons_succ, List.cons_append, List.nil_append]
      refine stage_move rfl (fun V hS hl => by
          go_simp
          refine (C3.out V hS).mono ?_
          rintro e V' ⟨rfl, h3, h4⟩
          exact ⟨_, rfl, h4, rfl, h3⟩) ?_
      simp only [Act.put, List.setIfInBounds_toArray, List.set_cons_zero, List.set_cons_succ, List.cons_append, List.nil_append]
      refine stage_pure rfl (fun V => Fr.refl _ _) (fun V m hS hl => by go_simp) ?_
      simp only [Act.put, List.setIfInBounds_toArray, List.set_cons_zero, List.set_cons_succ, List.cons_append, List.nil_append]
      refine stage_pure rfl (fun V => Fr.refl _ _) (fun V m hS hl => by go_simp) ?_
      simp only [Act.put, List.setIfInBounds_toArray, List.set_cons_zero, List.set_cons_succ, List.cons_append, List.nil_append]
      refine stage_pure rfl (fun V => Fr.refl _ _) (fun V m hS hl => by go_simp) ?_
      simp only [Act.put, List.setIfInBounds_toArray, List.set_cons_zero, List.set_cons_succ, List.cons_append, List.nil_append]
      refine stage_pure rfl (fun V => Fr.refl _ _) (fun V m hS hl => by go_simp) ?_
      simp only [Act.put, List.setIfInBounds_toArray, List.set_cons_zero, List.set_cons_succ, List.cons_append, List.nil_append]
      refine stage_pure rfl (fun V => Fr.refl _ _) (fun V m hS hl => by go_simp) ?_
      simp only [Act.put, List.setIfInBounds_toArray, List.set_cons_zero, List.set_cons_succ, List.cons_append, List.nil_append]
      refine stage_pure rfl (fun V => Fr.refl _ _) (fun V m hS hl => by go_simp) ?_
      simp only [Act.put, List.setIfInBounds_toArray, List.set_cons_zero, List.set_cons_succ, List.cons_append, List.nil_append]
      refine stage_move rfl (fun V hS hl => by
          go_simp
          refine (C4.out V hS).mono ?_
          rintro e V' ⟨rfl, h3, h4⟩
          exact ⟨_, rfl, h4, rfl, h3⟩) ?_
      simp only [Act.put, List.setIfInBounds_toArray, List.set_cons_zero, List.set_cons_succ, List.cons_append, List.nil_append]
      refine stage_pure rfl (fun V => Fr.refl _ _) (fun V m hS hl => by go_simp) ?_
      simp only [Act.put, List.setIfInBounds_toArray, List.set_cons_zero, List.set_cons_succ, List.cons_append, List.nil_append]
      refine stage_pure rfl (fun V => Fr.refl _ _) (fun V m hS hl => by go_simp) ?_
      simp only [Act.put, List.setIfInBounds_toArray, List.set_cons_zero, List.set_cons_succ, List.cons_append, List.nil_append]
      refine stage_pure rfl (fun V => Fr.refl _ _) (fun V m hS hl => by go_simp) ?_
      simp only [Act.put, List.setIfInBounds_toArray, List.set_cons_zero, List.set_cons_succ, List.cons_append, List.nil_append]
      refine stage_pure rfl (fun V => Fr.refl _ _) (fun V m hS hl => by go_simp) ?_
      simp only [Act.put, List.setIfInBounds_toArray, List.set_cons_zero, List.set_cons_succ, List.cons_append, List.nil_append]
      refine stage_pure rfl (fun V => Fr.refl _ _) (fun V m hS hl => by go_simp) ?_
      simp only [Act.put, List.setIfInBounds_toArray, List.set_cons_zero, List.set_cons_succ, List.cons_append, List.nil_append]
      refine stage_pure rfl (fun V => Fr.refl _ _) (fun V m hS hl => by go_simp) ?_
      simp only [Act.put, List.setIfInBounds_toArray, List.set_cons_zero, List.set_cons_succ, List.cons_append, List.nil_append]
      refine stage_pure rfl (fun V => Fr.refl _ _) (fun V m hS hl => by go_simp) ?_
      simp only [Act.put, List.setIfInBounds_toArray, List.set_cons_zero, List.set_cons_succ, List.cons_append, List.nil_append]
      refine stage_pure rfl (fun V => Fr.refl _ _) (fun V m hS hl => by go_simp) ?_
      simp only [Act.put, List.setIfInBounds_toArray, List.set_cons_zero, List.set_cons_succ, List.cons_append, List.nil_append]
      refine stage_move_grows rfl (fun V hS hl => by
          go_simp
          refine (C5.out V hS).mono ?_
          rintro e V' ⟨A3, c3, rfl, h1, h2, h3, h4⟩
          exact ⟨_, rfl, h4, ⟨A3, c3, rfl, h1, h2⟩, h3⟩) (fun v71 => ?_)
      simp only [Act.put, List.setIfInBounds_toArray, List.set_cons_zero, List.set_cons_succ, List.cons_append, List.nil_append]
      refine stage_pure rfl (fun V => Fr.refl _ _) (fun V m hS hl => by
          obtain ⟨A3, c3, rfl, h1, _⟩ := (hl.2.1 (by kernel_rfl))
          have hcv := run_str (P := Try.prog) h1.out 22 9 5 Try.underlying22 Try.underlying5 Try.underlying9 nb c3 HNB.out
          go_simp) ?_
      simp only [Act.put, List.setIfInBounds_toArray, List.set_cons_zero, List.set_cons_succ, List.cons_append, List.nil_append]
      refine stage_pure rfl (fun V => Fr.refl _ _) (fun V m hS hl => by go_simp) ?_
      simp only [Act.put, List.setIfInBounds_toArray, List.set_cons_zero, List.set_cons_succ, List.cons_append, List.nil_append]
      refine stage_pure rfl (fun V => Fr.refl _ _) (fun V m hS hl => by
          have hb := HST.out m V hS
          go_simp) ?_
      simp only [Act.put, List.setIfInBounds_toArray, List.set_cons_zero, List.set_cons_succ, List.cons_append, List.nil_append]
      refine stage_pure rfl (fun V => Fr.refl _ _) (fun V m hS hl => by go_simp) ?_
      simp only [Act.put, List.setIfInBounds_toArray, List.set_cons_zero, List.set_cons_succ, List.cons_append, List.nil_append]
      refine stage_pure rfl (fun V => Fr.refl _ _) (fun V m hS hl => by go_simp) ?_
      simp only [Act.put, List.setIfInBounds_toArray, List.set_cons_zero, List.set_cons_succ, List.cons_append, List.nil_append]
      refine stage_pure rfl (fun V => Fr.refl _ _) (fun V m hS hl => by go_simp) ?_
      simp only [Act.put, List.setIfInBounds_toArray, List.set_cons_zero, List.set_cons_succ, List.cons_append, List.nil_append]
      refine stage_pure rfl (fun V => Fr.refl _ _) (fun V m hS hl => by go_simp) ?_
      simp only [Act.put, List.setIfInBounds_toArray, List.set_cons_zero, List.set_cons_succ, List.cons_append, List.nil_append]
      refine stage_move rfl (fun V hS hl => by
          go_simp
          refine (C6.out V hS).mono ?_
          rintro e V' ⟨rfl, rfl⟩
          exact ⟨_, rfl, Fr.refl _ _, rfl, hS⟩) ?_
      simp only [Act.put, List.setIfInBounds_toArray, List.set_cons_zero, List.set_cons_succ, List.cons_append, List.nil_append]
      refine stage_pure rfl (fun V => Fr.refl _ _) (fun V m hS hl => by go_simp) ?_
      simp only [Act.put, List.setIfInBounds_toArray, List.set_cons_zero, List.set_cons_succ, List.cons_append, List.nil_append]
      refine stage_pure rfl (fun V => Fr.refl _ _) (fun V m hS hl => by go_simp) ?_
      simp only [Act.put, List.setIfInBounds_toArray, List.set_cons_zero, List.set_cons_succ, List.cons_append, List.nil_append]
      refine stage_pure rfl (fun V => Fr.refl _ _) (fun V m hS hl => by go_simp) ?_
      simp only [Act.put, List.setIfInBounds_toArray, List.set_cons_zero, List.set_cons_succ, List.cons_append, List.nil_append]
      refine stage_pure rfl (fun V => Fr.refl _ _) (fun V m hS hl => by go_simp) ?_
      simp only [Act.put, List.setIfInBounds_toArray, List.set_cons_zero, List.set_cons_succ, List.cons_append, List.nil_append]
      refine stage_exact rfl (fun V m hS hl => by
          go_simp
          refine (C7.out m V hS).mono ?_
          rintro e V' ⟨rfl, rfl⟩
          exact ⟨_, rfl, Fr.refl _ _, rfl, hS⟩) ?_
      simp only [Act.put, List.setIfInBounds_toArray, List.set_cons_zero, List.set_cons_succ, List.cons_append, List.nil_append]
      refine stage_pure rfl (fun V => Fr.refl _ _) (fun V m hS hl => by go_simp) ?_
      simp only [Act.put, List.setIfInBounds_toArray, List.set_cons_zero, List.set_cons_succ, List.cons_append, List.nil_append]
      refine stage_pure rfl (fun V => Fr.refl _ _) (fun V m hS hl => by go_simp) ?_
      simp only [Act.put, List.setIfInBounds_toArray, List.set_cons_zero, List.set_cons_succ, List.cons_append, List.nil_append]
      refine stage_pure rfl (fun V => Fr.refl _ _) (fun V m hS hl => by go_simp) ?_
      simp only [Act.put, List.setIfInBounds_toArray, List.set_cons_zero, List.set_cons_succ, List.cons_append, List.nil_append]
      refine stage_pure rfl (fun V => Fr.refl _ _) (fun V m hS hl => by go_simp) ?_
      simp only [Act.put, List.setIfInBounds_toArray, List.set_cons_zero, List.set_cons_succ, List.cons_append, List.nil_append]
      refine stage_pure rfl (fun V => Fr.refl _ _) (fun V m hS hl => by go_simp) ?_
      simp only [Act.put, List.setIfInBounds_toArray, List.set_cons_zero, List.set_cons_succ, List.cons_append, List.nil_append]
      refine stage_pure rfl (fun V => Fr.refl _ _) (fun V m hS hl => by go_simp) ?_
      simp only [Act.put, List.setIfInBounds_toArray, List.set_cons_zero, List.set_cons_succ, List.cons_append, List.nil_append]
      refine stage_pure rfl (fun V => Fr.refl _ _) (fun V m hS hl => by go_simp) ?_
      simp only [Act.put, List.setIfInBounds_toArray, List.set_cons_zero, List.set_cons_succ, List.cons_append, List.nil_append]
      refine stage_pure rfl (fun V => Fr.refl _ _) (fun V m hS hl => by go_simp) ?_
      simp only [Act.put, List.setIfInBounds_toArray, List.set_cons_zero, List.set_cons_succ, List.cons_append, List.nil_append]
      refine stage_pure rfl (fun V => Fr.refl _ _) (fun V m hS hl => by go_simp) ?_
      simp only [Act.put, List.setIfInBounds_toArray, List.set_cons_zero, List.set_cons_succ, List.cons_append, List.nil_append]
      refine stage_nil (fun V hS hF => ?_)
      go_wp2_with fail
      go_ret
      exact ⟨rfl, HST.out _ V hS⟩

/-! ### The row's step -/
set_option maxRecDepth 100000 in
theorem lifted (os : Os) (started : os.Started) (H : Type) (enc : TypeId × Value → H) :
    ReturnsInHanded {} Try.checked os 5 .any (Rows.octetTwiceSpec.pre6 enc Try.prog Try.f5 Rows.octetTwiceRow.domain false) (Rows.octetTwiceSpec.post enc Try.prog Try.f5 false true false false) := by
  refine returnsInHanded_of_change (C := Try.checked) own started (by kernel_rfl) Try.func5
    (ChangeSpec.witness6 (enc := enc) (C := Try.checked) false ⟨#[], #[.slice none 0 0, .slice none 0 0, .int .u32 0], []⟩ 8 (by kernel_rfl) (by kernel_rfl) (by kernel_rfl) (by kernel_rfl)) ?_
  intro W base args ds gs before hval0 hW hcnd _
  have hval : ∀ (j : Nat) t v, Try.f5.params[j]? = some t → args[j]? = some v → Value.okWide Try.prog W .any base t v := hval0
  have hW' := hW
  obtain ⟨p, q, hA0, hV, rfl, hfz, hnd⟩ := hW
  have hA : DataW.TrodAll enc Try.prog W 0 (fun _ => true) true Try.f5.params.toList args.toList ds p := hA0
  rw [Try.params5] at hA hval
  obtain ⟨v0, vs0, d0, ds0, p0, q0, hargs, rfl, rfl, h0, r0⟩ := trodAll_cons hA
  obtain ⟨v1, vs1, d1, ds1, p1, q1, rfl, rfl, rfl, h1, r1⟩ := trodAll_cons r0
  obtain ⟨v2, vs2, d2, ds2, p2, q2, rfl, rfl, rfl, h2, r2⟩ := trodAll_cons r1
  obtain ⟨rfl, rfl, rfl⟩ := trodAll_nil r2
  obtain rfl : args = #[v0, v1, v2] := by cases args; simp_all
  obtain ⟨rfl, rfl⟩ := trodVars_none hV
  obtain ⟨a0, len0, cap0, rfl⟩ := okWide_slice Try.underlying22 (hval 0 22 v0 rfl rfl)
  have k0 := h0
  have lt0 : ∀ x ∈ p0, x.block < W.heap.size := by obtain ⟨m, hm⟩ := k0; exact DataW.trod_lt m _ _ _ hm
  obtain ⟨z0, w0⟩ : ∃ zs, IsRow .u8 W a0 len0 cap0 zs := by
    obtain ⟨fuel, hf⟩ := h0
    rcases open_ints Try.underlying22 Try.underlying5 (by kernel_rfl) hf with ⟨hcs, _⟩ | ⟨x, l, c, zs, hcs, _, hl, hm, hz, _, hcell, hwz⟩
    · simp [Value.cells] at hcs
      obtain ⟨rfl, rfl, rfl⟩ := hcs
      exact ⟨[], .inl ⟨rfl, rfl, rfl, rfl⟩⟩
    · simp [Value.cells] at hcs
      obtain ⟨rfl, rfl, rfl⟩ := hcs
      exact ⟨zs, .inr ⟨_, rfl, hl, hm, by simpa using hz, hcell, hwz⟩⟩
  obtain ⟨a1, len1, cap1, rfl⟩ := okWide_slice Try.underlying22 (hval 1 22 v1 rfl rfl)
  have k1 := h1
  have lt1 : ∀ x ∈ p1, x.block < W.heap.size := by obtain ⟨m, hm⟩ := k1; exact DataW.trod_lt m _ _ _ hm
  obtain ⟨z1, w1⟩ : ∃ zs, IsRow .u8 W a1 len1 cap1 zs := by
    obtain ⟨fuel, hf⟩ := h1
    rcases open_ints Try.underlying22 Try.underlying5 (by kernel_rfl) hf with ⟨hcs, _⟩ | ⟨x, l, c, zs, hcs, _, hl, hm, hz, _, hcell, hwz⟩
    · simp [Value.cells] at hcs
      obtain ⟨rfl, rfl, rfl⟩ := hcs
      exact ⟨[], .inl ⟨rfl, rfl, rfl, rfl⟩⟩
    · simp [Value.cells] at hcs
      obtain ⟨rfl, rfl, rfl⟩ := hcs
      exact ⟨zs, .inr ⟨_, rfl, hl, hm, by simpa using hz, hcell, hwz⟩⟩
  obtain ⟨a2, rfl, rfl, rfl, w2⟩ := open_int Try.underlying30 (hval 2 30 v2 rfl rfl) h2
  clear hA0 hval0
  refine (walk a0 len0 cap0 z0 a1 len1 cap1 z1 a2 W w0 w1 w2).mono fun e W' ⟨he, bel⟩ => ?_
  subst he
  exact ⟨_, rfl, _, _, _, [], _, [], hW', trodAll_mk1 (shut_bool Try.underlying4 _), (trodAll_cons_mk (Below.trod laidOut (by kernel_rfl) (of_decide_eq_true (by kernel_rfl)) k0 bel lt0) (trodAll_cons_mk (Below.trod laidOut (by kernel_rfl) (of_decide_eq_true (by kernel_rfl)) k1 bel lt1) (trodAll_cons_mk (shut_int Try.underlying30 w2) trodAll_mk0))), rfl, bel.frame _, fun h => by cases h⟩

theorem over : Rows.octetTwiceRow.holds Try.pinned (OpenSpec.ofChange Rows.octetTwiceSpec) :=
  OpenClaim.holds_of_wide 5 Try.f5 rfl rfl rfl rfl rfl rfl rfl ⟨rfl, rfl, rfl, rfl, rfl⟩ rfl rfl rfl rfl rfl (by kernel_rfl) Try.func5 (by kernel_rfl)
    (of_decide_eq_true (by kernel_rfl)) (by unfold Func.isWrapper; first | (rw [if_pos (by decide +kernel)]; kernel_rfl) | (rw [if_neg (by decide +kernel)]; exact ⟨rfl, rfl⟩))
    (fun os started H enc _ => lifted os started H enc)

theorem proved : Rows.OctetTwiceSaid := over
#print axioms proved
end Go.Proofs.Ytnnfjndbilapfaa.octetTwice
