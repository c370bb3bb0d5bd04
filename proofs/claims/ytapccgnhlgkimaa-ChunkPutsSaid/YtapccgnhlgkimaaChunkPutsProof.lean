/-
  PROVED: ChunkPuts of flumelaw06 answers true for every input, and its arguments read afterwards as before. CONDITIONS: none beside the form's own.
-/
import Derived.Test.YtapccgnhlgkimaaRows
import Derived.Test.YtapccgnhlgkimaaChOpen
import Derived.Test.YtapccgnhlgkimaaChSz
import Derived.Test.YtapccgnhlgkimaaChBk
import Derived.Test.YtapccgnhlgkimaaChRf2
import Derived.Test.YtapccgnhlgkimaaChRf3
import Derived.Test.YtapccgnhlgkimaaChRf4
import Derived.Test.YtapccgnhlgkimaaSees
import Derived.Test.YtapccgnhlgkimaaStage
import Derived.WalkKit
import Derived.ProofKit
import Derived.OpenShut
import Derived.ShutString
import Derived.ChangeOld
import Derived.Below
namespace Go.Proofs.Ytapccgnhlgkimaa.chunkPuts
open Go.ChangeShapes Go.WideShapes Go.ChangeAt Go.RowKit
open Go.ChangeMaps (open_string shut_string)
set_option linter.unusedVariables false
set_option linter.unusedSimpArgs false

theorem own : ownKnob Try.prog.godebug = none := by kernel_rfl
theorem laidOut : laidOutB Try.prog = true := by kernel_rfl

/-- What the walk is told of a slice of integers that came in. -/
def IsRow (k : IntKind) (w : World) (a : Option Addr) (len cap : Nat) (zs : List Int) : Prop :=
  (a = none ∧ len = 0 ∧ cap = 0 ∧ zs = []) ∨
  ∃ x, a = some x ∧ len ≤ cap ∧ cap ≤ maxLen ∧ zs.length = cap ∧ (∀ i, i < zs.length → w.cell? (x.add i) = some (.int k (zs.getD i 0))) ∧ ∀ n ∈ zs, (Lit.int k n).wf = true

/-! ### The walk -/
open Words Oct Par Chk
theorem load_run {w : World} {a : Act} {o : Oper} {x : Operand} {g : Nat} {cs : Array Value} (ho : o.op = .load 31 x) (hx : a.eval x = .pointer (some ⟨g, 0, none⟩)) (hb : CkBlk w g cs) (hs : cs.size = 19) :
    (execOp a.eval o).run Try.prog w = .ok (.value (.agg cs)) w := by
  have hl := load_chunk hb hs
  simp [execOp, ho, hx, Sem.run_bind, Result.andThen, hl]
/-- What Put answers, both ways in one. -/
theorem put_norm {w : World} {c : Ck} {e : Ending} {w' : World} (h : PutDoneC w c e w') : ∃ (kk n cp : Nat) (A : Option Addr) (l : List UInt8), e = .returned (.tuple #[.slice A n cp, .int .i64 (kk : Int)]) ∧ n ≤ 70000 ∧ n ≤ cp ∧ cp ≤ 9223372036854775807 ∧ n = l.length ∧ Byt w' w'.heap.size A l ∧ ((kk = 0 ∧ l = bytesC c ∧ Puts c) ∨ (PutErr c kk ∧ l = [])) := by
  rcases h with ⟨v, hp, rfl, ho⟩ | ⟨k, hk, rfl⟩
  · obtain ⟨A, cp, rfl, h1, h2, hy⟩ := own_as (n := (bytesC c).length) ho rfl
    have h3 := bytes_len c
    have h4 := puts_short hp
    have h5 : padC (cont c).length ≤ 3 := by unfold padC; omega
    exact ⟨0, _, cp, A, bytesC c, rfl, by omega, h1, h2, rfl, hy.out, .inl ⟨rfl, rfl, hp⟩⟩
  · exact ⟨k, 0, 0, none, [], rfl, by omega, by omega, by omega, rfl, by unfold Byt; exact Reads.none_, .inr ⟨hk, rfl⟩⟩
theorem err_one {c : Ck} {k k' : Nat} (h : PutErr c k) (h' : PutErr c k') : k = k' := by
  rcases h with ⟨rfl, a⟩ | ⟨rfl, a, b⟩ | ⟨rfl, a, b, d⟩ <;> rcases h' with ⟨rfl, a'⟩ | ⟨rfl, a', b'⟩ | ⟨rfl, a', b', d'⟩ <;> first | rfl | (simp_all)
theorem err_puts {c : Ck} {k : Nat} (h : PutErr c k) (p : Puts c) : False := by
  rcases h with ⟨rfl, a⟩ | ⟨rfl, a, b⟩ | ⟨rfl, a, b, d⟩
  · rw [p.known] at a; cases a
  · rw [p.full] at b; cases b
  · exact p.short d
theorem err_pos {c : Ck} {k : Nat} (h : PutErr c k) : k ≠ 0 := by rcases h with ⟨rfl, _⟩ | ⟨rfl, _⟩ | ⟨rfl, _⟩ <;> decide
set_option maxHeartbeats 8000000 in
set_option maxRecDepth 100000 in
theorem walk {H : Type} {enc : TypeId × Value → H} {base : Nat} (v0 : Value) (d0 : DataW H) (p0 : List MemPlace) (a1 : Option Addr) (len1 cap1 : Nat) (z1 : List Int) (w : World) (o0 : Value.okWide Try.prog w .any base 31 v0) (k0 : DataW.Trod enc Try.prog w 0 (fun _ => true) true 31 v0 d0 p0) (w1 : IsRow .u8 w a1 len1 cap1 z1) :
    Calls Try.prog 3 #[v0, .slice a1 len1 cap1] w fun e w' => e = .returned (.bool true) ∧ Below w.heap.size w w' := by
  obtain ⟨ml, hml, hmlc, hmcm, hmy⟩ := bytes_of w1
  have HML := Lib.hid hml
  have HMY := Lib.hid hmy
  rw [← hml] at hmlc
  clear w1 hml hmy
  obtain ⟨i0, hi0, hz0, hz1, hz2⟩ := info_parts3 u8_info
  obtain ⟨cs, rfl, hsz⟩ := okWide_struct Try.underlying31 o0
  have hsee : Sees w CkSh cs.toList := sees_of (sh := CkSh) rfl ckSh_fits k0
  obtain ⟨c, hat⟩ := ck_of hsee
  have HAT := Lib.hid hat
  have HSZ := Lib.hid hat.size
  have HCOK := Lib.hid hat.ok
  have hk256 := hat.ok.kind
  obtain ⟨_, _, _, _, _, hcells, _⟩ := hat.parts
  obtain ⟨kd, hkd⟩ : ∃ kd, kd = c.kind := ⟨_, rfl⟩
  have e0 := hcells.c0
  rw [← hkd] at e0 hk256
  have HKD := Lib.hid hkd
  have HE0 := Lib.hid e0
  have HBL := Lib.hid (Blk.new w 31 cs)
  have HB := Lib.hid ((Below.refl w.heap.size w).alloc (Nat.le_refl _) (.cells cs 31))
  clear hsz hsee o0 k0 hat hcells hkd e0
  go_enter Try.func3, Try.ntmps3
  go_upto_region 1 with (fail)
  obtain ⟨W0, hW0⟩ : ∃ W0, W0 = w.alloc (.cells cs 31) := ⟨_, rfl⟩
  rw [← hW0] at HBL HB ⊢
  obtain ⟨g0, hg0⟩ : ∃ g0, g0 = w.heap.size := ⟨_, rfl⟩
  rw [← hg0]
  have HG0 : Hid (CkBlk W0 g0 cs) := by rw [hg0]; exact HBL
  clear hW0 HBL hg0
  go_wp2_with fail
  refine (first_any W0).mono ?_
  rintro e W1 ⟨rfl, hb1⟩
  have HB1 := Lib.hid (HB.out.trans (hb1.mono HB.out.size))
  have HG1 : Hid (CkBlk W1 g0 cs) := HG0.out.below hb1 HG0.out.lt
  clear hb1 HG0 HB
  go_wp2_with (refine wpList_load_row rfl 31 _ rfl g0 rfl 31 cs (0, 0) _ HG1.out Try.underlying31 rfl (by rw [HSZ.out]; exact chunk_info) ?_)
  refine (size_k HB1.out.size (HAT.out.below HB1.out)).mono ?_
  rintro e W2 ⟨⟨s, rfl, hs⟩, hb2⟩
  have HSC := Lib.hid hs
  have HB2 := Lib.hid (HB1.out.trans (hb2.mono HB1.out.size))
  have HG2 : Hid (CkBlk W2 g0 cs) := HG1.out.below hb2 HG1.out.lt
  clear hb2 HG1 HB1 hs
  by_cases hbig : (400000 : Int) < (s : Int)
  · have d1 : decide ((400000 : Int) < (s : Int)) = true := decide_eq_true hbig
    go_wp2_with fail
    go_ret
    exact ⟨rfl, HB2.out⟩
  have d1 : decide ((400000 : Int) < (s : Int)) = false := decide_eq_false hbig
  by_cases hmore : (2000 : Int) < (len1 : Int)
  · have d2 : decide ((2000 : Int) < (len1 : Int)) = true := decide_eq_true hmore
    go_wp2_with fail
    go_ret
    exact ⟨rfl, HB2.out⟩
  have d2 : decide ((2000 : Int) < (len1 : Int)) = false := decide_eq_false hmore
  have HS4 : Hid (sizeC c ≤ 400000) := by have h1 := HSC.out (by omega); show _ ≤ _; omega
  have HSM : Hid (Small c) := by
    have h1 := HS4.out
    unfold sizeC at h1
    exact ⟨by omega, by omega, by omega⟩
  have hm2 : len1 ≤ 2000 := by omega
  clear HSC hbig hmore
  go_upto_region 5 with fail
  clear d1 d2
  have HAT2 : Hid (CkAt W2 W2.heap.size cs c) := (HAT.out.below HB2.out).more HB2.out.size
  go_wp2_with (refine wpList_load_row rfl 31 _ rfl g0 rfl 31 cs (0, 0) _ HG2.out Try.underlying31 rfl (by rw [HSZ.out]; exact chunk_info) ?_)
  refine (rcopy_k (Nat.le_refl _) HAT2.out (by have := HS4.out; omega)).mono ?_
  rintro e W3 ⟨⟨cs3, rfl, hat3⟩, hb3⟩
  have HAT3 := Lib.hid hat3
  have HSZ3 := Lib.hid hat3.size
  have HB3 := Lib.hid (HB2.out.trans (hb3.mono HB2.out.size))
  have HG3 : Hid (CkBlk W3 g0 cs) := HG2.out.below hb3 HG2.out.lt
  clear hat3 hb3 HG2 HAT2 HB2
  go_upto_region 6 with (refine wpList_store_row rfl 31 _ _ rfl W3.heap.size cs3 rfl rfl 31 _ (Blk.new W3 31 _) (by rw [HSZ3.out]; exact chunk_info) (by rw [HSZ3.out]; rfl) HAT3.out.one ?_)
  obtain ⟨HC4, HB4⟩ := kept_ck W3 zeroA cs3
  obtain ⟨W4, hW4⟩ : ∃ W4, W4 = (W3.alloc (.cells zeroA 31)).setRow W3.heap.size cs3 := ⟨_, rfl⟩
  rw [← hW4] at HC4 HB4
  obtain ⟨g5, hg5⟩ : ∃ g5, g5 = W3.heap.size := ⟨_, rfl⟩
  rw [← hg5] at HC4
  have hW4' : W4 = (W3.alloc (.cells #[.int .u8 0, .bool false, .bool false, .bool false, .bool false, .int .u32 0, .int .u16 0, .int .u32 0, .int .u32 0, .int .u32 0, .int .u32 0, .int .u32 0, .int .u16 0, .int .u16 0, .slice none 0 0, .slice none 0 0, .slice none 0 0, .slice none 0 0, .slice none 0 0] 31)).setRow W3.heap.size cs3 := hW4
  rw [← hW4', ← hg5]
  have HG4 : Hid (CkBlk W4 g0 cs) := HG3.out.below HB4 HG3.out.lt
  have HG45 : Hid (CkBlk W4 g5 cs3) := HC4
  have HAT4 : Hid (CkAt W4 W4.heap.size cs3 c) := (HAT3.out.below HB4).more HB4.size
  have HB4' := Lib.hid (HB3.out.trans (HB4.mono HB3.out.size))
  clear hW4 hW4' hg5 HC4 HB4 HG3 HAT3 HB3
  go_wp2_with (refine wpList_load_row rfl 31 _ rfl g5 rfl 31 cs3 (0, 0) _ HG45.out Try.underlying31 rfl (by rw [HSZ3.out]; exact chunk_info) ?_)
  refine (put_k HSM.out HAT4.out).mono ?_
  rintro e W5 ⟨hd, hb5⟩
  obtain ⟨kk, nb, c5, A5, l5, rfl, hnb, hc5, hm5, hl5, hy5, hw5⟩ := put_norm hd
  have HG5 : Hid (CkBlk W5 g0 cs) := HG4.out.below hb5 HG4.out.lt
  have HG55 : Hid (CkBlk W5 g5 cs3) := HG45.out.below hb5 HG45.out.lt
  have HAT5 : Hid (CkAt W5 W5.heap.size cs3 c) := (HAT4.out.below hb5).more hb5.size
  have HB5 := Lib.hid (HB4'.out.trans (hb5.mono HB4'.out.size))
  have HY5 := Lib.hid hy5
  have HL5 := Lib.hid hl5
  have HW5 := Lib.hid hw5
  clear hd hb5 hy5 hl5 hw5 HG4 HG45 HAT4 HB4'
  have HAC5 : Hid (CkAt W5 W5.heap.size cs c) := (HAT.out.below HB5.out).more HB5.out.size
  go_wp2_with (refine wpList_load_row rfl 31 _ rfl g0 rfl 31 cs (0, 0) _ HG5.out Try.underlying31 rfl (by rw [HSZ.out]; exact chunk_info) ?_)
  refine (rput_k HSM.out HAC5.out).mono ?_
  rintro e W6 ⟨hd, hb6⟩
  obtain ⟨kk', nb', c6, A6, l6, rfl, hnb6, hc6, hm6, hl6, hy6, hw6⟩ := put_norm hd
  have hkk : kk' = kk := by
    rcases HW5.out with ⟨h1, _, h2⟩ | ⟨h1, _⟩ <;> rcases hw6 with ⟨h3, _, h4⟩ | ⟨h3, _⟩
    · omega
    · exact (err_puts h3 h2).elim
    · exact (err_puts h1 h4).elim
    · exact err_one h3 h1
  have hll : l6 = l5 := by
    rcases HW5.out with ⟨h1, h1', h2⟩ | ⟨h1, h1'⟩ <;> rcases hw6 with ⟨h3, h3', h4⟩ | ⟨h3, h3'⟩
    · rw [h1', h3']
    · exact (err_puts h3 h2).elim
    · exact (err_puts h1 h4).elim
    · rw [h1', h3']
  subst hkk hll
  obtain rfl : nb' = nb := by rw [hl6]; exact HL5.out.symm
  have HG6 : Hid (CkBlk W6 g0 cs) := HG5.out.below hb6 HG5.out.lt
  have HG65 : Hid (CkBlk W6 g5 cs3) := HG55.out.below hb6 HG55.out.lt
  have HAT6 : Hid (CkAt W6 W6.heap.size cs3 c) := (HAT5.out.below hb6).more hb6.size
  have HB6 := Lib.hid (HB5.out.trans (hb6.mono HB5.out.size))
  have HAC6 : Hid (CkAt W6 W6.heap.size cs c) := (HAT.out.below HB6.out).more HB6.out.size
  have HY56 : Hid (Byt W6 W6.heap.size A5 l6) := (HY5.out.below hb6).more hb6.size
  have HY6 := Lib.hid hy6
  clear hd hb6 hy6 hl6 hw6 HG5 HG55 HAT5 HB5 HY5 HAC5
  obtain ⟨kn, hkn⟩ : ∃ kn, kn = known kd := ⟨_, rfl⟩
  have HKN := Lib.hid hkn
  have wkd : IntKind.i64.wrap (kd : Int) = (kd : Int) := IntWalk.i64_in _ (by omega)
  clear hkn
  go_upto_region 8 with fail
  have HST : Hid (Below W6.heap.size W6 W6.drew) := Below.drew (Below.refl _ _)
  refine wp_region_stage (fun _ _ => True) (fun m V => Hid (Below W6.heap.size W6 V)) [(false, .exact (.int .i64 (kk' : Int))),
      (false, .exact (.int .i64 (kk' : Int))),
      (false, .exact (.bool false)),
      (false, .exact (.bool false)),
      (false, .exact (.slice A5 nb' c5)),
      (false, .exact (.string ⟨l6.toArray⟩)),
      (false, .exact (.slice A6 nb' c6)),
      (false, .exact (.string ⟨l6.toArray⟩)),
      (false, .exact (.bool false)),
      (false, .exact (.bool false)),
      (false, .exact (.bool false)),
      (false, .exact (.agg cs3)),
      (false, .exact (.agg cs)),
      (false, .exact (.bool true)),
      (false, .exact (.bool false)),
      (false, .exact (.bool false)),
      (false, .exact (.bool false)),
      (false, .exact (.pointer (some ⟨g0, 0, none⟩))),
      (false, .exact (.int .u8 (kd : Int))),
      (false, .exact (.bool kn)),
      (false, .exact (.pointer (some ⟨g0, 0, none⟩))),
      (false, .exact (.int .u8 (kd : Int))),
      (false, .exact (.int .i64 (kd : Int))),
      (false, .exact (.bool kn)),
      (false, .exact (.bool false)),
      (false, .exact (.bool false))] (by kernel_rfl) (by kernel_rfl) (by kernel_rfl) rfl ?lasts ?start ?walk
  case lasts => exact trivial
  case start => exact HST
  case walk =>
    refine stage_pure rfl (fun _ => trivial) (fun V m hS hl => by go_simp) ?_
    simp only [Act.put, List.setIfInBounds_toArray, List.set_cons_zero, List.set_cons_succ, List.cons_append, List.nil_append]
    refine stage_pure rfl (fun _ => trivial) (fun V m hS hl => by go_simp) ?_
    simp only [Act.put, List.setIfInBounds_toArray, List.set_cons_zero, List.set_cons_succ, List.cons_append, List.nil_append]
    refine stage_pure rfl (fun _ => trivial) (fun V m hS hl => by go_simp) ?_
    simp only [Act.put, List.setIfInBounds_toArray, List.set_cons_zero, List.set_cons_succ, List.cons_append, List.nil_append]
    refine stage_pure rfl (fun _ => trivial) (fun V m hS hl => by go_simp) ?_
    simp only [Act.put, List.setIfInBounds_toArray, List.set_cons_zero, List.set_cons_succ, List.cons_append, List.nil_append]
    refine stage_pure rfl (fun _ => trivial) (fun V m hS hl => by go_simp) ?_
    simp only [Act.put, List.setIfInBounds_toArray, List.set_cons_zero, List.set_cons_succ, List.cons_append, List.nil_append]
    refine stage_pure rfl (fun _ => trivial) (fun V m hS hl => by
        have hcv := run_str (P := Try.prog) (HY56.out.below hS.out) 29 9 5 Try.underlying29 Try.underlying5 Try.underlying9 nb' c5 HL5.out
        go_simp) ?_
    simp only [Act.put, List.setIfInBounds_toArray, List.set_cons_zero, List.set_cons_succ, List.cons_append, List.nil_append]
    refine stage_pure rfl (fun _ => trivial) (fun V m hS hl => by go_simp) ?_
    simp only [Act.put, List.setIfInBounds_toArray, List.set_cons_zero, List.set_cons_succ, List.cons_append, List.nil_append]
    refine stage_pure rfl (fun _ => trivial) (fun V m hS hl => by
        have hcv := run_str (P := Try.prog) (HY6.out.below hS.out) 29 9 5 Try.underlying29 Try.underlying5 Try.underlying9 nb' c6 HL5.out
        go_simp) ?_
    simp only [Act.put, List.setIfInBounds_toArray, List.set_cons_zero, List.set_cons_succ, List.cons_append, List.nil_append]
    refine stage_pure rfl (fun _ => trivial) (fun V m hS hl => by go_simp) ?_
    simp only [Act.put, List.setIfInBounds_toArray, List.set_cons_zero, List.set_cons_succ, List.cons_append, List.nil_append]
    refine stage_pure rfl (fun _ => trivial) (fun V m hS hl => by go_simp) ?_
    simp only [Act.put, List.setIfInBounds_toArray, List.set_cons_zero, List.set_cons_succ, List.cons_append, List.nil_append]
    refine stage_pure rfl (fun _ => trivial) (fun V m hS hl => by go_simp) ?_
    simp only [Act.put, List.setIfInBounds_toArray, List.set_cons_zero, List.set_cons_succ, List.cons_append, List.nil_append]
    refine stage_pure rfl (fun _ => trivial) (fun V m hS hl => by exact load_run rfl rfl (HG65.out.below hS.out HG65.out.lt) HSZ3.out) ?_
    simp only [Act.put, List.setIfInBounds_toArray, List.set_cons_zero, List.set_cons_succ, List.cons_append, List.nil_append]
    refine stage_pure rfl (fun _ => trivial) (fun V m hS hl => by exact load_run rfl rfl (HG6.out.below hS.out HG6.out.lt) HSZ.out) ?_
    simp only [Act.put, List.setIfInBounds_toArray, List.set_cons_zero, List.set_cons_succ, List.cons_append, List.nil_append]
    refine stage_exact rfl (fun V m hS hl => by
        go_simp
        refine (rsame_k ((HAT6.out.below hS.out).more hS.out.size) ((HAC6.out.below hS.out).more hS.out.size) (Nat.le_refl _) (Nat.le_refl _)).mono ?_
        rintro e V' ⟨rfl, hb⟩
        exact ⟨_, rfl, rfl, hS.out.trans (hb.mono hS.out.size)⟩) ?_
    simp only [Act.put, List.setIfInBounds_toArray, List.set_cons_zero, List.set_cons_succ, List.cons_append, List.nil_append]
    refine stage_pure rfl (fun _ => trivial) (fun V m hS hl => by go_simp) ?_
    simp only [Act.put, List.setIfInBounds_toArray, List.set_cons_zero, List.set_cons_succ, List.cons_append, List.nil_append]
    refine stage_pure rfl (fun _ => trivial) (fun V m hS hl => by go_simp) ?_
    simp only [Act.put, List.setIfInBounds_toArray, List.set_cons_zero, List.set_cons_succ, List.cons_append, List.nil_append]
    refine stage_pure rfl (fun _ => trivial) (fun V m hS hl => by go_simp) ?_
    simp only [Act.put, List.setIfInBounds_toArray, List.set_cons_zero, List.set_cons_succ, List.cons_append, List.nil_append]
    refine stage_pure rfl (fun _ => trivial) (fun V m hS hl => by go_simp) ?_
    simp only [Act.put, List.setIfInBounds_toArray, List.set_cons_zero, List.set_cons_succ, List.cons_append, List.nil_append]
    refine stage_pure rfl (fun _ => trivial) (fun V m hS hl => by
        have hc : V.cell? ⟨g0, 0, none⟩ = some (.int .u8 (kd : Int)) := CkBlk.at (HG6.out.below hS.out HG6.out.lt) HE0.out
        go_simp) ?_
    simp only [Act.put, List.setIfInBounds_toArray, List.set_cons_zero, List.set_cons_succ, List.cons_append, List.nil_append]
    refine stage_exact rfl (fun V m hS hl => by
        go_simp
        refine (known_c kd hk256 V).mono ?_
        rintro e V' ⟨rfl, rfl⟩
        exact ⟨_, rfl, by rw [HKN.out], hS⟩) ?_
    simp only [Act.put, List.setIfInBounds_toArray, List.set_cons_zero, List.set_cons_succ, List.cons_append, List.nil_append]
    refine stage_pure rfl (fun _ => trivial) (fun V m hS hl => by go_simp) ?_
    simp only [Act.put, List.setIfInBounds_toArray, List.set_cons_zero, List.set_cons_succ, List.cons_append, List.nil_append]
    refine stage_pure rfl (fun _ => trivial) (fun V m hS hl => by
        have hc : V.cell? ⟨g0, 0, none⟩ = some (.int .u8 (kd : Int)) := CkBlk.at (HG6.out.below hS.out HG6.out.lt) HE0.out
        go_simp) ?_
    simp only [Act.put, List.setIfInBounds_toArray, List.set_cons_zero, List.set_cons_succ, List.cons_append, List.nil_append]
    refine stage_pure rfl (fun _ => trivial) (fun V m hS hl => by go_simp) ?_
    simp only [Act.put, List.setIfInBounds_toArray, List.set_cons_zero, List.set_cons_succ, List.cons_append, List.nil_append]
    refine stage_exact rfl (fun V m hS hl => by
        go_simp
        refine (rknown_any kd hk256 V).mono ?_
        rintro e V' ⟨rfl, rfl⟩
        exact ⟨_, rfl, by rw [HKN.out], hS⟩) ?_
    simp only [Act.put, List.setIfInBounds_toArray, List.set_cons_zero, List.set_cons_succ, List.cons_append, List.nil_append]
    refine stage_pure rfl (fun _ => trivial) (fun V m hS hl => by go_simp) ?_
    simp only [Act.put, List.setIfInBounds_toArray, List.set_cons_zero, List.set_cons_succ, List.cons_append, List.nil_append]
    refine stage_pure rfl (fun _ => trivial) (fun V m hS hl => by go_simp) ?_
    simp only [Act.put, List.setIfInBounds_toArray, List.set_cons_zero, List.set_cons_succ, List.cons_append, List.nil_append]
    refine stage_nil (fun V hS hF => ?_)
    have HB7 := Lib.hid (HB6.out.trans (hS.out.mono HB6.out.size))
    have HG7 : Hid (CkBlk V g0 cs) := HG6.out.below hS.out HG6.out.lt
    have HY7 : Hid (Byt V V.heap.size A5 l6) := (HY56.out.below hS.out).more hS.out.size
    clear hS hF HG6 HG65 HAT6 HAC6 HY56 HY6 HST HB6
    by_cases hk0 : kk' = 0
    rotate_left
    · have hne : ((kk' : Int) != 0) = true := by simp; omega
      have hz : nb' = 0 := by
        rcases HW5.out with ⟨h1, _⟩ | ⟨_, h2⟩
        · exact absurd h1 hk0
        · rw [HL5.out, h2]; rfl
      subst hz
      clear hk0
      go_wp2_with fail
      go_ret
      exact ⟨ret_bool (by simp), HB7.out⟩
    subst hk0
    have HPB : Hid (l6 = bytesC c ∧ Puts c) := by
      rcases HW5.out with ⟨_, h2, h3⟩ | ⟨h1, _⟩
      · exact ⟨h2, h3⟩
      · exact absurd rfl (err_pos h1)
    have HE5 := Lib.hid (own_empty V 5)
    have HMY7 : Hid (Reads V V.heap.size 1 a1 len1 (u8s ml)) := by have := (HMY.out.below HB7.out).more HB7.out.size; unfold Byt at this; rw [← HML.out] at this; exact this
    go_wp2_with (first
      | (at_builtin; refine wpList_append_any _ rfl (.tmp 67) (.tmp 68) _ rfl V.heap.size 5 i0 _ 1 1 Try.underlying29 hi0 hz0 hz1 hz2 rfl (by omega) (.slice (some ⟨V.heap.size, 0, none⟩) 0 0) 0 [] rfl HE5.out V.heap.size A5 nb' c5 (u8s l6) rfl (by have := HY7.out.alloc (Nat.le_refl _) (.cells #[] 5); unfold Byt at this; rw [← HL5.out] at this; exact this) (u8s_one _) (by simp only [maxLen]; omega) (by omega) (by simp) ?_; intro v6 w6 hown6 hg6 hat6; obtain ⟨n6, A6', c6', rfl, HN6, hnq6, hnc6, hc6', HO6, HB6'⟩ := copied (Below.refl _ V) hown6 HL5.out hg6; clear hown6 hg6 hat6)
      | (at_builtin; refine wpList_append_any _ rfl (.tmp 69) (.tmp 70) _ rfl V.heap.size 5 i0 _ 1 1 Try.underlying29 hi0 hz0 hz1 hz2 rfl (by omega) (.slice A6' n6 c6') n6 (u8s l6) rfl HO6.out V.heap.size a1 len1 cap1 (u8s ml) rfl (HMY7.out.below HB6'.out) (u8s_one _) (by simp only [maxLen]; omega) (by omega) HB6'.out.size ?_; intro v7 w7 hown7 hg7 hat7; obtain ⟨A7, c7, rfl, hc7, hm7⟩ := own_slice hown7; have HO7 := Lib.hid hown7; have HB78 : Hid (Below V.heap.size V w7) := HB6'.out.grown hg7 HB6'.out.size (fun b e => (HO6.out.lt b e).1); clear hown7 hg7 hat7))
    have HNZ : Hid (n6 + len1 = (l6 ++ ml).length) := by rw [List.length_append, ← HN6.out, ← HML.out]; rfl
    have HZ7 : Hid (Byt w7 w7.heap.size A7 (l6 ++ ml)) := by
      have := HO7.out
      rw [← u8s_append, HNZ.out] at this
      exact Reads.of_own this
    refine (get_k HNZ.out hc7 hm7 HZ7.out).mono ?_
    rintro e W8 ⟨hb8, hd⟩
    have hgb : getC (l6 ++ ml) = .ok (strip c, nb') := by rw [HL5.out, HPB.out.1, getC_bytes HCOK.out HPB.out.2, fill_strip HPB.out.2.known]
    rw [hgb] at hd
    rcases hd with ⟨c8, n8, cs8, he, rfl, hown, hok8⟩ | ⟨_, he, _⟩
    rotate_left
    · cases he
    injection he with he
    injection he with he1 he2
    subst he1 he2
    have HAT8 := Lib.hid (hown.at_ hok8)
    have HSZ8 := Lib.hid (hown.at_ hok8).size
    have HB58 : Hid (Below V.heap.size V W8) := HB78.out.trans (hb8.mono HB78.out.size)
    clear hgb hb8 hown hok8 HB6' HO6 HO7 HB78 HZ7 HE5 HMY7
    go_upto_region 13 with (refine wpList_store_row rfl 31 _ _ rfl W8.heap.size cs8 rfl rfl 31 _ (Blk.new W8 31 _) (by rw [HSZ8.out]; exact chunk_info) (by rw [HSZ8.out]; rfl) HAT8.out.one ?_)
    obtain ⟨HC9, HB9⟩ := kept_ck W8 zeroA cs8
    obtain ⟨W9, hW9⟩ : ∃ W9, W9 = (W8.alloc (.cells zeroA 31)).setRow W8.heap.size cs8 := ⟨_, rfl⟩
    rw [← hW9] at HC9 HB9
    obtain ⟨g9, hg9⟩ : ∃ g9, g9 = W8.heap.size := ⟨_, rfl⟩
    rw [← hg9] at HC9
    have hW9' : W9 = (W8.alloc (.cells #[.int .u8 0, .bool false, .bool false, .bool false, .bool false, .int .u32 0, .int .u16 0, .int .u32 0, .int .u32 0, .int .u32 0, .int .u32 0, .int .u32 0, .int .u16 0, .int .u16 0, .slice none 0 0, .slice none 0 0, .slice none 0 0, .slice none 0 0, .slice none 0 0] 31)).setRow W8.heap.size cs8 := hW9
    rw [← hW9', ← hg9]
    have HBV9 : Hid (Below V.heap.size V W9) := HB58.out.trans (HB9.mono HB58.out.size)
    have HB9' := Lib.hid (HB7.out.trans (HBV9.out.mono HB7.out.size))
    have HG90 : Hid (CkBlk W9 g0 cs) := HG7.out.below HBV9.out HG7.out.lt
    have HG99 : Hid (CkBlk W9 g9 cs8) := HC9
    have HAT9 : Hid (CkAt W9 W9.heap.size cs8 (strip c)) := (HAT8.out.below HB9).more HB9.size
    have HAC9 : Hid (CkAt W9 W9.heap.size cs c) := (HAT.out.below HB9'.out).more HB9'.out.size
    clear hW9 hW9' hg9 HC9 HB9 HAT8 HB58 HBV9 HB7 HG7 HY7
    have HST : Hid (Below W9.heap.size W9 W9.drew) := Below.drew (Below.refl _ _)
    have hsl5 : c.skips.length ≤ 500000 := by have := HSM.out.skips; omega
    refine wp_region_stage (fun V V' => Below V.heap.size V V') (fun m V => Hid (Below W9.heap.size W9 V)) [(false, .exact (.int .i64 0)),
        (false, .exact (.bool true)),
        (false, .exact (.bool true)),
        (false, .exact (.int .i64 (nb' : Int))),
        (false, .exact (.slice A5 nb' c5)),
        (false, .exact (.int .i64 (nb' : Int))),
        (false, .exact (.bool true)),
        (false, .exact (.bool true)),
        (false, .exact (.bool true)),
        (false, .exact (.agg cs8)),
        (false, .exact (.agg cs)),
        (false, .grows ((fun v V => ∃ cs', v = .agg cs' ∧ CkAt V V.heap.size cs' (strip c)))),
        (false, .exact (.bool true)),
        (false, .exact (.bool true)),
        (false, .exact (.bool true))] (by kernel_rfl) (by kernel_rfl) (by kernel_rfl) rfl ?lasts ?start ?walk
    case lasts => exact ⟨fun v V V' h k => by obtain ⟨cs', rfl, h⟩ := h; exact ⟨cs', rfl, (h.below k).more k.size⟩, trivial⟩
    case start => exact HST
    case walk =>
      refine stage_pure rfl (fun V => Below.refl _ V) (fun V m hS hl => by go_simp) ?_
      simp only [Act.put, List.setIfInBounds_toArray, List.set_cons_zero, List.set_cons_succ, List.cons_append, List.nil_append]
      refine stage_pure rfl (fun V => Below.refl _ V) (fun V m hS hl => by go_simp) ?_
      simp only [Act.put, List.setIfInBounds_toArray, List.set_cons_zero, List.set_cons_succ, List.cons_append, List.nil_append]
      refine stage_pure rfl (fun V => Below.refl _ V) (fun V m hS hl => by go_simp) ?_
      simp only [Act.put, List.setIfInBounds_toArray, List.set_cons_zero, List.set_cons_succ, List.cons_append, List.nil_append]
      refine stage_pure rfl (fun V => Below.refl _ V) (fun V m hS hl => by go_simp) ?_
      simp only [Act.put, List.setIfInBounds_toArray, List.set_cons_zero, List.set_cons_succ, List.cons_append, List.nil_append]
      refine stage_pure rfl (fun V => Below.refl _ V) (fun V m hS hl => by go_simp) ?_
      simp only [Act.put, List.setIfInBounds_toArray, List.set_cons_zero, List.set_cons_succ, List.cons_append, List.nil_append]
      refine stage_pure rfl (fun V => Below.refl _ V) (fun V m hS hl => by go_simp) ?_
      simp only [Act.put, List.setIfInBounds_toArray, List.set_cons_zero, List.set_cons_succ, List.cons_append, List.nil_append]
      refine stage_pure rfl (fun V => Below.refl _ V) (fun V m hS hl => by go_simp) ?_
      simp only [Act.put, List.setIfInBounds_toArray, List.set_cons_zero, List.set_cons_succ, List.cons_append, List.nil_append]
      refine stage_pure rfl (fun V => Below.refl _ V) (fun V m hS hl => by go_simp) ?_
      simp only [Act.put, List.setIfInBounds_toArray, List.set_cons_zero, List.set_cons_succ, List.cons_append, List.nil_append]
      refine stage_pure rfl (fun V => Below.refl _ V) (fun V m hS hl => by go_simp) ?_
      simp only [Act.put, List.setIfInBounds_toArray, List.set_cons_zero, List.set_cons_succ, List.cons_append, List.nil_append]
      refine stage_pure rfl (fun V => Below.refl _ V) (fun V m hS hl => by exact load_run rfl rfl (HG99.out.below hS.out HG99.out.lt) HSZ8.out) ?_
      simp only [Act.put, List.setIfInBounds_toArray, List.set_cons_zero, List.set_cons_succ, List.cons_append, List.nil_append]
      refine stage_pure rfl (fun V => Below.refl _ V) (fun V m hS hl => by exact load_run rfl rfl (HG90.out.below hS.out HG90.out.lt) HSZ.out) ?_
      simp only [Act.put, List.setIfInBounds_toArray, List.set_cons_zero, List.set_cons_succ, List.cons_append, List.nil_append]
      refine stage_grows rfl (fun V m hS hl => by
          go_simp
          refine (rstrip_k (Nat.le_refl _) ((HAC9.out.below hS.out).more hS.out.size) HPB.out.2.known hsl5).mono ?_
          rintro e V' ⟨⟨cs', rfl, h⟩, hb⟩
          exact ⟨_, rfl, hb, ⟨cs', rfl, h⟩, hS.out.trans (hb.mono hS.out.size)⟩) (fun v87 => ?_)
      simp only [Act.put, List.setIfInBounds_toArray, List.set_cons_zero, List.set_cons_succ, List.cons_append, List.nil_append]
      refine stage_exact rfl (fun V m hS hl => by
          obtain ⟨cs', rfl, h⟩ := (hl.1 (by kernel_rfl))
          go_simp
          refine (rsame_k ((HAT9.out.below hS.out).more hS.out.size) h (Nat.le_refl _) (Nat.le_refl _)).mono ?_
          rintro e V' ⟨rfl, hb⟩
          exact ⟨_, rfl, hb, rfl, hS.out.trans (hb.mono hS.out.size)⟩) ?_
      simp only [Act.put, List.setIfInBounds_toArray, List.set_cons_zero, List.set_cons_succ, List.cons_append, List.nil_append]
      refine stage_pure rfl (fun V => Below.refl _ V) (fun V m hS hl => by go_simp) ?_
      simp only [Act.put, List.setIfInBounds_toArray, List.set_cons_zero, List.set_cons_succ, List.cons_append, List.nil_append]
      refine stage_pure rfl (fun V => Below.refl _ V) (fun V m hS hl => by go_simp) ?_
      simp only [Act.put, List.setIfInBounds_toArray, List.set_cons_zero, List.set_cons_succ, List.cons_append, List.nil_append]
      refine stage_nil (fun V2 hS hF => ?_)
      have HBZ := Lib.hid (HB9'.out.trans (hS.out.mono HB9'.out.size))
      clear hS hF
      go_wp2_with fail
      go_ret
      exact ⟨rfl, HBZ.out⟩

/-! ### The row's step -/
set_option maxRecDepth 100000 in
theorem lifted (os : Os) (started : os.Started) (H : Type) (enc : TypeId × Value → H) :
    ReturnsInHanded {} Try.checked os 3 .any (Rows.chunkPutsSpec.pre6 enc Try.prog Try.f3 Rows.chunkPutsRow.domain false) (Rows.chunkPutsSpec.post enc Try.prog Try.f3 false true false false) := by
  refine returnsInHanded_of_change (C := Try.checked) own started (by kernel_rfl) Try.func3
    (ChangeSpec.witness6 (enc := enc) (C := Try.checked) false ⟨#[], #[.agg #[.int .u8 0, .bool false, .bool false, .bool false, .bool false, .int .u32 0, .int .u16 0, .int .u32 0, .int .u32 0, .int .u32 0, .int .u32 0, .int .u32 0, .int .u16 0, .int .u16 0, .slice none 0 0, .slice none 0 0, .slice none 0 0, .slice none 0 0, .slice none 0 0], .slice none 0 0], []⟩ 8 (by kernel_rfl) (by kernel_rfl) (by kernel_rfl) (by kernel_rfl)) ?_
  intro W base args ds gs before hval0 hW hcnd _
  have hval : ∀ (j : Nat) t v, Try.f3.params[j]? = some t → args[j]? = some v → Value.okWide Try.prog W .any base t v := hval0
  have hW' := hW
  obtain ⟨p, q, hA0, hV, rfl, hfz, hnd⟩ := hW
  have hA : DataW.TrodAll enc Try.prog W 0 (fun _ => true) true Try.f3.params.toList args.toList ds p := hA0
  rw [Try.params3] at hA hval
  obtain ⟨v0, vs0, d0, ds0, p0, q0, hargs, rfl, rfl, h0, r0⟩ := trodAll_cons hA
  obtain ⟨v1, vs1, d1, ds1, p1, q1, rfl, rfl, rfl, h1, r1⟩ := trodAll_cons r0
  obtain ⟨rfl, rfl, rfl⟩ := trodAll_nil r1
  obtain rfl : args = #[v0, v1] := by cases args; simp_all
  obtain ⟨rfl, rfl⟩ := trodVars_none hV
  have lt0 : ∀ x ∈ p0, x.block < W.heap.size := by obtain ⟨m, hm⟩ := h0; exact DataW.trod_lt m _ _ _ hm
  obtain ⟨a1, len1, cap1, rfl⟩ := okWide_slice Try.underlying29 (hval 1 29 v1 rfl rfl)
  have k1 := h1
  have lt1 : ∀ x ∈ p1, x.block < W.heap.size := by obtain ⟨m, hm⟩ := k1; exact DataW.trod_lt m _ _ _ hm
  obtain ⟨z1, w1⟩ : ∃ zs, IsRow .u8 W a1 len1 cap1 zs := by
    obtain ⟨fuel, hf⟩ := h1
    rcases open_ints Try.underlying29 Try.underlying5 (by kernel_rfl) hf with ⟨hcs, _⟩ | ⟨x, l, c, zs, hcs, _, hl, hm, hz, _, hcell, hwz⟩
    · simp [Value.cells] at hcs
      obtain ⟨rfl, rfl, rfl⟩ := hcs
      exact ⟨[], .inl ⟨rfl, rfl, rfl, rfl⟩⟩
    · simp [Value.cells] at hcs
      obtain ⟨rfl, rfl, rfl⟩ := hcs
      exact ⟨zs, .inr ⟨_, rfl, hl, hm, by simpa using hz, hcell, hwz⟩⟩
  clear hA0 hval0
  refine (walk v0 d0 p0 a1 len1 cap1 z1 W (hval 0 31 v0 rfl rfl) h0 w1).mono fun e W' ⟨he, bel⟩ => ?_
  subst he
  exact ⟨_, rfl, _, _, _, [], _, [], hW', trodAll_mk1 (shut_bool Try.underlying4 _), (trodAll_cons_mk (Below.trod laidOut (by kernel_rfl) (of_decide_eq_true (by kernel_rfl)) h0 bel lt0) (trodAll_cons_mk (Below.trod laidOut (by kernel_rfl) (of_decide_eq_true (by kernel_rfl)) k1 bel lt1) trodAll_mk0)), rfl, bel.frame _, fun h => by cases h⟩

theorem over : Rows.chunkPutsRow.holds Try.pinned (OpenSpec.ofChange Rows.chunkPutsSpec) :=
  OpenClaim.holds_of_wide 3 Try.f3 rfl rfl rfl rfl rfl rfl rfl ⟨rfl, rfl, rfl, rfl, rfl⟩ rfl rfl rfl rfl rfl (by kernel_rfl) Try.func3 (by kernel_rfl)
    (of_decide_eq_true (by kernel_rfl)) (by unfold Func.isWrapper; first | (rw [if_pos (by decide +kernel)]; kernel_rfl) | (rw [if_neg (by decide +kernel)]; exact ⟨rfl, rfl⟩))
    (fun os started H enc _ => lifted os started H enc)

theorem proved : Rows.ChunkPutsSaid := over
#print axioms proved
end Go.Proofs.Ytapccgnhlgkimaa.chunkPuts
