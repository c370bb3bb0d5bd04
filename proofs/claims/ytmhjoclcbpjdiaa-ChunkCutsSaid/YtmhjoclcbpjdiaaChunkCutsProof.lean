/-
  PROVED: ChunkCuts of flumelaw06 answers true for every input, and its arguments read afterwards as before. CONDITIONS: none beside the form's own.
-/
import Derived.Test.YtmhjoclcbpjdiaaRows
import Derived.Test.YtmhjoclcbpjdiaaChOpen
import Derived.Test.YtmhjoclcbpjdiaaChSz
import Derived.Test.YtmhjoclcbpjdiaaChBk
import Derived.Test.YtmhjoclcbpjdiaaSees
import Derived.WalkKit
import Derived.ProofKit
import Derived.OpenShut
import Derived.ShutString
import Derived.ChangeOld
import Derived.Below
namespace Go.Proofs.Ytmhjoclcbpjdiaa.chunkCuts
open Go.ChangeShapes Go.WideShapes Go.ChangeAt Go.RowKit
open Go.ChangeMaps (open_string shut_string)
set_option linter.unusedVariables false
set_option linter.unusedSimpArgs false

theorem own : ownKnob Try.prog.godebug = none := by kernel_rfl
theorem laidOut : laidOutB Try.prog = true := by kernel_rfl

/-- What the walk is told of a slice of integers that came in. -/
def IsRow (k : IntKind) (w : World) (a : Option Addr) (len cap : Nat) (zs : List Int) : Prop :=
  (a = none ∧ len = 0 ∧ cap = 0 ∧ zs = []) ∨
  ∃ x, a = some x ∧ len ≤ cap ∧ cap ≤ maxLen ∧ zs.length = cap ∧ (∀ i, i < zs.length → w.cell? (x.add i) = some (.int k (zs.getD i 0))) ∧ ∀ n ∈ zs, (Lit.int k n).wf = true

/-! ### The walk -/
open Words Oct Par Chk
theorem two_byt (w : World) (t : UInt8) : Reads (w.alloc (.cells #[.int .u8 (t.toNat : Int), .int .u8 (t.toNat : Int)] 5)) (w.heap.size + 1) 1 (some ⟨w.heap.size, 0, none⟩) 2 (u8s [t, t]) :=
  byt_of_heap (l := [t, t]) (Blk.new w 5 #[.int .u8 (t.toNat : Int), .int .u8 (t.toNat : Int)]) (Nat.lt_succ_self _) rfl
set_option maxHeartbeats 4000000 in
set_option maxRecDepth 100000 in
theorem walk {H : Type} {enc : TypeId × Value → H} {base : Nat} (v0 : Value) (d0 : DataW H) (p0 : List MemPlace) (a1 : Int) (a2 : Int) (w : World) (o0 : Value.okWide Try.prog w .any base 31 v0) (k0 : DataW.Trod enc Try.prog w 0 (fun _ => true) true 31 v0 d0 p0) (w1 : (Lit.int .i64 a1).wf = true) (w2 : (Lit.int .u8 a2).wf = true) :
    Calls Try.prog 5 #[v0, .int .i64 a1, .int .u8 a2] w fun e w' => e = .returned (.bool true) ∧ Below w.heap.size w w' := by
  have bt := bounds_u8' w2
  obtain ⟨t, ht⟩ : ∃ t : UInt8, a2 = (t.toNat : Int) := ⟨UInt8.ofNat a2.toNat, by rw [UInt8.toNat_ofNat']; omega⟩
  subst ht
  have ha1 := bounds_i64 w1
  clear w1 w2
  obtain ⟨i0, hi0, hz0, hz1, hz2⟩ := info_parts3 u8_info
  obtain ⟨cs, rfl, hsz⟩ := okWide_struct Try.underlying31 o0
  have hsee : Sees w CkSh cs.toList := sees_of (sh := CkSh) rfl ckSh_fits k0
  obtain ⟨c, hat⟩ := ck_of hsee
  have HAT := Lib.hid hat
  have HSZ := Lib.hid hat.size
  have hk := hat.ok.kind
  obtain ⟨_, _, _, _, _, hcells, _⟩ := hat.parts
  have e0 := hcells.c0
  have HBL := Lib.hid (Blk.new w 31 cs)
  have HB := Lib.hid ((Below.refl w.heap.size w).alloc (Nat.le_refl _) (.cells cs 31))
  clear hsz hsee o0 k0 hat hcells
  go_enter Try.func5, Try.ntmps5
  go_upto_region 1 with (fail)
  obtain ⟨W0, hW0⟩ : ∃ W0, W0 = w.alloc (.cells cs 31) := ⟨_, rfl⟩
  rw [← hW0] at HBL HB ⊢
  obtain ⟨g0, hg0⟩ : ∃ g0, g0 = w.heap.size := ⟨_, rfl⟩
  rw [← hg0]
  have HG0 : Hid (CkBlk W0 g0 cs) := by rw [hg0]; exact HBL
  clear hW0 HBL hg0
  go_wp2_with fail
  refine (first_any W0).mono ?_
  rintro e W1 ⟨rfl, hb1⟩
  have HB1 := Lib.hid (HB.out.trans (hb1.mono HB.out.size))
  have HG1 : Hid (CkBlk W1 g0 cs) := HG0.out.below hb1 HG0.out.lt
  clear hb1 HG0 HB
  go_wp2_with (refine wpList_load_row rfl 31 _ rfl g0 rfl 31 cs (0, 0) _ HG1.out Try.underlying31 rfl (by rw [HSZ.out]; exact chunk_info) ?_)
  refine (size_k HB1.out.size (HAT.out.below HB1.out)).mono ?_
  rintro e W2 ⟨⟨s, rfl, hs⟩, hb2⟩
  have HS := Lib.hid hs
  have HB2 := Lib.hid (HB1.out.trans (hb2.mono HB1.out.size))
  have HG2 : Hid (CkBlk W2 g0 cs) := HG1.out.below hb2 HG1.out.lt
  clear hb2 HG1 HB1 hs
  by_cases hbig : (100000 : Int) < (s : Int)
  · go_wp2_with fail
    go_ret
    exact ⟨rfl, HB2.out⟩
  have HSM : Hid (Small c) := by
    have h1 := HS.out (by omega)
    unfold sizeC at h1
    exact ⟨by omega, by omega, by omega⟩
  go_wp2_with (refine wpList_load_row rfl 31 _ rfl g0 rfl 31 cs (0, 0) _ HG2.out Try.underlying31 rfl (by rw [HSZ.out]; exact chunk_info) ?_)
  refine (put_k HSM.out ((HAT.out.below HB2.out).more HB2.out.size)).mono ?_
  rintro e W3 ⟨hd, hb3⟩
  have HB3 := Lib.hid (HB2.out.trans (hb3.mono HB2.out.size))
  have HG3 : Hid (CkBlk W3 g0 cs) := HG2.out.below hb3 HG2.out.lt
  rcases hd with ⟨v, hp, rfl, ho⟩ | ⟨k, hk, rfl⟩
  · have hps := puts_short hp
    have HP := Lib.hid hp
    have HOKC := Lib.hid HAT.out.ok
    obtain ⟨l, hl⟩ : ∃ l, l = bytesC c := ⟨_, rfl⟩
    have hlen := bytes_len c
    rw [← hl] at hlen ho
    obtain ⟨nb, hnb⟩ : ∃ nb, nb = l.length := ⟨_, rfl⟩
    have hpad3 : padC (cont c).length ≤ 3 := by unfold padC; omega
    have hnb4 : 4 ≤ nb := by omega
    have hnb6 : nb < 70000 := by omega
    have HL := Lib.hid hl
    have HNB := Lib.hid hnb
    obtain ⟨A3, c3, rfl, h3a, h3b⟩ := own_slice ho
    have HY3 : Hid (Byt W3 W3.heap.size A3 l) := Own.byt ho
    rw [← hnb] at h3a ⊢
    have f0 := CkBlk.at HG3.out e0
    obtain ⟨k, hk', hkn⟩ := u64rem a1 (nb : Int) (by omega) (by omega)
    have hkb : k < nb := by omega
    have hwn : IntKind.u64.wrap (nb : Int) = (nb : Int) := by simp [IntKind.wrap, IntKind.bits, IntKind.signed]; omega
    have hnz : ((nb : Int) == 0) = false := by simp; omega
    clear hl hnb ho hp hb3 HG2 HSM HS hlen hpad3 hps
    have f1 : (0 : Int) ≤ (k : Int) := by omega
    have f2 : (k : Int) ≤ (c3 : Int) := by omega
    go_wp2_with fail
    refine (get_k (b := l.take k) (n := k) (cap := c3) (by rw [List.length_take, ← HNB.out]; omega) (by omega) h3b (HY3.out.take_ k)).mono ?_
    rintro e W4 ⟨hb4, hd⟩
    have hcut : getC (l.take k) = .error 40 := by rw [HL.out]; exact getC_bytes_cut HP.out (by rw [← HL.out, ← HNB.out]; exact hkb)
    rw [hcut] at hd
    rcases hd with ⟨_, _, _, he, _⟩ | ⟨k4, he, rfl⟩
    · cases he
    injection he with he
    subst he
    have HB4 := Lib.hid (HB3.out.trans (hb4.mono HB3.out.size))
    have HG4 : Hid (CkBlk W4 g0 cs) := HG3.out.below hb4 HG3.out.lt
    have HY4 : Hid (Byt W4 W3.heap.size A3 l) := HY3.out.below hb4
    have f04 := CkBlk.at HG4.out e0
    have HS4 := Lib.hid hb4.size
    clear hcut hb4 HY3 HG3 f0 hk' hkn hwn hnz f1 f2
    go_upto_region 9 with (refine wpList_store_row rfl 31 _ _ rfl W4.heap.size zeroA rfl rfl 31 _ (Blk.new W4 31 _) chunk_info rfl (ck_one (zeroC 0)) ?_)
    obtain ⟨HC5, HB5⟩ := kept_ck W4 zeroA zeroA
    obtain ⟨W5, hW5⟩ : ∃ W5, W5 = (W4.alloc (.cells zeroA 31)).setRow W4.heap.size zeroA := ⟨_, rfl⟩
    rw [← hW5] at HC5 HB5
    have hW5' : W5 = (W4.alloc (.cells #[.int .u8 0, .bool false, .bool false, .bool false, .bool false, .int .u32 0, .int .u16 0, .int .u32 0, .int .u32 0, .int .u32 0, .int .u32 0, .int .u32 0, .int .u16 0, .int .u16 0, .slice none 0 0, .slice none 0 0, .slice none 0 0, .slice none 0 0, .slice none 0 0] 31)).setRow W4.heap.size zeroA := hW5
    rw [← hW5']
    have HB5' := Lib.hid (HB4.out.trans (HB5.mono HB4.out.size))
    have HG5 : Hid (CkBlk W5 g0 cs) := HG4.out.below HB5 HG4.out.lt
    have HY5 : Hid (Byt W5 W3.heap.size A3 l) := HY4.out.below (HB5.mono HS4.out)
    have HE5 := Lib.hid (own_empty W5 5)
    have HS5 : Hid (W3.heap.size ≤ W5.heap.size) := Nat.le_trans HS4.out HB5.size
    clear hW5 hW5' HC5 HB5 HB4 HG4 HY4 f04 HS4
    go_wp2_with (first
      | (at_builtin; refine wpList_append_any _ rfl (.tmp 42) (.tmp 43) _ rfl W5.heap.size 5 i0 _ 1 1 Try.underlying29 hi0 hz0 hz1 hz2 rfl (by omega) (.slice (some ⟨W5.heap.size, 0, none⟩) 0 0) 0 [] rfl HE5.out W3.heap.size A3 nb c3 (u8s l) rfl (by have := HY5.out.alloc HS5.out (.cells #[] 5); unfold Byt at this; rw [← HNB.out] at this; exact this) (u8s_one _) (by simp only [maxLen]; omega) (by omega) (by simp) ?_; intro v6 w6 hown6 hg6 hat6; obtain ⟨n6, A6, c6, rfl, HN6, hnq6, hnc6, hc6, HO6, HB6⟩ := copied HB5'.out hown6 HNB.out hg6; clear hown6 hg6 hat6)
      | (at_builtin; refine wpList_append_any _ rfl (.tmp 44) (.tmp 47) _ rfl W5.heap.size 5 i0 _ 1 1 Try.underlying29 hi0 hz0 hz1 hz2 rfl (by omega) (.slice A6 n6 c6) n6 (u8s l) rfl (((Fr.refl (fun _ => False) w6).alloc _).own HO6.out (fun _ _ h => h)) (w6.heap.size + 1) (some ⟨w6.heap.size, 0, none⟩) 2 2 (u8s [t, t]) rfl (two_byt w6 t) (u8s_one _) (by simp only [maxLen]; omega) (by omega) (HB6.out.alloc HB6.out.size _).size ?_; intro v7 w7 hown7 hg7 hat7; obtain ⟨A7, c7, rfl, hc7, hm7⟩ := own_slice hown7; have HO7 := Lib.hid hown7; have HB7 : Hid (Below W5.heap.size W5 w7) := (HB6.out.alloc HB6.out.size _).grown hg7 (HB6.out.alloc HB6.out.size _).size (fun b e => (HO6.out.lt b e).1); clear hown7 hg7 hat7))
    have HNZ : Hid (n6 + 2 = (l ++ [t, t]).length) := by rw [List.length_append, ← HN6.out]; rfl
    have HZ7 : Hid (Byt w7 w7.heap.size A7 (l ++ [t, t])) := by
      have := HO7.out
      rw [← u8s_append, HNZ.out] at this
      exact Reads.of_own this
    refine (get_k HNZ.out hc7 hm7 HZ7.out).mono ?_
    rintro e W8 ⟨hb8, hd⟩
    have hgb : getC (l ++ [t, t]) = .ok (fillD (flagged c.kind (flagsN c)) c, nb) := by rw [HNB.out, HL.out]; exact getC_bytes HOKC.out HP.out
    rw [hgb] at hd
    rcases hd with ⟨c8, n8, cs8, he, rfl, hown, hok8⟩ | ⟨_, he, _⟩
    · injection he with he
      injection he with he1 he2
      have hkd : c8.kind = c.kind := by rw [← he1]; exact (lacks_fill (flagged_kind' _ _)).1
      subst he2
      have HAT8 := Lib.hid (hown.at_ hok8)
      have HSZ8 := Lib.hid (hown.at_ hok8).size
      have HB58 := Lib.hid (HB7.out.trans (hb8.mono HB7.out.size))
      have HB8 := Lib.hid (HB5'.out.trans (HB58.out.mono HB5'.out.size))
      have HG8 : Hid (CkBlk W8 g0 cs) := HG5.out.below HB58.out HG5.out.lt
      have HKD := Lib.hid hkd
      clear hgb hb8 hown hok8 he1 hkd HB6 HO6 HO7 HB7 HZ7 HE5 HB5' HG5 HY5
      go_upto_region 10 with (refine wpList_store_row rfl 31 _ _ rfl W8.heap.size cs8 rfl rfl 31 _ (Blk.new W8 31 _) (by rw [HSZ8.out]; exact chunk_info) (by rw [HSZ8.out]; rfl) HAT8.out.one ?_)
      obtain ⟨HC9, HB9⟩ := kept_ck W8 zeroA cs8
      obtain ⟨W9, hW9⟩ : ∃ W9, W9 = (W8.alloc (.cells zeroA 31)).setRow W8.heap.size cs8 := ⟨_, rfl⟩
      rw [← hW9] at HC9 HB9
      obtain ⟨g9, hg9⟩ : ∃ g9, g9 = W8.heap.size := ⟨_, rfl⟩
      rw [← hg9] at HC9
      have hW9' : W9 = (W8.alloc (.cells #[.int .u8 0, .bool false, .bool false, .bool false, .bool false, .int .u32 0, .int .u16 0, .int .u32 0, .int .u32 0, .int .u32 0, .int .u32 0, .int .u32 0, .int .u16 0, .int .u16 0, .slice none 0 0, .slice none 0 0, .slice none 0 0, .slice none 0 0, .slice none 0 0] 31)).setRow W8.heap.size cs8 := hW9
      rw [← hW9', ← hg9]
      have HB9' := Lib.hid (HB8.out.trans (HB9.mono HB8.out.size))
      have f09 := CkBlk.at (HG8.out.below HB9 HG8.out.lt) e0
      obtain ⟨_, _, _, _, _, hcells8, _⟩ := HAT8.out.parts
      have f08 : W9.cell? ⟨g9, 0, none⟩ = some (.int .u8 (c.kind : Int)) := by rw [← HKD.out]; exact CkBlk.at HC9 hcells8.c0
      clear hW9 hW9' hg9 HB9 HC9 hcells8
      go_wp2_with fail
      go_ret
      exact ⟨ret_bool (by simp), HB9'.out⟩
    · cases he
  · have hk0 : ((k : Int) != 0) = true := by rcases hk with ⟨rfl, _⟩ | ⟨rfl, _⟩ | ⟨rfl, _⟩ <;> rfl
    clear hb3 hk
    go_wp2_with fail
    go_ret
    exact ⟨rfl, HB3.out⟩

/-! ### The row's step -/
set_option maxRecDepth 100000 in
theorem lifted (os : Os) (started : os.Started) (H : Type) (enc : TypeId × Value → H) :
    ReturnsInHanded {} Try.checked os 5 .any (Rows.chunkCutsSpec.pre6 enc Try.prog Try.f5 Rows.chunkCutsRow.domain false) (Rows.chunkCutsSpec.post enc Try.prog Try.f5 false true false false) := by
  refine returnsInHanded_of_change (C := Try.checked) own started (by kernel_rfl) Try.func5
    (ChangeSpec.witness6 (enc := enc) (C := Try.checked) false ⟨#[], #[.agg #[.int .u8 0, .bool false, .bool false, .bool false, .bool false, .int .u32 0, .int .u16 0, .int .u32 0, .int .u32 0, .int .u32 0, .int .u32 0, .int .u32 0, .int .u16 0, .int .u16 0, .slice none 0 0, .slice none 0 0, .slice none 0 0, .slice none 0 0, .slice none 0 0], .int .i64 0, .int .u8 0], []⟩ 8 (by kernel_rfl) (by kernel_rfl) (by kernel_rfl) (by kernel_rfl)) ?_
  intro W base args ds gs before hval0 hW hcnd _
  have hval : ∀ (j : Nat) t v, Try.f5.params[j]? = some t → args[j]? = some v → Value.okWide Try.prog W .any base t v := hval0
  have hW' := hW
  obtain ⟨p, q, hA0, hV, rfl, hfz, hnd⟩ := hW
  have hA : DataW.TrodAll enc Try.prog W 0 (fun _ => true) true Try.f5.params.toList args.toList ds p := hA0
  rw [Try.params5] at hA hval
  obtain ⟨v0, vs0, d0, ds0, p0, q0, hargs, rfl, rfl, h0, r0⟩ := trodAll_cons hA
  obtain ⟨v1, vs1, d1, ds1, p1, q1, rfl, rfl, rfl, h1, r1⟩ := trodAll_cons r0
  obtain ⟨v2, vs2, d2, ds2, p2, q2, rfl, rfl, rfl, h2, r2⟩ := trodAll_cons r1
  obtain ⟨rfl, rfl, rfl⟩ := trodAll_nil r2
  obtain rfl : args = #[v0, v1, v2] := by cases args; simp_all
  obtain ⟨rfl, rfl⟩ := trodVars_none hV
  have lt0 : ∀ x ∈ p0, x.block < W.heap.size := by obtain ⟨m, hm⟩ := h0; exact DataW.trod_lt m _ _ _ hm
  obtain ⟨a1, rfl, rfl, rfl, w1⟩ := open_int Try.underlying3 (hval 1 3 v1 rfl rfl) h1
  obtain ⟨a2, rfl, rfl, rfl, w2⟩ := open_int Try.underlying5 (hval 2 5 v2 rfl rfl) h2
  clear hA0 hval0
  refine (walk v0 d0 p0 a1 a2 W (hval 0 31 v0 rfl rfl) h0 w1 w2).mono fun e W' ⟨he, bel⟩ => ?_
  subst he
  exact ⟨_, rfl, _, _, _, [], _, [], hW', trodAll_mk1 (shut_bool Try.underlying4 _), (trodAll_cons_mk (Below.trod laidOut (by kernel_rfl) (of_decide_eq_true (by kernel_rfl)) h0 bel lt0) (trodAll_cons_mk (shut_int Try.underlying3 w1) (trodAll_cons_mk (shut_int Try.underlying5 w2) trodAll_mk0))), rfl, bel.frame _, fun h => by cases h⟩

theorem over : Rows.chunkCutsRow.holds Try.pinned (OpenSpec.ofChange Rows.chunkCutsSpec) :=
  OpenClaim.holds_of_wide 5 Try.f5 rfl rfl rfl rfl rfl rfl rfl ⟨rfl, rfl, rfl, rfl, rfl⟩ rfl rfl rfl rfl rfl (by kernel_rfl) Try.func5 (by kernel_rfl)
    (of_decide_eq_true (by kernel_rfl)) (by unfold Func.isWrapper; first | (rw [if_pos (by decide +kernel)]; kernel_rfl) | (rw [if_neg (by decide +kernel)]; exact ⟨rfl, rfl⟩))
    (fun os started H enc _ => lifted os started H enc)

theorem proved : Rows.ChunkCutsSaid := over
#print axioms proved
end Go.Proofs.Ytmhjoclcbpjdiaa.chunkCuts
