/-
  PROVED: ChunkBare of flumelaw06 answers true for every input, and its arguments read afterwards as before. CONDITIONS: none beside the form's own.
-/
import Derived.Test.YtmhjoclcbpjdiaaRows
import Derived.Test.YtmhjoclcbpjdiaaChOpen
import Derived.Test.YtmhjoclcbpjdiaaChSz
import Derived.Test.YtmhjoclcbpjdiaaChBr
import Derived.Test.YtmhjoclcbpjdiaaSees
import Derived.Test.YtmhjoclcbpjdiaaRegion
import Derived.WalkKit
import Derived.ProofKit
import Derived.OpenShut
import Derived.ShutString
import Derived.ChangeOld
import Derived.Below
namespace Go.Proofs.Ytmhjoclcbpjdiaa.chunkBare
open Go.ChangeShapes Go.WideShapes Go.ChangeAt Go.RowKit
open Go.ChangeMaps (open_string shut_string)
set_option linter.unusedVariables false
set_option linter.unusedSimpArgs false

theorem own : ownKnob Try.prog.godebug = none := by kernel_rfl
theorem laidOut : laidOutB Try.prog = true := by kernel_rfl

/-- What the walk is told of a slice of integers that came in. -/
def IsRow (k : IntKind) (w : World) (a : Option Addr) (len cap : Nat) (zs : List Int) : Prop :=
  (a = none ∧ len = 0 ∧ cap = 0 ∧ zs = []) ∨
  ∃ x, a = some x ∧ len ≤ cap ∧ cap ≤ maxLen ∧ zs.length = cap ∧ (∀ i, i < zs.length → w.cell? (x.add i) = some (.int k (zs.getD i 0))) ∧ ∀ n ∈ zs, (Lit.int k n).wf = true

/-! ### The walk -/
open Words Oct Par Chk
theorem load_leaves {w : World} {a : Act} {o : Oper} {x : Operand} {g : Nat} {cs : Array Value} (ho : o.op = .load 31 x) (hx : a.eval x = .pointer (some ⟨g, 0, none⟩)) (hb : CkBlk w g cs) (hs : cs.size = 19) :
    Words.Leaves Try.prog (fun u w' => Below w.heap.size w w' ∧ u = .agg cs) ((execOp a.eval o).run Try.prog w) := by
  have hl := load_chunk hb hs
  have e : (execOp a.eval o).run Try.prog w = .ok (.value (.agg cs)) w := by
    simp [execOp, ho, hx, Sem.run_bind, Result.andThen, hl]
  rw [e]
  exact ⟨Below.refl _ _, rfl⟩
theorem lists_kept {w w' : World} {B B' : Nat} {c : Ck} {g d s p b : Hd} (h : Lists w B c g d s p b) (hb : Below B w w') (hB : B ≤ B') : Lists w' B' c g d s p b :=
  ⟨h.okg, h.okd, h.oks, h.okp, h.okb, (h.gaps.below hb).more hB, (h.dups.below hb).more hB, (h.skips.below hb).more hB, (h.ps.below hb).more hB, (h.body.below hb).more hB⟩
theorem ckAt_of {w : World} {B : Nat} {cs : Array Value} {c : Ck} {g d s p b : Hd} (ok : c.ok) (e : cs = ckArr c (g.v c.gaps.length) (d.v c.dups.length) (s.v c.skips.length) (p.v c.ps.length) (b.v c.body.length)) (l : Lists w B c g d s p b) : CkAt w B cs c :=
  ⟨ok, g, d, s, p, b, e, l.okg, l.okd, l.oks, l.okp, l.okb, l.gaps, l.dups, l.skips, l.ps, l.body⟩
theorem parts_eq {w : World} {B : Nat} {cs : Array Value} {c : Ck} (h : CkAt w B cs c) : ∃ g d s p b : Hd, cs = ckArr c (g.v c.gaps.length) (d.v c.dups.length) (s.v c.skips.length) (p.v c.ps.length) (b.v c.body.length) ∧ Cells cs c g d s p b ∧ Lists w B c g d s p b := by
  obtain ⟨_, g, d, s, p, b, rfl, h1, h2, h3, h4, h5, r1, r2, r3, r4, r5⟩ := h
  exact ⟨g, d, s, p, b, rfl, ⟨rfl, rfl, rfl, rfl, rfl, rfl, rfl, rfl, rfl, rfl, rfl, rfl, rfl, rfl, rfl, rfl, rfl, rfl, rfl, rfl⟩, ⟨h1, h2, h3, h4, h5, r1, r2, r3, r4, r5⟩⟩
set_option maxHeartbeats 8000000 in
set_option maxRecDepth 100000 in
theorem walk {H : Type} {enc : TypeId × Value → H} {base : Nat} (v0 : Value) (d0 : DataW H) (p0 : List MemPlace) (v1 : Value) (d1 : DataW H) (p1 : List MemPlace) (w : World) (o0 : Value.okWide Try.prog w .any base 31 v0) (k0 : DataW.Trod enc Try.prog w 0 (fun _ => true) true 31 v0 d0 p0) (o1 : Value.okWide Try.prog w .any base 31 v1) (k1 : DataW.Trod enc Try.prog w 0 (fun _ => true) true 31 v1 d1 p1) :
    Calls Try.prog 8 #[v0, v1] w fun e w' => e = .returned (.bool true) ∧ Below w.heap.size w w' := by
  obtain ⟨cs, rfl, hsz⟩ := okWide_struct Try.underlying31 o0
  obtain ⟨os, rfl, hosz⟩ := okWide_struct Try.underlying31 o1
  have hsee : Sees w CkSh cs.toList := sees_of (sh := CkSh) rfl ckSh_fits k0
  have hsee1 : Sees w CkSh os.toList := sees_of (sh := CkSh) rfl ckSh_fits k1
  obtain ⟨c, hat⟩ := ck_of hsee
  obtain ⟨o, hato⟩ := ck_of hsee1
  have HAT := Lib.hid hat
  have HATO := Lib.hid hato
  have HSZ := Lib.hid hat.size
  have HSZO := Lib.hid hato.size
  clear hsz hosz hsee hsee1 o0 k0 o1 k1 hat hato
  go_enter Try.func8, Try.ntmps8
  go_upto_region 1 with (fail)
  have HBL : Hid (CkBlk ((w.alloc (.cells cs 31)).alloc (.cells os 31)) w.heap.size cs ∧ CkBlk ((w.alloc (.cells cs 31)).alloc (.cells os 31)) (w.heap.size + 1) os) :=
    ⟨(Blk.new w 31 cs).below ((Below.refl (w.alloc (.cells cs 31)).heap.size _).alloc (Nat.le_refl _) _) (Blk.new w 31 cs).lt, by simpa using Blk.new (w.alloc (.cells cs 31)) 31 os⟩
  have HB : Hid (Below w.heap.size w ((w.alloc (.cells cs 31)).alloc (.cells os 31))) := ((Below.refl w.heap.size w).alloc (Nat.le_refl _) (.cells cs 31)).alloc (((Below.refl w.heap.size w).alloc (Nat.le_refl _) (.cells cs 31)).size) _
  obtain ⟨W0, hW0⟩ : ∃ W0, W0 = (w.alloc (.cells cs 31)).alloc (.cells os 31) := ⟨_, rfl⟩
  rw [← hW0] at HBL HB ⊢
  obtain ⟨g0, hg0⟩ : ∃ g0, g0 = w.heap.size := ⟨_, rfl⟩
  obtain ⟨g1, hg1⟩ : ∃ g1, g1 = w.heap.size + 1 := ⟨_, rfl⟩
  rw [← hg1] at HBL ⊢
  rw [← hg0] at HBL
  have HG0 := Lib.hid HBL.out.1
  have HG0' := Lib.hid HBL.out.2
  rw [← hg0]
  clear hW0 HBL hg0 hg1
  go_wp2_with fail
  refine (first_any W0).mono ?_
  rintro e W1 ⟨rfl, hb1⟩
  have HB1 := Lib.hid (HB.out.trans (hb1.mono HB.out.size))
  have HG1 : Hid (CkBlk W1 g0 cs) := HG0.out.below hb1 HG0.out.lt
  have HG1' : Hid (CkBlk W1 g1 os) := HG0'.out.below hb1 HG0'.out.lt
  have HAT1 : Hid (CkAt W1 W1.heap.size cs c) := (HAT.out.below HB1.out).more HB1.out.size
  have HATO1 : Hid (CkAt W1 W1.heap.size os o) := (HATO.out.below HB1.out).more HB1.out.size
  clear hb1 HG0 HG0' HB
  go_upto_region 3 with fail
  refine wp_region_told [
    .exact (.agg cs), .grows (fun v _ => ∃ s : Nat, v = .int .i64 (s : Int) ∧ (s ≤ 1000000 → sizeC c = s)),
    .exact (.agg os), .grows (fun v _ => ∃ s : Nat, v = .int .i64 (s : Int) ∧ (s ≤ 1000000 → sizeC o = s)),
    .grows (fun v _ => ∃ m : Nat, v = .int .i64 (m : Int) ∧ (m ≤ 100000 → sizeC c ≤ 100000 ∧ sizeC o ≤ 100000)),
    .grows (fun v _ => (v = .bool false ∧ sizeC c ≤ 100000 ∧ sizeC o ≤ 100000) ∨ v = .bool true)] (by kernel_rfl) (by kernel_rfl) rfl ?lasts ?walk
  case lasts => exact ⟨fun _ _ _ h _ => h, fun _ _ _ h _ => h, fun _ _ _ h _ => h, fun _ _ _ h _ => h, trivial⟩
  case walk =>
    have HD : Hid (Below W1.heap.size W1 W1.drew) := Below.drew (Below.refl _ _)
    refine growWalk_exact rfl (fun w5 hb5 hl5 => load_leaves rfl rfl (HG1.out.below (HD.out.trans hb5) HG1.out.lt) HSZ.out) ?_
    simp only [Act.put, List.setIfInBounds_toArray, List.set_cons_zero, List.set_cons_succ, List.cons_append, List.nil_append]
    refine growWalk_grows rfl (fun w5 hb5 hl5 => by
      have hb := HD.out.trans hb5
      go_simp
      refine (size_k hb.size (HAT1.out.below hb)).mono ?_
      rintro e w6 ⟨⟨s, rfl, hs⟩, hb6⟩
      exact ⟨_, rfl, hb6, s, rfl, hs⟩) (fun v1 => ?_)
    simp only [Act.put, List.setIfInBounds_toArray, List.set_cons_zero, List.set_cons_succ, List.cons_append, List.nil_append]
    refine growWalk_exact rfl (fun w5 hb5 hl5 => load_leaves rfl rfl (HG1'.out.below (HD.out.trans hb5) HG1'.out.lt) HSZO.out) ?_
    simp only [Act.put, List.setIfInBounds_toArray, List.set_cons_zero, List.set_cons_succ, List.cons_append, List.nil_append]
    refine growWalk_grows rfl (fun w5 hb5 hl5 => by
      have hb := HD.out.trans hb5
      go_simp
      refine (size_k hb.size (HATO1.out.below hb)).mono ?_
      rintro e w6 ⟨⟨s, rfl, hs⟩, hb6⟩
      exact ⟨_, rfl, hb6, s, rfl, hs⟩) (fun v2 => ?_)
    simp only [Act.put, List.setIfInBounds_toArray, List.set_cons_zero, List.set_cons_succ, List.cons_append, List.nil_append]
    refine growWalk_grows rfl (fun w5 hb5 hl5 => by
      obtain ⟨s1, rfl, h1⟩ := hl5.1 (by kernel_rfl)
      obtain ⟨s2, rfl, h2⟩ := hl5.2.1 (by kernel_rfl)
      have hmax : (Builtin.max_ #[3, 3] 3 #[.int .i64 (s1 : Int), .int .i64 (s2 : Int)]).run Try.prog w5 = .ok (.int .i64 ((max s1 s2 : Nat) : Int)) w5 := by
        simp [Builtin.max_, Builtin.max2]
        split <;> omega
      go_simp
      refine ⟨Below.refl _ _, max s1 s2, ?_, fun hm => ?_⟩
      · rfl
      · have e1 := h1 (by omega)
        have e2 := h2 (by omega)
        omega) (fun v3 => ?_)
    simp only [Act.put, List.setIfInBounds_toArray, List.set_cons_zero, List.set_cons_succ, List.cons_append, List.nil_append]
    refine growWalk_grows rfl (fun w5 hb5 hl5 => by
      obtain ⟨m, rfl, hm⟩ := hl5.2.2.1 (by kernel_rfl)
      go_simp
      refine ⟨Below.refl _ _, ?_⟩
      by_cases hq : (100000 : Int) < (m : Int)
      · exact .inr (by rw [decide_eq_true hq])
      · exact .inl ⟨by rw [decide_eq_false hq], hm (by omega)⟩) (fun v4 => ?_)
    simp only [Act.put, List.setIfInBounds_toArray, List.set_cons_zero, List.set_cons_succ, List.cons_append, List.nil_append]
    refine growWalk_nil (fun W2 hb2 hf => ?_)
    obtain ⟨_, _, _, hbs, _⟩ := hf
    have HB12 := Lib.hid (HD.out.trans hb2)
    have HB2 := Lib.hid (HB1.out.trans (HB12.out.mono HB1.out.size))
    have HG2 : Hid (CkBlk W2 g0 cs) := HG1.out.below HB12.out HG1.out.lt
    have HG2' : Hid (CkBlk W2 g1 os) := HG1'.out.below HB12.out HG1'.out.lt
    clear hb2 HG1 HG1' HD
    rcases hbs with ⟨rfl, hs1, hs2⟩ | rfl
    rotate_left
    · go_wp2_with fail
      go_ret
      exact ⟨rfl, HB2.out⟩
    have HSM : Hid (Small c) := by
      unfold sizeC at hs1
      exact ⟨by omega, by omega, by omega⟩
    have HSO := Lib.hid hs2
    clear hs1 hs2
    go_wp2_with (refine wpList_load_row rfl 31 _ rfl g0 rfl 31 cs (0, 0) _ HG2.out Try.underlying31 rfl (by rw [HSZ.out]; exact chunk_info) ?_)
    refine (put_k HSM.out ((HAT.out.below HB2.out).more HB2.out.size)).mono ?_
    rintro e W3 ⟨hd, hb3⟩
    have HB3 := Lib.hid (HB2.out.trans (hb3.mono HB2.out.size))
    have HG3 : Hid (CkBlk W3 g1 os) := HG2'.out.below hb3 HG2'.out.lt
    rcases hd with ⟨v, hp, rfl, ho⟩ | ⟨k, hk, rfl⟩
    rotate_left
    · have hk0 : ((k : Int) != 0) = true := by rcases hk with ⟨rfl, _⟩ | ⟨rfl, _⟩ | ⟨rfl, _⟩ <;> rfl
      clear hb3 hk
      go_wp2_with fail
      go_ret
      exact ⟨rfl, HB3.out⟩
    obtain ⟨l, hl⟩ : ∃ l, l = bytesC c := ⟨_, rfl⟩
    rw [← hl] at ho
    obtain ⟨nb, hnb⟩ : ∃ nb, nb = l.length := ⟨_, rfl⟩
    obtain ⟨A3, c3, rfl, h3a, h3b⟩ := own_slice ho
    have HY3 : Hid (Byt W3 W3.heap.size A3 l) := Own.byt ho
    rw [← hnb] at h3a ⊢
    have HP := Lib.hid hp
    have HL := Lib.hid hl
    have HNB := Lib.hid hnb
    clear hl hnb hp ho hb3 HG2 HG2'
    go_wp2_with fail
    refine (get_k HNB.out h3a h3b HY3.out).mono ?_
    rintro e W4 ⟨hb4, hd⟩
    have hgb := getC_bytes (r := []) HAT.out.ok HP.out
    rw [List.append_nil, ← HL.out, ← HNB.out] at hgb
    rw [hgb] at hd
    rcases hd with ⟨c4, n4, cs4, he, rfl, hown, hok4⟩ | ⟨_, he, _⟩
    rotate_left
    · cases he
    injection he with he
    injection he with he1 he2
    subst he2
    have HC4 := Lib.hid he1
    have HAT4 := Lib.hid (hown.at_ hok4)
    have HSZ4 := Lib.hid (hown.at_ hok4).size
    have HB4 := Lib.hid (HB3.out.trans (hb4.mono HB3.out.size))
    have HG4 : Hid (CkBlk W4 g1 os) := HG3.out.below hb4 HG3.out.lt
    have HY4 : Hid (Byt W4 W3.heap.size A3 l) := HY3.out.below hb4
    have HS4 := Lib.hid hb4.size
    clear hgb hown hok4 he1 hb4 HG3 HY3
    go_upto_region 9 with (refine wpList_store_row rfl 31 _ _ rfl W4.heap.size cs4 rfl rfl 31 _ (Blk.new W4 31 _) (by rw [HSZ4.out]; exact chunk_info) (by rw [HSZ4.out]; rfl) HAT4.out.one ?_)
    obtain ⟨HC5, HB5⟩ := kept_ck W4 zeroA cs4
    obtain ⟨W5, hW5⟩ : ∃ W5, W5 = (W4.alloc (.cells zeroA 31)).setRow W4.heap.size cs4 := ⟨_, rfl⟩
    rw [← hW5] at HC5 HB5
    obtain ⟨g5, hg5⟩ : ∃ g5, g5 = W4.heap.size := ⟨_, rfl⟩
    rw [← hg5] at HC5
    have hW5' : W5 = (W4.alloc (.cells #[.int .u8 0, .bool false, .bool false, .bool false, .bool false, .int .u32 0, .int .u16 0, .int .u32 0, .int .u32 0, .int .u32 0, .int .u32 0, .int .u32 0, .int .u16 0, .int .u16 0, .slice none 0 0, .slice none 0 0, .slice none 0 0, .slice none 0 0, .slice none 0 0] 31)).setRow W4.heap.size cs4 := hW5
    rw [← hW5', ← hg5]
    have HB5' := Lib.hid (HB4.out.trans (HB5.mono HB4.out.size))
    have HGO : Hid (CkBlk W5 g1 os) := HG4.out.below HB5 HG4.out.lt
    have HGX : Hid (CkBlk W5 g5 cs4) := HC5
    have HY5 : Hid (Byt W5 W3.heap.size A3 l) := HY4.out.below (HB5.mono HS4.out)
    have HAT5 : Hid (CkAt W5 W4.heap.size cs4 c4) := HAT4.out.below HB5
    have HGE : Hid (w.heap.size ≤ g5) := by rw [hg5]; exact HB4.out.size
    have HGO1 : Hid (g1 < W4.heap.size) := HG4.out.lt
    have HGX1 : Hid (¬ g5 < W4.heap.size) := by rw [hg5]; exact Nat.lt_irrefl _
    have HS45 : Hid (W4.heap.size ≤ W5.heap.size) := HB5.size
    have HS35 : Hid (W3.heap.size ≤ W5.heap.size) := Nat.le_trans HS4.out HB5.size
    clear hW5 hW5' hg5 HC5 HB5 HG4 HY4 HAT4
    obtain ⟨xg, xd, xs, xp, xb, xeq, xcells, xlists⟩ := parts_eq HAT5.out
    have HXE := Lib.hid xeq
    clear xeq
    obtain ⟨og, od, osk, op, ob, ocells, olists⟩ := HATO.out.parts
    have x0 := CkBlk.at HGX.out xcells.c0
    have HNE : Hid (g1 ≠ g5) := fun e => by have h1 := HGO1.out; rw [e] at h1; exact absurd h1 HGX1.out
    obtain ⟨kd, hkd⟩ : ∃ kd, kd = c4.kind := ⟨_, rfl⟩
    rw [← hkd] at x0
    have HKD := Lib.hid hkd
    clear hkd
    have HXL := Lib.hid xlists
    have HOL := Lib.hid olists
    have HXC := Lib.hid xcells
    have HOC := Lib.hid ocells
    clear xlists olists xcells ocells
    have hsl : c4.body.length ≤ 450000 ∧ 8 * c4.skips.length ≤ 450000 ∧ sizeL c4.ps ≤ 450000 := by
      have h1 := fill_lists (c := c) (k := c.kind) (f := flagsN c)
      rw [HC4.out] at h1
      have h2 := HSM.out.body
      have h3 := HSM.out.skips
      have h4 := HSM.out.ps
      omega
    have HSL4 := Lib.hid hsl
    have hp4 := got_puts HAT.out.ok HP.out
    rw [HC4.out] at hp4
    have HP4 := Lib.hid hp4
    have HB4C := Lib.hid hp4.2
    have HOK4 := Lib.hid HAT5.out.ok
    have HGE2 : Hid (W4.heap.size ≤ g5) := Nat.le_of_not_lt HGX1.out
    clear hsl hp4
    by_cases h7 : kd = 7
    · subst h7
      have o6 := CkBlk.at HGO.out HOC.out.c6
      have o18 := CkBlk.at HGO.out HOC.out.c18
      have o14 := CkBlk.at HGO.out HOC.out.c14
      have o4 := CkBlk.at HGO.out HOC.out.c4
      have x6 := CkBlk.at HGX.out HXC.out.c6
      have x18 := CkBlk.at HGX.out HXC.out.c18
      have x14 := CkBlk.at HGX.out HXC.out.c14
      have x4 := CkBlk.at HGX.out HXC.out.c4
      have z6 := Blk.frozen HGX.out 6
      have z18 := Blk.frozen HGX.out 18
      have z14 := Blk.frozen HGX.out 14
      have z4 := Blk.frozen HGX.out 4
      have hne1 : g1 ≠ g5 := HNE.out
      have hne2 : g5 ≠ g1 := fun e => HNE.out e.symm
      go_upto_region 23 with fail
      go_region_held3 (fun w' => w'.cell? ⟨g1, 6, none⟩ = some (.int .u16 (o.st : Int)) ∧ w'.cell? ⟨g1, 18, none⟩ = some (.slice ob.A o.body.length ob.cap) ∧ w'.cell? ⟨g1, 14, none⟩ = some (.slice og.A o.gaps.length og.cap) ∧ w'.cell? ⟨g1, 4, none⟩ = some (.bool o.ba))
        (go_keep)
        (fail)
      obtain ⟨W6, hW6⟩ : ∃ W6, W6 = ((((W5.setCell ⟨g5, 6, none⟩ (.int .u16 (o.st : Int))).setCell ⟨g5, 18, none⟩ (.slice ob.A o.body.length ob.cap)).setCell ⟨g5, 14, none⟩ (.slice og.A o.gaps.length og.cap)).setCell ⟨g5, 4, none⟩ (.bool o.ba)).drew := ⟨_, rfl⟩
      rw [← hW6]
      have HG6 : Hid (CkBlk W6 g5 ((((cs4.setIfInBounds 6 (.int .u16 (o.st : Int))).setIfInBounds 18 (.slice ob.A o.body.length ob.cap)).setIfInBounds 14 (.slice og.A o.gaps.length og.cap)).setIfInBounds 4 (.bool o.ba))) := by rw [hW6]; exact Blk.drew (Blk.set_ (Blk.set_ (Blk.set_ (Blk.set_ HGX.out 6 (.int .u16 (o.st : Int))) 18 (.slice ob.A o.body.length ob.cap)) 14 (.slice og.A o.gaps.length og.cap)) 4 (.bool o.ba))
      have HBX : Hid (Below W4.heap.size W5 W6) := by rw [hW6]; exact Below.drew (((((Below.refl W4.heap.size W5).setCell (p := ⟨g5, 6, none⟩) HGE2.out (.int .u16 (o.st : Int))).setCell (p := ⟨g5, 18, none⟩) HGE2.out (.slice ob.A o.body.length ob.cap)).setCell (p := ⟨g5, 14, none⟩) HGE2.out (.slice og.A o.gaps.length og.cap)).setCell (p := ⟨g5, 4, none⟩) HGE2.out (.bool o.ba))
      obtain ⟨cs6, hcs6⟩ : ∃ cs6, cs6 = ((((cs4.setIfInBounds 6 (.int .u16 (o.st : Int))).setIfInBounds 18 (.slice ob.A o.body.length ob.cap)).setIfInBounds 14 (.slice og.A o.gaps.length og.cap)).setIfInBounds 4 (.bool o.ba)) := ⟨_, rfl⟩
      rw [← hcs6] at HG6
      have e6 : cs6 = ckArr { c4 with st := o.st, body := o.body, gaps := o.gaps, ba := o.ba } (og.v o.gaps.length) (xd.v c4.dups.length) (xs.v c4.skips.length) (xp.v c4.ps.length) (ob.v o.body.length) := by rw [hcs6, HXE.out]; rfl
      have HB6 := Lib.hid (HB5'.out.trans (HBX.out.mono HB4.out.size))
      have X := lists_kept HXL.out HBX.out (Nat.le_trans HS45.out HBX.out.size)
      have O := lists_kept HOL.out HB6.out HB6.out.size
      have k4 := HOK4.out
      have ko := HATO.out.ok
      have l6 : Lists W6 W6.heap.size { c4 with st := o.st, body := o.body, gaps := o.gaps, ba := o.ba } og xd xs xp ob := ⟨O.okg, X.okd, X.oks, X.okp, O.okb, O.gaps, X.dups, X.skips, X.ps, O.body⟩
      have k6 : Ck.ok { c4 with st := o.st, body := o.body, gaps := o.gaps, ba := o.ba } := ⟨k4.kind, k4.tsn, ko.st, k4.mid, k4.pp, k4.fr, k4.tag, k4.win, k4.out, k4.inn, ko.gaps, k4.dups, k4.skips, k4.ps⟩
      have a6 := ckAt_of k6 e6 l6
      have s6 : Small { c4 with st := o.st, body := o.body, gaps := o.gaps, ba := o.ba } := ⟨by show o.body.length ≤ _; have := HSL4.out; have := HSO.out; unfold sizeC at this; omega, by show 8 * c4.skips.length ≤ _; have := HSL4.out; have := HSO.out; unfold sizeC at this; omega, by show sizeL c4.ps ≤ _; have := HSL4.out; have := HSO.out; unfold sizeC at this; omega⟩
      have p6 := bare_7 (o := o) HP4.out.1 (by have := HKD.out; omega)
      obtain ⟨x6c, hx6⟩ : ∃ x6c, x6c = { c4 with st := o.st, body := o.body, gaps := o.gaps, ba := o.ba } := ⟨_, rfl⟩
      rw [← hx6] at a6 s6 p6
      have A6 := Lib.hid a6
      have S6 := Lib.hid s6
      have P6 := Lib.hid p6
      have HSZ6 := Lib.hid a6.size
      have HY6 : Hid (Byt W6 W3.heap.size A3 l) := HY5.out.below (HBX.out.mono HS4.out)
      have HS36 : Hid (W3.heap.size ≤ W6.heap.size) := Nat.le_trans HS35.out HBX.out.size
      clear hW6 hcs6 e6 X O k4 ko l6 k6 a6 s6 p6 hx6 hne1 hne2 o6 x6 z6 o18 x18 z18 o14 x14 z14 o4 x4 z4
      go_wp2_with (refine wpList_load_row rfl 31 _ rfl g5 rfl 31 cs6 (0, 0) _ HG6.out Try.underlying31 rfl (by rw [HSZ6.out]; exact chunk_info) ?_)
      refine (put_k S6.out A6.out).mono ?_
      rintro e W7 ⟨hd, hb7⟩
      rcases hd with ⟨v7, _, rfl, ho7⟩ | ⟨k, hk, _⟩
      rotate_left
      · have P := P6.out.1
        rcases hk with ⟨_, h⟩ | ⟨_, _, h⟩ | ⟨_, _, _, h⟩
        · rw [P.known] at h; cases h
        · rw [P.full] at h; cases h
        · exact absurd h P.short
      rw [P6.out.2, HB4C.out, ← HL.out] at ho7
      obtain ⟨A7, c7, rfl, _, _, HY7⟩ := own_as (n := nb) ho7 HNB.out
      have hst1 := run_str (P := Try.prog) HY7.out 29 9 5 Try.underlying29 Try.underlying5 Try.underlying9 nb c7 HNB.out
      have hst2 := run_str (P := Try.prog) (HY6.out.below (hb7.mono HS36.out)) 29 9 5 Try.underlying29 Try.underlying5 Try.underlying9 nb c3 HNB.out
      have HB7 := Lib.hid (HB6.out.trans (hb7.mono HB6.out.size))
      clear ho7 hb7
      go_wp2_with fail
      go_ret
      exact ⟨by first | rfl | exact ret_bool (by simp), HB7.out⟩
    by_cases h8 : kd = 11 ∨ kd = 8
    · rcases h8 with rfl | rfl
      · have o5 := CkBlk.at HGO.out HOC.out.c5
        have o17 := CkBlk.at HGO.out HOC.out.c17
        have o1 := CkBlk.at HGO.out HOC.out.c1
        have x5 := CkBlk.at HGX.out HXC.out.c5
        have x17 := CkBlk.at HGX.out HXC.out.c17
        have x1 := CkBlk.at HGX.out HXC.out.c1
        have z5 := Blk.frozen HGX.out 5
        have z17 := Blk.frozen HGX.out 17
        have z1 := Blk.frozen HGX.out 1
        have hne1 : g1 ≠ g5 := HNE.out
        have hne2 : g5 ≠ g1 := fun e => HNE.out e.symm
        go_upto_region 23 with fail
        go_region_held3 (fun w' => w'.cell? ⟨g1, 5, none⟩ = some (.int .u32 (o.tsn : Int)) ∧ w'.cell? ⟨g1, 17, none⟩ = some (.slice op.A o.ps.length op.cap) ∧ w'.cell? ⟨g1, 1, none⟩ = some (.bool o.bg))
          (go_keep)
          (fail)
        obtain ⟨W6, hW6⟩ : ∃ W6, W6 = (((W5.setCell ⟨g5, 5, none⟩ (.int .u32 (o.tsn : Int))).setCell ⟨g5, 17, none⟩ (.slice op.A o.ps.length op.cap)).setCell ⟨g5, 1, none⟩ (.bool o.bg)).drew := ⟨_, rfl⟩
        rw [← hW6]
        have HG6 : Hid (CkBlk W6 g5 (((cs4.setIfInBounds 5 (.int .u32 (o.tsn : Int))).setIfInBounds 17 (.slice op.A o.ps.length op.cap)).setIfInBounds 1 (.bool o.bg))) := by rw [hW6]; exact Blk.drew (Blk.set_ (Blk.set_ (Blk.set_ HGX.out 5 (.int .u32 (o.tsn : Int))) 17 (.slice op.A o.ps.length op.cap)) 1 (.bool o.bg))
        have HBX : Hid (Below W4.heap.size W5 W6) := by rw [hW6]; exact Below.drew ((((Below.refl W4.heap.size W5).setCell (p := ⟨g5, 5, none⟩) HGE2.out (.int .u32 (o.tsn : Int))).setCell (p := ⟨g5, 17, none⟩) HGE2.out (.slice op.A o.ps.length op.cap)).setCell (p := ⟨g5, 1, none⟩) HGE2.out (.bool o.bg))
        obtain ⟨cs6, hcs6⟩ : ∃ cs6, cs6 = (((cs4.setIfInBounds 5 (.int .u32 (o.tsn : Int))).setIfInBounds 17 (.slice op.A o.ps.length op.cap)).setIfInBounds 1 (.bool o.bg)) := ⟨_, rfl⟩
        rw [← hcs6] at HG6
        have e6 : cs6 = ckArr { c4 with tsn := o.tsn, ps := o.ps, bg := o.bg } (xg.v c4.gaps.length) (xd.v c4.dups.length) (xs.v c4.skips.length) (op.v o.ps.length) (xb.v c4.body.length) := by rw [hcs6, HXE.out]; rfl
        have HB6 := Lib.hid (HB5'.out.trans (HBX.out.mono HB4.out.size))
        have X := lists_kept HXL.out HBX.out (Nat.le_trans HS45.out HBX.out.size)
        have O := lists_kept HOL.out HB6.out HB6.out.size
        have k4 := HOK4.out
        have ko := HATO.out.ok
        have l6 : Lists W6 W6.heap.size { c4 with tsn := o.tsn, ps := o.ps, bg := o.bg } xg xd xs op xb := ⟨X.okg, X.okd, X.oks, O.okp, X.okb, X.gaps, X.dups, X.skips, O.ps, X.body⟩
        have k6 : Ck.ok { c4 with tsn := o.tsn, ps := o.ps, bg := o.bg } := ⟨k4.kind, ko.tsn, k4.st, k4.mid, k4.pp, k4.fr, k4.tag, k4.win, k4.out, k4.inn, k4.gaps, k4.dups, k4.skips, ko.ps⟩
        have a6 := ckAt_of k6 e6 l6
        have s6 : Small { c4 with tsn := o.tsn, ps := o.ps, bg := o.bg } := ⟨by show c4.body.length ≤ _; have := HSL4.out; have := HSO.out; unfold sizeC at this; omega, by show 8 * c4.skips.length ≤ _; have := HSL4.out; have := HSO.out; unfold sizeC at this; omega, by show sizeL o.ps ≤ _; have := HSL4.out; have := HSO.out; unfold sizeC at this; omega⟩
        have p6 := bare_811 (o := o) HP4.out.1 (by have := HKD.out; omega)
        obtain ⟨x6c, hx6⟩ : ∃ x6c, x6c = { c4 with tsn := o.tsn, ps := o.ps, bg := o.bg } := ⟨_, rfl⟩
        rw [← hx6] at a6 s6 p6
        have A6 := Lib.hid a6
        have S6 := Lib.hid s6
        have P6 := Lib.hid p6
        have HSZ6 := Lib.hid a6.size
        have HY6 : Hid (Byt W6 W3.heap.size A3 l) := HY5.out.below (HBX.out.mono HS4.out)
        have HS36 : Hid (W3.heap.size ≤ W6.heap.size) := Nat.le_trans HS35.out HBX.out.size
        clear hW6 hcs6 e6 X O k4 ko l6 k6 a6 s6 p6 hx6 hne1 hne2 o5 x5 z5 o17 x17 z17 o1 x1 z1
        go_wp2_with (refine wpList_load_row rfl 31 _ rfl g5 rfl 31 cs6 (0, 0) _ HG6.out Try.underlying31 rfl (by rw [HSZ6.out]; exact chunk_info) ?_)
        refine (put_k S6.out A6.out).mono ?_
        rintro e W7 ⟨hd, hb7⟩
        rcases hd with ⟨v7, _, rfl, ho7⟩ | ⟨k, hk, _⟩
        rotate_left
        · have P := P6.out.1
          rcases hk with ⟨_, h⟩ | ⟨_, _, h⟩ | ⟨_, _, _, h⟩
          · rw [P.known] at h; cases h
          · rw [P.full] at h; cases h
          · exact absurd h P.short
        rw [P6.out.2, HB4C.out, ← HL.out] at ho7
        obtain ⟨A7, c7, rfl, _, _, HY7⟩ := own_as (n := nb) ho7 HNB.out
        have hst1 := run_str (P := Try.prog) HY7.out 29 9 5 Try.underlying29 Try.underlying5 Try.underlying9 nb c7 HNB.out
        have hst2 := run_str (P := Try.prog) (HY6.out.below (hb7.mono HS36.out)) 29 9 5 Try.underlying29 Try.underlying5 Try.underlying9 nb c3 HNB.out
        have HB7 := Lib.hid (HB6.out.trans (hb7.mono HB6.out.size))
        clear ho7 hb7
        go_wp2_with fail
        go_ret
        exact ⟨by first | rfl | exact ret_bool (by simp), HB7.out⟩
      · have o5 := CkBlk.at HGO.out HOC.out.c5
        have o17 := CkBlk.at HGO.out HOC.out.c17
        have o1 := CkBlk.at HGO.out HOC.out.c1
        have x5 := CkBlk.at HGX.out HXC.out.c5
        have x17 := CkBlk.at HGX.out HXC.out.c17
        have x1 := CkBlk.at HGX.out HXC.out.c1
        have z5 := Blk.frozen HGX.out 5
        have z17 := Blk.frozen HGX.out 17
        have z1 := Blk.frozen HGX.out 1
        have hne1 : g1 ≠ g5 := HNE.out
        have hne2 : g5 ≠ g1 := fun e => HNE.out e.symm
        go_upto_region 23 with fail
        go_region_held3 (fun w' => w'.cell? ⟨g1, 5, none⟩ = some (.int .u32 (o.tsn : Int)) ∧ w'.cell? ⟨g1, 17, none⟩ = some (.slice op.A o.ps.length op.cap) ∧ w'.cell? ⟨g1, 1, none⟩ = some (.bool o.bg))
          (go_keep)
          (fail)
        obtain ⟨W6, hW6⟩ : ∃ W6, W6 = (((W5.setCell ⟨g5, 5, none⟩ (.int .u32 (o.tsn : Int))).setCell ⟨g5, 17, none⟩ (.slice op.A o.ps.length op.cap)).setCell ⟨g5, 1, none⟩ (.bool o.bg)).drew := ⟨_, rfl⟩
        rw [← hW6]
        have HG6 : Hid (CkBlk W6 g5 (((cs4.setIfInBounds 5 (.int .u32 (o.tsn : Int))).setIfInBounds 17 (.slice op.A o.ps.length op.cap)).setIfInBounds 1 (.bool o.bg))) := by rw [hW6]; exact Blk.drew (Blk.set_ (Blk.set_ (Blk.set_ HGX.out 5 (.int .u32 (o.tsn : Int))) 17 (.slice op.A o.ps.length op.cap)) 1 (.bool o.bg))
        have HBX : Hid (Below W4.heap.size W5 W6) := by rw [hW6]; exact Below.drew ((((Below.refl W4.heap.size W5).setCell (p := ⟨g5, 5, none⟩) HGE2.out (.int .u32 (o.tsn : Int))).setCell (p := ⟨g5, 17, none⟩) HGE2.out (.slice op.A o.ps.length op.cap)).setCell (p := ⟨g5, 1, none⟩) HGE2.out (.bool o.bg))
        obtain ⟨cs6, hcs6⟩ : ∃ cs6, cs6 = (((cs4.setIfInBounds 5 (.int .u32 (o.tsn : Int))).setIfInBounds 17 (.slice op.A o.ps.length op.cap)).setIfInBounds 1 (.bool o.bg)) := ⟨_, rfl⟩
        rw [← hcs6] at HG6
        have e6 : cs6 = ckArr { c4 with tsn := o.tsn, ps := o.ps, bg := o.bg } (xg.v c4.gaps.length) (xd.v c4.dups.length) (xs.v c4.skips.length) (op.v o.ps.length) (xb.v c4.body.length) := by rw [hcs6, HXE.out]; rfl
        have HB6 := Lib.hid (HB5'.out.trans (HBX.out.mono HB4.out.size))
        have X := lists_kept HXL.out HBX.out (Nat.le_trans HS45.out HBX.out.size)
        have O := lists_kept HOL.out HB6.out HB6.out.size
        have k4 := HOK4.out
        have ko := HATO.out.ok
        have l6 : Lists W6 W6.heap.size { c4 with tsn := o.tsn, ps := o.ps, bg := o.bg } xg xd xs op xb := ⟨X.okg, X.okd, X.oks, O.okp, X.okb, X.gaps, X.dups, X.skips, O.ps, X.body⟩
        have k6 : Ck.ok { c4 with tsn := o.tsn, ps := o.ps, bg := o.bg } := ⟨k4.kind, ko.tsn, k4.st, k4.mid, k4.pp, k4.fr, k4.tag, k4.win, k4.out, k4.inn, k4.gaps, k4.dups, k4.skips, ko.ps⟩
        have a6 := ckAt_of k6 e6 l6
        have s6 : Small { c4 with tsn := o.tsn, ps := o.ps, bg := o.bg } := ⟨by show c4.body.length ≤ _; have := HSL4.out; have := HSO.out; unfold sizeC at this; omega, by show 8 * c4.skips.length ≤ _; have := HSL4.out; have := HSO.out; unfold sizeC at this; omega, by show sizeL o.ps ≤ _; have := HSL4.out; have := HSO.out; unfold sizeC at this; omega⟩
        have p6 := bare_811 (o := o) HP4.out.1 (by have := HKD.out; omega)
        obtain ⟨x6c, hx6⟩ : ∃ x6c, x6c = { c4 with tsn := o.tsn, ps := o.ps, bg := o.bg } := ⟨_, rfl⟩
        rw [← hx6] at a6 s6 p6
        have A6 := Lib.hid a6
        have S6 := Lib.hid s6
        have P6 := Lib.hid p6
        have HSZ6 := Lib.hid a6.size
        have HY6 : Hid (Byt W6 W3.heap.size A3 l) := HY5.out.below (HBX.out.mono HS4.out)
        have HS36 : Hid (W3.heap.size ≤ W6.heap.size) := Nat.le_trans HS35.out HBX.out.size
        clear hW6 hcs6 e6 X O k4 ko l6 k6 a6 s6 p6 hx6 hne1 hne2 o5 x5 z5 o17 x17 z17 o1 x1 z1
        go_wp2_with (refine wpList_load_row rfl 31 _ rfl g5 rfl 31 cs6 (0, 0) _ HG6.out Try.underlying31 rfl (by rw [HSZ6.out]; exact chunk_info) ?_)
        refine (put_k S6.out A6.out).mono ?_
        rintro e W7 ⟨hd, hb7⟩
        rcases hd with ⟨v7, _, rfl, ho7⟩ | ⟨k, hk, _⟩
        rotate_left
        · have P := P6.out.1
          rcases hk with ⟨_, h⟩ | ⟨_, _, h⟩ | ⟨_, _, _, h⟩
          · rw [P.known] at h; cases h
          · rw [P.full] at h; cases h
          · exact absurd h P.short
        rw [P6.out.2, HB4C.out, ← HL.out] at ho7
        obtain ⟨A7, c7, rfl, _, _, HY7⟩ := own_as (n := nb) ho7 HNB.out
        have hst1 := run_str (P := Try.prog) HY7.out 29 9 5 Try.underlying29 Try.underlying5 Try.underlying9 nb c7 HNB.out
        have hst2 := run_str (P := Try.prog) (HY6.out.below (hb7.mono HS36.out)) 29 9 5 Try.underlying29 Try.underlying5 Try.underlying9 nb c3 HNB.out
        have HB7 := Lib.hid (HB6.out.trans (hb7.mono HB6.out.size))
        clear ho7 hb7
        go_wp2_with fail
        go_ret
        exact ⟨by first | rfl | exact ret_bool (by simp), HB7.out⟩
    by_cases h0 : kd = 0 ∨ kd = 64
    · rcases h0 with rfl | rfl
      · have o11 := CkBlk.at HGO.out HOC.out.c11
        have o16 := CkBlk.at HGO.out HOC.out.c16
        have o15 := CkBlk.at HGO.out HOC.out.c15
        have x11 := CkBlk.at HGX.out HXC.out.c11
        have x16 := CkBlk.at HGX.out HXC.out.c16
        have x15 := CkBlk.at HGX.out HXC.out.c15
        have z11 := Blk.frozen HGX.out 11
        have z16 := Blk.frozen HGX.out 16
        have z15 := Blk.frozen HGX.out 15
        have hne1 : g1 ≠ g5 := HNE.out
        have hne2 : g5 ≠ g1 := fun e => HNE.out e.symm
        go_upto_region 23 with fail
        go_region_held3 (fun w' => w'.cell? ⟨g1, 11, none⟩ = some (.int .u32 (o.win : Int)) ∧ w'.cell? ⟨g1, 16, none⟩ = some (.slice osk.A o.skips.length osk.cap) ∧ w'.cell? ⟨g1, 15, none⟩ = some (.slice od.A o.dups.length od.cap))
          (go_keep)
          (fail)
        obtain ⟨W6, hW6⟩ : ∃ W6, W6 = (((W5.setCell ⟨g5, 11, none⟩ (.int .u32 (o.win : Int))).setCell ⟨g5, 16, none⟩ (.slice osk.A o.skips.length osk.cap)).setCell ⟨g5, 15, none⟩ (.slice od.A o.dups.length od.cap)).drew := ⟨_, rfl⟩
        rw [← hW6]
        have HG6 : Hid (CkBlk W6 g5 (((cs4.setIfInBounds 11 (.int .u32 (o.win : Int))).setIfInBounds 16 (.slice osk.A o.skips.length osk.cap)).setIfInBounds 15 (.slice od.A o.dups.length od.cap))) := by rw [hW6]; exact Blk.drew (Blk.set_ (Blk.set_ (Blk.set_ HGX.out 11 (.int .u32 (o.win : Int))) 16 (.slice osk.A o.skips.length osk.cap)) 15 (.slice od.A o.dups.length od.cap))
        have HBX : Hid (Below W4.heap.size W5 W6) := by rw [hW6]; exact Below.drew ((((Below.refl W4.heap.size W5).setCell (p := ⟨g5, 11, none⟩) HGE2.out (.int .u32 (o.win : Int))).setCell (p := ⟨g5, 16, none⟩) HGE2.out (.slice osk.A o.skips.length osk.cap)).setCell (p := ⟨g5, 15, none⟩) HGE2.out (.slice od.A o.dups.length od.cap))
        obtain ⟨cs6, hcs6⟩ : ∃ cs6, cs6 = (((cs4.setIfInBounds 11 (.int .u32 (o.win : Int))).setIfInBounds 16 (.slice osk.A o.skips.length osk.cap)).setIfInBounds 15 (.slice od.A o.dups.length od.cap)) := ⟨_, rfl⟩
        rw [← hcs6] at HG6
        have e6 : cs6 = ckArr { c4 with win := o.win, skips := o.skips, dups := o.dups } (xg.v c4.gaps.length) (od.v o.dups.length) (osk.v o.skips.length) (xp.v c4.ps.length) (xb.v c4.body.length) := by rw [hcs6, HXE.out]; rfl
        have HB6 := Lib.hid (HB5'.out.trans (HBX.out.mono HB4.out.size))
        have X := lists_kept HXL.out HBX.out (Nat.le_trans HS45.out HBX.out.size)
        have O := lists_kept HOL.out HB6.out HB6.out.size
        have k4 := HOK4.out
        have ko := HATO.out.ok
        have l6 : Lists W6 W6.heap.size { c4 with win := o.win, skips := o.skips, dups := o.dups } xg od osk xp xb := ⟨X.okg, O.okd, O.oks, X.okp, X.okb, X.gaps, O.dups, O.skips, X.ps, X.body⟩
        have k6 : Ck.ok { c4 with win := o.win, skips := o.skips, dups := o.dups } := ⟨k4.kind, k4.tsn, k4.st, k4.mid, k4.pp, k4.fr, k4.tag, ko.win, k4.out, k4.inn, k4.gaps, ko.dups, ko.skips, k4.ps⟩
        have a6 := ckAt_of k6 e6 l6
        have s6 : Small { c4 with win := o.win, skips := o.skips, dups := o.dups } := ⟨by show c4.body.length ≤ _; have := HSL4.out; have := HSO.out; unfold sizeC at this; omega, by show 8 * o.skips.length ≤ _; have := HSL4.out; have := HSO.out; unfold sizeC at this; omega, by show sizeL c4.ps ≤ _; have := HSL4.out; have := HSO.out; unfold sizeC at this; omega⟩
        have p6 := bare_body (o := o) HP4.out.1 (by have := HKD.out; omega)
        obtain ⟨x6c, hx6⟩ : ∃ x6c, x6c = { c4 with win := o.win, skips := o.skips, dups := o.dups } := ⟨_, rfl⟩
        rw [← hx6] at a6 s6 p6
        have A6 := Lib.hid a6
        have S6 := Lib.hid s6
        have P6 := Lib.hid p6
        have HSZ6 := Lib.hid a6.size
        have HY6 : Hid (Byt W6 W3.heap.size A3 l) := HY5.out.below (HBX.out.mono HS4.out)
        have HS36 : Hid (W3.heap.size ≤ W6.heap.size) := Nat.le_trans HS35.out HBX.out.size
        clear hW6 hcs6 e6 X O k4 ko l6 k6 a6 s6 p6 hx6 hne1 hne2 o11 x11 z11 o16 x16 z16 o15 x15 z15
        go_wp2_with (refine wpList_load_row rfl 31 _ rfl g5 rfl 31 cs6 (0, 0) _ HG6.out Try.underlying31 rfl (by rw [HSZ6.out]; exact chunk_info) ?_)
        refine (put_k S6.out A6.out).mono ?_
        rintro e W7 ⟨hd, hb7⟩
        rcases hd with ⟨v7, _, rfl, ho7⟩ | ⟨k, hk, _⟩
        rotate_left
        · have P := P6.out.1
          rcases hk with ⟨_, h⟩ | ⟨_, _, h⟩ | ⟨_, _, _, h⟩
          · rw [P.known] at h; cases h
          · rw [P.full] at h; cases h
          · exact absurd h P.short
        rw [P6.out.2, HB4C.out, ← HL.out] at ho7
        obtain ⟨A7, c7, rfl, _, _, HY7⟩ := own_as (n := nb) ho7 HNB.out
        have hst1 := run_str (P := Try.prog) HY7.out 29 9 5 Try.underlying29 Try.underlying5 Try.underlying9 nb c7 HNB.out
        have hst2 := run_str (P := Try.prog) (HY6.out.below (hb7.mono HS36.out)) 29 9 5 Try.underlying29 Try.underlying5 Try.underlying9 nb c3 HNB.out
        have HB7 := Lib.hid (HB6.out.trans (hb7.mono HB6.out.size))
        clear ho7 hb7
        go_wp2_with fail
        go_ret
        exact ⟨by first | rfl | exact ret_bool (by simp), HB7.out⟩
      · have o11 := CkBlk.at HGO.out HOC.out.c11
        have o16 := CkBlk.at HGO.out HOC.out.c16
        have o15 := CkBlk.at HGO.out HOC.out.c15
        have x11 := CkBlk.at HGX.out HXC.out.c11
        have x16 := CkBlk.at HGX.out HXC.out.c16
        have x15 := CkBlk.at HGX.out HXC.out.c15
        have z11 := Blk.frozen HGX.out 11
        have z16 := Blk.frozen HGX.out 16
        have z15 := Blk.frozen HGX.out 15
        have hne1 : g1 ≠ g5 := HNE.out
        have hne2 : g5 ≠ g1 := fun e => HNE.out e.symm
        go_upto_region 23 with fail
        go_region_held3 (fun w' => w'.cell? ⟨g1, 11, none⟩ = some (.int .u32 (o.win : Int)) ∧ w'.cell? ⟨g1, 16, none⟩ = some (.slice osk.A o.skips.length osk.cap) ∧ w'.cell? ⟨g1, 15, none⟩ = some (.slice od.A o.dups.length od.cap))
          (go_keep)
          (fail)
        obtain ⟨W6, hW6⟩ : ∃ W6, W6 = (((W5.setCell ⟨g5, 11, none⟩ (.int .u32 (o.win : Int))).setCell ⟨g5, 16, none⟩ (.slice osk.A o.skips.length osk.cap)).setCell ⟨g5, 15, none⟩ (.slice od.A o.dups.length od.cap)).drew := ⟨_, rfl⟩
        rw [← hW6]
        have HG6 : Hid (CkBlk W6 g5 (((cs4.setIfInBounds 11 (.int .u32 (o.win : Int))).setIfInBounds 16 (.slice osk.A o.skips.length osk.cap)).setIfInBounds 15 (.slice od.A o.dups.length od.cap))) := by rw [hW6]; exact Blk.drew (Blk.set_ (Blk.set_ (Blk.set_ HGX.out 11 (.int .u32 (o.win : Int))) 16 (.slice osk.A o.skips.length osk.cap)) 15 (.slice od.A o.dups.length od.cap))
        have HBX : Hid (Below W4.heap.size W5 W6) := by rw [hW6]; exact Below.drew ((((Below.refl W4.heap.size W5).setCell (p := ⟨g5, 11, none⟩) HGE2.out (.int .u32 (o.win : Int))).setCell (p := ⟨g5, 16, none⟩) HGE2.out (.slice osk.A o.skips.length osk.cap)).setCell (p := ⟨g5, 15, none⟩) HGE2.out (.slice od.A o.dups.length od.cap))
        obtain ⟨cs6, hcs6⟩ : ∃ cs6, cs6 = (((cs4.setIfInBounds 11 (.int .u32 (o.win : Int))).setIfInBounds 16 (.slice osk.A o.skips.length osk.cap)).setIfInBounds 15 (.slice od.A o.dups.length od.cap)) := ⟨_, rfl⟩
        rw [← hcs6] at HG6
        have e6 : cs6 = ckArr { c4 with win := o.win, skips := o.skips, dups := o.dups } (xg.v c4.gaps.length) (od.v o.dups.length) (osk.v o.skips.length) (xp.v c4.ps.length) (xb.v c4.body.length) := by rw [hcs6, HXE.out]; rfl
        have HB6 := Lib.hid (HB5'.out.trans (HBX.out.mono HB4.out.size))
        have X := lists_kept HXL.out HBX.out (Nat.le_trans HS45.out HBX.out.size)
        have O := lists_kept HOL.out HB6.out HB6.out.size
        have k4 := HOK4.out
        have ko := HATO.out.ok
        have l6 : Lists W6 W6.heap.size { c4 with win := o.win, skips := o.skips, dups := o.dups } xg od osk xp xb := ⟨X.okg, O.okd, O.oks, X.okp, X.okb, X.gaps, O.dups, O.skips, X.ps, X.body⟩
        have k6 : Ck.ok { c4 with win := o.win, skips := o.skips, dups := o.dups } := ⟨k4.kind, k4.tsn, k4.st, k4.mid, k4.pp, k4.fr, k4.tag, ko.win, k4.out, k4.inn, k4.gaps, ko.dups, ko.skips, k4.ps⟩
        have a6 := ckAt_of k6 e6 l6
        have s6 : Small { c4 with win := o.win, skips := o.skips, dups := o.dups } := ⟨by show c4.body.length ≤ _; have := HSL4.out; have := HSO.out; unfold sizeC at this; omega, by show 8 * o.skips.length ≤ _; have := HSL4.out; have := HSO.out; unfold sizeC at this; omega, by show sizeL c4.ps ≤ _; have := HSL4.out; have := HSO.out; unfold sizeC at this; omega⟩
        have p6 := bare_body (o := o) HP4.out.1 (by have := HKD.out; omega)
        obtain ⟨x6c, hx6⟩ : ∃ x6c, x6c = { c4 with win := o.win, skips := o.skips, dups := o.dups } := ⟨_, rfl⟩
        rw [← hx6] at a6 s6 p6
        have A6 := Lib.hid a6
        have S6 := Lib.hid s6
        have P6 := Lib.hid p6
        have HSZ6 := Lib.hid a6.size
        have HY6 : Hid (Byt W6 W3.heap.size A3 l) := HY5.out.below (HBX.out.mono HS4.out)
        have HS36 : Hid (W3.heap.size ≤ W6.heap.size) := Nat.le_trans HS35.out HBX.out.size
        clear hW6 hcs6 e6 X O k4 ko l6 k6 a6 s6 p6 hx6 hne1 hne2 o11 x11 z11 o16 x16 z16 o15 x15 z15
        go_wp2_with (refine wpList_load_row rfl 31 _ rfl g5 rfl 31 cs6 (0, 0) _ HG6.out Try.underlying31 rfl (by rw [HSZ6.out]; exact chunk_info) ?_)
        refine (put_k S6.out A6.out).mono ?_
        rintro e W7 ⟨hd, hb7⟩
        rcases hd with ⟨v7, _, rfl, ho7⟩ | ⟨k, hk, _⟩
        rotate_left
        · have P := P6.out.1
          rcases hk with ⟨_, h⟩ | ⟨_, _, h⟩ | ⟨_, _, _, h⟩
          · rw [P.known] at h; cases h
          · rw [P.full] at h; cases h
          · exact absurd h P.short
        rw [P6.out.2, HB4C.out, ← HL.out] at ho7
        obtain ⟨A7, c7, rfl, _, _, HY7⟩ := own_as (n := nb) ho7 HNB.out
        have hst1 := run_str (P := Try.prog) HY7.out 29 9 5 Try.underlying29 Try.underlying5 Try.underlying9 nb c7 HNB.out
        have hst2 := run_str (P := Try.prog) (HY6.out.below (hb7.mono HS36.out)) 29 9 5 Try.underlying29 Try.underlying5 Try.underlying9 nb c3 HNB.out
        have HB7 := Lib.hid (HB6.out.trans (hb7.mono HB6.out.size))
        clear ho7 hb7
        go_wp2_with fail
        go_ret
        exact ⟨by first | rfl | exact ret_bool (by simp), HB7.out⟩
    by_cases h3 : kd = 3
    · subst h3
      have o18 := CkBlk.at HGO.out HOC.out.c18
      have o16 := CkBlk.at HGO.out HOC.out.c16
      have o3 := CkBlk.at HGO.out HOC.out.c3
      have x18 := CkBlk.at HGX.out HXC.out.c18
      have x16 := CkBlk.at HGX.out HXC.out.c16
      have x3 := CkBlk.at HGX.out HXC.out.c3
      have z18 := Blk.frozen HGX.out 18
      have z16 := Blk.frozen HGX.out 16
      have z3 := Blk.frozen HGX.out 3
      have hne1 : g1 ≠ g5 := HNE.out
      have hne2 : g5 ≠ g1 := fun e => HNE.out e.symm
      go_upto_region 23 with fail
      go_region_held3 (fun w' => w'.cell? ⟨g1, 18, none⟩ = some (.slice ob.A o.body.length ob.cap) ∧ w'.cell? ⟨g1, 16, none⟩ = some (.slice osk.A o.skips.length osk.cap) ∧ w'.cell? ⟨g1, 3, none⟩ = some (.bool o.lo))
        (go_keep)
        (fail)
      obtain ⟨W6, hW6⟩ : ∃ W6, W6 = (((W5.setCell ⟨g5, 18, none⟩ (.slice ob.A o.body.length ob.cap)).setCell ⟨g5, 16, none⟩ (.slice osk.A o.skips.length osk.cap)).setCell ⟨g5, 3, none⟩ (.bool o.lo)).drew := ⟨_, rfl⟩
      rw [← hW6]
      have HG6 : Hid (CkBlk W6 g5 (((cs4.setIfInBounds 18 (.slice ob.A o.body.length ob.cap)).setIfInBounds 16 (.slice osk.A o.skips.length osk.cap)).setIfInBounds 3 (.bool o.lo))) := by rw [hW6]; exact Blk.drew (Blk.set_ (Blk.set_ (Blk.set_ HGX.out 18 (.slice ob.A o.body.length ob.cap)) 16 (.slice osk.A o.skips.length osk.cap)) 3 (.bool o.lo))
      have HBX : Hid (Below W4.heap.size W5 W6) := by rw [hW6]; exact Below.drew ((((Below.refl W4.heap.size W5).setCell (p := ⟨g5, 18, none⟩) HGE2.out (.slice ob.A o.body.length ob.cap)).setCell (p := ⟨g5, 16, none⟩) HGE2.out (.slice osk.A o.skips.length osk.cap)).setCell (p := ⟨g5, 3, none⟩) HGE2.out (.bool o.lo))
      obtain ⟨cs6, hcs6⟩ : ∃ cs6, cs6 = (((cs4.setIfInBounds 18 (.slice ob.A o.body.length ob.cap)).setIfInBounds 16 (.slice osk.A o.skips.length osk.cap)).setIfInBounds 3 (.bool o.lo)) := ⟨_, rfl⟩
      rw [← hcs6] at HG6
      have e6 : cs6 = ckArr { c4 with body := o.body, skips := o.skips, lo := o.lo } (xg.v c4.gaps.length) (xd.v c4.dups.length) (osk.v o.skips.length) (xp.v c4.ps.length) (ob.v o.body.length) := by rw [hcs6, HXE.out]; rfl
      have HB6 := Lib.hid (HB5'.out.trans (HBX.out.mono HB4.out.size))
      have X := lists_kept HXL.out HBX.out (Nat.le_trans HS45.out HBX.out.size)
      have O := lists_kept HOL.out HB6.out HB6.out.size
      have k4 := HOK4.out
      have ko := HATO.out.ok
      have l6 : Lists W6 W6.heap.size { c4 with body := o.body, skips := o.skips, lo := o.lo } xg xd osk xp ob := ⟨X.okg, X.okd, O.oks, X.okp, O.okb, X.gaps, X.dups, O.skips, X.ps, O.body⟩
      have k6 : Ck.ok { c4 with body := o.body, skips := o.skips, lo := o.lo } := ⟨k4.kind, k4.tsn, k4.st, k4.mid, k4.pp, k4.fr, k4.tag, k4.win, k4.out, k4.inn, k4.gaps, k4.dups, ko.skips, k4.ps⟩
      have a6 := ckAt_of k6 e6 l6
      have s6 : Small { c4 with body := o.body, skips := o.skips, lo := o.lo } := ⟨by show o.body.length ≤ _; have := HSL4.out; have := HSO.out; unfold sizeC at this; omega, by show 8 * o.skips.length ≤ _; have := HSL4.out; have := HSO.out; unfold sizeC at this; omega, by show sizeL c4.ps ≤ _; have := HSL4.out; have := HSO.out; unfold sizeC at this; omega⟩
      have p6 := bare_3 (o := o) HP4.out.1 (by have := HKD.out; omega)
      obtain ⟨x6c, hx6⟩ : ∃ x6c, x6c = { c4 with body := o.body, skips := o.skips, lo := o.lo } := ⟨_, rfl⟩
      rw [← hx6] at a6 s6 p6
      have A6 := Lib.hid a6
      have S6 := Lib.hid s6
      have P6 := Lib.hid p6
      have HSZ6 := Lib.hid a6.size
      have HY6 : Hid (Byt W6 W3.heap.size A3 l) := HY5.out.below (HBX.out.mono HS4.out)
      have HS36 : Hid (W3.heap.size ≤ W6.heap.size) := Nat.le_trans HS35.out HBX.out.size
      clear hW6 hcs6 e6 X O k4 ko l6 k6 a6 s6 p6 hx6 hne1 hne2 o18 x18 z18 o16 x16 z16 o3 x3 z3
      go_wp2_with (refine wpList_load_row rfl 31 _ rfl g5 rfl 31 cs6 (0, 0) _ HG6.out Try.underlying31 rfl (by rw [HSZ6.out]; exact chunk_info) ?_)
      refine (put_k S6.out A6.out).mono ?_
      rintro e W7 ⟨hd, hb7⟩
      rcases hd with ⟨v7, _, rfl, ho7⟩ | ⟨k, hk, _⟩
      rotate_left
      · have P := P6.out.1
        rcases hk with ⟨_, h⟩ | ⟨_, _, h⟩ | ⟨_, _, _, h⟩
        · rw [P.known] at h; cases h
        · rw [P.full] at h; cases h
        · exact absurd h P.short
      rw [P6.out.2, HB4C.out, ← HL.out] at ho7
      obtain ⟨A7, c7, rfl, _, _, HY7⟩ := own_as (n := nb) ho7 HNB.out
      have hst1 := run_str (P := Try.prog) HY7.out 29 9 5 Try.underlying29 Try.underlying5 Try.underlying9 nb c7 HNB.out
      have hst2 := run_str (P := Try.prog) (HY6.out.below (hb7.mono HS36.out)) 29 9 5 Try.underlying29 Try.underlying5 Try.underlying9 nb c3 HNB.out
      have HB7 := Lib.hid (HB6.out.trans (hb7.mono HB6.out.size))
      clear ho7 hb7
      go_wp2_with fail
      go_ret
      exact ⟨by first | rfl | exact ret_bool (by simp), HB7.out⟩
    have n1 : ¬ (kd : Int) = 7 := by omega
    have n2 : ¬ (kd : Int) = 11 := by omega
    have n3 : ¬ (kd : Int) = 8 := by omega
    have n4 : ¬ (kd : Int) = 0 := by omega
    have n5 : ¬ (kd : Int) = 64 := by omega
    have n6 : ¬ (kd : Int) = 3 := by omega
    have o14 := CkBlk.at HGO.out HOC.out.c14
    have o15 := CkBlk.at HGO.out HOC.out.c15
    have o6 := CkBlk.at HGO.out HOC.out.c6
    have o8 := CkBlk.at HGO.out HOC.out.c8
    have x14 := CkBlk.at HGX.out HXC.out.c14
    have x15 := CkBlk.at HGX.out HXC.out.c15
    have x6 := CkBlk.at HGX.out HXC.out.c6
    have x8 := CkBlk.at HGX.out HXC.out.c8
    have z14 := Blk.frozen HGX.out 14
    have z15 := Blk.frozen HGX.out 15
    have z6 := Blk.frozen HGX.out 6
    have z8 := Blk.frozen HGX.out 8
    have hne1 : g1 ≠ g5 := HNE.out
    have hne2 : g5 ≠ g1 := fun e => HNE.out e.symm
    go_upto_region 23 with fail
    go_region_held3 (fun w' => w'.cell? ⟨g1, 14, none⟩ = some (.slice og.A o.gaps.length og.cap) ∧ w'.cell? ⟨g1, 15, none⟩ = some (.slice od.A o.dups.length od.cap) ∧ w'.cell? ⟨g1, 6, none⟩ = some (.int .u16 (o.st : Int)) ∧ w'.cell? ⟨g1, 8, none⟩ = some (.int .u32 (o.pp : Int)))
      (go_keep)
      (fail)
    obtain ⟨W6, hW6⟩ : ∃ W6, W6 = ((((W5.setCell ⟨g5, 14, none⟩ (.slice og.A o.gaps.length og.cap)).setCell ⟨g5, 15, none⟩ (.slice od.A o.dups.length od.cap)).setCell ⟨g5, 6, none⟩ (.int .u16 (o.st : Int))).setCell ⟨g5, 8, none⟩ (.int .u32 (o.pp : Int))).drew := ⟨_, rfl⟩
    rw [← hW6]
    have HG6 : Hid (CkBlk W6 g5 ((((cs4.setIfInBounds 14 (.slice og.A o.gaps.length og.cap)).setIfInBounds 15 (.slice od.A o.dups.length od.cap)).setIfInBounds 6 (.int .u16 (o.st : Int))).setIfInBounds 8 (.int .u32 (o.pp : Int)))) := by rw [hW6]; exact Blk.drew (Blk.set_ (Blk.set_ (Blk.set_ (Blk.set_ HGX.out 14 (.slice og.A o.gaps.length og.cap)) 15 (.slice od.A o.dups.length od.cap)) 6 (.int .u16 (o.st : Int))) 8 (.int .u32 (o.pp : Int)))
    have HBX : Hid (Below W4.heap.size W5 W6) := by rw [hW6]; exact Below.drew (((((Below.refl W4.heap.size W5).setCell (p := ⟨g5, 14, none⟩) HGE2.out (.slice og.A o.gaps.length og.cap)).setCell (p := ⟨g5, 15, none⟩) HGE2.out (.slice od.A o.dups.length od.cap)).setCell (p := ⟨g5, 6, none⟩) HGE2.out (.int .u16 (o.st : Int))).setCell (p := ⟨g5, 8, none⟩) HGE2.out (.int .u32 (o.pp : Int)))
    obtain ⟨cs6, hcs6⟩ : ∃ cs6, cs6 = ((((cs4.setIfInBounds 14 (.slice og.A o.gaps.length og.cap)).setIfInBounds 15 (.slice od.A o.dups.length od.cap)).setIfInBounds 6 (.int .u16 (o.st : Int))).setIfInBounds 8 (.int .u32 (o.pp : Int))) := ⟨_, rfl⟩
    rw [← hcs6] at HG6
    have e6 : cs6 = ckArr { c4 with gaps := o.gaps, dups := o.dups, st := o.st, pp := o.pp } (og.v o.gaps.length) (od.v o.dups.length) (xs.v c4.skips.length) (xp.v c4.ps.length) (xb.v c4.body.length) := by rw [hcs6, HXE.out]; rfl
    have HB6 := Lib.hid (HB5'.out.trans (HBX.out.mono HB4.out.size))
    have X := lists_kept HXL.out HBX.out (Nat.le_trans HS45.out HBX.out.size)
    have O := lists_kept HOL.out HB6.out HB6.out.size
    have k4 := HOK4.out
    have ko := HATO.out.ok
    have l6 : Lists W6 W6.heap.size { c4 with gaps := o.gaps, dups := o.dups, st := o.st, pp := o.pp } og od xs xp xb := ⟨O.okg, O.okd, X.oks, X.okp, X.okb, O.gaps, O.dups, X.skips, X.ps, X.body⟩
    have k6 : Ck.ok { c4 with gaps := o.gaps, dups := o.dups, st := o.st, pp := o.pp } := ⟨k4.kind, k4.tsn, ko.st, k4.mid, ko.pp, k4.fr, k4.tag, k4.win, k4.out, k4.inn, ko.gaps, ko.dups, k4.skips, k4.ps⟩
    have a6 := ckAt_of k6 e6 l6
    have s6 : Small { c4 with gaps := o.gaps, dups := o.dups, st := o.st, pp := o.pp } := ⟨by show c4.body.length ≤ _; have := HSL4.out; have := HSO.out; unfold sizeC at this; omega, by show 8 * c4.skips.length ≤ _; have := HSL4.out; have := HSO.out; unfold sizeC at this; omega, by show sizeL c4.ps ≤ _; have := HSL4.out; have := HSO.out; unfold sizeC at this; omega⟩
    have p6 := bare_else (o := o) HP4.out.1 (by have := HKD.out; omega) (by have := HKD.out; omega) (by have := HKD.out; omega)
    obtain ⟨x6c, hx6⟩ : ∃ x6c, x6c = { c4 with gaps := o.gaps, dups := o.dups, st := o.st, pp := o.pp } := ⟨_, rfl⟩
    rw [← hx6] at a6 s6 p6
    have A6 := Lib.hid a6
    have S6 := Lib.hid s6
    have P6 := Lib.hid p6
    have HSZ6 := Lib.hid a6.size
    have HY6 : Hid (Byt W6 W3.heap.size A3 l) := HY5.out.below (HBX.out.mono HS4.out)
    have HS36 : Hid (W3.heap.size ≤ W6.heap.size) := Nat.le_trans HS35.out HBX.out.size
    clear hW6 hcs6 e6 X O k4 ko l6 k6 a6 s6 p6 hx6 hne1 hne2 o14 x14 z14 o15 x15 z15 o6 x6 z6 o8 x8 z8
    go_wp2_with (refine wpList_load_row rfl 31 _ rfl g5 rfl 31 cs6 (0, 0) _ HG6.out Try.underlying31 rfl (by rw [HSZ6.out]; exact chunk_info) ?_)
    refine (put_k S6.out A6.out).mono ?_
    rintro e W7 ⟨hd, hb7⟩
    rcases hd with ⟨v7, _, rfl, ho7⟩ | ⟨k, hk, _⟩
    rotate_left
    · have P := P6.out.1
      rcases hk with ⟨_, h⟩ | ⟨_, _, h⟩ | ⟨_, _, _, h⟩
      · rw [P.known] at h; cases h
      · rw [P.full] at h; cases h
      · exact absurd h P.short
    rw [P6.out.2, HB4C.out, ← HL.out] at ho7
    obtain ⟨A7, c7, rfl, _, _, HY7⟩ := own_as (n := nb) ho7 HNB.out
    have hst1 := run_str (P := Try.prog) HY7.out 29 9 5 Try.underlying29 Try.underlying5 Try.underlying9 nb c7 HNB.out
    have hst2 := run_str (P := Try.prog) (HY6.out.below (hb7.mono HS36.out)) 29 9 5 Try.underlying29 Try.underlying5 Try.underlying9 nb c3 HNB.out
    have HB7 := Lib.hid (HB6.out.trans (hb7.mono HB6.out.size))
    clear ho7 hb7
    go_wp2_with fail
    go_ret
    exact ⟨by first | rfl | exact ret_bool (by simp), HB7.out⟩

/-! ### The row's step -/
set_option maxRecDepth 100000 in
theorem lifted (os : Os) (started : os.Started) (H : Type) (enc : TypeId × Value → H) :
    ReturnsInHanded {} Try.checked os 8 .any (Rows.chunkBareSpec.pre6 enc Try.prog Try.f8 Rows.chunkBareRow.domain false) (Rows.chunkBareSpec.post enc Try.prog Try.f8 false true false false) := by
  refine returnsInHanded_of_change (C := Try.checked) own started (by kernel_rfl) Try.func8
    (ChangeSpec.witness6 (enc := enc) (C := Try.checked) false ⟨#[], #[.agg #[.int .u8 0, .bool false, .bool false, .bool false, .bool false, .int .u32 0, .int .u16 0, .int .u32 0, .int .u32 0, .int .u32 0, .int .u32 0, .int .u32 0, .int .u16 0, .int .u16 0, .slice none 0 0, .slice none 0 0, .slice none 0 0, .slice none 0 0, .slice none 0 0], .agg #[.int .u8 0, .bool false, .bool false, .bool false, .bool false, .int .u32 0, .int .u16 0, .int .u32 0, .int .u32 0, .int .u32 0, .int .u32 0, .int .u32 0, .int .u16 0, .int .u16 0, .slice none 0 0, .slice none 0 0, .slice none 0 0, .slice none 0 0, .slice none 0 0]], []⟩ 8 (by kernel_rfl) (by kernel_rfl) (by kernel_rfl) (by kernel_rfl)) ?_
  intro W base args ds gs before hval0 hW hcnd _
  have hval : ∀ (j : Nat) t v, Try.f8.params[j]? = some t → args[j]? = some v → Value.okWide Try.prog W .any base t v := hval0
  have hW' := hW
  obtain ⟨p, q, hA0, hV, rfl, hfz, hnd⟩ := hW
  have hA : DataW.TrodAll enc Try.prog W 0 (fun _ => true) true Try.f8.params.toList args.toList ds p := hA0
  rw [Try.params8] at hA hval
  obtain ⟨v0, vs0, d0, ds0, p0, q0, hargs, rfl, rfl, h0, r0⟩ := trodAll_cons hA
  obtain ⟨v1, vs1, d1, ds1, p1, q1, rfl, rfl, rfl, h1, r1⟩ := trodAll_cons r0
  obtain ⟨rfl, rfl, rfl⟩ := trodAll_nil r1
  obtain rfl : args = #[v0, v1] := by cases args; simp_all
  obtain ⟨rfl, rfl⟩ := trodVars_none hV
  have lt0 : ∀ x ∈ p0, x.block < W.heap.size := by obtain ⟨m, hm⟩ := h0; exact DataW.trod_lt m _ _ _ hm
  have lt1 : ∀ x ∈ p1, x.block < W.heap.size := by obtain ⟨m, hm⟩ := h1; exact DataW.trod_lt m _ _ _ hm
  clear hA0 hval0
  refine (walk v0 d0 p0 v1 d1 p1 W (hval 0 31 v0 rfl rfl) h0 (hval 1 31 v1 rfl rfl) h1).mono fun e W' ⟨he, bel⟩ => ?_
  subst he
  exact ⟨_, rfl, _, _, _, [], _, [], hW', trodAll_mk1 (shut_bool Try.underlying4 _), (trodAll_cons_mk (Below.trod laidOut (by kernel_rfl) (of_decide_eq_true (by kernel_rfl)) h0 bel lt0) (trodAll_cons_mk (Below.trod laidOut (by kernel_rfl) (of_decide_eq_true (by kernel_rfl)) h1 bel lt1) trodAll_mk0)), rfl, bel.frame _, fun h => by cases h⟩

theorem over : Rows.chunkBareRow.holds Try.pinned (OpenSpec.ofChange Rows.chunkBareSpec) :=
  OpenClaim.holds_of_wide 8 Try.f8 rfl rfl rfl rfl rfl rfl rfl ⟨rfl, rfl, rfl, rfl, rfl⟩ rfl rfl rfl rfl rfl (by kernel_rfl) Try.func8 (by kernel_rfl)
    (of_decide_eq_true (by kernel_rfl)) (by unfold Func.isWrapper; first | (rw [if_pos (by decide +kernel)]; kernel_rfl) | (rw [if_neg (by decide +kernel)]; exact ⟨rfl, rfl⟩))
    (fun os started H enc _ => lifted os started H enc)

theorem proved : Rows.ChunkBareSaid := over
#print axioms proved
end Go.Proofs.Ytmhjoclcbpjdiaa.chunkBare
