/-
  PROVED: OctetWrites of flumelaw04 answers true for every input, and its arguments read afterwards as before. CONDITIONS: none beside the form's own.
-/
import Derived.Test.YtnnfjndbilapfaaRows
import Derived.Test.YtnnfjndbilapfaaOctLaw
import Derived.Test.YtnnfjndbilapfaaOctRef
import Derived.Test.YtnnfjndbilapfaaSees
import Derived.Test.YtnnfjndbilapfaaStage
import Derived.WalkKit
import Derived.ProofKit
import Derived.OpenShut
import Derived.ShutString
import Derived.ChangeOld
import Derived.Below
namespace Go.Proofs.Ytnnfjndbilapfaa.octetWrites
open Go.ChangeShapes Go.WideShapes Go.ChangeAt Go.RowKit
open Go.ChangeMaps (open_string shut_string)
set_option linter.unusedVariables false
set_option linter.unusedSimpArgs false

theorem own : ownKnob Try.prog.godebug = none := by kernel_rfl
theorem laidOut : laidOutB Try.prog = true := by kernel_rfl

/-- What the walk is told of a slice of integers that came in. -/
def IsRow (k : IntKind) (w : World) (a : Option Addr) (len cap : Nat) (zs : List Int) : Prop :=
  (a = none ∧ len = 0 ∧ cap = 0 ∧ zs = []) ∨
  ∃ x, a = some x ∧ len ≤ cap ∧ cap ≤ maxLen ∧ zs.length = cap ∧ (∀ i, i < zs.length → w.cell? (x.add i) = some (.int k (zs.getD i 0))) ∧ ∀ n ∈ zs, (Lit.int k n).wf = true

/-! ### The walk -/
open Words Oct
abbrev OpSh : Sh := .strct (.pair (.int .i64) (.pair (.int .i64) (.pair (.int .u32) (.pair Sh.bytes .nil))))
/-- The i-th operation of a script. -/
def OpAt (w : World) (ad : Addr) (i : Nat) (K N : Int) (V : Nat) (Ab : Option Addr) (lb : List UInt8) (cb : Nat) : Prop :=
  w.cell? (ad.add (i * 4)) = some (.int .i64 K) ∧ w.cell? ⟨(ad.add (i * 4)).block, (ad.add (i * 4)).off + 1, none⟩ = some (.int .i64 N) ∧ w.cell? ⟨(ad.add (i * 4)).block, (ad.add (i * 4)).off + 2, none⟩ = some (.int .u32 (V : Int)) ∧ w.cell? ⟨(ad.add (i * 4)).block, (ad.add (i * 4)).off + 3, none⟩ = some (.slice Ab lb.length cb) ∧
  (-9223372036854775808 ≤ K ∧ K ≤ 9223372036854775807) ∧ (-9223372036854775808 ≤ N ∧ N ≤ 9223372036854775807) ∧ V < 4294967296 ∧ lb.length ≤ cb ∧ cb ≤ 9223372036854775807 ∧ Byt w w.heap.size Ab lb
theorem opAt_of {w : World} {A : Option Addr} {n c : Nat} (h : ∀ i, i < n → ∃ a cs', A = some a ∧ cs'.length = OpSh.size ∧ (∀ j u, cs'[j]? = some u → w.cell? (a.add (i * OpSh.size + j)) = some u) ∧ Sees w OpSh cs') (i : Nat) (hi : i < n) :
    ∃ ad K N V Ab lb cb, A = some ad ∧ OpAt w ad i K N V Ab lb cb := by
  obtain ⟨a, cs, hA, hl, hc, hs⟩ := h i hi
  obtain ⟨c1, r1, rfl, h1, ⟨K, rfl, hK⟩, c2, r2, rfl, h2, ⟨N, rfl, hN⟩, c3, r3, rfl, h3, ⟨V, rfl, hV⟩, c4, r4, rfl, h4, hb, rfl⟩ := hs
  match c4, h4, hb with
  | [u], _, hb =>
    obtain ⟨Ab, cb, lb, rfl, h5, h6, h7⟩ := hb.bytes
    have bV := bounds_u32 hV
    refine ⟨a, K, N, V.toNat, Ab, lb, cb, hA, ?_, ?_, ?_, ?_, bounds_i64 hK, bounds_i64 hN, by omega, h5, h6, h7⟩
    · exact hc 0 _ rfl
    · have := hc 1 _ rfl
      rw [← add_of_add, add_lit _ (by omega)] at this
      exact this
    · have := hc 2 _ rfl
      rw [← add_of_add, add_lit _ (by omega)] at this
      rw [show ((V.toNat : Nat) : Int) = V by omega]
      exact this
    · have := hc 3 _ rfl
      rw [← add_of_add, add_lit _ (by omega)] at this
      exact this
theorem OpAt.keep {w w' : World} {ad : Addr} {i : Nat} {K N : Int} {V : Nat} {Ab : Option Addr} {lb : List UInt8} {cb : Nat} (h : OpAt w ad i K N V Ab lb cb) (hb : Below w.heap.size w w') : OpAt w' ad i K N V Ab lb cb := by
  obtain ⟨h1, h2, h3, h4, h5, h6, h7, h8, h9, h10⟩ := h
  have k : ∀ {p : Addr} {u : Value}, w.cell? p = some u → w'.cell? p = some u := fun {p u} h => (hb.cell (World.block_lt_of_cell? w _ h)).trans h
  exact ⟨k h1, k h2, k h3, k h4, h5, h6, h7, h8, h9, (h10.below hb).more hb.size⟩
theorem be_mod1 (v : Nat) : be (v % 256) 1 = be v 1 := by
  rw [be_1, be_1]
  have : byteAt (v % 256) 0 = byteAt v 0 := by
    apply UInt8.toNat_inj.1
    rw [byteAt_nat, byteAt_nat]
    omega
  rw [this]
theorem be_mod2 (v : Nat) : be (v % 65536) 2 = be v 2 := by
  rw [be_2, be_2]
  have h0 : byteAt (v % 65536) 0 = byteAt v 0 := by
    apply UInt8.toNat_inj.1
    rw [byteAt_nat, byteAt_nat]
    omega
  have h1 : byteAt (v % 65536) 1 = byteAt v 1 := by
    apply UInt8.toNat_inj.1
    rw [byteAt_nat, byteAt_nat]
    omega
  rw [h0, h1]
/-- Where the writer and the list beside it stand. -/
structure XL (w V : World) (pw : Nat) (v vx : Value) (lw lx : List UInt8) : Prop where
  below : Below w.heap.size w V
  wr : Wr V pw pw v lw
  own : Own V pw vx lx
  ap : ∀ g, v.ownBlock = some g → vx.ownBlock ≠ some g
  base : w.heap.size ≤ pw
section
variable {w V V' : World} {pw : Nat} {v vx : Value} {lw lx : List UInt8}
theorem XL.own_n {A : Option Addr} {n c : Nat} (h : XL w V pw v (.slice A n c) lw lx) (hn : n = lx.length) : V.ownsRow pw 5 1 (.slice A n c) n (u8s lx) := by
  have := h.own
  unfold Own at this
  rw [← hn] at this
  exact this
theorem XL.fr {S : Nat → Prop} (h : XL w V pw v vx lw lx) (k : Fr S V V') (hS : ∀ i, S i → i < V.heap.size → w.heap.size ≤ i ∧ i ≠ pw ∧ some i ≠ v.ownBlock ∧ some i ≠ vx.ownBlock) : XL w V' pw v vx lw lx := by
  have hk : Fr (fun i => S i ∧ i < V.heap.size) V V' := ⟨k.os, k.tape, k.output, k.size, fun i hi hn => k.block i hi (fun hs => hn ⟨hs, hi⟩)⟩
  exact ⟨below_fr h.below hk (Nat.le_refl _) (fun i hi => (hS i hi.1 hi.2).1), h.wr.fr hk (fun hi => (hS _ hi.1 hi.2).2.1 rfl) (fun g hg hi => (hS _ hi.1 hi.2).2.2.1 hg.symm), hk.own h.own (fun g hg hi => (hS _ hi.1 hi.2).2.2.2 hg.symm), h.ap, h.base⟩
theorem XL.grows (h : XL w V pw v vx lw lx) (k : Below V.heap.size V V') : XL w V' pw v vx lw lx := h.fr (Fr.of_below k) (fun i hi hlt => by omega)
theorem XL.drew (h : XL w V pw v vx lw lx) : XL w V.drew pw v vx lw lx := h.fr ((Fr.refl (fun _ => False) V).drew) (fun i hi => hi.elim)
theorem XL.wstep {lw' : List UInt8} {e : Ending} (h : XL w V pw v vx lw lx) (hw : Wrote V pw pw v lw' e V') :
    ∃ v', e = .returned (.tuple #[]) ∧ XL w V' pw v' vx lw' lx ∧ Fr (AtW pw v) V V' ∧ (v'.ownBlock = v.ownBlock ∨ ∃ g, v'.ownBlock = some g ∧ V.heap.size ≤ g) := by
  obtain ⟨v', rfl, hwr, hf, hat⟩ := hw
  have hne : vx.ownBlock ≠ some pw := own_blk_ne h.own h.wr.blk (by decide)
  refine ⟨v', rfl, ⟨wr_below h.below (Nat.le_refl _) h.base ⟨h.wr.blk, own_mono h.wr.own h.base⟩ hf, hwr, hf.own h.own (fun g hg hi => ?_), fun g hg => ?_, h.base⟩, hf, hat⟩
  · rcases hi with hi | hi
    · exact hne (by rw [hg, hi])
    · exact h.ap g hi.symm hg
  · rcases hat with h1 | ⟨g', h1, h2⟩
    · exact h.ap g (by rw [← h1, hg])
    · rw [h1] at hg
      injection hg with hg
      subst hg
      intro e
      have := (h.own.lt _ e).2
      omega
theorem XL.wblk {go : Nat} {cs : Array Value} (h : XL w V pw v vx lw lx) (hf : Fr (AtW pw v) V V') (hb : Blk V go 32 cs) : Blk V' go 32 cs :=
  hf.blk hb (fun hi => by
    rcases hi with hi | hi
    · exact Blk.ne_ hb h.wr.blk (by decide) hi
    · exact own_blk_ne h.wr.own hb (by decide) hi.symm)
theorem XL.xstep {vx' : Value} {lx' : List UInt8} (h : XL w V pw v vx lw lx) (ho : Own V' pw vx' lx') (hg : V.grownBy V' vx.ownBlock) (hat : vx'.ownBlock = vx.ownBlock ∨ ∃ g, vx'.ownBlock = some g ∧ V.heap.size ≤ g) : XL w V' pw v vx' lw lx' := by
  have hf := Fr.of_grown hg
  have hne : vx.ownBlock ≠ some pw := own_blk_ne h.own h.wr.blk (by decide)
  refine ⟨below_fr h.below hf (Nat.le_refl _) (fun i hi => by have := (h.own.lt i hi.symm).1; have := h.base; omega), h.wr.fr hf (fun hi => hne hi.symm) (fun g hg hi => h.ap g hg hi.symm), ho, fun g hg => ?_, h.base⟩
  rcases hat with h1 | ⟨g', h1, h2⟩
  · rw [h1]; exact h.ap g hg
  · rw [h1]
    intro e
    injection e with e
    subst e
    have := (h.wr.own.lt _ hg).2
    omega
end
set_option maxHeartbeats 4000000 in
set_option maxRecDepth 100000 in
theorem walk {H : Type} {enc : TypeId × Value → H} {base : Nat} (v0 : Value) (d0 : DataW H) (p0 : List MemPlace) (w : World) (o0 : Value.okWide Try.prog w .any base 23 v0) (k0 : DataW.Trod enc Try.prog w 0 (fun _ => true) true 23 v0 d0 p0) :
    Calls Try.prog 4 #[v0] w fun e w' => e = .returned (.bool true) ∧ Below w.heap.size w w' := by
  obtain ⟨A1, ns, cs1, rfl⟩ := okWide_slice Try.underlying23 o0
  have hsee : Sees w (.slice OpSh) [.slice A1 ns cs1] := sees_of (sh := .slice OpSh) rfl (by kernel_rfl) k0
  obtain ⟨A1', ns', cs1', he, hcs1, hcs63, hel⟩ := Sees.elems hsee
  injection he with e1 e2 e3
  subst e1 e2 e3
  have HOP : Hid (∀ i, i < ns → ∃ ad K N V Ab lb cb, A1 = some ad ∧ OpAt w ad i K N V Ab lb cb) := opAt_of (c := cs1) hel
  clear o0 k0 hsee hel
  obtain ⟨i0, hi0, hz0, hz1, hz2⟩ := info_parts3 u8_info
  go_enter Try.func4, Try.ntmps4
  go_wp2_with fail
  refine (first_any w).mono ?_
  rintro e W1 ⟨rfl, hb1⟩
  have HB1 := Lib.hid hb1
  clear hb1
  go_upto_region 4 with (fail)
  obtain ⟨W2, hW2⟩ : ∃ W2, W2 = W1.alloc (.cells #[.slice none 0 0] 47) := ⟨_, rfl⟩
  have HX2 : Hid (XL w W2 W1.heap.size (.slice none 0 0) (.slice none 0 0) [] []) := by
    rw [hW2]
    exact ⟨HB1.out.alloc HB1.out.size _, wr_zero W1, World.ownsRow_nil _ _ _ _, fun g hg => by simp [Value.ownBlock] at hg, HB1.out.size⟩
  rw [← hW2]
  clear hW2
  obtain ⟨pw, hpw⟩ : ∃ p, p = W1.heap.size := ⟨_, rfl⟩
  rw [← hpw] at HX2 ⊢
  clear hpw
  go_upto_block 0 with (fail)
  go_cut [4, 5, 6, 7, 8, 9, 10, 11] from 18 to 137 (fun s4 s5 s6 s7 s8 s9 s10 s11 wx => ∃ (l : List UInt8) (v : Value) (Ax : Option Addr) (cx nl : Nat), s4 = .slice Ax nl cx ∧ nl ≤ cx ∧ cx ≤ 9223372036854775807 ∧ nl ≤ 60000 ∧ Hid (nl = l.length) ∧ Hid (XL w wx pw v (.slice Ax nl cx) l l))
  case first =>
    go_wp2_with fail
    go_loopw [4, 5, 6, 7, 8, 9, 10, 11, 18] (fun s4 _ _ _ _ _ _ _ i wr => ∃ (k : Nat) (l : List UInt8) (v : Value) (Ax : Option Addr) (cx nl : Nat), k ≤ ns ∧ i = .int .i64 k ∧ k ≤ 60 ∧ s4 = .slice Ax nl cx ∧ nl ≤ cx ∧ cx ≤ 9223372036854775807 ∧ nl ≤ 1000 * k ∧ Hid (nl = l.length) ∧ Hid (XL w wr pw v (.slice Ax nl cx) l l)) (fun _ _ _ _ _ _ _ _ i _ => ns - (intOf i).toNat)
    case atStart => exact ⟨0, [], .slice none 0 0, none, 0, 0, by omega, rfl, by omega, rfl, by omega, by omega, by omega, rfl, HX2.out⟩
    case round =>
      obtain ⟨k, l, v, Ax, cx, nl, hk, rfl, hk60, rfl, hnc, hcx, hnl, HNL, HX⟩ := hrel
      by_cases hlt : k < ns
      · obtain ⟨ad, K, N, V, Ab, lb, cb, rfl, hop⟩ := HOP.out k hlt
        obtain ⟨o1, o2, o3, o4, bK, bN, bV, bl, bc, oby⟩ := hop.keep HX.out.below
        by_cases h60 : k < 60
        · by_cases hlb : (lb.length : Int) ≤ 1000
          · obtain ⟨kd, hkd, hkd5⟩ : ∃ kd : Nat, (IntKind.u64.wrap K).tmod 5 = (kd : Int) ∧ kd < 5 := by
              have h0 : 0 ≤ IntKind.u64.wrap K := by rw [IntKind.wrap_u64]; omega
              rw [Int.tmod_eq_emod_of_nonneg h0]
              exact ⟨(IntKind.u64.wrap K % 5).toNat, by omega, by omega⟩
            obtain ⟨nb, hnb⟩ : ∃ nb, nb = lb.length := ⟨_, rfl⟩
            have HNB := Lib.hid hnb
            rw [← hnb] at o4 bl hlb
            clear hnb
            go_upto_region 9 with (fail)
            obtain ⟨Wo, hWo⟩ : ∃ Wo, Wo = wr.alloc (.cells #[.int .i64 K, .int .i64 N, .int .u32 (V : Int), .slice Ab nb cb] 32) := ⟨_, rfl⟩
            obtain ⟨go, hgo⟩ : ∃ go, go = wr.heap.size := ⟨_, rfl⟩
            have HBo : Hid (Blk Wo go 32 #[.int .i64 K, .int .i64 N, .int .u32 (V : Int), .slice Ab nb cb]) := by rw [hWo, hgo]; exact Blk.new _ _ _
            have HXo : Hid (XL w Wo pw v (.slice Ax nl cx) l l) := HX.out.grows (by rw [hWo]; exact (Below.refl _ _).alloc (Nat.le_refl _) _)
            have HPSo : Hid (pw ≤ Wo.heap.size) := Nat.le_of_lt HXo.out.wr.blk.lt
            have HOY : Hid (Byt w w.heap.size Ab lb) := by obtain ⟨_, _, _, _, _, _, _, _, _, h⟩ := hop; exact h
            rw [← hWo, ← hgo]
            clear hWo hgo o1 o2 o3 o4 oby HX hop
            have co0 : Wo.cell? ⟨go, 0, none⟩ = some (.int .i64 K) := HBo.out.cell 0
            have co1 : Wo.cell? ⟨go, 1, none⟩ = some (.int .i64 N) := HBo.out.cell 1
            have co2 : Wo.cell? ⟨go, 2, none⟩ = some (.int .u32 (V : Int)) := HBo.out.cell 2
            have co3 : Wo.cell? ⟨go, 3, none⟩ = some (.slice Ab nb cb) := HBo.out.cell 3
            obtain ⟨v16, h16⟩ : ∃ x, x = V % 65536 := ⟨_, rfl⟩
            obtain ⟨v8, h8⟩ : ∃ x, x = V % 256 := ⟨_, rfl⟩
            have M16 : Hid (be v16 2 = be V 2) := by rw [h16]; exact be_mod2 V
            have M8 : Hid (be v8 1 = be V 1) := by rw [h8]; exact be_mod1 V
            have hw16 : IntKind.u16.wrap (V : Int) = (v16 : Int) := by simp [IntKind.wrap, IntKind.bits, IntKind.signed]; omega
            have hw8 : IntKind.u8.wrap (V : Int) = (v8 : Int) := by simp [IntKind.wrap, IntKind.bits, IntKind.signed]; omega
            have hw64 : IntKind.u64.wrap (V : Int) = (V : Int) := by simp [IntKind.wrap, IntKind.bits, IntKind.signed]; omega
            have b16 : v16 < 65536 := by omega
            have b8 : v8 < 256 := by omega
            clear h16 h8
            go_upto_block 2 with (fail)
            try rw [hkd]
            clear hkd
            go_cut [4, 7, 8, 9] from 31 to 110 (fun s4 s7 s8 s9 wx => ∃ (l' : List UInt8) (v' : Value) (Ax' : Option Addr) (cx' nl' : Nat), s4 = .slice Ax' nl' cx' ∧ nl' ≤ cx' ∧ cx' ≤ 9223372036854775807 ∧ nl' ≤ 1000 * (k + 1) ∧ Hid (nl' = l'.length) ∧ Hid (XL w wx pw v' (.slice Ax' nl' cx') l' l'))
            case first =>
              have hkc : kd = 0 ∨ kd = 1 ∨ kd = 2 ∨ kd = 3 ∨ kd = 4 := by omega
              rcases hkc with rfl | rfl | rfl | rfl | rfl
              · go_wp2_with fail
                refine (wr_u8 v8 b8 HXo.out.wr HPSo.out (by rw [← HNL.out]; omega)).mono ?_
                rintro e V1 hwrote
                obtain ⟨v1, rfl, hx1, hf1, hat1⟩ := HXo.out.wstep hwrote
                rw [M8.out] at hx1
                have HX1 := Lib.hid hx1
                have HPS1 := Lib.hid (Nat.le_trans HPSo.out hf1.size)
                have HBo1 : Hid (Blk V1 go 32 #[.int .i64 K, .int .i64 N, .int .u32 (V : Int), .slice Ab nb cb]) := HXo.out.wblk hf1 HBo.out
                have co2 : V1.cell? ⟨go, 2, none⟩ = some (.int .u32 (V : Int)) := HBo1.out.cell 2
                clear hwrote hx1 hf1 hat1
                go_wp2_with fail
                refine (text_any V 1 (by omega) (by omega) V1).mono ?_
                rintro e V2 ⟨⟨u, rfl, ho2⟩, hb2⟩
                obtain ⟨A2, c2, rfl, _, _, HY2⟩ := own_as (n := 1) ho2 (by rw [be_length])
                have HX2 := Lib.hid (HX1.out.grows hb2)
                have HPS2 := Lib.hid (Nat.le_trans HPS1.out hb2.size)
                clear ho2 hb2
                go_wp2_with (at_builtin; refine wpList_append_any _ rfl (.tmp 54) (.tmp 58) _ rfl pw 5 i0 _ 1 1 Try.underlying22 hi0 hz0 hz1 hz2 rfl (by omega) (.slice Ax nl cx) nl (u8s l) rfl (HX2.out.own_n HNL.out) V2.heap.size A2 1 c2 (u8s (be V 1)) rfl (by have := HY2.out; unfold Byt at this; rw [be_length] at this; exact this) (u8s_one _) (by simp only [maxLen]; omega) (by omega) HPS2.out ?_; intro vx3 w3 hown3 hg3 hat3; obtain ⟨Ax3, cx3, rfl, hc3a, hc3b⟩ := own_slice hown3; have HX3 := Lib.hid (HX2.out.xstep (lx' := l ++ be V 1) (by have := hown3; unfold Own; rw [List.length_append, be_length, ← HNL.out, u8s_append]; exact this) hg3 (by rcases hat3 with h | h; exact .inl h; exact .inr ⟨_, h, Nat.le_refl _⟩)); clear hown3 hg3 hat3)
                go_meet
                exact ⟨_, v1, Ax3, cx3, nl + 1, rfl, hc3a, hc3b, by omega, by show nl + 1 = _; rw [List.length_append, be_length, ← HNL.out], HX3⟩
              · go_wp2_with fail
                refine (wr_u16 v16 b16 HXo.out.wr HPSo.out (by rw [← HNL.out]; omega)).mono ?_
                rintro e V1 hwrote
                obtain ⟨v1, rfl, hx1, hf1, hat1⟩ := HXo.out.wstep hwrote
                rw [M16.out] at hx1
                have HX1 := Lib.hid hx1
                have HPS1 := Lib.hid (Nat.le_trans HPSo.out hf1.size)
                have HBo1 : Hid (Blk V1 go 32 #[.int .i64 K, .int .i64 N, .int .u32 (V : Int), .slice Ab nb cb]) := HXo.out.wblk hf1 HBo.out
                have co2 : V1.cell? ⟨go, 2, none⟩ = some (.int .u32 (V : Int)) := HBo1.out.cell 2
                clear hwrote hx1 hf1 hat1
                go_wp2_with fail
                refine (text_any V 2 (by omega) (by omega) V1).mono ?_
                rintro e V2 ⟨⟨u, rfl, ho2⟩, hb2⟩
                obtain ⟨A2, c2, rfl, _, _, HY2⟩ := own_as (n := 2) ho2 (by rw [be_length])
                have HX2 := Lib.hid (HX1.out.grows hb2)
                have HPS2 := Lib.hid (Nat.le_trans HPS1.out hb2.size)
                clear ho2 hb2
                go_wp2_with (at_builtin; refine wpList_append_any _ rfl (.tmp 67) (.tmp 71) _ rfl pw 5 i0 _ 1 1 Try.underlying22 hi0 hz0 hz1 hz2 rfl (by omega) (.slice Ax nl cx) nl (u8s l) rfl (HX2.out.own_n HNL.out) V2.heap.size A2 2 c2 (u8s (be V 2)) rfl (by have := HY2.out; unfold Byt at this; rw [be_length] at this; exact this) (u8s_one _) (by simp only [maxLen]; omega) (by omega) HPS2.out ?_; intro vx3 w3 hown3 hg3 hat3; obtain ⟨Ax3, cx3, rfl, hc3a, hc3b⟩ := own_slice hown3; have HX3 := Lib.hid (HX2.out.xstep (lx' := l ++ be V 2) (by have := hown3; unfold Own; rw [List.length_append, be_length, ← HNL.out, u8s_append]; exact this) hg3 (by rcases hat3 with h | h; exact .inl h; exact .inr ⟨_, h, Nat.le_refl _⟩)); clear hown3 hg3 hat3)
                go_meet
                exact ⟨_, v1, Ax3, cx3, nl + 2, rfl, hc3a, hc3b, by omega, by show nl + 2 = _; rw [List.length_append, be_length, ← HNL.out], HX3⟩
              · go_wp2_with fail
                refine (wr_u32 V bV HXo.out.wr HPSo.out (by rw [← HNL.out]; omega)).mono ?_
                rintro e V1 hwrote
                obtain ⟨v1, rfl, hx1, hf1, hat1⟩ := HXo.out.wstep hwrote
                have HX1 := Lib.hid hx1
                have HPS1 := Lib.hid (Nat.le_trans HPSo.out hf1.size)
                have HBo1 : Hid (Blk V1 go 32 #[.int .i64 K, .int .i64 N, .int .u32 (V : Int), .slice Ab nb cb]) := HXo.out.wblk hf1 HBo.out
                have co2 : V1.cell? ⟨go, 2, none⟩ = some (.int .u32 (V : Int)) := HBo1.out.cell 2
                clear hwrote hx1 hf1 hat1
                go_wp2_with fail
                refine (text_any V 4 (by omega) (by omega) V1).mono ?_
                rintro e V2 ⟨⟨u, rfl, ho2⟩, hb2⟩
                obtain ⟨A2, c2, rfl, _, _, HY2⟩ := own_as (n := 4) ho2 (by rw [be_length])
                have HX2 := Lib.hid (HX1.out.grows hb2)
                have HPS2 := Lib.hid (Nat.le_trans HPS1.out hb2.size)
                clear ho2 hb2
                go_wp2_with (at_builtin; refine wpList_append_any _ rfl (.tmp 79) (.tmp 83) _ rfl pw 5 i0 _ 1 1 Try.underlying22 hi0 hz0 hz1 hz2 rfl (by omega) (.slice Ax nl cx) nl (u8s l) rfl (HX2.out.own_n HNL.out) V2.heap.size A2 4 c2 (u8s (be V 4)) rfl (by have := HY2.out; unfold Byt at this; rw [be_length] at this; exact this) (u8s_one _) (by simp only [maxLen]; omega) (by omega) HPS2.out ?_; intro vx3 w3 hown3 hg3 hat3; obtain ⟨Ax3, cx3, rfl, hc3a, hc3b⟩ := own_slice hown3; have HX3 := Lib.hid (HX2.out.xstep (lx' := l ++ be V 4) (by have := hown3; unfold Own; rw [List.length_append, be_length, ← HNL.out, u8s_append]; exact this) hg3 (by rcases hat3 with h | h; exact .inl h; exact .inr ⟨_, h, Nat.le_refl _⟩)); clear hown3 hg3 hat3)
                go_meet
                exact ⟨_, v1, Ax3, cx3, nl + 4, rfl, hc3a, hc3b, by omega, by show nl + 4 = _; rw [List.length_append, be_length, ← HNL.out], HX3⟩
              · have HEo := Lib.hid (own_empty Wo 5)
                have co4 : (Wo.alloc (.cells #[] 5)).cell? ⟨go, 3, none⟩ = some (.slice Ab nb cb) := (HBo.out.alloc _).cell 3
                go_wp2_with (at_builtin; refine wpList_append_any _ rfl (.tmp 87) (.tmp 89) _ rfl Wo.heap.size 5 i0 _ 1 1 Try.underlying22 hi0 hz0 hz1 hz2 rfl (by omega) (.slice (some ⟨Wo.heap.size, 0, none⟩) 0 0) 0 [] rfl HEo.out w.heap.size Ab nb cb (u8s lb) rfl (by have := (HOY.out.below HXo.out.below).alloc HXo.out.below.size (.cells #[] 5); unfold Byt at this; rw [← HNB.out] at this; exact this) (u8s_one lb) (by simp only [maxLen]; omega) (by omega) (by simp) ?_; intro vb w1 hown1 hg1 hat1; obtain ⟨n3, A3, c3, rfl, HN3, hnq3, hnc3, hc3, HO3, HB3⟩ := copied HXo.out.below hown1 HNB.out hg1; clear hown1 hg1 hat1)
                have HX1 : Hid (XL w w1 pw v (.slice Ax nl cx) l l) := HXo.out.grows HB3.out
                have HPS1 := Lib.hid (Nat.le_trans HPSo.out HB3.out.size)
                have HBG : Hid (∀ g, (Value.slice A3 n3 c3).ownBlock = some g → Wo.heap.size ≤ g ∧ g < w1.heap.size) := fun g hg => HO3.out.lt g hg
                refine (wr_put (C := w1.heap.size) (A2 := A3) (n2 := n3) (c2 := c3) HX1.out.wr HPS1.out (by rw [← HNL.out]; omega) HN3.out (by omega) (Own.byt (l := lb) (B := Wo.heap.size) (c := c3) (n := n3) (by have := HO3.out; unfold Own; rw [← HN3.out]; exact this))).mono ?_
                rintro e V2 hwrote
                obtain ⟨v2, rfl, hx2, hf2, hat2⟩ := HX1.out.wstep hwrote
                have HX2' := Lib.hid hx2
                have hgo1 : go < Wo.heap.size := HBo.out.lt
                have HBo2 : Hid (Blk V2 go 32 #[.int .i64 K, .int .i64 N, .int .u32 (V : Int), .slice Ab nb cb]) := HX1.out.wblk hf2 (HBo.out.below HB3.out hgo1)
                have HAP : Hid (∀ g, (Value.slice A3 n3 c3).ownBlock = some g → w.heap.size ≤ g ∧ g ≠ pw ∧ some g ≠ v2.ownBlock ∧ some g ≠ (Value.slice Ax nl cx).ownBlock ∧ g ≠ go) := fun g hg => by
                  have h1 := HBG.out g hg
                  have h2 := HXo.out.wr.blk.lt
                  have h3 := HXo.out.below.size
                  refine ⟨by omega, by omega, ?_, ?_, by omega⟩
                  · rcases hat2 with h | ⟨g', h, h'⟩
                    · rw [h]; intro e; have := (HXo.out.wr.own.lt g e.symm).2; omega
                    · rw [h]; intro e; injection e with e; omega
                  · intro e
                    have := (HXo.out.own.lt g e.symm).2
                    omega
                have HO4 : Hid (V2.ownsRow Wo.heap.size 5 1 (.slice A3 n3 c3) n3 (u8s lb)) := hf2.own HO3.out (fun g hg hi => by
                  have h1 := HBG.out g hg
                  have h2 := HXo.out.wr.blk.lt
                  rcases hi with hi | hi
                  · omega
                  · have := (HXo.out.wr.own.lt g hi.symm).2; omega)
                clear hwrote hx2 hf2 hat2
                go_wp2_with fail
                go_loopw [8, 96] (fun _ i wr => ∃ (kk : Nat) (l' : List UInt8), kk ≤ n3 ∧ i = .int .i64 kk ∧ Hid (n3 = l'.length) ∧ Hid (wr.ownsRow Wo.heap.size 5 1 (.slice A3 n3 c3) n3 (u8s l')) ∧ Hid (XL w wr pw v2 (.slice Ax nl cx) (l ++ lb) l) ∧ Hid (Blk wr go 32 #[.int .i64 K, .int .i64 N, .int .u32 (V : Int), .slice Ab nb cb])) (fun _ i _ => n3 - (intOf i).toNat)
                case atStart => exact ⟨0, lb, by omega, rfl, HN3, HO4.out, HX2'.out, HBo2.out⟩
                case round =>
                  obtain ⟨kk, l', hkk, rfl, HN', HOr, HXr, HBr⟩ := hrel
                  by_cases hltk : kk < n3
                  · obtain ⟨g, y, l2, rfl, hcell, hfr, hn2', hst⟩ := flip_at HOr.out HN'.out hltk
                    have HN2' := Lib.hid hn2'
                    have HST := Lib.hid hst
                    have HG := Lib.hid (HAP.out g rfl)
                    have hyb := u8_bd y
                    clear hn2' hst
                    go_wp2_with fail
                    go_roundw
                    case rel => exact ⟨kk + 1, l2, by omega, by go_num, HN2', (HST.out _ rfl).1, HXr.out.fr (HST.out _ rfl).2.out (fun i hi _ => by have e0 : i = g := (by injection hi); subst e0; exact ⟨HG.out.1, HG.out.2.1, HG.out.2.2.1, HG.out.2.2.2.1⟩), (HST.out _ rfl).2.out.blk HBr.out (fun hi => by have e0 : go = g := (by injection hi); exact HG.out.2.2.2.2 e0.symm)⟩
                    case measure => simp [intOf]; omega
                  · obtain rfl : kk = n3 := by omega
                    have co4 : wr.cell? ⟨go, 3, none⟩ = some (.slice Ab nb cb) := HBr.out.cell 3
                    have HPSr : Hid (pw ≤ wr.heap.size) := Nat.le_of_lt HXr.out.wr.blk.lt
                    go_wp2_with (at_builtin; refine wpList_append_any _ rfl (.tmp 106) (.tmp 108) _ rfl pw 5 i0 _ 1 1 Try.underlying22 hi0 hz0 hz1 hz2 rfl (by omega) (.slice Ax nl cx) nl (u8s l) rfl (HXr.out.own_n HNL.out) w.heap.size Ab nb cb (u8s lb) rfl (by have := HOY.out.below HXr.out.below; unfold Byt at this; rw [← HNB.out] at this; exact this) (u8s_one _) (by simp only [maxLen]; omega) (by omega) HPSr.out ?_; intro vx3 w3 hown3 hg3 hat3; obtain ⟨Ax3, cx3, rfl, hc3a, hc3b⟩ := own_slice hown3; have HX3 := Lib.hid (HXr.out.xstep (lx' := l ++ lb) (by have := hown3; unfold Own; rw [List.length_append, ← HNB.out, ← HNL.out, u8s_append]; exact this) hg3 (by rcases hat3 with h | h; exact .inl h; exact .inr ⟨_, h, Nat.le_refl _⟩)); clear hown3 hg3 hat3)
                    go_meet
                    exact ⟨_, v2, Ax3, cx3, nl + nb, rfl, hc3a, hc3b, by omega, by show nl + nb = _; rw [List.length_append, ← HNB.out, ← HNL.out], HX3⟩
              · go_upto_if 38 with (fail)
                go_cut [9] from 38 to 41 (fun s9 wx => ∃ nn : Int, s9 = .int .i64 nn ∧ -9223372036854775808 ≤ nn ∧ nn ≤ 64 ∧ Wo = wx)
                case first =>
                  by_cases h64 : 64 < N
                  · go_wp2_with fail
                    go_meet
                    exact ⟨_, rfl, by omega, by omega, rfl⟩
                  · go_wp2_with fail
                    go_meet
                    exact ⟨_, rfl, by omega, by omega, rfl⟩
                case rest =>
                  obtain ⟨nn, rfl, hnn1, hnn2, rfl⟩ := hcut
                  go_wp2_with fail
                  refine (wr_pad nn HXo.out.wr HPSo.out (by rw [← HNL.out]; omega) (by omega)).mono ?_
                  rintro e V1 hwrote
                  obtain ⟨v1, rfl, hx1, hf1, _⟩ := HXo.out.wstep hwrote
                  have HX1 := Lib.hid hx1
                  have HPS1 := Lib.hid (Nat.le_trans HPSo.out hf1.size)
                  clear hwrote hx1 hf1
                  go_wp2_with fail
                  refine Calls.mono (by have := pad_any pw (.slice Ax nl cx) l nn (by omega) V1 (by rw [← HNL.out]; omega) HX1.out.own HPS1.out; exact this) ?_
                  rintro e V2 ⟨vx', rfl, ho, hg, hat⟩
                  have hpn : padN l.length nn ≤ 64 := by
                    unfold padN
                    split
                    · exact Nat.le_trans (Nat.le_of_lt (Nat.mod_lt _ (by omega))) (by omega)
                    · omega
                  obtain ⟨pn, hpe⟩ : ∃ pn, pn = padN l.length nn := ⟨_, rfl⟩
                  rw [← hpe] at ho hpn HX1
                  have HX2' := Lib.hid (HX1.out.xstep ho hg hat)
                  obtain ⟨Ax3, cx3, rfl, hc3a, hc3b⟩ := own_slice ho
                  have HLE : Hid ((l ++ List.replicate pn 0).length = nl + pn) := by rw [List.length_append, List.length_replicate, ← HNL.out]; rfl
                  clear ho hg hat hpe
                  rw [HLE.out] at hc3a HX2' ⊢
                  go_wp2_with fail
                  go_meet
                  exact ⟨_, v1, Ax3, cx3, nl + pn, rfl, hc3a, hc3b, by omega, HLE.out.symm, HX2'⟩
            case rest =>
              obtain ⟨l', v', Ax', cx', nl', rfl, hnc', hcx', hnl', HNL', HX'⟩ := hcut
              clear co0 co1 co2 co3
              go_wp2_with fail
              refine (wr_out HX'.out.wr (by rw [← HNL'.out]; omega)).mono ?_
              rintro e V1 ⟨⟨u, rfl, ho1⟩, hb1'⟩
              have HOL := Lib.hid ho1
              obtain ⟨A3, c3, rfl, h3a, h3b, HY3⟩ := own_as (n := nl') ho1 HNL'.out
              have HO3 : Hid (V1.ownsRow wc.heap.size 5 1 (.slice A3 nl' c3) nl' (u8s l')) := by have := HOL.out; unfold Own at this; rw [← HNL'.out] at this; exact this
              have HX1 := Lib.hid (HX'.out.grows hb1')
              have HAP : Hid (∀ g, (Value.slice A3 nl' c3).ownBlock = some g → w.heap.size ≤ g ∧ g ≠ pw ∧ some g ≠ v'.ownBlock ∧ some g ≠ (Value.slice Ax' nl' cx').ownBlock) := fun g hg => by
                have h1 := (HO3.out.lt g hg).1
                have h2 := HX'.out.wr.blk.lt
                have h3 := HX'.out.below.size
                refine ⟨by omega, by omega, ?_, ?_⟩
                · intro e; have := (HX'.out.wr.own.lt g e.symm).2; omega
                · intro e; have := (HX'.out.own.lt g e.symm).2; omega
              have HWL : Hid (Calls Try.prog 27 #[rptr pw] V1 fun e w' => e = .returned (.int .i64 (nl' : Int)) ∧ V1 = w') := by
                have := wr_len HX1.out.wr
                rw [← HNL'.out] at this
                exact this
              have hs1 := run_str (P := Try.prog) HY3.out 22 9 5 Try.underlying22 Try.underlying5 Try.underlying9 nl' c3 HNL'.out
              have hs2 := run_str (P := Try.prog) (Own.byt HX1.out.own) 22 9 5 Try.underlying22 Try.underlying5 Try.underlying9 nl' cx' HNL'.out
              clear ho1 hb1' HOL
              go_wp2_with fail
              refine HWL.out.mono ?_
              rintro e w' ⟨rfl, rfl⟩
              go_wp2_with fail
              go_loopw [11, 126] (fun _ i wr => ∃ (kk : Nat) (l2 : List UInt8), kk ≤ nl' ∧ i = .int .i64 kk ∧ Hid (nl' = l2.length) ∧ Hid (wr.ownsRow wc.heap.size 5 1 (.slice A3 nl' c3) nl' (u8s l2)) ∧ Hid (XL w wr pw v' (.slice Ax' nl' cx') l' l')) (fun _ i _ => nl' - (intOf i).toNat)
              case atStart => exact ⟨0, l', by omega, rfl, HNL', HO3.out, HX1.out⟩
              case round =>
                obtain ⟨kk, l2, hkk, rfl, HN', HOr, HXr⟩ := hrel
                by_cases hltk : kk < nl'
                · obtain ⟨g, y, l3, rfl, hcell, hfr, hn2', hst⟩ := flip_at HOr.out HN'.out hltk
                  have HN2' := Lib.hid hn2'
                  have HST := Lib.hid hst
                  have HG := Lib.hid (HAP.out g rfl)
                  have hyb := u8_bd y
                  clear hn2' hst
                  go_wp2_with fail
                  go_roundw
                  case rel => exact ⟨kk + 1, l3, by omega, by go_num, HN2', (HST.out _ rfl).1, HXr.out.fr (HST.out _ rfl).2.out (fun i hi _ => by have e0 : i = g := (by injection hi); subst e0; exact HG.out)⟩
                  case measure => simp [intOf]; omega
                · obtain rfl : kk = nl' := by omega
                  go_wp2_with fail
                  go_roundw
                  case rel => exact ⟨k + 1, l', v', Ax', cx', kk, by omega, by go_num, by omega, rfl, hnc', hcx', hnl', HNL', HXr⟩
                  case measure => simp [intOf]; omega
          · have HBR : Hid (XL w (wr.alloc (.cells #[.int .i64 K, .int .i64 N, .int .u32 (V : Int), .slice Ab lb.length cb] 32)) pw v (.slice Ax nl cx) l l) := HX.out.grows ((Below.refl _ _).alloc (Nat.le_refl _) _)
            go_wp2_with fail
            go_meet
            exact ⟨l, v, Ax, cx, nl, rfl, hnc, hcx, by omega, HNL, HBR⟩
        · have HBR : Hid (XL w (wr.alloc (.cells #[.int .i64 K, .int .i64 N, .int .u32 (V : Int), .slice Ab lb.length cb] 32)) pw v (.slice Ax nl cx) l l) := HX.out.grows ((Below.refl _ _).alloc (Nat.le_refl _) _)
          go_wp2_with fail
          go_meet
          exact ⟨l, v, Ax, cx, nl, rfl, hnc, hcx, by omega, HNL, HBR⟩
      · obtain rfl : k = ns := by omega
        go_wp2_with fail
        go_meet
        exact ⟨l, v, Ax, cx, nl, rfl, hnc, hcx, by omega, HNL, HX⟩
  case rest =>
    obtain ⟨l, v, Ax, cx, nl, rfl, hnc, hcx, hnl, HNL, HX⟩ := hcut
    have CO : Hid (∀ V, Hid (XL w V pw v (.slice Ax nl cx) l l) → Calls Try.prog 26 #[rptr pw] V fun e V' => ∃ A c, e = .returned (.slice A nl c) ∧ Hid (Byt V' V'.heap.size A l) ∧ Hid (XL w V' pw v (.slice Ax nl cx) l l)) := fun V h => by
      refine (wr_out h.out.wr (by rw [← HNL.out]; omega)).mono ?_
      rintro e V' ⟨⟨u, rfl, ho⟩, hb⟩
      obtain ⟨A, c, rfl, _, _, hy⟩ := own_as (n := nl) ho HNL.out
      exact ⟨A, c, rfl, hy, h.out.grows hb⟩
    have CN : Hid (∀ V A c, Hid (Byt V V.heap.size A l) → Hid (XL w V pw v (.slice Ax nl cx) l l) → Calls Try.prog 9 #[.slice A nl c] V fun e V' => ∃ q, e = .returned (rptr q) ∧ Hid (∃ G, Rd V' q G l false) ∧ Hid (w.heap.size ≤ q ∧ q ≠ pw ∧ some q ≠ v.ownBlock ∧ some q ≠ (Value.slice Ax nl cx).ownBlock) ∧ Hid (XL w V' pw v (.slice Ax nl cx) l l)) := fun V A c hy h => by
      refine (newReader_any A l nl c V HNL.out (by rw [← HNL.out]; omega) hy.out).mono ?_
      rintro e V' ⟨q, G, rfl, hr, hG, hb⟩
      have h1 := hr.le
      have h2 := h.out.wr.blk.lt
      have h3 := h.out.below.size
      exact ⟨q, rfl, ⟨G, hr⟩, ⟨by omega, by omega, fun e => by have := (h.out.wr.own.lt q e.symm).2; omega, fun e => by have := (h.out.own.lt q e.symm).2; omega⟩, h.out.grows hb⟩
    have CT : Hid (∀ V q, Hid (∃ G, Rd V q G l false) → Hid (w.heap.size ≤ q ∧ q ≠ pw ∧ some q ≠ v.ownBlock ∧ some q ≠ (Value.slice Ax nl cx).ownBlock) → Hid (XL w V pw v (.slice Ax nl cx) l l) → Calls Try.prog 14 #[rptr q, .int .i64 (nl : Int)] V fun e V' => ∃ A c, e = .returned (.slice A nl c) ∧ Hid (Byt V' V'.heap.size A l) ∧ Hid (XL w V' pw v (.slice Ax nl cx) l l)) := fun V q hr hq h => by
      obtain ⟨G, hr⟩ := hr.out
      refine (rd_take (n := nl) hr (by rw [← HNL.out]; exact Nat.le_refl _) (by rw [← HNL.out]; omega)).mono ?_
      rintro e V' ⟨u, rfl, ho, _, hf⟩
      rw [List.take_of_length_le (by rw [← HNL.out]; exact Nat.le_refl _)] at ho
      obtain ⟨A, c, rfl, _, _, hy⟩ := own_as (n := nl) ho HNL.out
      exact ⟨A, c, rfl, hy, h.out.fr hf (fun i hi _ => by have e0 : i = q := hi; subst e0; exact hq.out)⟩
    have HCX : Hid (∀ V, Hid (XL w V pw v (.slice Ax nl cx) l l) → (convert 22 9 (.slice Ax nl cx)).run Try.prog V = .ok (.string ⟨l.toArray⟩) V) := fun V h => run_str (Own.byt h.out.own) _ _ _ Try.underlying22 Try.underlying5 Try.underlying9 nl cx HNL.out
    have HCY : Hid (∀ V A c, Hid (Byt V V.heap.size A l) → (convert 22 9 (.slice A nl c)).run Try.prog V = .ok (.string ⟨l.toArray⟩) V) := fun V A c h => run_str h.out _ _ _ Try.underlying22 Try.underlying5 Try.underlying9 nl c HNL.out
    go_upto_region 42 with (fail)
    have HXd : Hid (XL w wc.drew pw v (.slice Ax nl cx) l l) := HX.out.drew
    have hcx := HCX.out _ HXd
    clear HX
    go_region_with (first
      | (go_at_call 26; (with_reducible refine (CO.out _ ?_).mono ?_); (assumption); rintro e wN ⟨A3, c3, rfl, hyN, hXN⟩; have hcN := HCX.out _ hXN)
      | (go_at_call 9; (with_reducible refine (CN.out _ _ _ ?_ ?_).mono ?_); (assumption); (assumption); rintro e wN ⟨q, rfl, hrN, hqN, hXN⟩; have hcN := HCX.out _ hXN)
      | (go_at_call 14; (with_reducible refine (CT.out _ _ ?_ ?_ ?_).mono ?_); (assumption); (assumption); (assumption); rintro e wN ⟨A4, c4, rfl, hyN, hXN⟩; have hcN := HCX.out _ hXN; have hcM := HCY.out _ _ c4 hyN))
    all_goals
      go_wp2_with fail
      go_ret
      exact ⟨rfl, by first | exact XL.below (Hid.out (by assumption)) | assumption⟩

/-! ### The row's step -/
set_option maxRecDepth 100000 in
theorem lifted (os : Os) (started : os.Started) (H : Type) (enc : TypeId × Value → H) :
    ReturnsInHanded {} Try.checked os 4 .any (Rows.octetWritesSpec.pre6 enc Try.prog Try.f4 Rows.octetWritesRow.domain false) (Rows.octetWritesSpec.post enc Try.prog Try.f4 false true false false) := by
  refine returnsInHanded_of_change (C := Try.checked) own started (by kernel_rfl) Try.func4
    (ChangeSpec.witness6 (enc := enc) (C := Try.checked) false ⟨#[], #[.slice none 0 0], []⟩ 8 (by kernel_rfl) (by kernel_rfl) (by kernel_rfl) (by kernel_rfl)) ?_
  intro W base args ds gs before hval0 hW hcnd _
  have hval : ∀ (j : Nat) t v, Try.f4.params[j]? = some t → args[j]? = some v → Value.okWide Try.prog W .any base t v := hval0
  have hW' := hW
  obtain ⟨p, q, hA0, hV, rfl, hfz, hnd⟩ := hW
  have hA : DataW.TrodAll enc Try.prog W 0 (fun _ => true) true Try.f4.params.toList args.toList ds p := hA0
  rw [Try.params4] at hA hval
  obtain ⟨v0, vs0, d0, ds0, p0, q0, hargs, rfl, rfl, h0, r0⟩ := trodAll_cons hA
  obtain ⟨rfl, rfl, rfl⟩ := trodAll_nil r0
  obtain rfl : args = #[v0] := by cases args; simp_all
  obtain ⟨rfl, rfl⟩ := trodVars_none hV
  have lt0 : ∀ x ∈ p0, x.block < W.heap.size := by obtain ⟨m, hm⟩ := h0; exact DataW.trod_lt m _ _ _ hm
  clear hA0 hval0
  refine (walk v0 d0 p0 W (hval 0 23 v0 rfl rfl) h0).mono fun e W' ⟨he, bel⟩ => ?_
  subst he
  exact ⟨_, rfl, _, _, _, [], _, [], hW', trodAll_mk1 (shut_bool Try.underlying4 _), (trodAll_cons_mk (Below.trod laidOut (by kernel_rfl) (of_decide_eq_true (by kernel_rfl)) h0 bel lt0) trodAll_mk0), rfl, bel.frame _, fun h => by cases h⟩

theorem over : Rows.octetWritesRow.holds Try.pinned (OpenSpec.ofChange Rows.octetWritesSpec) :=
  OpenClaim.holds_of_wide 4 Try.f4 rfl rfl rfl rfl rfl rfl rfl ⟨rfl, rfl, rfl, rfl, rfl⟩ rfl rfl rfl rfl rfl (by kernel_rfl) Try.func4 (by kernel_rfl)
    (of_decide_eq_true (by kernel_rfl)) (by unfold Func.isWrapper; first | (rw [if_pos (by decide +kernel)]; kernel_rfl) | (rw [if_neg (by decide +kernel)]; exact ⟨rfl, rfl⟩))
    (fun os started H enc _ => lifted os started H enc)

theorem proved : Rows.OctetWritesSaid := over
#print axioms proved
end Go.Proofs.Ytnnfjndbilapfaa.octetWrites
