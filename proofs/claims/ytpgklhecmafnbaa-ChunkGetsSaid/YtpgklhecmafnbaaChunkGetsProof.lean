/-
  PROVED: ChunkGets of flumelaw06 answers true for every input, and its arguments read afterwards as before. CONDITIONS: none beside the form's own.
-/
import Derived.Test.YtpgklhecmafnbaaRows
import Derived.Test.YtpgklhecmafnbaaChOpen
import Derived.Test.YtpgklhecmafnbaaChSz
import Derived.Test.YtpgklhecmafnbaaChGt
import Derived.Test.YtpgklhecmafnbaaChRf6
import Derived.Test.YtpgklhecmafnbaaSees
import Derived.Test.YtpgklhecmafnbaaStage
import Derived.WalkKit
import Derived.ProofKit
import Derived.OpenShut
import Derived.ShutString
import Derived.ChangeOld
import Derived.Below
namespace Go.Proofs.Ytpgklhecmafnbaa.chunkGets
open Go.ChangeShapes Go.WideShapes Go.ChangeAt Go.RowKit
open Go.ChangeMaps (open_string shut_string)
set_option linter.unusedVariables false
set_option linter.unusedSimpArgs false

theorem own : ownKnob Try.prog.godebug = none := by kernel_rfl
theorem laidOut : laidOutB Try.prog = true := by kernel_rfl

/-- What the walk is told of a slice of integers that came in. -/
def IsRow (k : IntKind) (w : World) (a : Option Addr) (len cap : Nat) (zs : List Int) : Prop :=
  (a = none ∧ len = 0 ∧ cap = 0 ∧ zs = []) ∨
  ∃ x, a = some x ∧ len ≤ cap ∧ cap ≤ maxLen ∧ zs.length = cap ∧ (∀ i, i < zs.length → w.cell? (x.add i) = some (.int k (zs.getD i 0))) ∧ ∀ n ∈ zs, (Lit.int k n).wf = true

/-! ### The walk -/
open Words Oct Par Chk
theorem load_run {w : World} {a : Act} {o : Oper} {x : Operand} {g : Nat} {cs : Array Value} (ho : o.op = .load 32 x) (hx : a.eval x = .pointer (some ⟨g, 0, none⟩)) (hb : CkBlk w g cs) (hs : cs.size = 19) :
    (execOp a.eval o).run Try.prog w = .ok (.value (.agg cs)) w := by
  have hl := load_chunk hb hs
  simp [execOp, ho, hx, Sem.run_bind, Result.andThen, hl]
theorem wpList_load_on {ops : Array Oper} {rest : List Oper} {o : Oper} {a : Act} {w : World} {Q : Exit → Act → World → Prop} (hw : Region.wanted o (yielded ops a.tmps) = true) (ty : TypeId) (x : Operand) (ho : o.op = .load ty x)
    (g : Nat) (hx : a.eval x = .pointer (some ⟨g, 0, none⟩)) (t : TypeId) (cs : Array Value) (fr : Nat × Nat) (d : TypeDesc) (hg : w.heap[g]? = some (.cells cs t fr))
    (hu : Try.prog.underlying ty = some d) (hd : ∃ fs, d = .struct fs) (hi : (Try.prog.info? ty).map (·.size) = some cs.size)
    (h : wpList Try.prog ops Q rest (a.put o.dst (.agg cs)) w) : wpList Try.prog ops Q (o :: rest) a w :=
  wpList_step fun K hK => by obtain ⟨fs, rfl⟩ := hd; rw [if_pos hw]; exact wp_load_row ty x ho g hx t cs fr _ hg hu rfl hi (hK _ _ h)
/-- What the document's Get answers, of what is known of the bytes. -/
theorem rget_norm {w : World} {b : List UInt8} {e : Ending} {w' : World} (h : RGetDone w b e w') {kk n : Nat} {c : Ck} {cs0 : Array Value}
    (hk : (kk = 0 ∧ getC b = .ok (c, n)) ∨ (kk ≠ 0 ∧ getC b = .error kk ∧ n = 0 ∧ c = zeroC 0 ∧ cs0 = zeroA)) :
    ∃ cs, e = .returned (.tuple #[.agg cs, .int .i64 (n : Int), .int .i64 (kk : Int)]) ∧ Below w.heap.size w w' ∧ CkAt w' w'.heap.size cs c := by
  obtain ⟨hb, ⟨c', n', cs, hg, rfl, hc⟩ | ⟨k, hg, rfl⟩⟩ := h
  · rcases hk with ⟨rfl, h2⟩ | ⟨_, h2, _⟩
    · rw [hg] at h2
      injection h2 with h2
      injection h2 with h3 h4
      subst h3 h4
      exact ⟨cs, rfl, hb, hc⟩
    · rw [hg] at h2; cases h2
  · rcases hk with ⟨_, h2⟩ | ⟨_, h2, rfl, rfl, _⟩
    · rw [hg] at h2; cases h2
    · rw [hg] at h2
      injection h2 with h2
      subst h2
      exact ⟨zeroA, rfl, hb, ck_nil (zero_ok' (by decide)) ⟨rfl, rfl, rfl, rfl, rfl⟩⟩
set_option maxHeartbeats 8000000 in
set_option maxRecDepth 100000 in
theorem walk (a0 : Option Addr) (len0 cap0 : Nat) (z0 : List Int) (w : World) (w0 : IsRow .u8 w a0 len0 cap0 z0) :
    Calls Try.prog 3 #[.slice a0 len0 cap0] w fun e w' => e = .returned (.bool true) ∧ Below w.heap.size w w' := by
  obtain ⟨b, hb, hbc, hcm, hby⟩ := bytes_of w0
  have HN := Lib.hid hb
  have HY := Lib.hid hby
  rw [← hb] at hbc
  clear w0 hb hby
  obtain ⟨i0, hi0, hz0, hz1, hz2⟩ := info_parts3 u8_info
  go_enter Try.func3, Try.ntmps3
  go_wp2_with fail
  refine (first_any w).mono ?_
  rintro e W1 ⟨rfl, hb1⟩
  have HB1 := Lib.hid hb1
  clear hb1
  by_cases hbig : (100000 : Int) < (len0 : Int)
  · have d1 : decide ((100000 : Int) < (len0 : Int)) = true := decide_eq_true hbig
    go_wp2_with fail
    go_ret
    exact ⟨rfl, HB1.out⟩
  have d1 : decide ((100000 : Int) < (len0 : Int)) = false := decide_eq_false hbig
  have hl5 : len0 ≤ 100000 := by omega
  clear hbig
  go_upto_region 5 with fail
  clear d1
  have HY1 : Hid (Byt W1 w.heap.size a0 b) := HY.out.below HB1.out
  have HE1 := Lib.hid (own_empty W1 5)
  have RD : Hid (Reads (W1.alloc (.cells #[] 5)) w.heap.size 1 a0 len0 (u8s b)) := by have := HY1.out.alloc HB1.out.size (.cells #[] 5); unfold Byt at this; rw [← HN.out] at this; exact this
  go_upto_region 6 with (at_builtin; refine wpList_append_any _ rfl (.tmp 18) (.tmp 19) _ rfl W1.heap.size 5 i0 _ 1 1 Try.underlying22 hi0 hz0 hz1 hz2 rfl (by omega) (.slice (some ⟨W1.heap.size, 0, none⟩) 0 0) 0 [] rfl HE1.out w.heap.size a0 len0 cap0 (u8s b) rfl RD.out (u8s_one _) (by simp only [maxLen]; omega) (by omega) (by simp) ?_; intro v6 w6 hown6 hg6 hat6; obtain ⟨n6, A6, c6, rfl, HN6, hnq6, hnc6, hc6, HO6, HB6⟩ := copied (Below.refl _ W1) hown6 HN.out hg6; clear hown6 hg6 hat6)
  obtain ⟨W2, hW2⟩ : ∃ W, W = w6 := ⟨_, rfl⟩
  rw [← hW2] at HO6 HB6 ⊢
  have HB2 : Hid (Below w.heap.size w W2) := HB1.out.trans (HB6.out.mono HB1.out.size)
  have HB12 := HB6
  clear hW2 HE1 RD HB6
  go_wp2_with fail
  refine (get_k HN6.out hnc6 hc6 (by have := HO6.out; rw [HN6.out] at this; exact Reads.of_own this)).mono ?_
  rintro e W3 hd
  obtain ⟨kk, n, cs, c, rfl, hb3, ho3, ok3, hn3, hn65, hw3⟩ := get_norm hd
  have HW := Lib.hid hw3
  have HC3 := Lib.hid ho3
  have HOK := Lib.hid ok3
  have HSZ := Lib.hid (ho3.at_ ok3).size
  have HONE := Lib.hid (ho3.at_ ok3).one
  have HB23 := Lib.hid hb3
  have HB3 := Lib.hid (HB2.out.trans (hb3.mono HB2.out.size))
  have HO3 : Hid (W3.ownsRow W1.heap.size 5 1 (.slice A6 n6 c6) n6 (u8s b)) := (Fr.of_below hb3).own HO6.out (fun g hg hi => by have := (HO6.out.lt g hg).2; omega)
  have HLT : Hid (∀ g, (Value.slice A6 n6 c6).ownBlock = some g → W1.heap.size ≤ g ∧ g < W2.heap.size) := fun g hg => HO6.out.lt g hg
  have hkk : kk ≤ 100 := by
    rcases hw3 with ⟨rfl, _⟩ | ⟨_, h2, _⟩
    · omega
    · unfold getC at h2
      repeat (first | (split at h2) | (injection h2 with h2; omega) | cases h2)
  clear hd hw3 ho3 ok3 hb3 HO6
  go_upto_region 7 with (refine wpList_store_row rfl 32 _ _ rfl W3.heap.size cs rfl rfl 32 _ (Blk.new W3 32 _) (by rw [HSZ.out]; exact chunk_info) (by rw [HSZ.out]; rfl) HONE.out ?_)
  obtain ⟨HC4, HB4⟩ := kept_ck W3 zeroA cs
  obtain ⟨W4, hW4⟩ : ∃ W4, W4 = (W3.alloc (.cells zeroA 32)).setRow W3.heap.size cs := ⟨_, rfl⟩
  rw [← hW4] at HC4 HB4
  obtain ⟨g4, hg4⟩ : ∃ g4, g4 = W3.heap.size := ⟨_, rfl⟩
  rw [← hg4] at HC4
  have hW4' : W4 = (W3.alloc (.cells #[.int .u8 0, .bool false, .bool false, .bool false, .bool false, .int .u32 0, .int .u16 0, .int .u32 0, .int .u32 0, .int .u32 0, .int .u32 0, .int .u32 0, .int .u16 0, .int .u16 0, .slice none 0 0, .slice none 0 0, .slice none 0 0, .slice none 0 0, .slice none 0 0] 32)).setRow W3.heap.size cs := hW4
  rw [← hW4', ← hg4]
  have HG4 : Hid (CkBlk W4 g4 cs) := HC4
  have HGL : Hid (W2.heap.size ≤ g4) := by rw [hg4]; exact HB23.out.size
  have HC4' : Hid (CkOwn W4 W2.heap.size cs c) := HC3.out.grows HB4
  have HO4 : Hid (W4.ownsRow W1.heap.size 5 1 (.slice A6 n6 c6) n6 (u8s b)) := (Fr.of_below HB4).own HO3.out (fun g hg hi => by have := (HO3.out.lt g hg).2; omega)
  have HB4' : Hid (Below w.heap.size w W4) := HB3.out.trans (HB4.mono HB3.out.size)
  have HS4 : Hid (W3.heap.size ≤ W4.heap.size) := HB4.size
  clear hW4 hW4' hg4 HC4 HB4 HC3 HO3 HB3
  -- the bytes are turned: the chunk is its own
  go_wp2_with fail
  go_loopw [7, 29] (fun _ s wr => ∃ (k : Nat) (l : List UInt8), s = .int .i64 (k : Int) ∧ k ≤ n6 ∧ n6 = l.length ∧ Hid (wr.ownsRow W1.heap.size 5 1 (.slice A6 n6 c6) n6 (u8s l)) ∧ Hid (Below w.heap.size w wr) ∧ Hid (CkBlk wr g4 cs) ∧ Hid (CkOwn wr W2.heap.size cs c) ∧ Hid (W3.heap.size ≤ wr.heap.size)) (fun _ s _ => n6 - (intOf s).toNat)
  case atStart => exact ⟨0, b, rfl, Nat.zero_le _, HN6.out, HO4, HB4', HG4, HC4', HS4⟩
  case round =>
    obtain ⟨k, l, rfl, hk, hnl, HOw, HBw, HGw, HCw, HSw⟩ := hrel
    by_cases hlt : k < n6
    · obtain ⟨g, x, l', hA, hc, hfz, hnl', hset⟩ := flip_at HOw.out hnl hlt
      have hgl := HLT.out g (by rw [hA]; rfl)
      subst hA
      have hlti : (k : Int) < (n6 : Int) := by omega
      have HHS := Lib.hid hset
      have hge : W1.heap.size ≤ g ∧ g < W2.heap.size := hgl
      have HNL := Lib.hid hnl'
      clear hset hnl hgl hnl'
      go_wp2_with fail
      obtain ⟨h1, h2⟩ := HHS.out _ rfl
      go_roundw
      case rel =>
        refine ⟨k + 1, l', by go_num, by omega, HNL.out, h1, HBw.out.setCell (p := ⟨g, k, none⟩) (Nat.le_trans HB1.out.size hge.1) _, Blk.far HGw.out (p := ⟨g, k, none⟩) (by have := HGL.out; show g4 ≠ g; omega) _, HCw.out.fr h2.out (fun i hi _ => ?_), by have := HSw.out; show _ ≤ _; simpa [World.setCell] using this⟩
        have e : i = g := by have e2 : some i = some g := hi; injection e2
        rw [e]; exact hge.2
      case measure => simp [intOf]; omega
    · obtain rfl : k = n6 := by omega
      clear hlt HOw
      go_wp2_with fail
      have HYw : Hid (Byt wr wr.heap.size a0 b) := (HY.out.below HBw.out).more HBw.out.size
      refine (rget_k HN.out (by omega) hbc hcm HYw.out).mono ?_
      rintro e W5 hd
      obtain ⟨cs5, rfl, hb5, hat5⟩ := rget_norm hd HW.out
      have HAT5 := Lib.hid hat5
      have HSZ5 := Lib.hid hat5.size
      have HB5 := Lib.hid (HBw.out.trans (hb5.mono HBw.out.size))
      have HG5 : Hid (CkBlk W5 g4 cs) := HGw.out.below hb5 HGw.out.lt
      have HC5 : Hid (CkOwn W5 W2.heap.size cs c) := HCw.out.grows hb5
      clear hd hat5 hb5 HGw HCw HYw HBw HSw
      go_upto_region 13 with (refine wpList_store_row rfl 32 _ _ rfl W5.heap.size cs5 rfl rfl 32 _ (Blk.new W5 32 _) (by rw [HSZ5.out]; exact chunk_info) (by rw [HSZ5.out]; rfl) HAT5.out.one ?_)
      obtain ⟨HC6, HB6⟩ := kept_ck W5 zeroA cs5
      obtain ⟨W6, hW6⟩ : ∃ W6, W6 = (W5.alloc (.cells zeroA 32)).setRow W5.heap.size cs5 := ⟨_, rfl⟩
      rw [← hW6] at HC6 HB6
      obtain ⟨g6, hg6⟩ : ∃ g6, g6 = W5.heap.size := ⟨_, rfl⟩
      rw [← hg6] at HC6
      have hW6' : W6 = (W5.alloc (.cells #[.int .u8 0, .bool false, .bool false, .bool false, .bool false, .int .u32 0, .int .u16 0, .int .u32 0, .int .u32 0, .int .u32 0, .int .u32 0, .int .u32 0, .int .u16 0, .int .u16 0, .slice none 0 0, .slice none 0 0, .slice none 0 0, .slice none 0 0, .slice none 0 0] 32)).setRow W5.heap.size cs5 := hW6
      rw [← hW6', ← hg6]
      have HG6 : Hid (CkBlk W6 g4 cs) := HG5.out.below HB6 HG5.out.lt
      have HG66 : Hid (CkBlk W6 g6 cs5) := HC6
      have HAT6 : Hid (CkAt W6 W6.heap.size cs5 c) := (HAT5.out.below HB6).more HB6.size
      have HATc : Hid (CkAt W6 W6.heap.size cs c) := (HC5.out.grows HB6).at_ HOK.out
      have HB6' := Lib.hid (HB5.out.trans (HB6.mono HB5.out.size))
      clear hW6 hW6' hg6 HC6 HB6 HAT5 HG5 HC5 HB5
      go_wp2_with (first
        | refine wpList_load_on rfl 32 _ rfl g4 rfl 32 cs (0, 0) _ HG6.out Try.underlying32 ⟨_, rfl⟩ (by rw [HSZ.out]; exact chunk_info) ?_
        | refine wpList_load_on rfl 32 _ rfl g6 rfl 32 cs5 (0, 0) _ HG66.out Try.underlying32 ⟨_, rfl⟩ (by rw [HSZ5.out]; exact chunk_info) ?_)
      refine (rsame_k HATc.out HAT6.out (Nat.le_refl _) (Nat.le_refl _)).mono ?_
      rintro e W7 ⟨rfl, hb7⟩
      have HB7 := Lib.hid (HB6'.out.trans (hb7.mono HB6'.out.size))
      have HG7 : Hid (CkBlk W7 g4 cs) := HG6.out.below hb7 HG6.out.lt
      have HAT7 : Hid (CkAt W7 W7.heap.size cs c) := (HATc.out.below hb7).more hb7.size
      clear hb7 HG6 HG66 HAT6 HATc HB6'
      by_cases hk0 : kk = 0
      rotate_left
      · have hkn : ((kk : Int) != 0) = true := by simp; omega
        clear hk0
        go_wp2_with fail
        go_ret
        exact ⟨rfl, HB7.out⟩
      subst hk0
      have HGC : Hid (getC b = .ok (c, n)) := by
        rcases HW.out with ⟨_, h⟩ | ⟨h, _⟩
        · exact h
        · exact absurd rfl h
      have HP := Lib.hid (getC_puts HGC.out)
      go_wp2_with (refine wpList_load_row rfl 32 _ rfl g4 rfl 32 cs (0, 0) _ HG7.out Try.underlying32 rfl (by rw [HSZ.out]; exact chunk_info) ?_)
      refine (put_k HP.out.2.2.2.1 HAT7.out).mono ?_
      rintro e W8 ⟨hd, hb8⟩
      rcases hd with ⟨v8, _, rfl, ho8⟩ | ⟨k8, hk8, _⟩
      rotate_left
      · exact ((by
          have hp := HP.out.2.1
          rcases hk8 with ⟨_, a⟩ | ⟨_, a, b⟩ | ⟨_, a, b, d⟩
          · rw [hp.known] at a; cases a
          · rw [hp.full] at b; cases b
          · exact hp.short d) : False).elim
      have HB8 := Lib.hid (HB7.out.trans (hb8.mono HB7.out.size))
      rw [HP.out.2.2.1] at ho8
      obtain ⟨y, hy⟩ : ∃ y, y = b.take n := ⟨_, rfl⟩
      rw [← hy] at ho8
      have hyl : n = y.length := by rw [hy, List.length_take]; omega
      obtain ⟨A8, c8, rfl, h8a, h8b, HY8⟩ := own_as ho8 hyl
      have HYL := Lib.hid hyl
      have HYE := Lib.hid hy
      have HBB : Hid (Byt W8 w.heap.size a0 b) := HY.out.below HB8.out
      have HTK : Hid (Byt W8 w.heap.size a0 y) := by rw [hy]; exact HBB.out.take_ n
      have hb0 : 0 < b.length := by have := HP.out.2.2.2.2.2.2; have := HP.out.2.2.2.2.1; omega
      obtain ⟨ad, had, _, _⟩ := HBB.out.at_byte hb0
      subst had

      have q0 : (0 : Int) ≤ (n : Int) := by omega
      have q1 : n ≤ cap0 := by have := HN.out; omega
      have q2 : (n : Int) ≤ (cap0 : Int) := by omega
      have c1 : ∀ q, (convert 22 9 (.slice A8 n c8)).run Try.prog (W8.drewN q) = .ok (.string ⟨y.toArray⟩) (W8.drewN q) := fun q => str_as (HY8.out.below (below_drewN (Below.refl _ _) q)) rfl _ _ _ Try.underlying22 Try.underlying5 Try.underlying9 n c8 HYL.out
      have c2 : ∀ q, (convert 22 9 (.slice (some ad) n cap0)).run Try.prog (W8.drewN q) = .ok (.string ⟨y.toArray⟩) (W8.drewN q) := fun q => str_as (HTK.out.below (below_drewN (Below.refl _ _) q)) rfl _ _ _ Try.underlying22 Try.underlying5 Try.underlying9 n cap0 HYL.out
      clear hb8 ho8 hy hyl HG7 HAT7
      go_upto_region 18 with fail
      go_quiet (fail)
      go_wp2_with fail
      go_ret
      exact ⟨ret_bool (by simp), below_drewN HB8.out _⟩

/-! ### The row's step -/
set_option maxRecDepth 100000 in
theorem lifted (os : Os) (started : os.Started) (H : Type) (enc : TypeId × Value → H) :
    ReturnsInHanded {} Try.checked os 3 .any (Rows.chunkGetsSpec.pre6 enc Try.prog Try.f3 Rows.chunkGetsRow.domain false) (Rows.chunkGetsSpec.post enc Try.prog Try.f3 false true false false) := by
  refine returnsInHanded_of_change (C := Try.checked) own started (by kernel_rfl) Try.func3
    (ChangeSpec.witness6 (enc := enc) (C := Try.checked) false ⟨#[], #[.slice none 0 0], []⟩ 8 (by kernel_rfl) (by kernel_rfl) (by kernel_rfl) (by kernel_rfl)) ?_
  intro W base args ds gs before hval0 hW hcnd _
  have hval : ∀ (j : Nat) t v, Try.f3.params[j]? = some t → args[j]? = some v → Value.okWide Try.prog W .any base t v := hval0
  have hW' := hW
  obtain ⟨p, q, hA0, hV, rfl, hfz, hnd⟩ := hW
  have hA : DataW.TrodAll enc Try.prog W 0 (fun _ => true) true Try.f3.params.toList args.toList ds p := hA0
  rw [Try.params3] at hA hval
  obtain ⟨v0, vs0, d0, ds0, p0, q0, hargs, rfl, rfl, h0, r0⟩ := trodAll_cons hA
  obtain ⟨rfl, rfl, rfl⟩ := trodAll_nil r0
  obtain rfl : args = #[v0] := by cases args; simp_all
  obtain ⟨rfl, rfl⟩ := trodVars_none hV
  obtain ⟨a0, len0, cap0, rfl⟩ := okWide_slice Try.underlying22 (hval 0 22 v0 rfl rfl)
  have k0 := h0
  have lt0 : ∀ x ∈ p0, x.block < W.heap.size := by obtain ⟨m, hm⟩ := k0; exact DataW.trod_lt m _ _ _ hm
  obtain ⟨z0, w0⟩ : ∃ zs, IsRow .u8 W a0 len0 cap0 zs := by
    obtain ⟨fuel, hf⟩ := h0
    rcases open_ints Try.underlying22 Try.underlying5 (by kernel_rfl) hf with ⟨hcs, _⟩ | ⟨x, l, c, zs, hcs, _, hl, hm, hz, _, hcell, hwz⟩
    · simp [Value.cells] at hcs
      obtain ⟨rfl, rfl, rfl⟩ := hcs
      exact ⟨[], .inl ⟨rfl, rfl, rfl, rfl⟩⟩
    · simp [Value.cells] at hcs
      obtain ⟨rfl, rfl, rfl⟩ := hcs
      exact ⟨zs, .inr ⟨_, rfl, hl, hm, by simpa using hz, hcell, hwz⟩⟩
  clear hA0 hval0
  refine (walk a0 len0 cap0 z0 W w0).mono fun e W' ⟨he, bel⟩ => ?_
  subst he
  exact ⟨_, rfl, _, _, _, [], _, [], hW', trodAll_mk1 (shut_bool Try.underlying4 _), (trodAll_cons_mk (Below.trod laidOut (by kernel_rfl) (of_decide_eq_true (by kernel_rfl)) k0 bel lt0) trodAll_mk0), rfl, bel.frame _, fun h => by cases h⟩

theorem over : Rows.chunkGetsRow.holds Try.pinned (OpenSpec.ofChange Rows.chunkGetsSpec) :=
  OpenClaim.holds_of_wide 3 Try.f3 rfl rfl rfl rfl rfl rfl rfl ⟨rfl, rfl, rfl, rfl, rfl⟩ rfl rfl rfl rfl rfl (by kernel_rfl) Try.func3 (by kernel_rfl)
    (of_decide_eq_true (by kernel_rfl)) (by unfold Func.isWrapper; first | (rw [if_pos (by decide +kernel)]; kernel_rfl) | (rw [if_neg (by decide +kernel)]; exact ⟨rfl, rfl⟩))
    (fun os started H enc _ => lifted os started H enc)

theorem proved : Rows.ChunkGetsSaid := over
#print axioms proved
end Go.Proofs.Ytpgklhecmafnbaa.chunkGets
