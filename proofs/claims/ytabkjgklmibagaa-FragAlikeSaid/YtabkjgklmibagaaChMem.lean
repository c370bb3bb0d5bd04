/-
  Chunks in memory: those that are read, those of the call's own.
-/
import Derived.Test.YtabkjgklmibagaaChPlain
import Derived.Test.YtabkjgklmibagaaParRef
import Derived.Test.YtabkjgklmibagaaOctE
set_option linter.unusedVariables false
set_option linter.unusedSimpArgs false
namespace Go.Proofs.Ytabkjgklmibagaa.Chk
open Go.ChangeShapes Go.WideShapes Go.ChangeAt Go.RowKit Go.Deep Go.Proofs.Ytabkjgklmibagaa.Words Go.Proofs.Ytabkjgklmibagaa.Oct Go.Proofs.Ytabkjgklmibagaa.Par

/-- A chunk's cells: its plain fields, its five lists. -/
def ckArr (c : Ck) (gv dv sv pv bv : Value) : Array Value :=
  #[.int .u8 (c.kind : Int), .bool c.bg, .bool c.en, .bool c.lo, .bool c.ba, .int .u32 (c.tsn : Int), .int .u16 (c.st : Int), .int .u32 (c.mid : Int), .int .u32 (c.pp : Int), .int .u32 (c.fr : Int), .int .u32 (c.tag : Int), .int .u32 (c.win : Int),
    .int .u16 (c.out : Int), .int .u16 (c.inn : Int), gv, dv, sv, pv, bv]
def gapC (l : List Gp) : List Value := (l.map fun g => [Value.int .u16 (g.1 : Int), .int .u16 (g.2 : Int)]).flatten
def dupC (l : List Nat) : List Value := l.map fun d : Nat => Value.int .u32 (d : Int)
def skC (l : List Skp) : List Value := (l.map fun s => [Value.int .u16 (s.1 : Int), .bool s.2.1, .int .u32 (s.2.2 : Int)]).flatten
/-- A list's head: where it lies, how long, what room. -/
structure Hd where
  A : Option Addr
  cap : Nat
def Hd.v (h : Hd) (n : Nat) : Value := .slice h.A n h.cap
def Hd.okN (h : Hd) (n : Nat) : Prop := n ≤ h.cap ∧ h.cap ≤ 9223372036854775807
/-- Cells that read as the chunk c, its lists below block B. -/
structure CkAt (w : World) (B : Nat) (cs : Array Value) (c : Ck) : Prop where
  ok : c.ok
  ex : ∃ g d s p b : Hd, cs = ckArr c (g.v c.gaps.length) (d.v c.dups.length) (s.v c.skips.length) (p.v c.ps.length) (b.v c.body.length) ∧
    g.okN c.gaps.length ∧ d.okN c.dups.length ∧ s.okN c.skips.length ∧ p.okN c.ps.length ∧ b.okN c.body.length ∧
    Reads w B 2 g.A c.gaps.length (gapC c.gaps) ∧ Reads w B 1 d.A c.dups.length (dupC c.dups) ∧ Reads w B 3 s.A c.skips.length (skC c.skips) ∧ Ps w B p.A c.ps ∧ Byt w B b.A c.body
section
variable {w w' : World} {B B' : Nat} {cs : Array Value} {c : Ck}
theorem CkAt.keep (h : CkAt w B cs c) (hk : ∀ p : Addr, p.block < B → w'.cell? p = w.cell? p) : CkAt w' B cs c := by
  obtain ⟨ok, g, d, s, p, b, e, h1, h2, h3, h4, h5, r1, r2, r3, r4, r5⟩ := h
  exact ⟨ok, g, d, s, p, b, e, h1, h2, h3, h4, h5, r1.keep hk, r2.keep hk, r3.keep hk, r4.keep hk, r5.keep hk⟩
theorem CkAt.more (h : CkAt w B cs c) (hB : B ≤ B') : CkAt w B' cs c := by
  obtain ⟨ok, g, d, s, p, b, e, h1, h2, h3, h4, h5, r1, r2, r3, r4, r5⟩ := h
  exact ⟨ok, g, d, s, p, b, e, h1, h2, h3, h4, h5, r1.more hB, r2.more hB, r3.more hB, r4.more hB, r5.more hB⟩
theorem CkAt.below (h : CkAt w B cs c) (hb : Below B w w') : CkAt w' B cs c := h.keep fun _ hp => hb.cell hp
theorem CkAt.fr {S : Nat → Prop} (h : CkAt w B cs c) (k : Fr S w w') (hB : B ≤ w.heap.size) (hS : ∀ i, S i → B ≤ i) : CkAt w' B cs c :=
  h.keep fun p hp => World.cell?_of_block (k.block _ (by omega) (fun hs => by have := hS _ hs; omega))
theorem CkAt.drewN (h : CkAt w B cs c) (n : Nat) : CkAt (w.drewN n) B cs c := h.keep fun _ _ => rfl
theorem CkAt.drew (h : CkAt w B cs c) : CkAt w.drew B cs c := h.keep fun _ _ => rfl
theorem CkAt.size (h : CkAt w B cs c) : cs.size = 19 := by obtain ⟨_, g, d, s, p, b, rfl, _⟩ := h; rfl
theorem CkAt.one (h : CkAt w B cs c) : cs.all (·.oneCell') = true := by obtain ⟨_, g, d, s, p, b, rfl, _⟩ := h; simp [ckArr, Value.oneCell', Hd.v]
end
/-- A chunk's variable. -/
abbrev CkBlk (w : World) (g : Nat) (cs : Array Value) : Prop := Blk w g 42 cs
abbrev cptr (g : Nat) : Value := .pointer (some ⟨g, 0, none⟩)
theorem chunk_info : (Try.prog.info? 42).map (·.size) = some 19 := by kernel_rfl
theorem load_chunk {w : World} {g : Nat} {cs : Array Value} (h : CkBlk w g cs) (hs : cs.size = 19) : (Instr.loadAt 42 (cptr g)).run Try.prog w = .ok (.agg cs) w := by
  have := run_loadVar_row (P := Try.prog) w g 42 42 cs (0, 0) _ h Try.underlying42 rfl (by rw [hs]; exact chunk_info)
  simp only [Instr.loadAt, Instr.sureAddr, Sem.run_bind, Sem.run_pure, Result.andThen_ok, this]

/-- What the walk is told of a chunk's cells. -/
structure Cells (cs : Array Value) (c : Ck) (g d s p b : Hd) : Prop where
  size : cs.size = 19
  c0 : cs[0]? = some (.int .u8 (c.kind : Int))
  c1 : cs[1]? = some (.bool c.bg)
  c2 : cs[2]? = some (.bool c.en)
  c3 : cs[3]? = some (.bool c.lo)
  c4 : cs[4]? = some (.bool c.ba)
  c5 : cs[5]? = some (.int .u32 (c.tsn : Int))
  c6 : cs[6]? = some (.int .u16 (c.st : Int))
  c7 : cs[7]? = some (.int .u32 (c.mid : Int))
  c8 : cs[8]? = some (.int .u32 (c.pp : Int))
  c9 : cs[9]? = some (.int .u32 (c.fr : Int))
  c10 : cs[10]? = some (.int .u32 (c.tag : Int))
  c11 : cs[11]? = some (.int .u32 (c.win : Int))
  c12 : cs[12]? = some (.int .u16 (c.out : Int))
  c13 : cs[13]? = some (.int .u16 (c.inn : Int))
  c14 : cs[14]? = some (.slice g.A c.gaps.length g.cap)
  c15 : cs[15]? = some (.slice d.A c.dups.length d.cap)
  c16 : cs[16]? = some (.slice s.A c.skips.length s.cap)
  c17 : cs[17]? = some (.slice p.A c.ps.length p.cap)
  c18 : cs[18]? = some (.slice b.A c.body.length b.cap)
structure Lists (w : World) (B : Nat) (c : Ck) (g d s p b : Hd) : Prop where
  okg : g.okN c.gaps.length
  okd : d.okN c.dups.length
  oks : s.okN c.skips.length
  okp : p.okN c.ps.length
  okb : b.okN c.body.length
  gaps : Reads w B 2 g.A c.gaps.length (gapC c.gaps)
  dups : Reads w B 1 d.A c.dups.length (dupC c.dups)
  skips : Reads w B 3 s.A c.skips.length (skC c.skips)
  ps : Ps w B p.A c.ps
  body : Byt w B b.A c.body
theorem CkAt.parts {w : World} {B : Nat} {cs : Array Value} {c : Ck} (h : CkAt w B cs c) : ∃ g d s p b : Hd, Cells cs c g d s p b ∧ Lists w B c g d s p b := by
  obtain ⟨_, g, d, s, p, b, rfl, h1, h2, h3, h4, h5, r1, r2, r3, r4, r5⟩ := h
  exact ⟨g, d, s, p, b, ⟨rfl, rfl, rfl, rfl, rfl, rfl, rfl, rfl, rfl, rfl, rfl, rfl, rfl, rfl, rfl, rfl, rfl, rfl, rfl, rfl⟩, ⟨h1, h2, h3, h4, h5, r1, r2, r3, r4, r5⟩⟩
/-- A chunk's variable, just made: its cell, and what it stands beside. -/
theorem CkBlk.at {w : World} {g : Nat} {cs : Array Value} {i : Nat} {v : Value} (h : CkBlk w g cs) (hv : cs[i]? = some v) : w.cell? ⟨g, i, none⟩ = some v := (h.cell i).trans hv

theorem beq_eq_decide_int (a b : Int) : (a == b) = decide (a = b) := by
  by_cases h : a = b
  · simp [h]
  · simp [h]
theorem beq_no {k : Nat} {n : Int} (h : ¬ (k : Int) = n) : ((k : Int) == n) = false := by simpa using h
def flagV (on : Bool) (n : Nat) : Nat := if on then n else 0
theorem flag_c (on : Bool) (n : Nat) (w : World) : Calls Try.prog 47 #[.bool on, .int .u8 (n : Int)] w fun e w' => e = .returned (.int .u8 ((flagV on n : Nat) : Int)) ∧ w = w' := by
  go_enter Try.func47, Try.ntmps47
  cases on
  · go_wp2_with fail
    go_ret
    exact ⟨rfl, rfl⟩
  · go_wp2_with fail
    go_ret
    exact ⟨rfl, rfl⟩

theorem lacks_c {w : World} {B : Nat} {cs : Array Value} {c : Ck} (h : CkAt w B cs c) : Calls Try.prog 31 #[.agg cs] w fun e w' => e = .returned (.bool (lacks c)) ∧ Below w.heap.size w w' := by
  have hk := h.ok.kind
  obtain ⟨g, d, s, p, b, hc, hl⟩ := h.parts
  have HBL := Lib.hid (Blk.new w 42 cs)
  have HB := Lib.hid ((Below.refl w.heap.size w).alloc (Nat.le_refl _) (.cells cs 42))
  have HE : Hid (lacks c = ((decide (c.kind = 0) || decide (c.kind = 64)) && decide (c.body.length = 0))) := by
    show lacks c = _
    unfold lacks hasBody
    cases hb : c.body <;> cases h0 : (c.kind == 0) <;> cases h1 : (c.kind == 64) <;> simp_all
  obtain ⟨r, hr⟩ : ∃ r, r = lacks c := ⟨_, rfl⟩
  rw [← hr] at HE ⊢
  obtain ⟨k, hkk⟩ : ∃ k, k = c.kind := ⟨_, rfl⟩
  obtain ⟨n, hn⟩ : ∃ n, n = c.body.length := ⟨_, rfl⟩
  have e0 := hc.c0
  have e18 := hc.c18
  rw [← hkk] at hk e0 HE
  rw [← hn] at e18 HE
  clear h hc hl hr hkk hn
  go_enter Try.func31, Try.ntmps31
  go_upto_region 1 with (fail)
  obtain ⟨W1, hW1⟩ : ∃ W1, W1 = w.alloc (.cells cs 42) := ⟨_, rfl⟩
  rw [← hW1] at HBL HB ⊢
  have f0 := CkBlk.at HBL.out e0
  have f18 := CkBlk.at HBL.out e18
  clear hW1 e0 e18
  go_wp2_with fail
  all_goals
    go_ret
    refine ⟨ret_bool ?_, HB.out⟩
    rw [HE.out]
    apply Bool.eq_iff_iff.2
    simp only [Bool.or_eq_true, Bool.and_eq_true, decide_eq_true_eq, beq_iff_eq, Bool.false_eq_true, true_iff, false_iff]
    omega

set_option maxHeartbeats 1000000 in
theorem flags_c {w : World} {B : Nat} {cs : Array Value} {c : Ck} (h : CkAt w B cs c) : Calls Try.prog 35 #[.agg cs] w fun e w' => e = .returned (.int .u8 ((flagsN c : Nat) : Int)) ∧ Below w.heap.size w w' := by
  have hk := h.ok.kind
  obtain ⟨g, d, s, p, b, hc, hl⟩ := h.parts
  have HBL := Lib.hid (Blk.new w 42 cs)
  have HB := Lib.hid ((Below.refl w.heap.size w).alloc (Nat.le_refl _) (.cells cs 42))
  have HE : Hid (flagsN c = if c.kind = 0 ∨ c.kind = 64 then loN c.en + (2 * loN c.bg + 4 * loN c.lo) else if c.kind = 6 ∨ c.kind = 14 then loN c.ba else 0) := by
    show flagsN c = _
    unfold flagsN hasBody
    simp only [Bool.or_eq_true, beq_iff_eq]
  obtain ⟨r, hr⟩ : ∃ r, r = flagsN c := ⟨_, rfl⟩
  rw [← hr] at HE ⊢
  obtain ⟨k, hkk⟩ : ∃ k, k = c.kind := ⟨_, rfl⟩
  have e0 := hc.c0
  have e1 := hc.c1
  have e2 := hc.c2
  have e3 := hc.c3
  have e4 := hc.c4
  rw [← hkk] at hk e0 HE
  generalize c.bg = bg at e1 HE
  generalize c.en = en at e2 HE
  generalize c.lo = lo at e3 HE
  generalize c.ba = ba at e4 HE
  clear h hc hl hr hkk
  go_enter Try.func35, Try.ntmps35
  go_upto_region 1 with (fail)
  obtain ⟨W1, hW1⟩ : ∃ W1, W1 = w.alloc (.cells cs 42) := ⟨_, rfl⟩
  rw [← hW1] at HBL HB ⊢
  have f0 := CkBlk.at HBL.out e0
  have f1 := CkBlk.at HBL.out e1
  have f2 := CkBlk.at HBL.out e2
  have f3 := CkBlk.at HBL.out e3
  have f4 := CkBlk.at HBL.out e4
  clear hW1 e0 e1 e2 e3 e4
  by_cases h64 : k = 0 ∨ k = 64
  · have HV : Hid (bits .or .u8 (bits .or .u8 (flagV en 1 : Int) (flagV bg 2 : Int)) (flagV lo 4 : Int) = (r : Int)) := by
      show _ = _
      rw [HE.out, if_pos h64]
      cases en <;> cases bg <;> cases lo <;> decide
    rcases h64 with rfl | rfl
    · go_wp2_with fail
      go_quiet ((go_at_call 47; exact quiet_left (flag_c _ _ _)))
      go_wp2_with fail
      go_ret
      exact ⟨ret_int HV.out, below_drewN HB.out _⟩
    · go_wp2_with fail
      go_quiet ((go_at_call 47; exact quiet_left (flag_c _ _ _)))
      go_wp2_with fail
      go_ret
      exact ⟨ret_int HV.out, below_drewN HB.out _⟩
  · by_cases h6 : k = 6 ∨ k = 14
    · have HV : Hid ((flagV ba 1 : Int) = (r : Int)) := by
        show _ = _
        rw [HE.out, if_neg h64, if_pos h6]
        cases ba <;> decide
      rcases h6 with rfl | rfl
      · go_wp2_with fail
        refine (flag_c _ 1 _).mono ?_
        rintro e W2 ⟨rfl, rfl⟩
        go_wp2_with fail
        go_ret
        exact ⟨ret_int HV.out, HB.out⟩
      · go_wp2_with fail
        refine (flag_c _ 1 _).mono ?_
        rintro e W2 ⟨rfl, rfl⟩
        go_wp2_with fail
        go_ret
        exact ⟨ret_int HV.out, HB.out⟩
    · have HV : Hid ((0 : Int) = (r : Int)) := by
        show _ = _
        rw [HE.out, if_neg h64, if_neg h6]
        rfl
      have b0 := beq_no (k := k) (n := 0) (by omega)
      have b1 := beq_no (k := k) (n := 64) (by omega)
      have b2 := beq_no (k := k) (n := 6) (by omega)
      have b3 := beq_no (k := k) (n := 14) (by omega)
      go_wp2_with fail
      go_ret
      exact ⟨ret_int HV.out, HB.out⟩

set_option maxHeartbeats 1000000 in
theorem known_c (k : Nat) (hk : k < 256) (w : World) : Calls Try.prog 30 #[.int .u8 (k : Int)] w fun e w' => e = .returned (.bool (known k)) ∧ w = w' := by
  by_cases hK : known k = true
  · rw [hK]
    rcases kinds hK with rfl | rfl | rfl | rfl | rfl | rfl | rfl | rfl | rfl | rfl | rfl | rfl | rfl | rfl | rfl | rfl | rfl
    all_goals
      go_enter Try.func30, Try.ntmps30
      go_wp2_with fail
      go_ret
      exact ⟨rfl, rfl⟩
  · have hF : known k = false := by simpa using hK
    rw [hF]
    have hn : ¬ k ≤ 11 ∧ ¬ k = 14 ∧ ¬ k = 64 ∧ ¬ k = 130 ∧ ¬ k = 192 ∧ ¬ k = 194 := by
      simp only [known, Bool.or_eq_true, decide_eq_true_eq, beq_iff_eq] at hK
      omega
    have b0 := beq_no (k := k) (n := 0) (by omega)
    have b1 := beq_no (k := k) (n := 1) (by omega)
    have b2 := beq_no (k := k) (n := 2) (by omega)
    have b3 := beq_no (k := k) (n := 3) (by omega)
    have b4 := beq_no (k := k) (n := 4) (by omega)
    have b5 := beq_no (k := k) (n := 5) (by omega)
    have b6 := beq_no (k := k) (n := 6) (by omega)
    have b7 := beq_no (k := k) (n := 7) (by omega)
    have b8 := beq_no (k := k) (n := 8) (by omega)
    have b9 := beq_no (k := k) (n := 9) (by omega)
    have b10 := beq_no (k := k) (n := 10) (by omega)
    have b11 := beq_no (k := k) (n := 11) (by omega)
    have b14 := beq_no (k := k) (n := 14) (by omega)
    have b64 := beq_no (k := k) (n := 64) (by omega)
    have b130 := beq_no (k := k) (n := 130) (by omega)
    have b192 := beq_no (k := k) (n := 192) (by omega)
    have b194 := beq_no (k := k) (n := 194) (by omega)
    clear hK hF hn
    go_enter Try.func30, Try.ntmps30
    go_wp2_with fail
    go_ret
    exact ⟨rfl, rfl⟩

end Go.Proofs.Ytabkjgklmibagaa.Chk
