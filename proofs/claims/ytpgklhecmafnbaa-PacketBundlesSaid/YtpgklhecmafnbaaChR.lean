/-
  Contracts of package chunk's reader: what is refused, the rest, parameters, fragments, greetings.
-/
import Derived.Test.YtpgklhecmafnbaaChMem
import Derived.Test.YtpgklhecmafnbaaParG
import Derived.Test.YtpgklhecmafnbaaStageT
set_option linter.unusedVariables false
set_option linter.unusedSimpArgs false
namespace Go.Proofs.Ytpgklhecmafnbaa.Chk
open Go.ChangeShapes Go.WideShapes Go.ChangeAt Go.RowKit Go.Deep Go.Proofs.Ytpgklhecmafnbaa.Words Go.Proofs.Ytpgklhecmafnbaa.Oct Go.Proofs.Ytpgklhecmafnbaa.Par

/-- The blocks that a reader of package chunk turns: the bytes' reader, its own, the chunk. -/
abbrev AtR (p r g : Nat) : Nat → Prop := fun i => i = p ∨ i = r ∨ i = g
/-- Where a reader of package chunk stands: since w, V is reached. -/
structure RS (w V : World) (p G r g : Nat) (l : List UInt8) (bad wr : Bool) (cs : Array Value) : Prop where
  rd : Rd V p G l bad
  rblk : Blk V r 126 #[rptr p, .bool wr]
  blk : CkBlk V g cs
  fr : Fr (AtR p r g) w V
  o1 : g < G
  o2 : p < r
section
variable {w V V' : World} {p G r g : Nat} {l l' : List UInt8} {bad bad' wr : Bool} {cs : Array Value}
theorem RS.ne1 (h : RS w V p G r g l bad wr cs) : r ≠ p := by have := h.o2; omega
theorem RS.ne2 (h : RS w V p G r g l bad wr cs) : g ≠ p := by have := h.o1; have := h.rd.le; omega
theorem RS.ne3 (h : RS w V p G r g l bad wr cs) : g ≠ r := by have := h.o1; have := h.rd.le; have := h.o2; omega
theorem RS.size (h : RS w V p G r g l bad wr cs) : w.heap.size ≤ V.heap.size := h.fr.size
theorem RS.step (h : RS w V p G r g l bad wr cs) (k : Rd V' p G l' bad') (f : Fr (At p) V V') : RS w V' p G r g l' bad' wr cs :=
  ⟨k, f.blk h.rblk h.ne1, f.blk h.blk h.ne2, h.fr.trans f (fun x _ hx => .inl hx), h.o1, h.o2⟩
theorem RS.grows (h : RS w V p G r g l bad wr cs) (k : Below V.heap.size V V') : RS w V' p G r g l bad wr cs :=
  ⟨h.rd.grows k, h.rblk.below k h.rblk.lt, h.blk.below k h.blk.lt, h.fr.grows k, h.o1, h.o2⟩
theorem RS.drew (h : RS w V p G r g l bad wr cs) : RS w V.drew p G r g l bad wr cs :=
  ⟨h.rd.fr ((Fr.refl (fun _ => False) V).drew) id id, h.rblk.drew, h.blk.drew, h.fr.drew, h.o1, h.o2⟩
theorem RS.setC (h : RS w V p G r g l bad wr cs) (i : Nat) (u : Value) : RS w (V.setCell ⟨g, i, none⟩ u) p G r g l bad wr (cs.setIfInBounds i u) := by
  have F : Fr (fun k => k = g) V (V.setCell ⟨g, i, none⟩ u) := (Fr.refl (fun k => k = g) V).setCell (p := ⟨g, i, none⟩) (.inl rfl) _
  refine ⟨h.rd.fr F (fun e => h.ne2 e.symm) (fun e => ?_), F.blk h.rblk (fun e => h.ne3 e.symm), h.blk.set_ i u, h.fr.trans F (fun x _ hx => .inr (.inr hx)), h.o1, h.o2⟩
  have : G = g := e
  have := h.o1
  omega
theorem RS.setW (h : RS w V p G r g l bad wr cs) (b : Bool) : RS w (V.setCell ⟨r, 1, none⟩ (.bool b)) p G r g l bad b cs := by
  have F : Fr (fun k => k = r) V (V.setCell ⟨r, 1, none⟩ (.bool b)) := (Fr.refl (fun k => k = r) V).setCell (p := ⟨r, 1, none⟩) (.inl rfl) _
  refine ⟨h.rd.fr F (fun e => h.ne1 e.symm) (fun e => ?_), ?_, F.blk h.blk h.ne3, h.fr.trans F (fun x _ hx => .inr (.inl hx)), h.o1, h.o2⟩
  · have : G = r := e
    have := h.rd.le
    have := h.o2
    omega
  · have := h.rblk.set_ 1 (.bool b)
    simpa using this
/-- Since w, and what lay ahead of that. -/
theorem RS.since {w0 : World} (h : RS w V p G r g l bad wr cs) (f : Fr (AtR p r g) w0 w) : RS w0 V p G r g l bad wr cs := ⟨h.rd, h.rblk, h.blk, f.same h.fr, h.o1, h.o2⟩
theorem RS.lts (h : RS w V p G r g l bad wr cs) : p < V.heap.size ∧ r < V.heap.size ∧ g < V.heap.size := ⟨h.rd.lt, h.rblk.lt, h.blk.lt⟩
theorem RS.here (h : RS w V p G r g l bad wr cs) : RS V V p G r g l bad wr cs := ⟨h.rd, h.rblk, h.blk, Fr.refl _ _, h.o1, h.o2⟩
end

theorem refuse_r {w : World} {p G r g : Nat} {l : List UInt8} {bad wr : Bool} {cs : Array Value} (b : Bool) (h : RS w w p G r g l bad wr cs) :
    Calls Try.prog 93 #[rptr r, .bool b] w fun e w' => e = .returned (.tuple #[]) ∧ RS w w' p G r g l bad (wr || b) cs := by
  have H := Lib.hid h
  have c1 : w.cell? ⟨r, 1, none⟩ = some (.bool wr) := h.rblk.cell 1
  have f1 := h.rblk.frozen 1
  clear h
  go_enter Try.func93, Try.ntmps93
  cases wr
  · go_wp2_with fail
    go_end0
    exact ⟨rfl, by rw [Bool.false_or]; exact H.out.setW b⟩
  · go_wp2_with fail
    go_end0
    exact ⟨rfl, by rw [Bool.true_or]; exact H.out.setW true⟩

set_option maxRecDepth 100000 in
theorem rest_r {w : World} {p G r g : Nat} {l : List UInt8} {bad wr : Bool} {cs : Array Value} (h : RS w w p G r g l bad wr cs) (hl : l.length ≤ 1000000) :
    Calls Try.prog 95 #[rptr r] w fun e w' => ∃ v, e = .returned v ∧ Own w' w.heap.size v l ∧ RS w w' p G r g [] bad wr cs := by
  have H := Lib.hid h
  have c0 : w.cell? ⟨r, 0, none⟩ = some (rptr p) := h.rblk.cell 0
  have HL := Lib.hid hl
  clear h hl
  go_enter Try.func95, Try.ntmps95
  go_wp2_with fail
  refine wp_region_still_tail 9 (by kernel_rfl) (by kernel_rfl) ?_
  simp only [List.take_succ_cons, List.take_zero, List.drop_succ_cons, List.drop_zero]
  repeat still_step
  still_call ((rd_left H.out.drew.rd).mono fun _ _ h => ⟨h.1, h.2.symm⟩)
  repeat still_step
  try refine wpStill_nil ?_
  change wpList _ _ _ _ _ w.drew
  obtain ⟨V, hV⟩ : ∃ V, V = w.drew := ⟨_, rfl⟩
  have HD := Lib.hid H.out.drew
  have HS : Hid (V.heap.size = w.heap.size) := by rw [hV]; rfl
  rw [← hV] at HD ⊢
  clear hV H c0
  go_wp2_with fail
  refine (rdx_take l.length HD.out.rd HL.out).mono ?_
  rintro e W2 ⟨v, rfl, ho, hr, hf⟩
  rw [cutL_yes (Nat.le_refl _), List.drop_length, cutB_yes (Nat.le_refl _)] at hr
  rw [cutT_yes (Nat.le_refl _), List.take_length] at ho
  have HR := Lib.hid (HD.out.step hr hf)
  rw [HS.out] at ho
  have HO := Lib.hid ho
  clear ho hr hf
  go_wp2_with fail
  go_ret
  exact ⟨v, rfl, HO.out, HR.out⟩

/-- What params leaves. -/
def ParamsGot (w : World) (p G r g : Nat) (l : List UInt8) (bad wr : Bool) (cs : Array Value) (e : Ending) (w' : World) : Prop :=
  (∃ v ls, getL l = .ok ls ∧ e = .returned v ∧ OwnPs w' w.heap.size v ls ∧ RS w w' p G r g [] bad wr cs) ∨
  (∃ k A c, getL l = .error k ∧ e = .returned (.slice A 0 c) ∧ c ≤ 9223372036854775807 ∧ RS w w' p G r g [] bad true cs)
set_option maxHeartbeats 1000000 in
theorem params_r {w : World} {p G r g : Nat} {l : List UInt8} {bad wr : Bool} {cs : Array Value} (h : RS w w p G r g l bad wr cs) (hl : l.length ≤ 200000) :
    Calls Try.prog 97 #[rptr r] w (ParamsGot w p G r g l bad wr cs) := by
  have H := Lib.hid h
  have HL := Lib.hid hl
  have HLT := Lib.hid h.lts
  clear h hl
  go_enter Try.func97, Try.ntmps97
  go_wp2_with fail
  refine (rest_r H.out (by have := HL.out; omega)).mono ?_
  rintro e W1 ⟨v, rfl, ho, hr⟩
  have HR1 := Lib.hid hr
  obtain ⟨A1, c1, rfl, h1a, h1b⟩ := own_slice ho
  obtain ⟨n, hn⟩ : ∃ n, n = l.length := ⟨_, rfl⟩
  rw [← hn] at ho h1a ⊢
  have HN := Lib.hid hn
  have HY : Hid (Byt W1 W1.heap.size A1 l) := Own.byt ho
  have hn2 : n ≤ 200000 := by rw [hn]; exact HL.out
  clear ho hr hn
  go_wp2_with fail
  refine (get_c A1 l n c1 W1 HN.out h1a h1b hn2 HY.out).mono ?_
  rintro e W2 ⟨hd, hb⟩
  have HR2 := Lib.hid (HR1.out.grows hb)
  have HSZ : Hid (w.heap.size ≤ W1.heap.size) := HR1.out.size
  clear hb HR1
  rcases hd with ⟨v2, ls, hls, rfl, ho2⟩ | ⟨k, A2, c2, hk, rfl, hc2⟩
  · have HO := Lib.hid ho2
    have HLS := Lib.hid hls
    clear ho2 hls
    go_wp2_with fail
    refine (refuse_r false HR2.out.here).mono ?_
    rintro e W3 ⟨rfl, hr3⟩
    have HR3 := Lib.hid (hr3.since HR2.out.fr)
    have HO3 : Hid (OwnPs W3 W1.heap.size v2 ls) := HO.out.fr hr3.fr (by
      have h1 := HLT.out
      have h2 := HSZ.out
      rintro i (rfl | rfl | rfl) _ <;> omega)
    clear hr3
    go_wp2_with fail
    go_ret
    refine .inl ⟨v2, ls, HLS.out, rfl, HO3.out.mono HSZ.out, ?_⟩
    have := HR3.out
    rwa [Bool.or_false] at this
  · have hk0 : ((k : Int) != 0) = true := by have := getL_errs hk; simp; omega
    have HK := Lib.hid hk
    clear hk
    go_wp2_with fail
    refine (refuse_r true HR2.out.here).mono ?_
    rintro e W3 ⟨rfl, hr3⟩
    have HR3 := Lib.hid (hr3.since HR2.out.fr)
    clear hr3
    go_wp2_with fail
    go_ret
    refine .inr ⟨k, A2, c2, HK.out, rfl, hc2, ?_⟩
    have := HR3.out
    rwa [Bool.or_true] at this

set_option maxHeartbeats 2000000 in
set_option maxRecDepth 100000 in
theorem greet_r {w : World} {p G r g : Nat} {l : List UInt8} {bad wr : Bool} {c : Ck} {gv dv sv pv bv : Value} (h : RS w w p G r g l bad wr (ckArr c gv dv sv pv bv)) :
    Calls Try.prog 96 #[rptr r, cptr g] w fun e w' => e = .returned (.tuple #[]) ∧ RS w w' p G r g (cutL 16 l) (cutB 16 l bad) wr
      (ckArr { c with tag := val 4 l, win := val 4 (cutL 4 l), out := val 2 (cutL 8 l), inn := val 2 (cutL 10 l), tsn := val 4 (cutL 12 l) } gv dv sv pv bv) := by
  obtain ⟨W1, hW1⟩ : ∃ W1, W1 = w := ⟨_, rfl⟩
  have HR1 : Hid (RS w W1 p G r g l bad wr (ckArr c gv dv sv pv bv)) := by rw [hW1]; exact h
  rw [← hW1] at h
  rw [show Calls Try.prog 96 #[rptr r, cptr g] w = Calls Try.prog 96 #[rptr r, cptr g] W1 by rw [hW1]]
  clear h hW1
  go_enter Try.func96, Try.ntmps96
  have d0 : W1.cell? ⟨r, 0, none⟩ = some (rptr p) := HR1.out.rblk.cell 0
  go_wp2_with fail
  refine (rdx_u32 HR1.out.rd).mono ?_
  rintro e V1 ⟨rfl, hr, hf⟩
  have HS1 := Lib.hid (HR1.out.step hr hf)
  clear hr hf d0 HR1
  have kc := CkBlk.at (i := 10) HS1.out.blk rfl
  have kf := HS1.out.blk.frozen 10
  go_upto_region 1 with (fail)
  obtain ⟨W2, hW⟩ : ∃ W, W = V1.setCell ⟨g, 10, none⟩ (.int .u32 ((val 4 (l) : Nat) : Int)) := ⟨_, rfl⟩
  have HR2 := Lib.hid (HS1.out.setC 10 (.int .u32 ((val 4 (l) : Nat) : Int)))
  rw [← hW] at HR2 ⊢
  clear hW kc kf HS1
  have d0 : W2.cell? ⟨r, 0, none⟩ = some (rptr p) := HR2.out.rblk.cell 0
  go_wp2_with fail
  refine (rdx_u32 HR2.out.rd).mono ?_
  rintro e V2 ⟨rfl, hr, hf⟩
  have HS2 := Lib.hid (HR2.out.step hr hf)
  clear hr hf d0 HR2
  have kc := CkBlk.at (i := 11) HS2.out.blk rfl
  have kf := HS2.out.blk.frozen 11
  go_upto_region 2 with (fail)
  obtain ⟨W3, hW⟩ : ∃ W, W = V2.setCell ⟨g, 11, none⟩ (.int .u32 ((val 4 (cutL 4 l) : Nat) : Int)) := ⟨_, rfl⟩
  have HR3 := Lib.hid (HS2.out.setC 11 (.int .u32 ((val 4 (cutL 4 l) : Nat) : Int)))
  rw [← hW] at HR3 ⊢
  clear hW kc kf HS2
  have d0 : W3.cell? ⟨r, 0, none⟩ = some (rptr p) := HR3.out.rblk.cell 0
  go_wp2_with fail
  refine (rdx_u16 HR3.out.rd).mono ?_
  rintro e V3 ⟨rfl, hr, hf⟩
  have HS3 := Lib.hid (HR3.out.step hr hf)
  clear hr hf d0 HR3
  have kc := CkBlk.at (i := 12) HS3.out.blk rfl
  have kf := HS3.out.blk.frozen 12
  go_upto_region 3 with (fail)
  obtain ⟨W4, hW⟩ : ∃ W, W = V3.setCell ⟨g, 12, none⟩ (.int .u16 ((val 2 (cutL 4 (cutL 4 l)) : Nat) : Int)) := ⟨_, rfl⟩
  have HR4 := Lib.hid (HS3.out.setC 12 (.int .u16 ((val 2 (cutL 4 (cutL 4 l)) : Nat) : Int)))
  rw [← hW] at HR4 ⊢
  clear hW kc kf HS3
  have d0 : W4.cell? ⟨r, 0, none⟩ = some (rptr p) := HR4.out.rblk.cell 0
  go_wp2_with fail
  refine (rdx_u16 HR4.out.rd).mono ?_
  rintro e V4 ⟨rfl, hr, hf⟩
  have HS4 := Lib.hid (HR4.out.step hr hf)
  clear hr hf d0 HR4
  have kc := CkBlk.at (i := 13) HS4.out.blk rfl
  have kf := HS4.out.blk.frozen 13
  go_upto_region 4 with (fail)
  obtain ⟨W5, hW⟩ : ∃ W, W = V4.setCell ⟨g, 13, none⟩ (.int .u16 ((val 2 (cutL 2 (cutL 4 (cutL 4 l))) : Nat) : Int)) := ⟨_, rfl⟩
  have HR5 := Lib.hid (HS4.out.setC 13 (.int .u16 ((val 2 (cutL 2 (cutL 4 (cutL 4 l))) : Nat) : Int)))
  rw [← hW] at HR5 ⊢
  clear hW kc kf HS4
  have d0 : W5.cell? ⟨r, 0, none⟩ = some (rptr p) := HR5.out.rblk.cell 0
  go_wp2_with fail
  refine (rdx_u32 HR5.out.rd).mono ?_
  rintro e V5 ⟨rfl, hr, hf⟩
  have HS5 := Lib.hid (HR5.out.step hr hf)
  clear hr hf d0 HR5
  have kc := CkBlk.at (i := 5) HS5.out.blk rfl
  have kf := HS5.out.blk.frozen 5
  go_wp2_with fail
  have HR6 := Lib.hid (HS5.out.setC 5 (.int .u32 ((val 4 (cutL 2 (cutL 2 (cutL 4 (cutL 4 l)))) : Nat) : Int)))
  go_end0
  have := HR6.out
  refine ⟨rfl, ?_⟩
  simp only [cutL_cutL, cutB_cutB] at this ⊢
  exact this

set_option maxHeartbeats 2000000 in
set_option maxRecDepth 100000 in
theorem frag0_r {w : World} {p G r g : Nat} {l : List UInt8} {bad wr : Bool} {c : Ck} {gv dv sv pv bv : Value} (hk : c.kind = 0) (h : RS w w p G r g l bad wr (ckArr c gv dv sv pv bv)) :
    Calls Try.prog 94 #[rptr r, cptr g] w fun e w' => e = .returned (.tuple #[]) ∧ RS w w' p G r g (cutL 12 l) (cutB 12 l bad) wr
      (ckArr { c with tsn := val 4 l, st := val 2 (cutL 4 l), mid := val 2 (cutL 6 l), pp := val 4 (cutL 8 l) } gv dv sv pv bv) := by
  obtain ⟨W1, hW1⟩ : ∃ W1, W1 = w := ⟨_, rfl⟩
  have HR1 : Hid (RS w W1 p G r g l bad wr (ckArr c gv dv sv pv bv)) := by rw [hW1]; exact h
  rw [← hW1] at h
  rw [show Calls Try.prog 94 #[rptr r, cptr g] w = Calls Try.prog 94 #[rptr r, cptr g] W1 by rw [hW1]]
  clear h hW1
  go_enter Try.func94, Try.ntmps94
  have d0 : W1.cell? ⟨r, 0, none⟩ = some (rptr p) := HR1.out.rblk.cell 0
  go_wp2_with fail
  refine (rdx_u32 HR1.out.rd).mono ?_
  rintro e V1 ⟨rfl, hr, hf⟩
  have HS1 := Lib.hid (HR1.out.step hr hf)
  clear hr hf d0 HR1
  have kc := CkBlk.at (i := 5) HS1.out.blk rfl
  have kf := HS1.out.blk.frozen 5
  go_upto_region 1 with (fail)
  obtain ⟨W2, hW⟩ : ∃ W, W = V1.setCell ⟨g, 5, none⟩ (.int .u32 ((val 4 (l) : Nat) : Int)) := ⟨_, rfl⟩
  have HR2 := Lib.hid (HS1.out.setC 5 (.int .u32 ((val 4 (l) : Nat) : Int)))
  rw [← hW] at HR2 ⊢
  clear hW kc kf HS1
  have d0 : W2.cell? ⟨r, 0, none⟩ = some (rptr p) := HR2.out.rblk.cell 0
  go_wp2_with fail
  refine (rdx_u16 HR2.out.rd).mono ?_
  rintro e V2 ⟨rfl, hr, hf⟩
  have HS2 := Lib.hid (HR2.out.step hr hf)
  clear hr hf d0 HR2
  have kc := CkBlk.at (i := 6) HS2.out.blk rfl
  have kf := HS2.out.blk.frozen 6
  go_upto_region 2 with (fail)
  obtain ⟨W3, hW⟩ : ∃ W, W = V2.setCell ⟨g, 6, none⟩ (.int .u16 ((val 2 (cutL 4 l) : Nat) : Int)) := ⟨_, rfl⟩
  have HR3 := Lib.hid (HS2.out.setC 6 (.int .u16 ((val 2 (cutL 4 l) : Nat) : Int)))
  rw [← hW] at HR3 ⊢
  clear hW kc kf HS2
  have d0 : W3.cell? ⟨r, 0, none⟩ = some (rptr p) := HR3.out.rblk.cell 0
  have k0 : W3.cell? ⟨g, 0, none⟩ = some (.int .u8 (c.kind : Int)) := CkBlk.at HR3.out.blk rfl
  rw [hk] at k0
  go_wp2_with fail
  refine (rdx_u16 HR3.out.rd).mono ?_
  rintro e V3 ⟨rfl, hr, hf⟩
  have HS3 := Lib.hid (HR3.out.step hr hf)
  clear hr hf d0 HR3
  have kc := CkBlk.at (i := 7) HS3.out.blk rfl
  have kf := HS3.out.blk.frozen 7
  have hx3 : IntKind.u32.wrap ((val 2 (cutL 2 (cutL 4 l)) : Nat) : Int) = ((val 2 (cutL 2 (cutL 4 l)) : Nat) : Int) := by have := val_lt 2 (cutL 2 (cutL 4 l)); simp [IntKind.wrap, IntKind.bits, IntKind.signed]; omega
  go_upto_region 4 with (fail)
  obtain ⟨W4, hW⟩ : ∃ W, W = V3.setCell ⟨g, 7, none⟩ (.int .u32 ((val 2 (cutL 2 (cutL 4 l)) : Nat) : Int)) := ⟨_, rfl⟩
  have HR4 := Lib.hid (HS3.out.setC 7 (.int .u32 ((val 2 (cutL 2 (cutL 4 l)) : Nat) : Int)))
  rw [← hW] at HR4 ⊢
  clear hW kc kf HS3 hx3
  have d0 : W4.cell? ⟨r, 0, none⟩ = some (rptr p) := HR4.out.rblk.cell 0
  go_wp2_with fail
  refine (rdx_u32 HR4.out.rd).mono ?_
  rintro e V4 ⟨rfl, hr, hf⟩
  have HS4 := Lib.hid (HR4.out.step hr hf)
  clear hr hf d0 HR4
  have kc := CkBlk.at (i := 8) HS4.out.blk rfl
  have kf := HS4.out.blk.frozen 8
  go_wp2_with fail
  have HR5 := Lib.hid (HS4.out.setC 8 (.int .u32 ((val 4 (cutL 2 (cutL 2 (cutL 4 l))) : Nat) : Int)))
  (try simp only [Exit.inBlock, Exit.then])
  refine bodyPost_ret (results_none rfl _ _ _) rfl ?_
  have := HR5.out
  refine ⟨rfl, ?_⟩
  simp only [cutL_cutL, cutB_cutB] at this ⊢
  exact this

/-- What a fragment of the wide kind is, as far as it was read. -/
def wideFrag (c : Ck) (l : List UInt8) : Ck :=
  if c.bg then { c with tsn := val 4 l, st := val 2 (cutL 4 l), mid := val 4 (cutL 8 l), pp := val 4 (cutL 12 l) }
  else { c with tsn := val 4 l, st := val 2 (cutL 4 l), mid := val 4 (cutL 8 l), fr := val 4 (cutL 12 l) }

set_option maxHeartbeats 2000000 in
set_option maxRecDepth 100000 in
theorem frag64_r {w : World} {p G r g : Nat} {l : List UInt8} {bad wr : Bool} {c : Ck} {gv dv sv pv bv : Value} (hk : c.kind = 64) (h : RS w w p G r g l bad wr (ckArr c gv dv sv pv bv)) :
    Calls Try.prog 94 #[rptr r, cptr g] w fun e w' => e = .returned (.tuple #[]) ∧ RS w w' p G r g (cutL 16 l) (cutB 16 l bad) (wr || (val 2 (cutL 6 l) != 0))
      (ckArr (wideFrag c l) gv dv sv pv bv) := by
  obtain ⟨W1, hW1⟩ : ∃ W1, W1 = w := ⟨_, rfl⟩
  have HR1 : Hid (RS w W1 p G r g l bad wr (ckArr c gv dv sv pv bv)) := by rw [hW1]; exact h
  rw [← hW1] at h
  rw [show Calls Try.prog 94 #[rptr r, cptr g] w = Calls Try.prog 94 #[rptr r, cptr g] W1 by rw [hW1]]
  clear h hW1
  go_enter Try.func94, Try.ntmps94
  have d0 : W1.cell? ⟨r, 0, none⟩ = some (rptr p) := HR1.out.rblk.cell 0
  go_wp2_with fail
  refine (rdx_u32 HR1.out.rd).mono ?_
  rintro e V1 ⟨rfl, hr, hf⟩
  have HS1 := Lib.hid (HR1.out.step hr hf)
  clear hr hf d0 HR1
  have kc := CkBlk.at (i := 5) HS1.out.blk rfl
  have kf := HS1.out.blk.frozen 5
  go_upto_region 1 with (fail)
  obtain ⟨W2, hW⟩ : ∃ W, W = V1.setCell ⟨g, 5, none⟩ (.int .u32 ((val 4 (l) : Nat) : Int)) := ⟨_, rfl⟩
  have HR2 := Lib.hid (HS1.out.setC 5 (.int .u32 ((val 4 (l) : Nat) : Int)))
  rw [← hW] at HR2 ⊢
  clear hW kc kf HS1
  have d0 : W2.cell? ⟨r, 0, none⟩ = some (rptr p) := HR2.out.rblk.cell 0
  go_wp2_with fail
  refine (rdx_u16 HR2.out.rd).mono ?_
  rintro e V2 ⟨rfl, hr, hf⟩
  have HS2 := Lib.hid (HR2.out.step hr hf)
  clear hr hf d0 HR2
  have kc := CkBlk.at (i := 6) HS2.out.blk rfl
  have kf := HS2.out.blk.frozen 6
  go_upto_region 2 with (fail)
  obtain ⟨W3, hW⟩ : ∃ W, W = V2.setCell ⟨g, 6, none⟩ (.int .u16 ((val 2 (cutL 4 l) : Nat) : Int)) := ⟨_, rfl⟩
  have HR3 := Lib.hid (HS2.out.setC 6 (.int .u16 ((val 2 (cutL 4 l) : Nat) : Int)))
  rw [← hW] at HR3 ⊢
  clear hW kc kf HS2
  have d0 : W3.cell? ⟨r, 0, none⟩ = some (rptr p) := HR3.out.rblk.cell 0
  have k0 : W3.cell? ⟨g, 0, none⟩ = some (.int .u8 (c.kind : Int)) := CkBlk.at HR3.out.blk rfl
  rw [hk] at k0
  go_wp2_with fail
  refine (rdx_u16 HR3.out.rd).mono ?_
  rintro e V3 ⟨rfl, hr, hf⟩
  have HS3 := Lib.hid (HR3.out.step hr hf)
  have HBV : Hid ((((val 2 (cutL 2 (cutL 4 l)) : Nat) : Int) != 0) = (val 2 (cutL 2 (cutL 4 l)) != 0)) := by
    show _ = _
    by_cases h0 : val 2 (cutL 2 (cutL 4 l)) = 0
    · rw [h0]; rfl
    · rw [show (val 2 (cutL 2 (cutL 4 l)) != 0) = true by simpa using h0]; simp; omega
  have hbv : (((val 2 (cutL 2 (cutL 4 l)) : Nat) : Int) != 0) = (val 2 (cutL 2 (cutL 4 l)) != 0) := HBV.out
  obtain ⟨bz, hbz⟩ : ∃ bz, bz = (val 2 (cutL 2 (cutL 4 l)) != 0) := ⟨_, rfl⟩
  rw [← hbz] at hbv
  have HBZ := Lib.hid hbz
  clear hr hf d0 k0 HR3 hbz HBV
  go_wp2_with fail
  refine (refuse_r bz HS3.out.here).mono ?_
  rintro e W4 ⟨rfl, hr⟩
  have HR4 := Lib.hid (hr.since HS3.out.fr)
  clear hr HS3 hbv
  go_upto_region 6 with (fail)
  have d0 : W4.cell? ⟨r, 0, none⟩ = some (rptr p) := HR4.out.rblk.cell 0
  go_wp2_with fail
  refine (rdx_u32 HR4.out.rd).mono ?_
  rintro e V4 ⟨rfl, hr, hf⟩
  have HS4 := Lib.hid (HR4.out.step hr hf)
  clear hr hf d0 HR4
  have kc := CkBlk.at (i := 7) HS4.out.blk rfl
  have kf := HS4.out.blk.frozen 7
  go_upto_region 7 with (fail)
  obtain ⟨W5, hW⟩ : ∃ W, W = V4.setCell ⟨g, 7, none⟩ (.int .u32 ((val 4 (cutL 2 (cutL 2 (cutL 4 l))) : Nat) : Int)) := ⟨_, rfl⟩
  have HR5 := Lib.hid (HS4.out.setC 7 (.int .u32 ((val 4 (cutL 2 (cutL 2 (cutL 4 l))) : Nat) : Int)))
  rw [← hW] at HR5 ⊢
  clear hW kc kf HS4
  have HE : Hid (bz = (val 2 (cutL 6 l) != 0)) := by rw [HBZ.out, cutL_cutL]; rfl
  rw [HE.out] at HR5
  clear HBZ HE
  cases hb : c.bg
  · have k1 : W5.cell? ⟨g, 1, none⟩ = some (.bool c.bg) := CkBlk.at HR5.out.blk rfl
    rw [hb] at k1
    have d0 : W5.cell? ⟨r, 0, none⟩ = some (rptr p) := HR5.out.rblk.cell 0
    go_wp2_with fail
    refine (rdx_u32 HR5.out.rd).mono ?_
    rintro e V5 ⟨rfl, hr, hf⟩
    have HS5 := Lib.hid (HR5.out.step hr hf)
    clear hr hf d0 HR5
    have kc := CkBlk.at (i := 9) HS5.out.blk rfl
    have kf := HS5.out.blk.frozen 9
    go_wp2_with fail
    have HR6 := Lib.hid (HS5.out.setC 9 (.int .u32 ((val 4 (cutL 4 (cutL 2 (cutL 2 (cutL 4 l)))) : Nat) : Int)))
    go_end0
    have := HR6.out
    refine ⟨rfl, ?_⟩
    unfold wideFrag
    rw [if_neg (by rw [hb]; decide)]
    simp only [cutL_cutL, cutB_cutB] at this ⊢
    exact this
  · have k1 : W5.cell? ⟨g, 1, none⟩ = some (.bool c.bg) := CkBlk.at HR5.out.blk rfl
    rw [hb] at k1
    have d0 : W5.cell? ⟨r, 0, none⟩ = some (rptr p) := HR5.out.rblk.cell 0
    go_wp2_with fail
    refine (rdx_u32 HR5.out.rd).mono ?_
    rintro e V5 ⟨rfl, hr, hf⟩
    have HS5 := Lib.hid (HR5.out.step hr hf)
    clear hr hf d0 HR5
    have kc := CkBlk.at (i := 8) HS5.out.blk rfl
    have kf := HS5.out.blk.frozen 8
    go_wp2_with fail
    have HR6 := Lib.hid (HS5.out.setC 8 (.int .u32 ((val 4 (cutL 4 (cutL 2 (cutL 2 (cutL 4 l)))) : Nat) : Int)))
    go_end0
    have := HR6.out
    refine ⟨rfl, ?_⟩
    unfold wideFrag
    rw [if_pos hb]
    simp only [cutL_cutL, cutB_cutB] at this ⊢
    exact this

end Go.Proofs.Ytpgklhecmafnbaa.Chk
