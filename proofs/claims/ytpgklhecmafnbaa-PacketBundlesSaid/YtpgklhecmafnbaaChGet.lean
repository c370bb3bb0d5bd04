/-
  The contract of package chunk's Get.
-/
import Derived.Test.YtpgklhecmafnbaaChRd
set_option linter.unusedVariables false
set_option linter.unusedSimpArgs false
namespace Go.Proofs.Ytpgklhecmafnbaa.Chk
open Go.ChangeShapes Go.WideShapes Go.ChangeAt Go.RowKit Go.Deep Go.Proofs.Ytpgklhecmafnbaa.Words Go.Proofs.Ytpgklhecmafnbaa.Oct Go.Proofs.Ytpgklhecmafnbaa.Par

/-- The predicate: not zero. -/
theorem predC_any (x : UInt8) (w : World) : Calls Try.prog 34 #[.int .u8 (x.toNat : Int)] w fun e w' => e = .returned (.bool (x != 0)) ∧ w = w' := by
  have h0 : ((x.toNat : Int) != 0) = (x != 0) := by
    by_cases h : x = 0
    · subst h; rfl
    · have : x.toNat ≠ 0 := fun e => h (by apply UInt8.toNat_inj.1; exact e)
      rw [show (x != 0) = true by simpa using h]
      simp
      omega
  rw [← h0]
  have hb := u8_bd x
  obtain ⟨y, hy⟩ : ∃ y : Nat, y = x.toNat := ⟨_, rfl⟩
  rw [← hy] at hb ⊢
  clear h0 hy
  go_enter Try.func34, Try.ntmps34
  go_wp2_with fail
  go_ret
  exact ⟨rfl, rfl⟩
set_option maxHeartbeats 1000000 in
theorem idxC_any (A : Option Addr) (l : List UInt8) (n c : Nat) (w : World) (hn : n = l.length) (hl : l.length ≤ 1000000) (h : Byt w w.heap.size A l) :
    Calls Try.prog 67 #[.slice A n c, .func (.func 34) #[] #[]] w fun e w' => ∃ r : Int, e = .returned (.int .i64 r) ∧ -1 ≤ r ∧ Hid (l.any (· != 0) = decide (0 ≤ r)) ∧ Hid (Below w.heap.size w w') := by
  have HB := Lib.hid h
  have HN := Lib.hid hn
  have hn2 : n ≤ 1000000 := by omega
  clear h hn hl
  go_enter Try.func67, Try.ntmps67
  go_wp2_with fail
  go_loopw [4, 5, 8] (fun _ _ i wr => ∃ k : Nat, k ≤ n ∧ i = .int .i64 k ∧ Hid ((l.take k).any (· != 0) = false) ∧ Hid (Below w.heap.size w wr)) (fun _ _ i _ => n - (intOf i).toNat)
  case atStart => exact ⟨0, by omega, rfl, rfl, Below.refl _ _⟩
  case round =>
    obtain ⟨k, hk, rfl, HA, HW⟩ := hrel
    by_cases hlt : k < n
    · have hk2 : k < l.length := by rw [← HN.out]; exact hlt
      obtain ⟨ad, rfl, _, hc⟩ := (HB.out.below HW.out).at_byte hk2
      obtain ⟨x, hx⟩ : ∃ x, x = l[k] := ⟨_, rfl⟩
      have HX := Lib.hid hx
      rw [← hx] at hc
      have hcall := predC_any x wr
      clear hx
      by_cases h0 : x = 0
      · have HA2 : Hid ((l.take (k + 1)).any (· != 0) = false) := any_take hk2 HA.out (by rw [← HX.out]; exact h0)
        subst h0
        go_wp2_with (go_at_call 34; refine hcall.mono ?_; rintro e w' ⟨rfl, rfl⟩)
        go_roundw
        case rel => exact ⟨k + 1, by omega, by go_num, HA2, by first | exact HW | exact below_drewN HW.out _⟩
        case measure => simp [intOf]; omega
      · have HA2 : Hid (l.any (· != 0) = true) := any_at hk2 (by rw [← HX.out]; exact h0)
        rw [show (x != 0) = true by simpa using h0] at hcall
        go_wp2_with (go_at_call 34; refine hcall.mono ?_; rintro e w' ⟨rfl, rfl⟩)
        go_ret
        exact ⟨k, rfl, by omega, by show _ = _; rw [HA2.out]; simp, by first | exact HW | exact below_drewN HW.out _⟩
    · obtain rfl : k = n := by omega
      go_wp2_with fail
      go_ret
      refine ⟨-1, rfl, by omega, ?_, HW⟩
      have := HA.out
      rw [List.take_of_length_le (by rw [HN.out]; exact Nat.le_refl _)] at this
      show _ = _
      rw [this]; rfl
theorem containsC_any (A : Option Addr) (l : List UInt8) (n c : Nat) (w : World) (hn : n = l.length) (hl : l.length ≤ 1000000) (h : Byt w w.heap.size A l) :
    Calls Try.prog 33 #[.slice A n c, .func (.func 34) #[] #[]] w fun e w' => e = .returned (.bool (l.any (· != 0))) ∧ Hid (Below w.heap.size w w') := by
  have C := Lib.hid (idxC_any A l n c w hn hl h)
  obtain ⟨b, hb⟩ : ∃ b, b = l.any (· != 0) := ⟨_, rfl⟩
  have HB := Lib.hid hb
  rw [← hb]
  clear h hn hb
  go_enter Try.func33, Try.ntmps33
  go_wp2_with fail
  refine C.out.mono ?_
  rintro e w1 ⟨r, rfl, hr, HA, HW⟩
  have HD : Hid (b = decide (0 ≤ r)) := by rw [HB.out]; exact HA
  go_wp2_with fail
  go_ret
  exact ⟨ret_bool (by rw [HD.out]), HW⟩

/-! ### getC, case by case -/
section
variable {b : List UInt8} {m : Nat}
theorem getC_short (h : b.length < 4) : getC b = .error 40 := by unfold getC; rw [if_pos h]
theorem getC_small (h : ¬ b.length < 4) (h2 : num ((b.drop 2).take 2) < 4) : getC b = .error 42 := by unfold getC; rw [if_neg h, if_pos h2]
theorem getC_cut (h : ¬ b.length < 4) (hm : m = num ((b.drop 2).take 2)) (h2 : ¬ m < 4) (h3 : b.length < (m + 3) / 4 * 4) : getC b = .error 40 := by
  subst hm
  unfold getC; rw [if_neg h, if_neg h2, if_pos h3]
theorem getC_pad (h : ¬ b.length < 4) (hm : m = num ((b.drop 2).take 2)) (h2 : ¬ m < 4) (h3 : ¬ b.length < (m + 3) / 4 * 4) (h4 : ((b.drop m).take ((m + 3) / 4 * 4 - m)).any (· != 0) = true) : getC b = .error 42 := by
  subst hm
  unfold getC; rw [if_neg h, if_neg h2, if_neg h3, if_pos h4]
theorem getC_unknown (h : ¬ b.length < 4) (hm : m = num ((b.drop 2).take 2)) (h2 : ¬ m < 4) (h3 : ¬ b.length < (m + 3) / 4 * 4) (h4 : ((b.drop m).take ((m + 3) / 4 * 4 - m)).any (· != 0) = false) (h5 : known (num (b.take 1)) = false) : getC b = .error 60 := by
  subst hm
  unfold getC; rw [if_neg h, if_neg h2, if_neg h3, if_neg (by rw [h4]; decide), if_pos h5]
theorem getC_rest (h : ¬ b.length < 4) (hm : m = num ((b.drop 2).take 2)) (h2 : ¬ m < 4) (h3 : ¬ b.length < (m + 3) / 4 * 4) (h4 : ((b.drop m).take ((m + 3) / 4 * 4 - m)).any (· != 0) = false) (h5 : known (num (b.take 1)) = true) :
    getC b = match decC (num (b.take 1)) (num ((b.drop 1).take 1)) ((b.drop 4).take (m - 4)) with | none => .error 42 | some c => .ok (c, (m + 3) / 4 * 4) := by
  subst hm
  conv => lhs; unfold getC
  rw [if_neg h, if_neg h2, if_neg h3, if_neg (by rw [h4]; decide), if_neg (by rw [h5]; decide)]
  cases decC (num (b.take 1)) (num ((b.drop 1).take 1)) ((b.drop 4).take (num ((b.drop 2).take 2) - 4)) <;> rfl
theorem getC_take (b : List UInt8) : getC (b.take 65536) = getC b := by
  by_cases hb : b.length ≤ 65536
  · rw [List.take_of_length_le hb]
  · have hl : (b.take 65536).length = 65536 := by rw [List.length_take]; omega
    have e1 : ((b.take 65536).drop 2).take 2 = (b.drop 2).take 2 := by rw [List.drop_take, List.take_take]; rfl
    have e0 : (b.take 65536).take 1 = b.take 1 := by rw [List.take_take]; rfl
    have e2 : ((b.take 65536).drop 1).take 1 = (b.drop 1).take 1 := by rw [List.drop_take, List.take_take]; rfl
    obtain ⟨m, hm⟩ : ∃ m, m = num ((b.drop 2).take 2) := ⟨_, rfl⟩
    have hm6 : m < 65536 := by rw [hm]; exact take2 b 2
    by_cases h4 : m < 4
    · rw [getC_small (by omega) (by rw [e1, ← hm]; exact h4), getC_small (by omega) (by rw [← hm]; exact h4)]
    · have e3 : ((b.take 65536).drop m).take ((m + 3) / 4 * 4 - m) = (b.drop m).take ((m + 3) / 4 * 4 - m) := by rw [List.drop_take, List.take_take, Nat.min_eq_left (by omega)]
      have e4 : ((b.take 65536).drop 4).take (m - 4) = (b.drop 4).take (m - 4) := by rw [List.drop_take, List.take_take, Nat.min_eq_left (by omega)]
      cases hp : ((b.drop m).take ((m + 3) / 4 * 4 - m)).any (· != 0)
      · cases hk : known (num (b.take 1))
        · rw [getC_unknown (m := m) (by omega) (by rw [e1]; exact hm) h4 (by omega) (by rw [e3]; exact hp) (by rw [e0]; exact hk), getC_unknown (m := m) (by omega) hm h4 (by omega) hp hk]
        · rw [getC_rest (m := m) (by omega) (by rw [e1]; exact hm) h4 (by omega) (by rw [e3]; exact hp) (by rw [e0]; exact hk), getC_rest (m := m) (by omega) hm h4 (by omega) hp hk, e0, e2, e4]
      · rw [getC_pad (m := m) (by omega) (by rw [e1]; exact hm) h4 (by omega) (by rw [e3]; exact hp), getC_pad (m := m) (by omega) hm h4 (by omega) hp]
end

/-! ### Get -/
theorem wpList_build_as {P : Program} {ops : Array Oper} {rest : List Oper} {o : Oper} {a : Act} {w : World} {Q : Exit → Act → World → Prop} (hg : o.guard = none) (t : TypeId) (parts : Array (Nat × Operand)) (ho : o.op = .build t parts) (cells : Array Value)
    (hf : P.built t (parts.map fun (i, x) => (i, a.eval x)).toList = some cells) (h : wpList P ops Q rest (a.put o.dst (.agg cells)) w) : wpList P ops Q (o :: rest) a w :=
  wpList_build hg t parts ho (by rw [hf]; rfl) (by rw [hf]; exact h)
theorem wpList_build_one {P : Program} {ops : Array Oper} {rest : List Oper} {o : Oper} {a : Act} {w : World} {Q : Exit → Act → World → Prop} (hg : o.guard = none) (t : TypeId) (x : Operand) (ho : o.op = .build t #[(0, x)]) (v : Value) (hx : a.eval x = v) (cells : Array Value)
    (hf : P.built t [(0, v)] = some cells) (h : wpList P ops Q rest (a.put o.dst (.agg cells)) w) : wpList P ops Q (o :: rest) a w :=
  wpList_build_as hg t #[(0, x)] ho cells (by simpa [hx] using hf) h
theorem wpList_build_none {P : Program} {ops : Array Oper} {rest : List Oper} {o : Oper} {a : Act} {w : World} {Q : Exit → Act → World → Prop} (hg : o.guard = none) (t : TypeId) (ho : o.op = .build t #[]) (cells : Array Value)
    (hf : P.built t [] = some cells) (h : wpList P ops Q rest (a.put o.dst (.agg cells)) w) : wpList P ops Q (o :: rest) a w :=
  wpList_build_as hg t #[] ho cells (by simpa using hf) h
theorem built_kind (k : Nat) : Try.prog.built 32 [(0, .int .u8 (k : Int))] = some (ckArr (zeroC k) nilV nilV nilV nilV nilV) := by kernel_rfl
theorem built_none : Try.prog.built 32 [] = some (ckArr (zeroC 0) nilV nilV nilV nilV nilV) := by kernel_rfl
/-- Where Get stands: the result's variable, the reader. -/
structure GS (w V : World) (g2 p G : Nat) (l : List UInt8) (bad : Bool) : Prop where
  blk : CkBlk V g2 (ckArr (zeroC 0) nilV nilV nilV nilV nilV)
  rd : Rd V p G l bad
  below : Below w.heap.size w V
  lo : w.heap.size ≤ g2
  o : g2 < G
theorem GS.step {w V V' : World} {g2 p G : Nat} {l l' : List UInt8} {bad bad' : Bool} (h : GS w V g2 p G l bad) (k : Rd V' p G l' bad') (f : Fr (At p) V V') : GS w V' g2 p G l' bad' := by
  have h1 := h.rd.le
  have h2 := h.o
  have h3 := h.lo
  exact ⟨f.blk h.blk (fun e => by have e' : g2 = p := e; omega), k, below_fr h.below f (Nat.le_refl _) (fun i e => by have e' : i = p := e; omega), h.lo, h.o⟩
theorem GS.grows {w V V' : World} {g2 p G : Nat} {l : List UInt8} {bad : Bool} (h : GS w V g2 p G l bad) (k : Below V.heap.size V V') : GS w V' g2 p G l bad :=
  ⟨h.blk.below k h.blk.lt, h.rd.grows k, h.below.trans (k.mono h.below.size), h.lo, h.o⟩
structure GS2 (w V : World) (g2 g p G : Nat) (l : List UInt8) (bad : Bool) (k : Nat) : Prop where
  gs : GS w V g2 p G l bad
  cb : CkBlk V g (ckArr (zeroC k) nilV nilV nilV nilV nilV)
  ne : g ≠ p
  ne2 : g ≠ g2
  lo : w.heap.size ≤ g
theorem GS2.step {w V V' : World} {g2 g p G k : Nat} {l l' : List UInt8} {bad bad' : Bool} (h : GS2 w V g2 g p G l bad k) (q : Rd V' p G l' bad') (f : Fr (At p) V V') : GS2 w V' g2 g p G l' bad' k :=
  ⟨h.gs.step q f, f.blk h.cb (fun e => h.ne e), h.ne, h.ne2, h.lo⟩
theorem GS2.grows {w V V' : World} {g2 g p G k : Nat} {l : List UInt8} {bad : Bool} (h : GS2 w V g2 g p G l bad k) (q : Below V.heap.size V V') : GS2 w V' g2 g p G l bad k :=
  ⟨h.gs.grows q, h.cb.below q h.cb.lt, h.ne, h.ne2, h.lo⟩
theorem ck_one (c : Ck) : (ckArr c nilV nilV nilV nilV nilV).all (·.oneCell') = true := by simp [ckArr, Value.oneCell']
abbrev zeroA : Array Value := ckArr (zeroC 0) nilV nilV nilV nilV nilV
/-- What Get answers. -/
def GetDoneC (w : World) (b : List UInt8) (e : Ending) (w' : World) : Prop :=
  Below w.heap.size w w' ∧ ((∃ c n cs, getC b = .ok (c, n) ∧ e = .returned (.tuple #[.agg cs, .int .i64 (n : Int), .int .i64 0]) ∧ CkOwn w' w.heap.size cs c ∧ c.ok) ∨
    (∃ k, getC b = .error k ∧ e = .returned (.tuple #[.agg zeroA, .int .i64 0, .int .i64 (k : Int)])))
theorem res_ck {fn : Func} {p u v : Tmp} (h : fn.results = #[.cell p 32, .tmp u, .tmp v]) (tmps : Array Value) (w : World) (g : Nat) (cs : Array Value) (hp : tmps.getD p undef = .pointer (some ⟨g, 0, none⟩)) (hb : CkBlk w g cs) (hs : cs.size = 19) :
    (results fn tmps).run Try.prog w = .ok (.tuple #[.agg cs, tmps.getD u undef, tmps.getD v undef]) w := by
  have hl := run_loadVar_row (P := Try.prog) w g 32 32 cs (0, 0) _ hb Try.underlying32 rfl (by rw [hs]; exact chunk_info)
  have hp' : tmps[p]?.getD undef = .pointer (some ⟨g, 0, none⟩) := by simpa using hp
  simp [results, h, hp', asAddr, Sem.run_bind, Result.andThen, hl]
theorem setRow_blk {w : World} {g : Nat} {cs cs' : Array Value} (h : CkBlk w g cs) : CkBlk (w.setRow g cs') g cs' := setRow_heap w g cs cs' _ (0, 0) h
theorem setRow_fr (w : World) (g : Nat) (cs' : Array Value) : Fr (fun i => i = g) w (w.setRow g cs') := ⟨rfl, rfl, rfl, by simp, fun k _ hn => setRow_other w g k cs' (fun e => hn e)⟩

set_option maxHeartbeats 8000000 in
set_option maxRecDepth 100000 in
theorem get_k {w : World} {A : Option Addr} {b : List UInt8} {n cap : Nat} (hn : n = b.length) (hnc : n ≤ cap) (hcm : cap ≤ 9223372036854775807) (hy : Byt w w.heap.size A b) :
    Calls Try.prog 11 #[.slice A n cap] w (GetDoneC w b) := by
  obtain ⟨x, hx⟩ : ∃ x, x = b.take 65536 := ⟨_, rfl⟩
  obtain ⟨m, hm⟩ : ∃ m, m = x.length := ⟨_, rfl⟩
  have hmn : m = min n 65536 := by rw [hm, hx, List.length_take, hn, Nat.min_comm]
  have HX : Hid (getC x = getC b) := by rw [hx]; exact getC_take b
  have HY : Hid (Byt w w.heap.size A x) := by rw [hx]; exact hy.take_ 65536
  have HM := Lib.hid hm
  have hm1 : m ≤ cap := by omega
  have hm2 : m ≤ 65536 := by omega
  have hm3 : (m : Int) ≤ (cap : Int) := by omega
  have hmin : ∀ W, (Builtin.min_ #[3, 3] 3 #[.int .i64 (n : Int), .int .i64 65536]).run Try.prog W = .ok (.int .i64 (m : Int)) W := fun W => by
    have e : (if (65536 : Int) < (n : Int) then (65536 : Int) else (n : Int)) = (m : Int) := by split <;> omega
    simp [Builtin.min_, Builtin.min2, e]
  clear hn hx hm hy hmn
  go_enter Try.func11, Try.ntmps11
  go_upto_region 1 with (fail)
  obtain ⟨g2, hg2⟩ : ∃ g2, g2 = w.heap.size := ⟨_, rfl⟩
  have HB1 : Hid (CkBlk (w.alloc (.cells zeroA 32)) g2 zeroA) := by rw [hg2]; exact Blk.new _ _ _
  have HL1 : Hid (Below w.heap.size w (w.alloc (.cells zeroA 32))) := (Below.refl _ _).alloc (Nat.le_refl _) _
  obtain ⟨W1, hW1⟩ : ∃ W1, W1 = w.alloc (.cells zeroA 32) := ⟨_, rfl⟩
  rw [← hW1] at HB1 HL1
  have hW1' : W1 = w.alloc (.cells #[.int .u8 0, .bool false, .bool false, .bool false, .bool false, .int .u32 0, .int .u16 0, .int .u32 0, .int .u32 0, .int .u32 0, .int .u32 0, .int .u32 0, .int .u16 0, .int .u16 0, .slice none 0 0, .slice none 0 0, .slice none 0 0, .slice none 0 0, .slice none 0 0] 32) := hW1
  rw [← hW1']
  rw [← hg2]
  have HG2 : Hid (w.heap.size ≤ g2) := by rw [hg2]; exact Nat.le_refl _
  clear hW1 hW1' hg2
  go_wp2_with fail
  refine (newReader_any A x m cap W1 HM.out (by rw [← HM.out]; omega) ((HY.out.below HL1.out).more HL1.out.size)).mono ?_
  rintro e W2 ⟨p, G, rfl, hrd, hG, hb2⟩
  have HS2 : Hid (GS w W2 g2 p G x false) := ⟨HB1.out.below hb2 HB1.out.lt, hrd, HL1.out.trans (hb2.mono HL1.out.size), HG2.out, by have := HB1.out.lt; omega⟩
  clear hrd hG hb2 hmin HB1 HL1 hm3
  -- what each error leaves
  have ERR : Hid (∀ (V : World) (l : List UInt8) (bd : Bool) (k : Nat), GS w V g2 p G l bd → getC x = .error k → CkBlk (V.setRow g2 zeroA) g2 zeroA ∧ GetDoneC w b (.returned (.tuple #[.agg zeroA, .int .i64 0, .int .i64 (k : Int)])) (V.setRow g2 zeroA)) := fun V l bd k h he =>
    ⟨setRow_blk h.blk, below_fr h.below (setRow_fr V g2 zeroA) (Nat.le_refl _) (fun i e => by have := h.lo; have e' : i = g2 := e; omega), .inr ⟨k, by rw [← HX.out]; exact he, rfl⟩⟩
  go_wp2_with fail
  refine (rdx_u8 HS2.out.rd).mono ?_
  rintro e W3 ⟨rfl, h1, h2⟩
  have HS3 := Lib.hid (HS2.out.step h1 h2)
  obtain ⟨k, hk⟩ : ∃ k, k = val 1 x := ⟨_, rfl⟩
  have hk2 : k < 256 := by rw [hk]; exact val_lt 1 x
  have HK := Lib.hid hk
  rw [← hk]
  obtain ⟨g, hg⟩ : ∃ g, g = W3.heap.size := ⟨_, rfl⟩
  clear h1 h2 hk HS2
  go_wp2_with (first | refine wpList_build_one rfl 32 _ rfl _ rfl _ (built_kind k) ?_ | refine wpList_store_row rfl 32 _ _ rfl W3.heap.size (ckArr (zeroC k) nilV nilV nilV nilV nilV) rfl rfl 32 _ (Blk.new W3 32 _) chunk_info rfl (ck_one _) ?_)
  obtain ⟨W4, hW4⟩ : ∃ W4, W4 = (W3.alloc (.cells zeroA 32)).setRow W3.heap.size (ckArr (zeroC k) nilV nilV nilV nilV nilV) := ⟨_, rfl⟩
  have HS4 : Hid (GS2 w W4 g2 g p G (cutL 1 x) (cutB 1 x false) k) := by
    have hb0 := (Below.refl W3.heap.size W3).alloc (Nat.le_refl _) (.cells zeroA 32)
    have hb : Below W3.heap.size W3 W4 := by rw [hW4]; exact below_fr hb0 (setRow_fr _ W3.heap.size _) (Nat.le_refl _) (fun i e => by have e' : i = W3.heap.size := e; omega)
    have h1 := HS3.out.rd.lt
    have h2 := HS3.out.blk.lt
    refine ⟨HS3.out.grows hb, by rw [hW4, hg]; exact setRow_blk (Blk.new W3 _ _), by omega, by omega, by rw [hg]; exact HS3.out.below.size⟩
  have hW4' : W4 = (W3.alloc (.cells #[.int .u8 0, .bool false, .bool false, .bool false, .bool false, .int .u32 0, .int .u16 0, .int .u32 0, .int .u32 0, .int .u32 0, .int .u32 0, .int .u32 0, .int .u16 0, .int .u16 0, .slice none 0 0, .slice none 0 0, .slice none 0 0, .slice none 0 0, .slice none 0 0] 32)).setRow W3.heap.size (ckArr (zeroC k) nilV nilV nilV nilV nilV) := hW4
  rw [← hW4', ← hg]
  clear hW4 hW4' hg HS3
  refine (rdx_u8 HS4.out.gs.rd).mono ?_
  rintro e W5 ⟨rfl, h1, h2⟩
  have HS5 := Lib.hid (HS4.out.step h1 h2)
  rw [cutL_cutL, cutB_cutB] at HS5
  obtain ⟨f, hf⟩ : ∃ f, f = val 1 (cutL 1 x) := ⟨_, rfl⟩
  have hf2 : f < 256 := by rw [hf]; exact val_lt 1 _
  have HFL := Lib.hid hf
  rw [← hf]
  clear h1 h2 hf HS4
  go_wp2_with fail
  refine (rdx_u16 HS5.out.gs.rd).mono ?_
  rintro e W6 ⟨rfl, h1, h2⟩
  have HS6 := Lib.hid (HS5.out.step h1 h2)
  rw [cutL_cutL, cutB_cutB] at HS6
  obtain ⟨mm, hmm⟩ : ∃ mm, mm = val 2 (cutL (1 + 1) x) := ⟨_, rfl⟩
  have hmm6 : mm < 65536 := by rw [hmm]; exact val_lt 2 _
  have HMM := Lib.hid hmm
  rw [← hmm]
  have HGOOD := Lib.hid (rd_good HS6.out.gs.rd)
  clear h1 h2 hmm HS5
  by_cases h4 : 4 ≤ x.length
  · rw [cutB_yes h4] at HS6 HGOOD
    rw [cutL_yes h4] at HS6
    have HM2 : Hid (mm = num ((x.drop 2).take 2)) := by rw [HMM.out]; exact val_cut (a := 2) (b := 2) (by omega)
    have HK1 : Hid (k = num (x.take 1)) := by rw [HK.out]; exact val_yes (by omega)
    have HF1 : Hid (f = num ((x.drop 1).take 1)) := by rw [HFL.out]; exact val_cut (a := 1) (b := 1) (by omega)
    have HN4 : Hid (¬ x.length < 4) := by show ¬ _; omega
    clear HMM HK HFL
    by_cases hs : (mm : Int) < 4
    · have HE : Hid (getC x = .error 42) := getC_small HN4.out (by rw [← HM2.out]; omega)
      go_wp2_with fail
      refine HGOOD.out.mono ?_
      rintro e W7 ⟨rfl, rfl⟩
      have HZ := Lib.hid (ERR.out _ _ _ _ HS6.out.gs HE.out)
      go_wp2_with (first | refine wpList_build_none rfl 32 rfl _ built_none ?_ | refine wpList_store_row rfl 32 _ _ rfl g2 zeroA rfl rfl 32 _ HS6.out.gs.blk chunk_info rfl (ck_one _) ?_)
      (try simp only [Exit.inBlock, Exit.then])
      refine bodyPost_ret (res_ck rfl _ _ g2 _ rfl HZ.out.1 rfl) rfl ?_
      exact HZ.out.2
    · have HM4 : Hid (¬ mm < 4) := by show ¬ _; omega
      go_wp2_with fail
      refine HGOOD.out.mono ?_
      rintro e W7 ⟨rfl, rfl⟩
      go_wp2_with fail
      rw [show (mm : Int) - 4 = ((mm - 4 : Nat) : Int) by omega]
      refine (rdx_take (mm - 4) HS6.out.gs.rd (by rw [List.length_drop, ← HM.out]; omega)).mono ?_
      rintro e W8 ⟨v8, rfl, ho8, h1, h2⟩
      have HS8 := Lib.hid (HS6.out.step h1 h2)
      obtain ⟨tc, htc⟩ : ∃ tc, tc = cutT (mm - 4) (x.drop 4) := ⟨_, rfl⟩
      rw [← htc] at ho8
      obtain ⟨A8, c8, hv8, h8a, h8b⟩ := own_slice ho8
      subst hv8
      obtain ⟨n8, hn8⟩ : ∃ n8, n8 = tc.length := ⟨_, rfl⟩
      have hn8b : n8 ≤ 65536 := by rw [hn8, htc]; exact Nat.le_trans (cutT_len _ _) (by omega)
      rw [← hn8] at ho8 h8a ⊢
      have HTC := Lib.hid htc
      have HN8 := Lib.hid hn8
      have HO8 : Hid (Own W8 W6.heap.size (.slice A8 n8 c8) tc) := ho8
      have HP6 := Lib.hid HS6.out.gs.rd.lt
      clear h1 h2 ho8 htc hn8 HGOOD
      obtain ⟨pd, hpd⟩ : ∃ pd : Nat, pd = (4 - mm % 4) % 4 := ⟨_, rfl⟩
      have HPD := Lib.hid hpd
      have hpd3 : pd ≤ 3 := by omega
      have hal : (mm + 3) / 4 * 4 = mm + pd := by omega
      have HAL := Lib.hid hal
      have hpi : (4 - (mm : Int) % 4) % 4 = (pd : Int) := by omega
      clear hpd hal
      go_wp2_with fail
      refine (rdx_take pd HS8.out.gs.rd (Nat.le_trans (cutL_len _ _) (by rw [List.length_drop, ← HM.out]; omega))).mono ?_
      rintro e W9 ⟨v9, rfl, ho9, h1, h2⟩
      have HS9 := Lib.hid (HS8.out.step h1 h2)
      have HO9 : Hid (Own W9 W6.heap.size (.slice A8 n8 c8) tc) := own_at HO8.out HP6.out h2
      obtain ⟨tp, htp⟩ : ∃ tp, tp = cutT pd (cutL (mm - 4) (x.drop 4)) := ⟨_, rfl⟩
      rw [← htp] at ho9
      have HTP := Lib.hid htp
      have HYP : ∀ A c, v9 = .slice A tp.length c → Byt W9 W9.heap.size A tp := fun A c e => by subst e; exact Own.byt ho9
      obtain ⟨A9, c9, hv9, h9a, h9b⟩ := own_slice ho9
      have HY9 := Lib.hid (HYP A9 c9 hv9)
      subst hv9
      have HGD := Lib.hid (rd_good HS9.out.gs.rd)
      have htpl : tp.length ≤ 3 := by rw [htp]; exact Nat.le_trans (cutT_len _ _) hpd3
      clear h1 h2 ho9 htp HS8 HO8 HYP hpi
      by_cases hall : mm + pd ≤ x.length
      · have hb : cutB pd (cutL (mm - 4) (x.drop 4)) (cutB (mm - 4) (x.drop 4) false) = false := by rw [cutB_cutB, cutB_yes (by rw [List.length_drop]; have := HM4.out; omega)]
        have hl1 : mm - 4 ≤ (x.drop 4).length := by rw [List.length_drop]; omega
        have htc2 : tc = (x.drop 4).take (mm - 4) := by rw [HTC.out, cutT_yes hl1]
        have htp2 : tp = (x.drop mm).take pd := by
          rw [HTP.out, cutL_yes hl1, List.drop_drop, show 4 + (mm - 4) = mm by have := HM4.out; omega]
          exact cutT_yes (by rw [List.length_drop]; omega)
        have HTC2 := Lib.hid htc2
        have HTP2 := Lib.hid htp2
        have htl : tp.length = pd := by rw [htp2, List.length_take, List.length_drop]; omega
        have HTL := Lib.hid htl
        rw [hb] at HS9 HGD
        rw [htl] at h9a ⊢
        have HNC : Hid (¬ x.length < (mm + 3) / 4 * 4) := by rw [HAL.out]; show ¬ _; omega
        have HPADE : Hid (((x.drop mm).take ((mm + 3) / 4 * 4 - mm)).any (· != 0) = tp.any (· != 0)) := by rw [HAL.out, show mm + pd - mm = pd by omega, ← HTP2.out]; rfl
        clear hb hl1 htc2 htp2 htl htpl HTC HTP hall
        obtain ⟨bb, hbb⟩ : ∃ bb, bb = tp.any (· != 0) := ⟨_, rfl⟩
        have HBB := Lib.hid hbb
        have HCT := Lib.hid (containsC_any A9 tp pd c9 W9 HTL.out.symm (by rw [HTL.out]; omega) HY9.out)
        rw [← hbb] at HCT
        clear hbb
        cases bb
        · have HPZ : Hid (((x.drop mm).take ((mm + 3) / 4 * 4 - mm)).any (· != 0) = false) := by rw [HPADE.out, ← HBB.out]; rfl
          go_wp2_with fail
          refine HGD.out.mono ?_
          rintro e W9' ⟨rfl, rfl⟩
          go_wp2_with fail
          refine HCT.out.mono ?_
          rintro e W10 ⟨rfl, hb10⟩
          have HS10 := Lib.hid (HS9.out.grows hb10.out)
          have HO10 : Hid (Own W10 W6.heap.size (.slice A8 n8 c8) tc) := own_up HO9.out hb10.out
          have d0 : W10.cell? ⟨g, 0, none⟩ = some (.int .u8 (k : Int)) := CkBlk.at HS10.out.cb rfl
          clear hb10 HS9 HO9 HGD HCT
          cases hK : known k
          · have HE : Hid (getC x = .error 60) := getC_unknown HN4.out HM2.out HM4.out HNC.out HPZ.out (by rw [← HK1.out]; exact hK)
            go_wp2_with fail
            refine (known_c k hk2 W10).mono ?_
            rintro e W11 ⟨rfl, rfl⟩
            rw [hK]
            have HZ := Lib.hid (ERR.out _ _ _ _ HS10.out.gs HE.out)
            go_wp2_with (first | refine wpList_build_none rfl 32 rfl _ built_none ?_ | refine wpList_store_row rfl 32 _ _ rfl g2 zeroA rfl rfl 32 _ HS10.out.gs.blk chunk_info rfl (ck_one _) ?_)
            (try simp only [Exit.inBlock, Exit.then])
            refine bodyPost_ret (res_ck rfl _ _ g2 _ rfl HZ.out.1 rfl) rfl ?_
            exact HZ.out.2
          · have HR : Hid (getC x = match decC k f tc with | none => .error 42 | some c => .ok (c, mm + pd)) := by rw [getC_rest HN4.out HM2.out HM4.out HNC.out HPZ.out (by rw [← HK1.out]; exact hK), ← HK1.out, ← HF1.out, ← HTC2.out, HAL.out]; cases decC k f tc <;> rfl
            go_wp2_with fail
            refine (known_c k hk2 W10).mono ?_
            rintro e W11 ⟨rfl, rfl⟩
            rw [hK]
            go_wp2_with fail
            refine (read_k hK hk2 hf2 HN8.out (by omega) HS10.out.cb (by have := HO10.out; exact Own.byt this)).mono ?_
            rintro e W11 ⟨hfr, hd⟩
            have HFR := Lib.hid hfr
            have HG11 : Hid (CkBlk W11 g2 zeroA) := hfr.blk HS10.out.gs.blk (fun e => HS10.out.ne2 e.symm)
            have HB11 : Hid (Below w.heap.size w W11) := below_fr HS10.out.gs.below hfr (Nat.le_refl _) (fun i e => by have e' : i = g := e; have := HS10.out.lo; omega)
            have HLO : Hid (g2 < W10.heap.size) := HS10.out.gs.blk.lt
            rcases hd with ⟨c', cs, hdec, rfl, hcb, hown, hok⟩ | ⟨hdec, rfl⟩
            · have HCB := Lib.hid hcb
              have HOW := Lib.hid hown
              have HOK := Lib.hid hok
              have HAT := Lib.hid (hown.at_ hok)
              have HSZ : Hid (cs.size = 19) := (hown.at_ hok).size
              have HE : Hid (getC b = .ok (c', mm + pd)) := by rw [← HX.out, HR.out, hdec]; rfl
              clear hfr hcb hown hok hdec d0
              go_wp2_with (first | refine wpList_load_row rfl 32 _ rfl g rfl 32 cs (0, 0) _ HCB.out Try.underlying32 rfl (by rw [HSZ.out]; exact chunk_info) ?_ | refine wpList_store_row rfl 32 _ _ rfl g2 cs rfl rfl 32 _ HG11.out (by rw [HSZ.out]; exact chunk_info) (by rw [HSZ.out]; rfl) HAT.out.one ?_)
              (try simp only [Exit.inBlock, Exit.then])
              refine bodyPost_ret (res_ck rfl _ _ g2 _ rfl (setRow_blk HG11.out) HSZ.out) rfl ?_
              refine ⟨below_fr HB11.out (setRow_fr W11 g2 cs) (Nat.le_refl _) (fun i e => by have e' : i = g2 := e; have := HG2.out; omega), .inl ⟨c', mm + pd, cs, HE.out, by simp, ?_, HOK.out⟩⟩
              exact (HOW.out.fr (setRow_fr W11 g2 cs) (fun i e _ => by have e' : i = g2 := e; have := HLO.out; omega)).mono HS10.out.gs.below.size
            · have HE : Hid (getC x = .error 42) := by rw [HR.out, hdec]; rfl
              have HZ : Hid (CkBlk (W11.setRow g2 zeroA) g2 zeroA ∧ GetDoneC w b (.returned (.tuple #[.agg zeroA, .int .i64 0, .int .i64 42])) (W11.setRow g2 zeroA)) := ⟨setRow_blk HG11.out, below_fr HB11.out (setRow_fr W11 g2 zeroA) (Nat.le_refl _) (fun i e => by have e' : i = g2 := e; have := HG2.out; omega), .inr ⟨42, by rw [← HX.out]; exact HE.out, rfl⟩⟩
              clear hfr hdec d0
              go_wp2_with (first | refine wpList_build_none rfl 32 rfl _ built_none ?_ | refine wpList_store_row rfl 32 _ _ rfl g2 zeroA rfl rfl 32 _ HG11.out chunk_info rfl (ck_one _) ?_)
              (try simp only [Exit.inBlock, Exit.then])
              refine bodyPost_ret (res_ck rfl _ _ g2 _ rfl HZ.out.1 rfl) rfl ?_
              exact HZ.out.2
        · have HE : Hid (getC x = .error 42) := getC_pad HN4.out HM2.out HM4.out HNC.out (by rw [HPADE.out, ← HBB.out])
          go_wp2_with fail
          refine HGD.out.mono ?_
          rintro e W9' ⟨rfl, rfl⟩
          go_wp2_with fail
          refine HCT.out.mono ?_
          rintro e W10 ⟨rfl, hb10⟩
          have HS10 := Lib.hid (HS9.out.grows hb10.out)
          clear hb10 HS9
          have HZ := Lib.hid (ERR.out _ _ _ _ HS10.out.gs HE.out)
          go_wp2_with (first | refine wpList_build_none rfl 32 rfl _ built_none ?_ | refine wpList_store_row rfl 32 _ _ rfl g2 zeroA rfl rfl 32 _ HS10.out.gs.blk chunk_info rfl (ck_one _) ?_)
          (try simp only [Exit.inBlock, Exit.then])
          refine bodyPost_ret (res_ck rfl _ _ g2 _ rfl HZ.out.1 rfl) rfl ?_
          exact HZ.out.2
      · have hb : cutB pd (cutL (mm - 4) (x.drop 4)) (cutB (mm - 4) (x.drop 4) false) = true := by rw [cutB_cutB, cutB_no (by rw [List.length_drop]; have := HM4.out; omega)]
        have HE : Hid (getC x = .error 40) := getC_cut HN4.out HM2.out HM4.out (by rw [HAL.out]; omega)
        rw [hb] at HS9 HGD
        clear hb
        go_wp2_with fail
        refine HGD.out.mono ?_
        rintro e W9' ⟨rfl, rfl⟩
        have HZ := Lib.hid (ERR.out _ _ _ _ HS9.out.gs HE.out)
        go_wp2_with (first | refine wpList_build_none rfl 32 rfl _ built_none ?_ | refine wpList_store_row rfl 32 _ _ rfl g2 zeroA rfl rfl 32 _ HS9.out.gs.blk chunk_info rfl (ck_one _) ?_)
        (try simp only [Exit.inBlock, Exit.then])
        refine bodyPost_ret (res_ck rfl _ _ g2 _ rfl HZ.out.1 rfl) rfl ?_
        exact HZ.out.2
  · have HE : Hid (getC x = .error 40) := getC_short (by omega)
    rw [cutB_no h4] at HS6 HGOOD
    go_wp2_with fail
    refine HGOOD.out.mono ?_
    rintro e W7 ⟨rfl, rfl⟩
    have HZ := Lib.hid (ERR.out _ _ _ _ HS6.out.gs HE.out)
    go_wp2_with (first | refine wpList_build_none rfl 32 rfl _ built_none ?_ | refine wpList_store_row rfl 32 _ _ rfl g2 zeroA rfl rfl 32 _ HS6.out.gs.blk chunk_info rfl (ck_one _) ?_)
    (try simp only [Exit.inBlock, Exit.then])
    refine bodyPost_ret (res_ck rfl _ _ g2 _ rfl HZ.out.1 rfl) rfl ?_
    exact HZ.out.2
end Go.Proofs.Ytpgklhecmafnbaa.Chk
