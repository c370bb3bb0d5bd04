/-
  Contracts of package param: Get of the code as it landed.
-/
import Derived.Test.YtpgklhecmafnbaaPar
import Derived.Laws.ResultCell
set_option linter.unusedVariables false
set_option linter.unusedSimpArgs false
namespace Go.Proofs.Ytpgklhecmafnbaa.Par
open Go.ChangeShapes Go.WideShapes Go.ChangeAt Go.RowKit Go.Deep Go.Proofs.Ytpgklhecmafnbaa.Words Go.Proofs.Ytpgklhecmafnbaa.Oct

/-! ### Get -/
/-- A number read, whatever is left. -/
theorem rd_u16_any {w : World} {p G : Nat} {l : List UInt8} {bad : Bool} (h : Rd w p G l bad) :
    Calls Try.prog 30 #[rptr p] w fun e w' => ∃ (x : Nat) (l' : List UInt8) (b' : Bool), e = .returned (.int .u16 (x : Int)) ∧ x < 65536 ∧ Hid (Rd w' p G l' b') ∧ Hid (Fr (At p) w w') ∧
      Hid ((2 ≤ l.length ∧ x = num (l.take 2) ∧ l' = l.drop 2 ∧ b' = bad) ∨ (l.length < 2 ∧ x = 0 ∧ l' = [] ∧ b' = true)) := by
  by_cases h2 : 2 ≤ l.length
  · refine (rd_u16 h h2).mono ?_
    rintro e w' ⟨rfl, hr, hf⟩
    exact ⟨_, _, _, rfl, num2_lt _ (by rw [List.length_take]; omega), hr, hf, .inl ⟨h2, rfl, rfl, rfl⟩⟩
  · refine (rd_u16_no h (by omega)).mono ?_
    rintro e w' ⟨rfl, hr, hf⟩
    exact ⟨0, _, _, rfl, by omega, hr, hf, .inr ⟨by omega, rfl, rfl, rfl⟩⟩
/-- Bytes taken, whatever is left. -/
theorem rd_take_any {w : World} {p G : Nat} {l : List UInt8} {bad : Bool} (n : Nat) (h : Rd w p G l bad) (hl : l.length ≤ 1000000) :
    Calls Try.prog 32 #[rptr p, .int .i64 (n : Int)] w fun e w' => ∃ (v : Value) (t l' : List UInt8) (b' : Bool), e = .returned v ∧ Hid (Own w' w.heap.size v t) ∧ Hid (Rd w' p G l' b') ∧ Hid (Fr (At p) w w') ∧
      Hid ((n ≤ l.length ∧ t = l.take n ∧ l' = l.drop n ∧ b' = bad) ∨ (l.length < n ∧ t = [] ∧ l' = [] ∧ b' = true)) := by
  by_cases h2 : n ≤ l.length
  · refine (rd_take h h2 hl).mono ?_
    rintro e w' ⟨v, rfl, ho, hr, hf⟩
    exact ⟨v, _, _, _, rfl, ho, hr, hf, .inl ⟨h2, rfl, rfl, rfl⟩⟩
  · refine (rd_take_no h (n := (n : Int)) (.inr (by omega))).mono ?_
    rintro e w' ⟨v, rfl, ho, hr, hf⟩
    exact ⟨v, _, _, _, rfl, ho, hr, hf, .inr ⟨by omega, rfl, rfl, rfl⟩⟩
/-- The predicate: not zero. -/
theorem pred_any (x : UInt8) (w : World) : Calls Try.prog 108 #[.int .u8 (x.toNat : Int)] w fun e w' => e = .returned (.bool (x != 0)) ∧ w = w' := by
  have h0 : ((x.toNat : Int) != 0) = (x != 0) := by
    by_cases h : x = 0
    · subst h; rfl
    · have : x.toNat ≠ 0 := fun e => h (by apply UInt8.toNat_inj.1; exact e)
      rw [show (x != 0) = true by simpa using h]
      simp
      omega
  rw [← h0]
  have hb := u8_bd x
  obtain ⟨y, hy⟩ : ∃ y : Nat, y = x.toNat := ⟨_, rfl⟩
  rw [← hy] at hb ⊢
  clear h0 hy
  go_enter Try.func108, Try.ntmps108
  go_wp2_with fail
  go_ret
  exact ⟨rfl, rfl⟩
set_option maxHeartbeats 1000000 in
theorem idx_any (A : Option Addr) (l : List UInt8) (n c : Nat) (w : World) (hn : n = l.length) (hl : l.length ≤ 1000000) (h : Byt w w.heap.size A l) :
    Calls Try.prog 67 #[.slice A n c, .func (.func 108) #[] #[]] w fun e w' => ∃ r : Int, e = .returned (.int .i64 r) ∧ -1 ≤ r ∧ Hid (l.any (· != 0) = decide (0 ≤ r)) ∧ Hid (Below w.heap.size w w') := by
  have HB := Lib.hid h
  have HN := Lib.hid hn
  have hn2 : n ≤ 1000000 := by omega
  clear h hn hl
  go_enter Try.func67, Try.ntmps67
  go_wp2_with fail
  go_loopw [4, 5, 8] (fun _ _ i wr => ∃ k : Nat, k ≤ n ∧ i = .int .i64 k ∧ Hid ((l.take k).any (· != 0) = false) ∧ Hid (Below w.heap.size w wr)) (fun _ _ i _ => n - (intOf i).toNat)
  case atStart => exact ⟨0, by omega, rfl, rfl, Below.refl _ _⟩
  case round =>
    obtain ⟨k, hk, rfl, HA, HW⟩ := hrel
    by_cases hlt : k < n
    · have hk2 : k < l.length := by rw [← HN.out]; exact hlt
      obtain ⟨ad, rfl, _, hc⟩ := (HB.out.below HW.out).at_byte hk2
      obtain ⟨x, hx⟩ : ∃ x, x = l[k] := ⟨_, rfl⟩
      have HX := Lib.hid hx
      rw [← hx] at hc
      have hcall := pred_any x wr
      clear hx
      by_cases h0 : x = 0
      · have HA2 : Hid ((l.take (k + 1)).any (· != 0) = false) := any_take hk2 HA.out (by rw [← HX.out]; exact h0)
        subst h0
        go_wp2_with (go_at_call 108; refine hcall.mono ?_; rintro e w' ⟨rfl, rfl⟩)
        go_roundw
        case rel => exact ⟨k + 1, by omega, by go_num, HA2, by first | exact HW | exact below_drewN HW.out _⟩
        case measure => simp [intOf]; omega
      · have HA2 : Hid (l.any (· != 0) = true) := any_at hk2 (by rw [← HX.out]; exact h0)
        rw [show (x != 0) = true by simpa using h0] at hcall
        go_wp2_with (go_at_call 108; refine hcall.mono ?_; rintro e w' ⟨rfl, rfl⟩)
        go_ret
        exact ⟨k, rfl, by omega, by show _ = _; rw [HA2.out]; simp, by first | exact HW | exact below_drewN HW.out _⟩
    · obtain rfl : k = n := by omega
      go_wp2_with fail
      go_ret
      refine ⟨-1, rfl, by omega, ?_, HW⟩
      have := HA.out
      rw [List.take_of_length_le (by rw [HN.out]; exact Nat.le_refl _)] at this
      show _ = _
      rw [this]; rfl
theorem contains_any (A : Option Addr) (l : List UInt8) (n c : Nat) (w : World) (hn : n = l.length) (hl : l.length ≤ 1000000) (h : Byt w w.heap.size A l) :
    Calls Try.prog 33 #[.slice A n c, .func (.func 108) #[] #[]] w fun e w' => e = .returned (.bool (l.any (· != 0))) ∧ Hid (Below w.heap.size w w') := by
  have C := Lib.hid (idx_any A l n c w hn hl h)
  obtain ⟨b, hb⟩ : ∃ b, b = l.any (· != 0) := ⟨_, rfl⟩
  have HB := Lib.hid hb
  rw [← hb]
  clear h hn hb
  go_enter Try.func33, Try.ntmps33
  go_wp2_with fail
  refine C.out.mono ?_
  rintro e w1 ⟨r, rfl, hr, HA, HW⟩
  have HD : Hid (b = decide (0 ≤ r)) := by rw [HB.out]; exact HA
  go_wp2_with fail
  go_ret
  exact ⟨ret_bool (by rw [HD.out]), HW⟩

/-- A struct in a block of its own, handed back beside a plain slot. -/
theorem res_prm {fn : Func} {p u : Tmp} (h : fn.results = #[.cell p 131, .tmp u]) (tmps : Array Value) (w : World) (g : Nat) (u0 u1 : Value) (hp : tmps.getD p undef = .pointer (some ⟨g, 0, none⟩)) (hb : Blk w g 131 #[u0, u1]) :
    (results fn tmps).run Try.prog w = .ok (.tuple #[.agg #[u0, u1], tmps.getD u undef]) w := by
  rw [results_cell_tmp h, hp]
  have := run_loadVar_row (P := Try.prog) w g 131 131 #[u0, u1] (0, 0) _ hb Try.underlying131 rfl (by kernel_rfl)
  simp [asAddr, Result.andThen, this]
/-- Where the reader stands beside the result's block. -/
structure NSt (w V : World) (p G gr : Nat) (l : List UInt8) (bad : Bool) (cs : Array Value) : Prop where
  rd : Rd V p G l bad
  blk : Blk V gr 131 cs
  fr : Fr (At p) w V
  ne : gr ≠ p
theorem NSt.step {w V V' : World} {p G gr : Nat} {l l' : List UInt8} {bad bad' : Bool} {cs : Array Value} (h : NSt w V p G gr l bad cs) (hr : Rd V' p G l' bad') (hf : Fr (At p) V V') : NSt w V' p G gr l' bad' cs :=
  ⟨hr, hf.blk h.blk (fun e => h.ne e), h.fr.same hf, h.ne⟩
theorem NSt.grows {w V V' : World} {p G gr : Nat} {l : List UInt8} {bad : Bool} {cs : Array Value} (h : NSt w V p G gr l bad cs) (hb : Below V.heap.size V V') : NSt w V' p G gr l bad cs :=
  ⟨h.rd.grows hb, h.blk.below hb h.blk.lt, h.fr.grows hb, h.ne⟩
/-- What next answers. -/
def NextDone (w : World) (p G : Nat) (l : List UInt8) (e : Ending) (w' : World) : Prop :=
  (∃ v kd vv k, one l = .ok ((kd, vv), k) ∧ e = .returned (.tuple #[.agg #[.int .u16 (kd : Int), v], .int .i64 0]) ∧ Own w' w.heap.size v vv ∧ Rd w' p G (l.drop k) false ∧ kd < 65536) ∨
  (∃ c : Nat, one l = .error c ∧ e = .returned (.tuple #[.agg #[.int .u16 0, .slice none 0 0], .int .i64 (c : Int)]))
set_option maxHeartbeats 4000000 in
set_option maxRecDepth 100000 in
theorem next_any {w : World} {p G : Nat} {l : List UInt8} (h : Rd w p G l false) (hl : l.length ≤ 1000000) :
    Calls Try.prog 107 #[rptr p] w fun e w' => NextDone w p G l e w' ∧ Fr (At p) w w' := by
  obtain ⟨gr, hgr⟩ : ∃ gr, gr = w.heap.size := ⟨_, rfl⟩
  have hpl := h.lt
  have HL := Lib.hid hl
  have H0 : Hid (NSt w (w.alloc (.cells #[.int .u16 0, .slice none 0 0] 131)) p G gr l false #[.int .u16 0, .slice none 0 0]) :=
    ⟨h.grows ((Below.refl _ _).alloc (Nat.le_refl _) _), by rw [hgr]; exact Blk.new _ _ _, (Fr.refl _ _).alloc _, by omega⟩
  have hgw : w.heap.size ≤ gr := by omega
  have hpg : p < gr := by omega
  clear h hl
  go_enter Try.func107, Try.ntmps107
  go_wp2_with fail
  obtain ⟨W1, hW1⟩ : ∃ W1, W1 = w.alloc (.cells #[.int .u16 0, .slice none 0 0] 131) := ⟨_, rfl⟩
  rw [← hW1] at H0 ⊢
  rw [← hgr]
  have hs1 : w.heap.size ≤ W1.heap.size := H0.out.fr.size
  clear hW1 hgr hpl
  refine (rd_u16_any H0.out.rd).mono ?_
  rintro e W2 ⟨kd, l2, b2, rfl, hkd, HR2, HF2, HD2⟩
  have H2 := Lib.hid (H0.out.step HR2.out HF2.out)
  clear HR2 HF2
  go_wp2_with fail
  refine (rd_u16_any H2.out.rd).mono ?_
  rintro e W3 ⟨m, l3, b3, rfl, hm, HR3, HF3, HD3⟩
  have H3 := Lib.hid (H2.out.step HR3.out HF3.out)
  have m64 : IntKind.i64.wrap (m : Int) = (m : Int) := IntWalk.i64_in _ (by omega)
  clear HR3 HF3
  go_wp2_with fail
  refine (rd_good H3.out.rd).mono ?_
  rintro e W3' ⟨rfl, rfl⟩
  have c0 : W3.cell? ⟨gr, 0, none⟩ = some (.int .u16 0) := H3.out.blk.cell 0
  have c1 : W3.cell? ⟨gr, 1, none⟩ = some (.slice none 0 0) := H3.out.blk.cell 1
  have f0 := H3.out.blk.frozen 0
  have f1 := H3.out.blk.frozen 1
  have HBZ : ∀ {V : World} {l' : List UInt8} {b' : Bool} (u0 u1 : Value), Hid (NSt w V p G gr l' b' #[.int .u16 0, .slice none 0 0]) → Blk ((V.setCell ⟨gr, 0, none⟩ u0).setCell ⟨gr, 1, none⟩ u1) gr 131 #[u0, u1] ∧ Fr (At p) w ((V.setCell ⟨gr, 0, none⟩ u0).setCell ⟨gr, 1, none⟩ u1) :=
    fun u0 u1 hs => ⟨by have := (hs.out.blk.set_ 0 u0).set_ 1 u1; simpa using this, (hs.out.fr.setCell (p := ⟨gr, 0, none⟩) (.inr hgw) _).setCell (p := ⟨gr, 1, none⟩) (.inr hgw) _⟩
  cases b3
  · have hsh : Hid (4 ≤ l.length ∧ kd = num (l.take 2) ∧ m = num ((l.drop 2).take 2) ∧ l3 = l.drop 4) := by
      rcases HD3.out with ⟨h1, h2, h3, h4⟩ | ⟨_, _, _, h4⟩
      · rcases HD2.out with ⟨g1, g2, g3, g4⟩ | ⟨_, _, g3, g4⟩
        · subst g3
          rw [List.length_drop] at h1
          exact ⟨by omega, g2, h2, by rw [h3, List.drop_drop]⟩
        · subst g3; simp at h1
      · cases h4
    clear HD2 HD3 H2 H0
    by_cases hm4 : (m : Int) < 4
    · have HO : Hid (one l = .error 42) := one_small (by have := hsh.out.1; omega) (by rw [← hsh.out.2.2.1]; omega)
      have HZ := Lib.hid (HBZ (.int .u16 0) (.slice none 0 0) H3)
      clear HBZ
      go_wp2_with fail
      (try simp only [Exit.inBlock, Exit.then])
      refine bodyPost_ret (res_prm rfl _ _ gr _ _ rfl HZ.out.1) rfl ?_
      exact ⟨.inr ⟨42, HO.out, rfl⟩, HZ.out.2⟩
    · go_wp2_with fail
      rw [show (m : Int) - 4 = ((m - 4 : Nat) : Int) by omega]
      refine (rd_take_any (m - 4) H3.out.rd (by rw [hsh.out.2.2.2, List.length_drop]; have := HL.out; omega)).mono ?_
      rintro e W4 ⟨v4, t4, l4, b4, rfl, HO4, HR4, HF4, HD4⟩
      have H4 := Lib.hid (H3.out.step HR4.out HF4.out)
      obtain ⟨A4, c4, hv4, h4a, h4b⟩ := own_slice HO4.out
      subst hv4
      obtain ⟨n4, hn4⟩ : ∃ n4, n4 = t4.length := ⟨_, rfl⟩
      rw [← hn4] at HO4 h4a ⊢
      have HN4 := Lib.hid hn4
      have hs4 : w.heap.size ≤ W4.heap.size := H4.out.fr.size
      clear c0 c1 f0 f1 HR4 HF4 hn4
      go_wp2_with fail
      obtain ⟨pd, hpd⟩ : ∃ pd : Nat, pd = (4 - m % 4) % 4 := ⟨_, rfl⟩
      have HPD := Lib.hid hpd
      rw [show -((m : Int) % 4) % 4 = (pd : Int) by omega]
      have hpd3 : pd ≤ 3 := by omega
      have hal : (m + 3) / 4 * 4 = m + pd := by omega
      have HAL := Lib.hid hal
      clear hpd hal
      have hl4 : l4.length ≤ 1000000 := by
        have h3 := hsh.out.2.2.2
        have h1 := HL.out
        rcases HD4.out with ⟨_, _, g3, _⟩ | ⟨_, _, g3, _⟩
        · rw [g3, h3, List.length_drop, List.length_drop]; omega
        · rw [g3]; simp
      refine (rd_take_any pd H4.out.rd hl4).mono ?_
      rintro e W5 ⟨v5, t5, l5, b5, rfl, HO5, HR5, HF5, HD5⟩
      have H5 := Lib.hid (H4.out.step HR5.out HF5.out)
      have HO45 : Hid (Own W5 W3.heap.size (.slice A4 n4 c4) t4) := HF5.out.own HO4.out (fun g hg e => by
        have := (HO4.out.lt g hg).1
        have h6 := H3.out.rd.lt
        have h7 : g = p := e
        omega)
      obtain ⟨A5, c5, hv5, h5a, h5b⟩ := own_slice HO5.out
      subst hv5
      obtain ⟨n5, hn5⟩ : ∃ n5, n5 = t5.length := ⟨_, rfl⟩
      rw [← hn5] at HO5 h5a ⊢
      have HN5 := Lib.hid hn5
      have hs5 : w.heap.size ≤ W5.heap.size := H5.out.fr.size
      have hs3 : w.heap.size ≤ W3.heap.size := H3.out.fr.size
      clear HR5 HF5 hn5 HO4 hl4
      go_wp2_with fail
      refine (rd_good H5.out.rd).mono ?_
      rintro e W5' ⟨rfl, rfl⟩
      have c0 : W5.cell? ⟨gr, 0, none⟩ = some (.int .u16 0) := H5.out.blk.cell 0
      have c1 : W5.cell? ⟨gr, 1, none⟩ = some (.slice none 0 0) := H5.out.blk.cell 1
      have f0 := H5.out.blk.frozen 0
      have f1 := H5.out.blk.frozen 1
      cases b5
      · have hsh5 : Hid (m + pd ≤ l.length ∧ t4 = (l.drop 4).take (m - 4) ∧ t5 = (l.drop m).take pd ∧ l5 = l.drop (m + pd)) := by
          obtain ⟨h1, h2, h3, h4⟩ := hsh.out
          rcases HD5.out with ⟨g1, g2, g3, g4⟩ | ⟨_, _, _, g4⟩
          · rcases HD4.out with ⟨k1, k2, k3, k4⟩ | ⟨_, _, k3, k4⟩
            · subst h4 k3
              rw [List.length_drop, List.length_drop] at g1
              rw [List.length_drop] at k1
              refine ⟨by omega, k2, ?_, ?_⟩
              · rw [g2, List.drop_drop, show 4 + (m - 4) = m by omega]
              · rw [g3, List.drop_drop, List.drop_drop]; congr 1; omega
            · subst k4
              cases g4
          · cases g4
        clear HD4 HD5
        have HY5 : Hid (Byt W5 W5.heap.size A5 t5) := (HO5.out : Own _ _ _ _).byt
        go_wp2_with fail
        refine (contains_any A5 t5 n5 c5 W5 HN5.out (by rw [hsh5.out.2.2.1, List.length_take]; omega) HY5.out).mono ?_
        rintro e W6 ⟨rfl, HB6⟩
        have H6 := Lib.hid (H5.out.grows HB6.out)
        have HO6 : Hid (Own W6 W3.heap.size (.slice A4 n4 c4) t4) := (Fr.of_below HB6.out).own HO45.out (fun g hg hi => by have := (HO45.out.lt g hg).2; omega)
        have hs6 : w.heap.size ≤ W6.heap.size := H6.out.fr.size
        obtain ⟨bb, hbb⟩ : ∃ bb, bb = t5.any (· != 0) := ⟨_, rfl⟩
        have HBB := Lib.hid hbb
        rw [← hbb]
        have c0 : W6.cell? ⟨gr, 0, none⟩ = some (.int .u16 0) := H6.out.blk.cell 0
        have c1 : W6.cell? ⟨gr, 1, none⟩ = some (.slice none 0 0) := H6.out.blk.cell 1
        have f0 := H6.out.blk.frozen 0
        have f1 := H6.out.blk.frozen 1
        clear hbb
        cases bb
        · have HO : Hid (one l = .ok ((kd, t4), m + pd)) := by
            obtain ⟨h1, h2, h3, h4⟩ := hsh.out
            obtain ⟨g1, g2, g3, g4⟩ := hsh5.out
            have := one_good (b := l) (m := m) (by omega) h3 (by omega) (by rw [HAL.out]; omega) (by rw [HAL.out, show m + pd - m = pd by omega, ← g3]; exact HBB.out.symm)
            rw [← h2, ← g2, HAL.out] at this
            exact this
          have HZ := Lib.hid (HBZ (.int .u16 (kd : Int)) (.slice A4 n4 c4) H6)
          have HOZ : Hid (Own ((W6.setCell ⟨gr, 0, none⟩ (.int .u16 (kd : Int))).setCell ⟨gr, 1, none⟩ (.slice A4 n4 c4)) W3.heap.size (.slice A4 n4 c4) t4) := by
            have F : Fr (fun k => k = gr) W6 ((W6.setCell ⟨gr, 0, none⟩ (.int .u16 (kd : Int))).setCell ⟨gr, 1, none⟩ (.slice A4 n4 c4)) := ((Fr.refl (fun k => k = gr) W6).setCell (p := ⟨gr, 0, none⟩) (.inl rfl) _).setCell (p := ⟨gr, 1, none⟩) (.inl rfl) _
            exact F.own HO6.out (fun g hg e => own_blk_ne HO6.out H6.out.blk (by decide) (by rw [hg, e]))
          have HRZ : Hid (Rd ((W6.setCell ⟨gr, 0, none⟩ (.int .u16 (kd : Int))).setCell ⟨gr, 1, none⟩ (.slice A4 n4 c4)) p G l5 false) := by
            have F : Fr (fun k => k = gr) W6 ((W6.setCell ⟨gr, 0, none⟩ (.int .u16 (kd : Int))).setCell ⟨gr, 1, none⟩ (.slice A4 n4 c4)) := ((Fr.refl (fun k => k = gr) W6).setCell (p := ⟨gr, 0, none⟩) (.inl rfl) _).setCell (p := ⟨gr, 1, none⟩) (.inl rfl) _
            exact H6.out.rd.fr F (fun e => H6.out.ne e.symm) (fun e => by have := H6.out.rd.le; have : G = gr := e; omega)
          clear HBZ
          go_wp2_with fail
          (try simp only [Exit.inBlock, Exit.then])
          refine bodyPost_ret (res_prm rfl _ _ gr _ _ rfl HZ.out.1) rfl ?_
          refine ⟨.inl ⟨_, kd, t4, m + pd, HO.out, rfl, own_mono HOZ.out hs3, ?_, hkd⟩, HZ.out.2⟩
          rw [← hsh5.out.2.2.2]
          exact HRZ.out
        · have HO : Hid (one l = .error 42) := by
            obtain ⟨h1, h2, h3, h4⟩ := hsh.out
            obtain ⟨g1, g2, g3, g4⟩ := hsh5.out
            exact one_pad (b := l) (m := m) (by omega) h3 (by omega) (by rw [HAL.out]; omega) (by rw [HAL.out, show m + pd - m = pd by omega, ← g3]; exact HBB.out.symm)
          have HZ := Lib.hid (HBZ (.int .u16 0) (.slice none 0 0) H6)
          clear HBZ
          go_wp2_with fail
          (try simp only [Exit.inBlock, Exit.then])
          refine bodyPost_ret (res_prm rfl _ _ gr _ _ rfl HZ.out.1) rfl ?_
          exact ⟨.inr ⟨42, HO.out, rfl⟩, HZ.out.2⟩
      · have HO : Hid (one l = .error 40) := by
          obtain ⟨h1, h2, h3, h4⟩ := hsh.out
          refine one_cut (m := m) (by omega) h3 (by omega) ?_
          rw [HAL.out]
          rcases HD5.out with ⟨g1, g2, g3, g4⟩ | ⟨g1, _, _, g4⟩
          · subst g4
            rcases HD4.out with ⟨k1, k2, k3, k4⟩ | ⟨k1, _, k3, k4⟩
            · cases k4
            · rw [h4, List.length_drop] at k1
              omega
          · rcases HD4.out with ⟨k1, k2, k3, k4⟩ | ⟨k1, _, k3, k4⟩
            · rw [k3, h4, List.length_drop, List.length_drop] at g1
              rw [h4, List.length_drop] at k1
              omega
            · rw [h4, List.length_drop] at k1
              omega
        have HZ := Lib.hid (HBZ (.int .u16 0) (.slice none 0 0) H5)
        clear HBZ HD4 HD5
        go_wp2_with fail
        (try simp only [Exit.inBlock, Exit.then])
        refine bodyPost_ret (res_prm rfl _ _ gr _ _ rfl HZ.out.1) rfl ?_
        exact ⟨.inr ⟨40, HO.out, rfl⟩, HZ.out.2⟩
  · have HO : Hid (one l = .error 40) := by
      refine one_short ?_
      rcases HD3.out with ⟨h1, h2, h3, h4⟩ | ⟨h1, _, _, h4⟩
      · subst h4
        rcases HD2.out with ⟨g1, g2, g3, g4⟩ | ⟨h1, _, _, _⟩
        · cases g4
        · omega
      · rcases HD2.out with ⟨g1, g2, g3, g4⟩ | ⟨h1, _, _, _⟩
        · subst g3
          rw [List.length_drop] at h1
          omega
        · omega
    clear HD2 HD3
    have HZ := Lib.hid (HBZ (.int .u16 0) (.slice none 0 0) H3)
    clear HBZ
    go_wp2_with fail
    (try simp only [Exit.inBlock, Exit.then])
    refine bodyPost_ret (res_prm rfl _ _ gr _ _ rfl HZ.out.1) rfl ?_
    exact ⟨.inr ⟨40, HO.out, rfl⟩, HZ.out.2⟩

def lenV : Value → Nat
  | .slice _ n _ => n
  | _ => 0
set_option maxHeartbeats 4000000 in
set_option maxRecDepth 100000 in
theorem get_c : GetC := by
  intro A x n c w hn hnc hcm hx h
  obtain ⟨j0, hj0, hjz0, hjz1, hjz2⟩ := info_parts3 prm_info
  have HX := Lib.hid h
  have HN := Lib.hid hn
  clear h hn
  go_enter Try.func105, Try.ntmps105
  go_wp2_with fail
  refine (newReader_any A x n c w HN.out (by rw [← HN.out]; omega) HX.out).mono ?_
  rintro e W1 ⟨p, G, rfl, hrd, hG, hb1⟩
  have HB1 := Lib.hid hb1
  have hp1 := hrd.lt
  have hGp := hrd.le
  have hw1 := hb1.size
  have HR1 := Lib.hid hrd
  clear hb1 hrd
  go_wp2_with fail
  go_loopw [2, 3, 4, 6, 7] (fun _ _ s _ _ wr => ∃ (na : Nat) (l : List UInt8) (acc : List Prm) (Ax : Option Addr) (cx : Nat), s = .slice Ax na cx ∧ na ≤ cx ∧ cx ≤ 9223372036854775807 ∧ Hid (4 * na + l.length ≤ n) ∧ 4 * na ≤ n ∧ Hid (na = acc.length) ∧ Hid (getL x = behind acc (getL l)) ∧ Hid (OwnPs wr W1.heap.size (.slice Ax na cx) acc) ∧ Hid (Rd wr p G l false) ∧ Hid (Below w.heap.size w wr) ∧ W1.heap.size ≤ wr.heap.size) (fun _ _ s _ _ _ => n - lenV s)
  case atStart => exact ⟨0, x, [], none, 0, rfl, by omega, by omega, by rw [← HN.out]; show _ ≤ _; omega, by omega, rfl, (behind_nil _).symm, OwnPs.nil _ _, HR1, HB1, Nat.le_refl _⟩
  case round =>
    obtain ⟨na, l, acc, Ax, cx, rfl, hnc', hcx, HLN, hna, HNA, HG, HO, HR, HB, hsz⟩ := hrel
    obtain ⟨q, hq⟩ : ∃ q, q = l.length := ⟨_, rfl⟩
    have HQ := Lib.hid hq
    have hln : 4 * na + q ≤ n := by rw [hq]; exact HLN.out
    have hleft := rd_left HR.out
    rw [← hq] at hleft
    clear hq
    go_wp2_with fail
    refine hleft.mono ?_
    rintro e W2 ⟨rfl, rfl⟩
    by_cases h0 : (0 : Int) < (q : Int)
    · clear hleft
      go_wp2_with fail
      refine (next_any HR.out (by rw [← HQ.out]; omega)).mono ?_
      rintro e W3 ⟨hd, hf⟩
      have HF := Lib.hid hf
      have HB3 : Hid (Below w.heap.size w W3) := below_fr HB.out hf (Nat.le_refl _) (fun i (hi : i = p) => by omega)
      have HO3 : Hid (OwnPs W3 W1.heap.size (.slice Ax na cx) acc) := HO.out.fr hf (fun i (hi : i = p) _ => by omega)
      have hs3 := hf.size
      have hne : l ≠ [] := fun e => by have := HQ.out; rw [e] at this; simp at this; omega
      clear hf
      rcases hd with ⟨v, kd, vv, k, ho, rfl, hov, hrd, hkd⟩ | ⟨ec, ho, rfl⟩
      · obtain ⟨A5, c5, hv5, h5a, h5b⟩ := own_slice hov
        subst hv5
        have hkl := one_len ho
        obtain ⟨n5, hn5⟩ : ∃ n5, n5 = vv.length := ⟨_, rfl⟩
        rw [← hn5] at hov h5a ⊢
        have HN5 := Lib.hid hn5
        have HO5 : Hid (Own W3 wr.heap.size (.slice A5 n5 c5) vv) := hov
        have HR3 := Lib.hid hrd
        have HNX : Hid (getL x = behind (acc ++ [(kd, vv)]) (getL (l.drop k))) := by rw [HG.out, getL_ok ho, behind_snoc]; rfl
        have HKL : Hid (4 * (na + 1) + (l.drop k).length ≤ n) := by
          rw [List.length_drop]
          have := HQ.out
          show _ ≤ _
          omega
        have hna4 : 4 * (na + 1) ≤ n := by have := HQ.out; omega
        clear hov hrd hn5 ho
        have HBA : Hid (Below W3.heap.size W3 (W3.alloc (.cells #[.int .u16 (kd : Int), .slice A5 n5 c5] 131))) := (Below.refl _ _).alloc (Nat.le_refl _) _
        obtain ⟨xs, HOX, HXX, HXS⟩ := row_ready2 (w := W1) (o := .cells #[.int .u16 (kd : Int), .slice A5 n5 c5] 131) HO3.out HNA.out HBA.out
        have HW1w : Hid (W1.heap.size ≤ W3.heap.size) := Nat.le_trans hsz hs3
        go_wp2_with (at_builtin; refine wpList_append_any _ rfl (.tmp 21) (.tmp 23) _ rfl W1.heap.size 131 j0 _ 2 32 Try.underlying30 hj0 hjz0 hjz1 hjz2 rfl (by omega) (.slice Ax na cx) na xs rfl HXX.out (W3.heap.size + 1 + 1) (some ⟨W3.heap.size + 1, 0, none⟩) 1 1 [.int .u16 (kd : Int), .slice A5 n5 c5] rfl (two_reads _ _ (by simp) _ _ _) (by simp [Value.oneCell']) (by simp only [maxLen]; omega) (by omega) (by simp; have := HW1w.out; omega) ?_; intro v6 w6 hown6 hg6 hat6; obtain ⟨A6, c6, rfl, hc6, hm6⟩ := own_slice hown6; have HO6 : Hid (OwnPs w6 W1.heap.size (.slice A6 (na + 1) c6) (acc ++ [(kd, vv)])) := (by have e1 := HN5.out; subst e1; exact OwnPs.snoc (p := (kd, vv)) HOX.out hg6 (by have := HXX.out; rw [HNA.out] at this; rw [HNA.out]; exact this) hown6 (by rw [← HNA.out]) (by show kd < 65536; omega) h5a h5b (own_mono (((Fr.refl (fun _ => False) W3 |>.alloc _).alloc _).own HO5.out (fun _ _ h => h)) hsz) HXS.out); have HF6 : Hid (Fr (fun i => W1.heap.size ≤ i) W3 w6) := (((Fr.refl _ W3).alloc _).alloc _).grown hg6 (fun b e => .inl (HXX.out.lt b e).1); clear hown6 hg6 hat6)
        go_roundw
        case rel => exact ⟨na + 1, l.drop k, acc ++ [(kd, vv)], A6, c6, rfl, hc6, hm6, HKL, hna4, by rw [List.length_append, ← HNA.out]; rfl, HNX, HO6, HR3.out.fr HF6.out (by omega) (by omega), HB3.out.trans (HF6.out.to_below (by have := HW1w.out; omega) (fun i hi => by omega)), Nat.le_trans HW1w.out HF6.out.size⟩
        case measure => simp [lenV]; omega
      · have hec := one_err ho
        have HE : Hid (getL x = .error ec) := by
          rw [HG.out, getL_err hne ho]; rfl
        have hec0 : ¬ ((ec : Int) = 0) := by omega
        have hec1 : ((ec : Int) != 0) = true := by simpa using hec0
        clear ho hec
        go_wp2_with fail
        go_ret2
        exact ⟨.inr ⟨ec, none, 0, HE.out, rfl, by omega⟩, HB3.out.alloc HB3.out.size _⟩
    · have HE : Hid (getL x = .ok acc) := by
        have : l = [] := List.eq_nil_of_length_eq_zero (by have := HQ.out; omega)
        show getL x = .ok acc
        rw [HG.out, this, getL_nil]
        simp [behind]
      clear hleft
      go_wp2_with fail
      go_ret2
      exact ⟨.inl ⟨_, acc, HE.out, rfl, HO.out.mono hw1⟩, HB.out⟩
end Go.Proofs.Ytpgklhecmafnbaa.Par
