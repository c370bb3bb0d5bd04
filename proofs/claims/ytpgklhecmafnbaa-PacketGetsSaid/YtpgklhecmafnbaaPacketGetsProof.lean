/-
  PROVED: PacketGets of flumelaw07 answers true for every input, and its arguments read afterwards as before. CONDITIONS: none beside the form's own.
-/
import Derived.Test.YtpgklhecmafnbaaRows
import Derived.Test.YtpgklhecmafnbaaPkA
import Derived.Test.YtpgklhecmafnbaaPk7
import Derived.Test.YtpgklhecmafnbaaSees
import Derived.WalkKit
import Derived.ProofKit
import Derived.OpenShut
import Derived.ShutString
import Derived.ChangeOld
import Derived.Below
namespace Go.Proofs.Ytpgklhecmafnbaa.packetGets
open Go.ChangeShapes Go.WideShapes Go.ChangeAt Go.RowKit
open Go.ChangeMaps (open_string shut_string)
set_option linter.unusedVariables false
set_option linter.unusedSimpArgs false

theorem own : ownKnob Try.prog.godebug = none := by kernel_rfl
theorem laidOut : laidOutB Try.prog = true := by kernel_rfl

/-- What the walk is told of a slice of integers that came in. -/
def IsRow (k : IntKind) (w : World) (a : Option Addr) (len cap : Nat) (zs : List Int) : Prop :=
  (a = none ∧ len = 0 ∧ cap = 0 ∧ zs = []) ∨
  ∃ x, a = some x ∧ len ≤ cap ∧ cap ≤ maxLen ∧ zs.length = cap ∧ (∀ i, i < zs.length → w.cell? (x.add i) = some (.int k (zs.getD i 0))) ∧ ∀ n ∈ zs, (Lit.int k n).wf = true

/-! ### The walk -/
open Words Oct Par Chk
open Crc (sealL)
/-- What Get answers, both ways in one. -/
theorem getpk_norm {w : World} {b : List UInt8} {e : Ending} {w' : World} (h : GetPk w b e w') : ∃ (kk f t g : Nat) (v : Value) (ls : List Ck), e = .returned (.tuple #[.agg (pkV f t g v), .int .i64 (kk : Int)]) ∧ Below w.heap.size w w' ∧ OwnCks w' w.heap.size v ls ∧
    ((kk = 0 ∧ getP b = .ok (f, t, g, ls)) ∨ (getP b = .error kk ∧ f = 0 ∧ t = 0 ∧ g = 0 ∧ ls = [])) := by
  obtain ⟨hb, ⟨f, t, g, v, ls, hg, rfl, ho, _⟩ | ⟨k, hg, rfl⟩⟩ := h
  · exact ⟨0, f, t, g, v, ls, rfl, hb, ho, .inl ⟨rfl, hg⟩⟩
  · exact ⟨k, 0, 0, 0, _, [], rfl, hb, OwnCks.nil _ _, .inr ⟨hg, rfl, rfl, rfl, rfl⟩⟩
theorem getpk_one {b : List UInt8} {kk f t g kk' f' t' g' : Nat} {ls ls' : List Ck} (h : (kk = 0 ∧ getP b = .ok (f, t, g, ls)) ∨ (getP b = .error kk ∧ f = 0 ∧ t = 0 ∧ g = 0 ∧ ls = [])) (h' : (kk' = 0 ∧ getP b = .ok (f', t', g', ls')) ∨ (getP b = .error kk' ∧ f' = 0 ∧ t' = 0 ∧ g' = 0 ∧ ls' = [])) :
    kk' = kk ∧ f' = f ∧ t' = t ∧ g' = g ∧ ls' = ls := by
  rcases h with ⟨rfl, h⟩ | ⟨h, rfl, rfl, rfl, rfl⟩ <;> rcases h' with ⟨rfl, h'⟩ | ⟨h', rfl, rfl, rfl, rfl⟩ <;> rw [h] at h'
  · injection h' with h'
    simp only [Prod.mk.injEq] at h'
    obtain ⟨h1, h2, h3, h4⟩ := h'
    exact ⟨rfl, h1.symm, h2.symm, h3.symm, h4.symm⟩
  · cases h'
  · cases h'
  · injection h' with h'
    exact ⟨h'.symm, rfl, rfl, rfl, rfl⟩
theorem getpk_alike {b : List UInt8} {kk f t g : Nat} {ls : List Ck} (h : (kk = 0 ∧ getP b = .ok (f, t, g, ls)) ∨ (getP b = .error kk ∧ f = 0 ∧ t = 0 ∧ g = 0 ∧ ls = [])) : Alikes ls ls ∧ ls.length ≤ 64 := by
  rcases h with ⟨_, h⟩ | ⟨_, _, _, _, rfl⟩
  · exact ⟨alikes_self (getP_all h).2, (getP_all h).1⟩
  · exact ⟨alikes_self (fun c hc => by simp at hc), by simp⟩
set_option maxHeartbeats 8000000 in
set_option maxRecDepth 100000 in
theorem walk (a0 : Option Addr) (len0 cap0 : Nat) (z0 : List Int) (a1 : Bool) (w : World) (w0 : IsRow .u8 w a0 len0 cap0 z0) :
    Calls Try.prog 5 #[.slice a0 len0 cap0, .bool a1] w fun e w' => e = .returned (.bool true) ∧ Below w.heap.size w w' := by
  obtain ⟨b, hb, hbc, hcm, hby⟩ := bytes_of w0
  have HN := Lib.hid hb
  have HY := Lib.hid hby
  rw [← hb] at hbc
  clear w0 hb hby
  obtain ⟨i0, hi0, hz0, hz1, hz2⟩ := info_parts3 u8_info
  go_enter Try.func5, Try.ntmps5
  go_wp2_with fail
  refine (first_p w).mono ?_
  rintro e W1 ⟨rfl, hb1⟩
  have HB1 := Lib.hid hb1
  clear hb1
  by_cases hbig : (5000 : Int) < (len0 : Int)
  · have d1 : decide ((5000 : Int) < (len0 : Int)) = true := decide_eq_true hbig
    go_wp2_with fail
    go_ret
    exact ⟨rfl, HB1.out⟩
  have d1 : decide ((5000 : Int) < (len0 : Int)) = false := decide_eq_false hbig
  have hl5 : len0 ≤ 5000 := by omega
  clear hbig
  go_upto_region 5 with fail
  clear d1
  have HE1 := Lib.hid (own_empty W1 5)
  have RD : Hid (Reads (W1.alloc (.cells #[] 5)) w.heap.size 1 a0 len0 (u8s b)) := by have := (HY.out.below HB1.out).alloc HB1.out.size (.cells #[] 5); unfold Byt at this; rw [← HN.out] at this; exact this
  go_upto_region 6 with (at_builtin; refine wpList_append_any _ rfl (.tmp 17) (.tmp 18) _ rfl W1.heap.size 5 i0 _ 1 1 Try.underlying22 hi0 hz0 hz1 hz2 rfl (by omega) (.slice (some ⟨W1.heap.size, 0, none⟩) 0 0) 0 [] rfl HE1.out w.heap.size a0 len0 cap0 (u8s b) rfl RD.out (u8s_one _) (by simp only [maxLen]; omega) (by omega) (by simp) ?_; intro v6 w6 hown6 hg6 hat6; obtain ⟨n6, A6, c6, rfl, HN6, hnq6, hnc6, hc6, HO6, HB6⟩ := copied (Below.refl _ W1) hown6 HN.out hg6; clear hown6 hg6 hat6)
  obtain ⟨W2, hW2⟩ : ∃ W, W = w6 := ⟨_, rfl⟩
  rw [← hW2] at HO6 HB6 ⊢
  have HB2 : Hid (Below w.heap.size w W2) := HB1.out.trans (HB6.out.mono HB1.out.size)
  have HY2 : Hid (Byt W2 W2.heap.size A6 b) := by have := HO6.out; rw [HN6.out] at this; exact Reads.of_own this
  clear hW2 HE1 RD HB6 HO6
  -- sealed anew or not: bytes x of the law's own
  go_cut [25] from 20 to 25 (fun s wx => ∃ r, s = .bool r ∧ Hid (r = (a1 && decide (12 ≤ n6))) ∧ wx = W2)
  case first =>
    cases a1
    · go_wp2_with fail
      go_meet
      exact ⟨_, rfl, rfl, rfl⟩
    · by_cases h12 : 12 ≤ n6
      · have d12 : decide ((n6 : Int) ≥ 12) = true := by simp; omega
        have HR : Hid (true = (true && decide (12 ≤ n6))) := by show _ = _; simp [h12]
        go_wp2_with fail
        go_meet
        exact ⟨_, rfl, HR, rfl⟩
      · have d12 : decide ((n6 : Int) ≥ 12) = false := by simp; omega
        have HR : Hid (false = (true && decide (12 ≤ n6))) := by show _ = _; simp [h12]
        go_wp2_with fail
        go_meet
        exact ⟨_, rfl, HR, rfl⟩
  case rest =>
  obtain ⟨r, rfl, HR, hwc⟩ := hcut
  rw [hwc]
  clear hwc
  go_upto_if 25 with (fail)
  go_cut [5] from 25 to 27 (fun s5 wx => ∃ (nx cx : Nat) (Ax : Option Addr) (x : List UInt8), s5 = .slice Ax nx cx ∧ nx ≤ cx ∧ cx ≤ 9223372036854775807 ∧ nx ≤ 5000 ∧ Hid (nx = x.length) ∧ Hid (Byt wx wx.heap.size Ax x) ∧ Hid (Below w.heap.size w wx))
  case first =>
    cases r
    · go_wp2_with fail
      go_meet
      exact ⟨n6, c6, A6, b, rfl, hnc6, hc6, by omega, HN6, HY2, HB2⟩
    · have h12 : 12 ≤ n6 := by have := HR.out; cases a1 <;> simp at this; exact this
      have hcall := Crc.rseal_any A6 b c6 8 W2 (by rw [← HN6.out]; exact hnc6) hc6 (by rw [← HN6.out]; omega) HY2.out (by rw [← HN6.out]; omega)
      rw [← HN6.out] at hcall
      have HCALL := Lib.hid hcall
      clear hcall
      go_wp2_with fail
      refine HCALL.out.mono ?_
      rintro e W3 ⟨v3, rfl, ho3, hb3⟩
      obtain ⟨A3, c3, rfl, h3a, h3b, HY3⟩ := own_as (n := n6) ho3 (by rw [sealL_length _ _ (by rw [← HN6.out]; omega)]; exact HN6.out)
      have HB3 := Lib.hid (HB2.out.trans (hb3.mono HB2.out.size))
      have HNX : Hid (n6 = (sealL b 8).length) := by rw [sealL_length _ _ (by rw [← HN6.out]; omega)]; exact HN6.out
      clear ho3 hb3
      go_wp2_with fail
      go_meet
      exact ⟨n6, c3, A3, sealL b 8, rfl, h3a, h3b, by omega, HNX, HY3, HB3⟩
  case rest =>
  obtain ⟨nx, cx, Ax, x, rfl, hxc, hxm, hx5, HNX, HYX, HBX⟩ := hcut
  obtain ⟨W3, hW3⟩ : ∃ W, W = wc := ⟨_, rfl⟩
  rw [← hW3] at HYX HBX ⊢
  clear hW3 HR HY2 HB2 HB1 HY HN HN6 hl5 hbc hcm hnq6 hnc6 hc6
  have HE3 := Lib.hid (own_empty W3 5)
  have RD : Hid (Reads (W3.alloc (.cells #[] 5)) W3.heap.size 1 Ax nx (u8s x)) := by have := HYX.out.alloc (Nat.le_refl _) (.cells #[] 5); unfold Byt at this; rw [← HNX.out] at this; exact this
  go_upto_region 9 with (at_builtin; refine wpList_append_any _ rfl (.tmp 28) (.tmp 29) _ rfl W3.heap.size 5 i0 _ 1 1 Try.underlying22 hi0 hz0 hz1 hz2 rfl (by omega) (.slice (some ⟨W3.heap.size, 0, none⟩) 0 0) 0 [] rfl HE3.out W3.heap.size Ax nx cx (u8s x) rfl RD.out (u8s_one _) (by simp only [maxLen]; omega) (by omega) (by simp) ?_; intro v6 w6 hown6 hg6 hat6; obtain ⟨ny, Ay, cy, rfl, HNY, hnqy, hncy, hcy, HOY, HBY⟩ := copied (Below.refl _ W3) hown6 HNX.out hg6; clear hown6 hg6 hat6)
  obtain ⟨W4, hW4⟩ : ∃ W, W = w6 := ⟨_, rfl⟩
  rw [← hW4] at HOY HBY ⊢
  have HB4 : Hid (Below w.heap.size w W4) := HBX.out.trans (HBY.out.mono HBX.out.size)
  have HYX4 : Hid (Byt W4 W3.heap.size Ax x) := HYX.out.below HBY.out
  have HYY : Hid (Byt W4 W4.heap.size Ay x) := by have := HOY.out; rw [HNY.out] at this; exact Reads.of_own this
  have hny5 : ny ≤ 5000 := by omega
  have HS34 : Hid (W3.heap.size ≤ W4.heap.size) := HBY.out.size
  have HWX : Hid (w.heap.size ≤ W3.heap.size) := HBX.out.size
  clear hW4 HE3 RD HBY HYX
  go_wp2_with fail
  refine (get_p HNY.out hncy hcy HYY.out).mono ?_
  rintro e W5 hd
  obtain ⟨kk, f, t, g, v5, ls, rfl, hb5, ho5, hw5⟩ := getpk_norm hd
  obtain ⟨A5, c5, hv5, h5a, h5b⟩ := ho5.slice
  obtain ⟨n5, hn5⟩ : ∃ n, n = ls.length := ⟨_, rfl⟩
  rw [← hn5] at hv5 h5a
  subst hv5
  have HN5 := Lib.hid hn5
  have HW := Lib.hid hw5
  have HC5 := Lib.hid ho5
  have HB5 := Lib.hid (HB4.out.trans (hb5.mono HB4.out.size))
  have HO5 : Hid (W5.ownsRow W3.heap.size 5 1 (.slice Ay ny cy) ny (u8s x)) := (Fr.of_below hb5).own HOY.out (fun g hg hi => by have := (HOY.out.lt g hg).2; omega)
  have HLT : Hid (∀ g, (Value.slice Ay ny cy).ownBlock = some g → W3.heap.size ≤ g ∧ g < W4.heap.size) := fun g hg => HOY.out.lt g hg
  have HYX5 : Hid (Byt W5 W3.heap.size Ax x) := HYX4.out.below (hb5.mono HS34.out)
  have HAL := Lib.hid (getpk_alike hw5)
  have HS45 : Hid (W4.heap.size ≤ W5.heap.size) := hb5.size
  clear hd hw5 ho5 hb5 hn5 HOY HYY HYX4 HB4 HBX
  go_upto_region 10 with (refine wpList_store_row rfl 44 _ _ rfl W5.heap.size (pkV f t g (.slice A5 n5 c5)) rfl rfl 44 _ (Blk.new W5 44 _) pk_info rfl (pk_one _ _ _ _ rfl) ?_)
  obtain ⟨W6, hW6, hp6, hb6⟩ := kept_pk W5 (pkV f t g (.slice A5 n5 c5))
  obtain ⟨g6, hg6⟩ : ∃ g, g = W5.heap.size := ⟨_, rfl⟩
  rw [← hg6] at hp6
  rw [← hW6, ← hg6]
  have HP6 := Lib.hid hp6
  have HG6 : Hid (W4.heap.size ≤ g6) := by rw [hg6]; exact HS45.out
  have HC6 : Hid (OwnCks W6 W4.heap.size (.slice A5 n5 c5) ls) := HC5.out.grows hb6
  have HO6 : Hid (W6.ownsRow W3.heap.size 5 1 (.slice Ay ny cy) ny (u8s x)) := (Fr.of_below hb6).own HO5.out (fun g hg hi => by have := (HO5.out.lt g hg).2; omega)
  have HB6 := Lib.hid (HB5.out.trans (hb6.mono HB5.out.size))
  have HYX6 : Hid (Byt W6 W3.heap.size Ax x) := HYX5.out.below (hb6.mono (Nat.le_trans HS34.out HS45.out))
  have HS6 : Hid (W5.heap.size ≤ W6.heap.size) := hb6.size
  clear hW6 hg6 hp6 hb6 HC5 HO5 HB5 HYX5
  go_wp2_with fail
  go_loopw [9, 38] (fun _ s wr => ∃ (k : Nat) (l : List UInt8), s = .int .i64 (k : Int) ∧ k ≤ ny ∧ ny = l.length ∧ Hid (wr.ownsRow W3.heap.size 5 1 (.slice Ay ny cy) ny (u8s l)) ∧ Hid (Below w.heap.size w wr) ∧ Hid (Blk wr g6 44 (pkV f t g (.slice A5 n5 c5))) ∧ Hid (OwnCks wr W4.heap.size (.slice A5 n5 c5) ls) ∧ Hid (Byt wr W3.heap.size Ax x) ∧ Hid (W5.heap.size ≤ wr.heap.size)) (fun _ s _ => ny - (intOf s).toNat)
  case atStart => exact ⟨0, x, rfl, Nat.zero_le _, HNY.out, HO6, HB6, HP6, HC6, HYX6, HS6⟩
  case round =>
    obtain ⟨k, l, rfl, hk, hnl, HOw, HBw, HPw, HCw, HYw, HSw⟩ := hrel
    by_cases hlt : k < ny
    · obtain ⟨gq, xq, l', hA, hc, hfz, hnl', hset⟩ := flip_at HOw.out hnl hlt
      have hgl := HLT.out gq (by rw [hA]; rfl)
      subst hA
      have hlti : (k : Int) < (ny : Int) := by omega
      have HHS := Lib.hid hset
      have hge : W3.heap.size ≤ gq ∧ gq < W4.heap.size := hgl
      have HNL := Lib.hid hnl'
      clear hset hnl hgl hnl'
      go_wp2_with fail
      obtain ⟨h1, h2⟩ := HHS.out _ rfl
      have hbb : Below W3.heap.size wr (wr.setCell ⟨gq, k, none⟩ (.int .u8 (bits .xor .u8 (xq.toNat : Int) 255))) := (Below.refl W3.heap.size wr).setCell (p := ⟨gq, k, none⟩) hge.1 _
      go_roundw
      case rel =>
        refine ⟨k + 1, l', by go_num, by omega, HNL.out, h1, HBw.out.setCell (p := ⟨gq, k, none⟩) (Nat.le_trans HWX.out hge.1) _, Blk.far HPw.out (p := ⟨gq, k, none⟩) (by have := HG6.out; show g6 ≠ gq; omega) _, HCw.out.fr h2.out (fun i hi _ => ?_), HYw.out.below hbb, by have := HSw.out; show _ ≤ _; simpa [World.setCell] using this⟩
        have e : i = gq := by have e2 : some i = some gq := hi; injection e2
        rw [e]; exact hge.2
      case measure => simp [intOf]; omega
    · obtain rfl : k = ny := by omega
      clear hlt HOw HO6 HB6 HP6 HC6 HYX6 HS6
      go_wp2_with fail
      have HYR : Hid (Byt wr wr.heap.size Ax x) := HYw.out.more (by have := HS34.out; have := HS45.out; have := HSw.out; omega)
      refine (rget_p HNX.out hxc hxm HYR.out).mono ?_
      rintro e W7 hd
      obtain ⟨kk', f', t', g', v7, ls', rfl, hb7, ho7, hw7⟩ := getpk_norm hd
      obtain ⟨rfl, rfl, rfl, rfl, rfl⟩ := getpk_one HW.out hw7
      obtain ⟨A7, c7, hv7, h7a, h7b⟩ := ho7.slice
      rw [← HN5.out] at hv7 h7a
      subst hv7
      have HB7 := Lib.hid (HBw.out.trans (hb7.mono HBw.out.size))
      have HP7 : Hid (Blk W7 g6 44 (pkV f' t' g' (.slice A5 n5 c5))) := HPw.out.below hb7 HPw.out.lt
      have HC7 := Lib.hid (HCw.out.grows hb7)
      have HD7 := Lib.hid ho7
      clear hd hw7 ho7 hb7 HPw HCw HYw HBw HYR HSw
      go_upto_region 16 with (refine wpList_store_row rfl 44 _ _ rfl W7.heap.size (pkV f' t' g' (.slice A7 n5 c7)) rfl rfl 44 _ (Blk.new W7 44 _) pk_info rfl (pk_one _ _ _ _ rfl) ?_)
      obtain ⟨W8, hW8, hp8, hb8⟩ := kept_pk W7 (pkV f' t' g' (.slice A7 n5 c7))
      obtain ⟨g8, hg8⟩ : ∃ g, g = W7.heap.size := ⟨_, rfl⟩
      rw [← hg8] at hp8
      rw [← hW8, ← hg8]
      have HB8 := Lib.hid (HB7.out.trans (hb8.mono HB7.out.size))
      have hp6 := HP7.out.below hb8 HP7.out.lt
      have HC8 := Lib.hid (HC7.out.grows hb8)
      have HD8 := Lib.hid (HD7.out.grows hb8)
      have x0 : W8.cell? ⟨g6, 0, none⟩ = some (.int .u16 (f' : Int)) := hp6.cell 0
      have x1 : W8.cell? ⟨g6, 1, none⟩ = some (.int .u16 (t' : Int)) := hp6.cell 1
      have x2 : W8.cell? ⟨g6, 2, none⟩ = some (.int .u32 (g' : Int)) := hp6.cell 2
      have x3 : W8.cell? ⟨g6, 3, none⟩ = some (.slice A5 n5 c5) := hp6.cell 3
      have y0 : W8.cell? ⟨g8, 0, none⟩ = some (.int .u16 (f' : Int)) := hp8.cell 0
      have y1 : W8.cell? ⟨g8, 1, none⟩ = some (.int .u16 (t' : Int)) := hp8.cell 1
      have y2 : W8.cell? ⟨g8, 2, none⟩ = some (.int .u32 (g' : Int)) := hp8.cell 2
      have y3 : W8.cell? ⟨g8, 3, none⟩ = some (.slice A7 n5 c7) := hp8.cell 3
      clear hW8 hg8 hp8 hb8 hp6 HP7 HC7 HD7 HB7
      go_wp2_with fail
      refine (rsameL_k HC8.out.cks HD8.out.cks (Nat.le_refl _) (Nat.le_refl _) HN5.out HN5.out HAL.out.1 (by have := HAL.out.2; rw [← HN5.out] at this; omega)).mono ?_
      rintro e W9 ⟨rfl, hb9⟩
      have HB9 := Lib.hid (HB8.out.trans (hb9.mono HB8.out.size))
      clear hb9
      go_wp2_with fail
      go_ret
      exact ⟨ret_bool (by simp), HB9.out⟩

/-! ### The row's step -/
set_option maxRecDepth 100000 in
theorem lifted (os : Os) (started : os.Started) (H : Type) (enc : TypeId × Value → H) :
    ReturnsInHanded {} Try.checked os 5 .any (Rows.packetGetsSpec.pre6 enc Try.prog Try.f5 Rows.packetGetsRow.domain false) (Rows.packetGetsSpec.post enc Try.prog Try.f5 false true false false) := by
  refine returnsInHanded_of_change (C := Try.checked) own started (by kernel_rfl) Try.func5
    (ChangeSpec.witness6 (enc := enc) (C := Try.checked) false ⟨#[], #[.slice none 0 0, .bool false], []⟩ 8 (by kernel_rfl) (by kernel_rfl) (by kernel_rfl) (by kernel_rfl)) ?_
  intro W base args ds gs before hval0 hW hcnd _
  have hval : ∀ (j : Nat) t v, Try.f5.params[j]? = some t → args[j]? = some v → Value.okWide Try.prog W .any base t v := hval0
  have hW' := hW
  obtain ⟨p, q, hA0, hV, rfl, hfz, hnd⟩ := hW
  have hA : DataW.TrodAll enc Try.prog W 0 (fun _ => true) true Try.f5.params.toList args.toList ds p := hA0
  rw [Try.params5] at hA hval
  obtain ⟨v0, vs0, d0, ds0, p0, q0, hargs, rfl, rfl, h0, r0⟩ := trodAll_cons hA
  obtain ⟨v1, vs1, d1, ds1, p1, q1, rfl, rfl, rfl, h1, r1⟩ := trodAll_cons r0
  obtain ⟨rfl, rfl, rfl⟩ := trodAll_nil r1
  obtain rfl : args = #[v0, v1] := by cases args; simp_all
  obtain ⟨rfl, rfl⟩ := trodVars_none hV
  obtain ⟨a0, len0, cap0, rfl⟩ := okWide_slice Try.underlying22 (hval 0 22 v0 rfl rfl)
  have k0 := h0
  have lt0 : ∀ x ∈ p0, x.block < W.heap.size := by obtain ⟨m, hm⟩ := k0; exact DataW.trod_lt m _ _ _ hm
  obtain ⟨z0, w0⟩ : ∃ zs, IsRow .u8 W a0 len0 cap0 zs := by
    obtain ⟨fuel, hf⟩ := h0
    rcases open_ints Try.underlying22 Try.underlying5 (by kernel_rfl) hf with ⟨hcs, _⟩ | ⟨x, l, c, zs, hcs, _, hl, hm, hz, _, hcell, hwz⟩
    · simp [Value.cells] at hcs
      obtain ⟨rfl, rfl, rfl⟩ := hcs
      exact ⟨[], .inl ⟨rfl, rfl, rfl, rfl⟩⟩
    · simp [Value.cells] at hcs
      obtain ⟨rfl, rfl, rfl⟩ := hcs
      exact ⟨zs, .inr ⟨_, rfl, hl, hm, by simpa using hz, hcell, hwz⟩⟩
  obtain ⟨a1, rfl, rfl, rfl⟩ := open_bool Try.underlying4 (hval 1 4 v1 rfl rfl) h1
  clear hA0 hval0
  refine (walk a0 len0 cap0 z0 a1 W w0).mono fun e W' ⟨he, bel⟩ => ?_
  subst he
  exact ⟨_, rfl, _, _, _, [], _, [], hW', trodAll_mk1 (shut_bool Try.underlying4 _), (trodAll_cons_mk (Below.trod laidOut (by kernel_rfl) (of_decide_eq_true (by kernel_rfl)) k0 bel lt0) (trodAll_cons_mk (shut_bool Try.underlying4 _) trodAll_mk0)), rfl, bel.frame _, fun h => by cases h⟩

theorem over : Rows.packetGetsRow.holds Try.pinned (OpenSpec.ofChange Rows.packetGetsSpec) :=
  OpenClaim.holds_of_wide 5 Try.f5 rfl rfl rfl rfl rfl rfl rfl ⟨rfl, rfl, rfl, rfl, rfl⟩ rfl rfl rfl rfl rfl (by kernel_rfl) Try.func5 (by kernel_rfl)
    (of_decide_eq_true (by kernel_rfl)) (by unfold Func.isWrapper; first | (rw [if_pos (by decide +kernel)]; kernel_rfl) | (rw [if_neg (by decide +kernel)]; exact ⟨rfl, rfl⟩))
    (fun os started H enc _ => lifted os started H enc)

theorem proved : Rows.PacketGetsSaid := over
#print axioms proved
end Go.Proofs.Ytpgklhecmafnbaa.packetGets
