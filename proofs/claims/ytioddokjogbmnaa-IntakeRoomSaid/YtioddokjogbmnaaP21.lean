/-
  Of the texts Libs, Jp5, Jp6, Jp7, Jp8, Jp9, Jp10: what the laws reach.
-/
import Derived.Shelf.SlGeneric
import Derived.Shelf.SlSortCmp.Whole1
import Derived.Shelf.Bytes.SlJoin
import Derived.Test.YtioddokjogbmnaaChecked
import Derived.Test.YtioddokjogbmnaaP20

namespace Go.Proofs
open Go.Shelf
def Try.sortL_ren : Go.Shelf.Ren := ⟨fun | 6 => 64 | 15 => 81 | 14 => 80 | 28 => 96 | 29 => 97 | 20 => 88 | 21 => 89 | 22 => 90 | 23 => 91 | 24 => 92 | 25 => 93 | 26 => 94 | 27 => 95 | 46 => 100 | 47 => 101 | 48 => 102 | 49 => 103 | 50 => 104 | 57 => 106 | n => n, fun | 22 => 36 | 24 => 33 | 25 => 127 | 3 => 3 | 39 => 30 | 0 => 0 | 53 => 33 | 55 => 158 | 4 => 4 | 46 => 151 | 45 => 150 | 50 => 155 | 5 => 5 | 9 => 9 | 66 => 161 | 70 => 165 | 76 => 167 | 77 => 168 | n => n, fun | n => n⟩
theorem Try.sortL : Go.Proofs.SlLaysF.n6 Try.prog Try.sortL_ren := {
  mixed := by kernel_rfl
  f6 := ⟨Try.f64.name, by decide, Try.func64.trans (congrArg some (by kernel_rfl))⟩
  f14 := ⟨Try.f80.name, by decide, Try.func80.trans (congrArg some (by kernel_rfl))⟩
  f15 := Try.func81.trans (congrArg some (by kernel_rfl))
  f20 := ⟨Try.f88.name, by decide, Try.func88.trans (congrArg some (by kernel_rfl))⟩
  f21 := ⟨Try.f89.name, by decide, Try.func89.trans (congrArg some (by kernel_rfl))⟩
  f22 := ⟨Try.f90.name, by decide, Try.func90.trans (congrArg some (by kernel_rfl))⟩
  f23 := ⟨Try.f91.name, by decide, Try.func91.trans (congrArg some (by kernel_rfl))⟩
  f24 := ⟨Try.f92.name, by decide, Try.func92.trans (congrArg some (by kernel_rfl))⟩
  f25 := ⟨Try.f93.name, by decide, Try.func93.trans (congrArg some (by kernel_rfl))⟩
  f26 := ⟨Try.f94.name, by decide, Try.func94.trans (congrArg some (by kernel_rfl))⟩
  f27 := ⟨Try.f95.name, by decide, Try.func95.trans (congrArg some (by kernel_rfl))⟩
  f28 := Try.func96.trans (congrArg some (by kernel_rfl))
  f29 := Try.func97.trans (congrArg some (by kernel_rfl))
  f46 := ⟨Try.f100.name, by decide, Try.func100.trans (congrArg some (by kernel_rfl))⟩
  f47 := Try.func101.trans (congrArg some (by kernel_rfl))
  f48 := Try.func102.trans (congrArg some (by kernel_rfl))
  f49 := ⟨Try.f103.name, by decide, Try.func103.trans (congrArg some (by kernel_rfl))⟩
  f50 := ⟨Try.f104.name, by decide, Try.func104.trans (congrArg some (by kernel_rfl))⟩
  f57 := ⟨Try.f106.name, by decide, Try.func106.trans (congrArg some (by kernel_rfl))⟩
  t0 := Try.underlying0
  a0 := Try.isAgg0
  z0 := Try.sizeOf0
  v0 := Try.zeroValue0
  t3 := Try.underlying3
  a3 := Try.isAgg3
  z3 := Try.sizeOf3
  v3 := Try.zeroValue3
  t4 := Try.underlying4
  a4 := Try.isAgg4
  z4 := Try.sizeOf4
  v4 := Try.zeroValue4
  t5 := Try.underlying5
  a5 := Try.isAgg5
  z5 := Try.sizeOf5
  v5 := Try.zeroValue5
  t9 := Try.underlying9
  a9 := Try.isAgg9
  z9 := Try.sizeOf9
  v9 := Try.zeroValue9
  t22 := Try.underlying36
  a22 := Try.isAgg36
  z22 := Try.sizeOf36
  v22 := Try.zeroValue36
  a24 := Try.isAgg33
  z24 := Try.sizeOf33
  t25 := Try.underlying127
  a25 := Try.isAgg127
  z25 := Try.sizeOf127
  v25 := Try.zeroValue127
  t39 := Try.underlying30
  a39 := Try.isAgg30
  z39 := Try.sizeOf30
  v39 := Try.zeroValue30
  t45 := Try.underlying150
  a45 := Try.isAgg150
  z45 := Try.sizeOf150
  v45 := Try.zeroValue150
  t46 := Try.underlying151
  a46 := Try.isAgg151
  z46 := Try.sizeOf151
  v46 := Try.zeroValue151
  t50 := Try.underlying155
  a50 := Try.isAgg155
  z50 := Try.sizeOf155
  v50 := Try.zeroValue155
  t53 := Try.underlying33
  a53 := Try.isAgg33
  z53 := Try.sizeOf33
  v53 := Try.zeroValue33
  t55 := Try.underlying158
  a55 := Try.isAgg158
  z55 := Try.sizeOf158
  v55 := Try.zeroValue158
  t66 := Try.underlying161
  a66 := Try.isAgg161
  z66 := Try.sizeOf161
  v66 := Try.zeroValue161
  t70 := Try.underlying165
  a70 := Try.isAgg165
  z70 := Try.sizeOf165
  v70 := Try.zeroValue165
  t76 := Try.underlying167
  a76 := Try.isAgg167
  z76 := Try.sizeOf167
  v76 := Try.zeroValue167
  t77 := Try.underlying168
  a77 := Try.isAgg168
  z77 := Try.sizeOf168
  v77 := Try.zeroValue168 }
def Try.joinL_ren : Go.Shelf.Ren := ⟨fun | 14 => 59 | 15 => 78 | n => n, fun | 26 => 22 | 22 => 39 | 3 => 3 | 4 => 4 | 0 => 0 | 9 => 9 | 20 => 20 | 5 => 5 | n => n, fun | n => n⟩
theorem Try.joinL : Go.Proofs.SlLaysJ.n14 Try.prog Try.joinL_ren := {
  mixed := by kernel_rfl
  f14 := Try.func59.trans (congrArg some (by kernel_rfl))
  f15 := Try.func78.trans (congrArg some (by kernel_rfl))
  t0 := Try.underlying0
  a0 := Try.isAgg0
  z0 := Try.sizeOf0
  v0 := Try.zeroValue0
  t3 := Try.underlying3
  a3 := Try.isAgg3
  z3 := Try.sizeOf3
  v3 := Try.zeroValue3
  t4 := Try.underlying4
  a4 := Try.isAgg4
  z4 := Try.sizeOf4
  v4 := Try.zeroValue4
  t9 := Try.underlying9
  a9 := Try.isAgg9
  z9 := Try.sizeOf9
  v9 := Try.zeroValue9
  t20 := Try.underlying20
  a20 := Try.isAgg20
  z20 := Try.sizeOf20
  v20 := Try.zeroValue20
  t22 := Try.underlying39
  a22 := Try.isAgg39
  z22 := Try.sizeOf39
  v22 := Try.zeroValue39
  t26 := Try.underlying22
  a26 := Try.isAgg22
  z26 := Try.sizeOf22
  v26 := Try.zeroValue22
  t5 := Try.underlying5
  z5 := Try.sizeOf5
  i5 := by kernel_rfl }
end Go.Proofs

set_option linter.unusedVariables false
set_option linter.unusedSimpArgs false
set_option maxRecDepth 20000
namespace Go.Proofs.Ytioddokjogbmnaa.Chk
open Go.ChangeShapes Go.WideShapes Go.ChangeAt Go.RowKit Go.Deep Go.Maps Go.Proofs.Ytioddokjogbmnaa.Words Go.Proofs.Ytioddokjogbmnaa.Oct Go.Proofs.Ytioddokjogbmnaa.Par Go.Proofs.Ytioddokjogbmnaa.Mx
theorem cell_add0 (w : World) (g i : Nat) : w.cell? ((⟨g, 0, none⟩ : Addr).add i) = w.cell? ⟨g, i, none⟩ := by
  unfold Addr.add
  split
  · rename_i e; rw [e]
  · simp
theorem holds_bytes {w : World} {B : Nat} {A : Option Addr} {l : List UInt8} {c : Nat} (h : Byt w B A l) : Lib.HoldsBytes w (.slice A l.length c) l := by
  refine ⟨A, c, rfl, fun e => ?_, fun a ha i x hx => ?_⟩
  · rcases Nat.eq_zero_or_pos l.length with h0 | h0
    · exact List.eq_nil_of_length_eq_zero h0
    · obtain ⟨ad, e2, _⟩ := h.2 h0
      rw [e] at e2; cases e2
  · have hi : i < l.length := (List.getElem?_eq_some_iff.1 hx).1
    obtain ⟨ad, e2, _, hc⟩ := h.2 (by omega)
    rw [ha] at e2
    injection e2 with e2
    subst e2
    exact hc i (.int .u8 (x.toNat : Int)) (by rw [u8s_get, hx]; rfl)
theorem fresh_byt {B : Nat} {w : World} {v : Value} {l : List UInt8} (h : Lib.FreshBytes B w v l) : ∃ A c, v = .slice A l.length c ∧ l.length ≤ c ∧ c ≤ 9223372036854775807 ∧ Byt w w.heap.size A l ∧ ∀ ad, A = some ad → B ≤ ad.block := by
  obtain ⟨g, cap, zs, rfl, hB, hlc, hcm, hz, hr, hb, hc, _⟩ := h
  refine ⟨_, cap, rfl, hlc, hcm, ⟨by simp [u8s_length], fun hn => ⟨_, rfl, ?_, fun j u hu => ?_⟩⟩, fun ad e => by injection e with e; rw [← e]; exact hB⟩
  · exact World.block_lt_of_cell? w _ (hc 0 (by omega))
  · have hj : j < l.length := by
      have := (List.getElem?_eq_some_iff.1 hu).1
      simpa [u8s_length] using this
    rw [cell_add0, hc j (by omega), ← hu, u8s_get, ← hb]
    unfold Lib.bytesOf
    rw [List.getElem?_map, List.getElem?_take, if_pos hj, List.getElem?_eq_getElem (by omega)]
    simp only [Option.map_some]
    have h1 := hr zs[j] (List.getElem_mem _)
    congr 2
    rw [List.getD_eq_getElem?_getD, List.getElem?_eq_getElem (by omega), Option.getD_some, UInt8.toNat_ofNat', Nat.mod_eq_of_lt (by omega)]
    omega
theorem join_flat (ls : List (List UInt8)) : Lib.join ls [] = ls.flatten := by
  cases ls with
  | nil => rfl
  | cons x r =>
    rw [Lib.join_cons]
    simp [Lib.joinTail]
theorem joinC : JoinC := by
  intro w g n c ls hn h1 hnc hp hz
  obtain ⟨vs, hvs⟩ : ∃ vs : List Value, vs = (List.range n).map fun i => (w.cell? ⟨g, i, none⟩).getD undef := ⟨_, rfl⟩
  have hlens : Lib.lens ls = ls.flatten.length := by unfold Lib.lens; rw [List.length_flatten]
  rcases Nat.lt_or_ge n 2 with h2 | h2
  · have hn1 : n = 1 := by omega
    subst hn1
    match ls, hn with
    | [l], _ =>
      obtain ⟨hne, Ab, cb, hc, hy⟩ := hp 0 l rfl
      have h0 : 0 < l.length := by cases l with | nil => exact absurd rfl hne | cons _ _ => simp
      obtain ⟨ad, rfl, _, hcc⟩ := hy.2 h0
      have hk := Any.bytes_Join_one Try.joinL g 0 c ad cb l (.slice none 0 0) w hc (fun i x hx => by
        exact hcc i (.int .u8 (x.toNat : Int)) (by rw [u8s_get, hx]; rfl)) h0 (by simp at hz; omega)
      refine hk.mono ?_
      rintro e w' ⟨v, rfl, hf, hb⟩
      obtain ⟨A, c', rfl, k1, k2, k3, k4⟩ := fresh_byt hf
      exact ⟨A, l.length, c', rfl, by show _ = _; simp, k1, k2, by show Byt _ _ _ _; simpa using k3, k4, hb⟩
  · have hP : Lib.PartsAt w ⟨g, 0, none⟩ vs ls := by
      refine ⟨by rw [hvs]; simp [hn], fun i v hv => ?_, fun i v l hv hl => ?_⟩
      · rw [hvs, List.getElem?_map] at hv
        have hi : i < n := by
          cases hr : (List.range n)[i]? with
          | none => rw [hr] at hv; cases hv
          | some x => have := (List.getElem?_eq_some_iff.1 hr).1; simpa using this
        rw [List.getElem?_range hi] at hv
        simp only [Option.map_some, Option.some.injEq] at hv
        obtain ⟨_, Ab, cb, hc, _⟩ := hp i (ls[i]'(by omega)) (List.getElem?_eq_getElem _)
        rw [cell_add0]
        rw [hc] at hv ⊢
        rw [← hv]
        rfl
      · have hi : i < ls.length := (List.getElem?_eq_some_iff.1 hl).1
        rw [hvs, List.getElem?_map, List.getElem?_range (by omega)] at hv
        simp only [Option.map_some, Option.some.injEq] at hv
        obtain ⟨_, Ab, cb, hc, hy⟩ := hp i l hl
        rw [hc] at hv
        rw [← hv]
        exact holds_bytes hy
    have hk := Any.bytes_Join_many Try.joinL g 0 n c vs ls (.slice none 0 0) [] w hn.symm h2 hP hnc ⟨none, 0, rfl, fun _ => rfl, fun a ha => by cases ha⟩ (by
      have : ls.length ≤ ls.flatten.length := by
        have := Jo.sum_le_mul (fun _ : List UInt8 => 1) 1 ls (fun _ _ => Nat.le_refl _)
        clear this
        have hall : ∀ l ∈ ls, 1 ≤ l.length := fun l hl => by
          obtain ⟨i, hi, e⟩ := List.mem_iff_getElem.1 hl
          have := (hp i l (by rw [List.getElem?_eq_getElem hi, e])).1
          cases l with | nil => exact absurd rfl this | cons _ _ => simp
        clear hp hn hvs hP hlens hz hnc
        induction ls with
        | nil => simp
        | cons x r ih =>
          have h3 := hall x List.mem_cons_self
          have h4 := ih (fun l hl => hall l (List.mem_cons_of_mem _ hl))
          simp only [List.flatten_cons, List.length_append, List.length_cons]
          omega
      omega) (by rw [hlens, List.length_nil, Nat.zero_mul]; omega)
    refine hk.mono ?_
    rintro e w' ⟨v, rfl, hf, hb⟩
    rw [join_flat] at hf
    obtain ⟨A, c', rfl, k1, k2, k3, k4⟩ := fresh_byt hf
    exact ⟨A, _, c', rfl, rfl, k1, k2, k3, k4, hb⟩
end Go.Proofs.Ytioddokjogbmnaa.Chk

set_option linter.unusedVariables false
set_option linter.unusedSimpArgs false
set_option maxRecDepth 20000
namespace Go.Proofs.Ytioddokjogbmnaa.Chk
open Go.ChangeShapes Go.WideShapes Go.ChangeAt Go.RowKit Go.Deep Go.Maps Go.Proofs.Ytioddokjogbmnaa.Words Go.Proofs.Ytioddokjogbmnaa.Oct Go.Proofs.Ytioddokjogbmnaa.Par Go.Proofs.Ytioddokjogbmnaa.Mx
def midN (inter : Bool) (x : Nat) : Nat := if inter = true then x else x % 65536
theorem number_any {w : World} {p : Nat} {inter : Bool} (h : w.cell? ⟨p, 0, none⟩ = some (.bool inter)) {x : Nat} (hx : x < 4294967296) :
    Calls Try.prog 28 #[jptr p, .int .u32 (x : Int)] w fun e w' => e = .returned (.int .u32 (midN inter x : Int)) ∧ w = w' := by
  cases inter
  · obtain ⟨y, hy⟩ : ∃ y, y = x % 65536 := ⟨_, rfl⟩
    have h1 : (x : Int) % 65536 = (y : Int) := by omega
    have h2 : (y : Int) % 4294967296 = (y : Int) := by omega
    have h3 : IntKind.u16.wrap (x : Int) = (y : Int) := by simp [IntKind.wrap, IntKind.bits, IntKind.signed]; omega
    have HY : Hid (midN false x = y) := by unfold midN Hid; rw [if_neg (by simp)]; exact hy.symm
    rw [HY.out]
    clear hy HY
    go_enter Try.func28, Try.ntmps28
    go_wp2
    go_ret
    exact ⟨rfl, rfl⟩
  · go_enter Try.func28, Try.ntmps28
    go_wp2
    go_ret
    exact ⟨rfl, rfl⟩
def ltB (a b n : Nat) : Bool := decide ((b + n - a) % n ≠ 0) && decide ((b + n - a) % n < n / 2)
theorem ltB_eq {inter : Bool} (a b : Nat) : ltB a b (Jo.modN inter) = true ↔ Jo.lessN inter a b := by
  unfold ltB Jo.lessN
  simp only [Bool.and_eq_true, decide_eq_true_eq]
  constructor
  · rintro ⟨h1, h2⟩
    exact ⟨by omega, h2⟩
  · rintro ⟨h1, h2⟩
    exact ⟨by omega, h2⟩
theorem sless_any (a b : Nat) (w : World) (ha : a < 4294967296) (hb : b < 4294967296) :
    Calls Try.prog 54 #[.int .u32 (a : Int), .int .u32 (b : Int)] w fun e w' => e = .returned (.bool (ltB a b 4294967296)) ∧ w = w' := by
  obtain ⟨d, hd⟩ : ∃ d, d = (b + 4294967296 - a) % 4294967296 := ⟨_, rfl⟩
  have hdc := dist_any a b w ha hb
  rw [← hd] at hdc
  have HL : Hid (ltB a b 4294967296 = (decide (d ≠ 0) && decide (d < 2147483648))) := by unfold ltB Hid; rw [← hd]
  rw [HL.out]
  clear HL hd
  by_cases h0 : d = 0
  · subst h0
    go_enter Try.func54, Try.ntmps54
    go_wp2_with (go_at_call 58; refine hdc.mono ?_; rintro e w' ⟨rfl, rfl⟩)
    go_ret
    exact ⟨rfl, rfl⟩
  · have h1 : ¬ ((d : Int) = 0) := by omega
    by_cases h2 : d < 2147483648
    · have h3 : (d : Int) < 2147483648 := by omega
      go_enter Try.func54, Try.ntmps54
      go_wp2_with (go_at_call 58; refine hdc.mono ?_; rintro e w' ⟨rfl, rfl⟩)
      go_ret
      exact ⟨ret_bool (by simp [h0, h2]), rfl⟩
    · have h3 : ¬ ((d : Int) < 2147483648) := by omega
      go_enter Try.func54, Try.ntmps54
      go_wp2_with (go_at_call 58; refine hdc.mono ?_; rintro e w' ⟨rfl, rfl⟩)
      go_ret
      exact ⟨ret_bool (by simp [h0, h2]; omega), rfl⟩
theorem sshort_any (a b : Nat) (w : World) (ha : a < 65536) (hb : b < 65536) :
    Calls Try.prog 79 #[.int .u16 (a : Int), .int .u16 (b : Int)] w fun e w' => e = .returned (.bool (ltB a b 65536)) ∧ w = w' := by
  obtain ⟨d, hd⟩ : ∃ d, d = (b + 65536 - a) % 65536 := ⟨_, rfl⟩
  have hw : IntKind.u16.wrap ((b : Int) - (a : Int)) = (d : Int) := by simp [IntKind.wrap, IntKind.bits, IntKind.signed]; omega
  have HL : Hid (ltB a b 65536 = (decide (d ≠ 0) && decide (d < 32768))) := by unfold ltB Hid; rw [← hd]
  rw [HL.out]
  clear HL hd
  by_cases h0 : d = 0
  · subst h0
    go_enter Try.func79, Try.ntmps79
    go_wp2
    go_ret
    exact ⟨rfl, rfl⟩
  · have h1 : ¬ ((d : Int) = 0) := by omega
    by_cases h2 : d < 32768
    · have h3 : (d : Int) < 32768 := by omega
      go_enter Try.func79, Try.ntmps79
      go_wp2
      go_ret
      exact ⟨ret_bool (by simp [h0, h2]), rfl⟩
    · have h3 : ¬ ((d : Int) < 32768) := by omega
      go_enter Try.func79, Try.ntmps79
      go_wp2
      go_ret
      exact ⟨ret_bool (by simp [h0, h2]), rfl⟩
def MidOk (inter : Bool) (x : Nat) : Prop := x < Jo.modN inter
theorem small32 {inter : Bool} {x : Nat} (h : MidOk inter x) : x < 4294967296 := by unfold MidOk Jo.modN at h; split at h <;> omega
theorem small16 {x : Nat} (h : MidOk false x) : x < 65536 := h
theorem mid_small (inter : Bool) {x : Nat} (hx : x < 4294967296) : MidOk inter (midN inter x) := by
  unfold MidOk midN Jo.modN
  cases inter <;> simp <;> omega
theorem less_any {w : World} {p : Nat} {inter : Bool} (h : w.cell? ⟨p, 0, none⟩ = some (.bool inter)) {a b : Nat} (ha : MidOk inter a) (hb : MidOk inter b) :
    Calls Try.prog 63 #[jptr p, .int .u32 (a : Int), .int .u32 (b : Int)] w fun e w' => e = .returned (.bool (ltB a b (Jo.modN inter))) ∧ w = w' := by
  cases inter
  · have ha := small16 ha
    have hb := small16 hb
    have ea : IntKind.u16.wrap (a : Int) = (a : Int) := by simp [IntKind.wrap, IntKind.bits, IntKind.signed]; omega
    have eb : IntKind.u16.wrap (b : Int) = (b : Int) := by simp [IntKind.wrap, IntKind.bits, IntKind.signed]; omega
    have hc := sshort_any a b w ha hb
    go_enter Try.func63, Try.ntmps63
    go_wp2_with (go_at_call 79; refine hc.mono ?_; rintro e w' ⟨rfl, rfl⟩)
    go_ret
    exact ⟨rfl, rfl⟩
  · have hc := sless_any a b w ha hb
    go_enter Try.func63, Try.ntmps63
    go_wp2_with (go_at_call 54; refine hc.mono ?_; rintro e w' ⟨rfl, rfl⟩)
    go_ret
    exact ⟨rfl, rfl⟩
def reachB (inter : Bool) (mid other : Nat) : Bool := decide (other = mid) || ltB other mid (Jo.modN inter)
theorem reaches_any {w : World} {p : Nat} {inter : Bool} (h : w.cell? ⟨p, 0, none⟩ = some (.bool inter)) {a b : Nat} (ha : MidOk inter a) (hb : MidOk inter b) :
    Calls Try.prog 39 #[jptr p, .int .u32 (a : Int), .int .u32 (b : Int)] w fun e w' => e = .returned (.bool (reachB inter a b)) ∧ w = w' := by
  have hc := less_any h hb ha
  unfold reachB
  by_cases e : b = a
  · subst e
    go_enter Try.func39, Try.ntmps39
    go_wp2
    go_ret
    exact ⟨ret_bool (by simp), rfl⟩
  · have h1 : ¬ ((b : Int) = (a : Int)) := by omega
    go_enter Try.func39, Try.ntmps39
    go_wp2_with (go_at_call 63; refine hc.mono ?_; rintro e w' ⟨rfl, rfl⟩)
    go_ret
    exact ⟨ret_bool (by simp [e, h1]), rfl⟩
end Go.Proofs.Ytioddokjogbmnaa.Chk

set_option linter.unusedVariables false
set_option linter.unusedSimpArgs false
set_option maxRecDepth 20000
namespace Go.Proofs.Ytioddokjogbmnaa.Chk
open Go.ChangeShapes Go.WideShapes Go.ChangeAt Go.RowKit Go.Deep Go.Maps Go.Proofs.Ytioddokjogbmnaa.Words Go.Proofs.Ytioddokjogbmnaa.Oct Go.Proofs.Ytioddokjogbmnaa.Par Go.Proofs.Ytioddokjogbmnaa.Mx
def extT (w w' : World) (T : Nat → Nat) (k : Nat) (i : Nat) : Nat := if i < w.heap.size then T i else if i < w'.heap.size then k else 0
structure Ext (w w' : World) (T T' : Nat → Nat) : Prop where
  old : ∀ i, i < w.heap.size → T' i = T i
  out : ∀ i, w'.heap.size ≤ i → T' i = 0
theorem extT_ext (w w' : World) (T : Nat → Nat) (k : Nat) (hs : w.heap.size ≤ w'.heap.size) : Ext w w' T (extT w w' T k) :=
  ⟨fun i hi => by unfold extT; rw [if_pos hi], fun i hi => by unfold extT; rw [if_neg (by omega), if_neg (by omega)]⟩
theorem extT_new {w w' : World} {T : Nat → Nat} {k i : Nat} (h1 : w.heap.size ≤ i) (h2 : i < w'.heap.size) : extT w w' T k i = k := by unfold extT; rw [if_neg (by omega), if_pos h2]
theorem Ext.trans {a b c : World} {T T' T'' : Nat → Nat} (h : Ext a b T T') (k : Ext b c T' T'') (hs : a.heap.size ≤ b.heap.size) : Ext a c T T'' := ⟨fun i hi => (k.old i (by omega)).trans (h.old i hi), k.out⟩
theorem Ext.refl {w : World} {T : Nat → Nat} (h : ∀ i, w.heap.size ≤ i → T i = 0) : Ext w w T T := ⟨fun _ _ => rfl, h⟩
/-- Nothing of the joiner's among what is new. -/
theorem Ext.same {w w' : World} {T : Nat → Nat} (h : ∀ i, w.heap.size ≤ i → T i = 0) (hs : w.heap.size ≤ w'.heap.size) : Ext w w' T T := ⟨fun _ _ => rfl, fun i hi => h i (by omega)⟩
/-- A body that is the joiner's own. -/
structure BodT (w : World) (T : Nat → Nat) (A : Option Addr) (cp : Nat) (l : List UInt8) : Prop where
  rd : Byt w w.heap.size A l
  le : l.length ≤ cp
  cap : cp ≤ 9223372036854775807
  own : ∀ ad, A = some ad → T ad.block = 5
theorem BodT.fr {S : Nat → Prop} {w w' : World} {T T' : Nat → Nat} {A : Option Addr} {cp : Nat} {l : List UInt8} (h : BodT w T A cp l) (hf : Fr S w w') (hS : ∀ i, i < w.heap.size → T i = 5 → ¬ S i) (he : ∀ i, i < w.heap.size → T' i = T i) (hne : l ≠ []) : BodT w' T' A cp l := by
  have h0 : 0 < l.length := by cases l with | nil => exact absurd rfl hne | cons _ _ => simp
  obtain ⟨ad, e, hlt, _⟩ := h.rd.2 h0
  refine ⟨(hf.byt h.rd (Nat.le_refl _) (fun a ha => ?_)).more hf.size, h.le, h.cap, fun a ha => ?_⟩
  · rw [e] at ha; injection ha with ha; subst ha
    exact hS _ hlt (h.own _ e)
  · rw [e] at ha; injection ha with ha; subst ha
    rw [he _ hlt]; exact h.own _ e
/-- A message in memory. -/
structure Mg where
  m : Msg
  A : Option Addr
  cp : Nat
def mgV (x : Mg) : Value := .agg (mCells x.m (.slice x.A x.m.body.length x.cp))
structure MgOk (w : World) (T : Nat → Nat) (x : Mg) : Prop where
  bod : BodT w T x.A x.cp x.m.body
  ne : x.m.body ≠ []
theorem MgOk.fr {S : Nat → Prop} {w w' : World} {T T' : Nat → Nat} {x : Mg} (h : MgOk w T x) (hf : Fr S w w') (hS : ∀ i, i < w.heap.size → T i = 5 → ¬ S i) (he : ∀ i, i < w.heap.size → T' i = T i) : MgOk w' T' x := ⟨h.bod.fr hf hS he h.ne, h.ne⟩
def JB (w : World) (p : Nat) (inter : Bool) (bl bo : Nat) (rv : Value) (h : Nat) : Prop := Blk w p 76 #[.bool inter, .map (some bl), .map (some bo), rv, .int .i64 (h : Int)]
section
variable {w w' : World} {p bl bo h h' : Nat} {inter : Bool} {rv rv' : Value} {S : Nat → Prop} {T T' : Nat → Nat}
theorem JB.c0 (k : JB w p inter bl bo rv h) : w.cell? ⟨p, 0, none⟩ = some (.bool inter) := Blk.cell k 0
theorem JB.c1 (k : JB w p inter bl bo rv h) : w.cell? ⟨p, 1, none⟩ = some (.map (some bl)) := Blk.cell k 1
theorem JB.c2 (k : JB w p inter bl bo rv h) : w.cell? ⟨p, 2, none⟩ = some (.map (some bo)) := Blk.cell k 2
theorem JB.c3 (k : JB w p inter bl bo rv h) : w.cell? ⟨p, 3, none⟩ = some rv := Blk.cell k 3
theorem JB.c4 (k : JB w p inter bl bo rv h) : w.cell? ⟨p, 4, none⟩ = some (.int .i64 (h : Int)) := Blk.cell k 4
theorem JB.fr (k : JB w p inter bl bo rv h) (hf : Fr S w w') (hp : ¬ S p) : JB w' p inter bl bo rv h := hf.blk k hp
theorem JB.ready (k : JB w p inter bl bo rv h) (v : Value) : JB (w.setCell ⟨p, 3, none⟩ v) p inter bl bo v h := Blk.set_ k 3 v
theorem JB.held (k : JB w p inter bl bo rv h) (n : Nat) : JB (w.setCell ⟨p, 4, none⟩ (.int .i64 (n : Int))) p inter bl bo rv n := Blk.set_ k 4 _
abbrev optr (b : Nat) : Value := .pointer (some ⟨b, 0, none⟩)
structure OrdAt (w : World) (T : Nat → Nat) (bo b wb st nx : Nat) (wait : List Jo.Ms) : Prop where
  tb : T b = 3
  twb : T wb = 3
  ne : wb ≠ bo
  blk : Blk w b 107 #[.int .u32 (nx : Int), .map (some wb)]
  ws : ∃ W : Nat → Option Mg, MapX u32X w wb (fun i => (W i).map mgV) ∧ (∀ i x, W i = some x → x.m.mid = i ∧ x.m.st = st ∧ msOf x.m ∈ wait ∧ MgOk w T x) ∧ ∀ m ∈ wait, m.st = st → ∃ x, W m.mid = some x ∧ msOf x.m = m
/-- The orders: Om: where a stream's lies, Wb: its map of what waits. -/
structure OrdR (w : World) (T : Nat → Nat) (bo : Nat) (inter : Bool) (Om : Nat → Option Nat) (Wb next : Nat → Nat) (wait : List Jo.Ms) : Prop where
  tbo : T bo = 3
  map : MapX u16X w bo (fun s => (Om s).map optr)
  ord : ∀ st b, Om st = some b → OrdAt w T bo b (Wb st) st (next st) wait
  none_ : ∀ st, Om st = none → next st = 0 ∧ ∀ m ∈ wait, m.st ≠ st
  inj : ∀ s s' b, Om s = some b → Om s' = some b → s = s'
  sep : ∀ s s' b b', Om s = some b → Om s' = some b' → Wb s = Wb s' → s = s'
  wok : ∀ m ∈ wait, m.lo = false ∧ MidOk inter m.mid ∧ m.st < 65536
  nx : ∀ st, MidOk inter (next st)
  wnd : wait.Pairwise (fun a b => ¬ (a.st = b.st ∧ a.mid = b.mid))
variable {Om : Nat → Option Nat} {Wb next : Nat → Nat} {wait : List Jo.Ms} {b wb st nx : Nat}
theorem OrdAt.fr (k : OrdAt w T bo b wb st nx wait) (hf : Fr S w w') (h3 : ¬ S b ∧ ¬ S wb) (h5 : ∀ i, i < w.heap.size → T i = 5 → ¬ S i) (he : ∀ i, i < w.heap.size → T' i = T i) : OrdAt w' T' bo b wb st nx wait := by
  obtain ⟨W, h1, h2, h4⟩ := k.ws
  exact ⟨by rw [he b k.blk.lt]; exact k.tb, by rw [he wb h1.lt]; exact k.twb, k.ne, hf.blk k.blk h3.1, W, h1.fr hf h3.2, fun i x hx => ⟨(h2 i x hx).1, (h2 i x hx).2.1, (h2 i x hx).2.2.1, (h2 i x hx).2.2.2.fr hf h5 he⟩, h4⟩
theorem OrdR.lt (k : OrdR w T bo inter Om Wb next wait) {st b : Nat} (h : Om st = some b) : b < w.heap.size := (k.ord st b h).blk.lt
theorem OrdR.wlt (k : OrdR w T bo inter Om Wb next wait) {st b : Nat} (h : Om st = some b) : Wb st < w.heap.size := by obtain ⟨W, h1, _⟩ := (k.ord st b h).ws; exact h1.lt
theorem OrdR.fr (k : OrdR w T bo inter Om Wb next wait) (hf : Fr S w w') (h3 : ∀ i, i < w.heap.size → T i = 3 → ¬ S i) (h5 : ∀ i, i < w.heap.size → T i = 5 → ¬ S i) (he : ∀ i, i < w.heap.size → T' i = T i) : OrdR w' T' bo inter Om Wb next wait :=
  ⟨by rw [he bo k.map.lt]; exact k.tbo, k.map.fr hf (h3 bo k.map.lt k.tbo), fun st b h => (k.ord st b h).fr hf ⟨h3 b (k.lt h) (k.ord st b h).tb, h3 _ (k.wlt h) (k.ord st b h).twb⟩ h5 he, k.none_, k.inj, k.sep, k.wok, k.nx, k.wnd⟩
theorem OrdR.dom (k : OrdR w T bo inter Om Wb next wait) {st b : Nat} (h : Om st = some b) : st < 65536 := by
  have := k.map.some_dom (x := st) (v := optr b) (by show (Om st).map optr = _; rw [h]; rfl)
  exact this
theorem order_ptr_zero (w : World) : (zeroValue 98).run Try.prog w = .ok (.pointer none) w := by kernel_rfl
theorem OrdR.look (k : OrdR w T bo inter Om Wb next wait) {st : Nat} (hst : st < 65536) :
    (Instr.lookup 73 (.map (some bo)) (.int .u16 (st : Int)) false).run Try.prog w = .ok (.pointer ((Om st).map fun b => ⟨b, 0, none⟩)) w := by
  have h1 := MapX.look k.map (t := 73) Try.underlying73 (order_ptr_zero w) (x := st) hst
  have e : (((Om st).map optr).getD (.pointer none)) = .pointer ((Om st).map fun b => ⟨b, 0, none⟩) := by cases Om st <;> rfl
  rw [e] at h1
  exact h1
/-- Blocks of orders are apart from maps of what waits. -/
theorem OrdR.ne (k : OrdR w T bo inter Om Wb next wait) {s s' b b' : Nat} (h : Om s = some b) (h' : Om s' = some b') : b ≠ Wb s' := fun e => by
  have h1 := (k.ord s b h).blk
  obtain ⟨W, ⟨⟨D, ⟨es, clock, hb, _⟩, _⟩, _⟩, _⟩ := (k.ord s' b' h').ws
  rw [← e] at hb
  unfold Blk at h1
  rw [h1] at hb
  cases hb
theorem OrdR.ne_bo (k : OrdR w T bo inter Om Wb next wait) {s b : Nat} (h : Om s = some b) : b ≠ bo := fun e => by
  have h1 := (k.ord s b h).blk
  obtain ⟨D, ⟨es, clock, hb, _⟩, _⟩ := k.map.ex
  rw [← e] at hb
  unfold Blk at h1
  rw [h1] at hb
  cases hb
end
end Go.Proofs.Ytioddokjogbmnaa.Chk

set_option linter.unusedVariables false
set_option linter.unusedSimpArgs false
set_option maxRecDepth 20000
namespace Go.Proofs.Ytioddokjogbmnaa.Chk
open Go.ChangeShapes Go.WideShapes Go.ChangeAt Go.RowKit Go.Deep Go.Maps Go.Proofs.Ytioddokjogbmnaa.Words Go.Proofs.Ytioddokjogbmnaa.Oct Go.Proofs.Ytioddokjogbmnaa.Par Go.Proofs.Ytioddokjogbmnaa.Mx
theorem run_append_room_at {P : Program} {w : World} (t ty e : TypeId) (i : TypeInfo) (ht : P.underlying t = some (.slice e)) (hi : P.info? e = some i)
    (g o sLen sCap : Nat) (cur : Array Value) (hg : w.heap[g]? = some (.cells cur e (0, 0)))
    (a : Addr) (m c : Nat) (news : List Value) (hl : news.length = m * i.size) (hnews : ∀ j u, news[j]? = some u → w.cell? (a.add j) = some u) (h1 : ∀ u ∈ news, u.oneCell' = true)
    (hroom : sLen + m ≤ sCap) (hfit : o + sLen * i.size + news.length ≤ cur.size) :
    (Builtin.append_ #[t, t] ty #[.slice (some ⟨g, o, none⟩) sLen sCap, .slice (some a) m c]).run P w =
      .ok (.slice (some ⟨g, o, none⟩) (sLen + m) sCap) (w.setRow g (cur.toList.take (o + sLen * i.size) ++ news ++ cur.toList.drop (o + sLen * i.size + news.length)).toArray) := by
  have hf := run_firstCells_some (P := P) w i.size m a m c news hl hnews
  have hst := run_storeCells_at P g (o + sLen * i.size) e news 0 cur w hg (by simpa using hfit) h1
  simp only [Nat.add_zero] at hst
  simp [Builtin.append_, run_underlying ht, sizeOf, typeInfo, hi, Builtin.lenOf, hroom, hf, Addr.add_lit, hst]
def mgCells (x : Mg) : List Value := [.int .u16 (x.m.st : Int), .bool x.m.lo, .int .u32 (x.m.mid : Int), .int .u32 (x.m.pp : Int), .slice x.A x.m.body.length x.cp]
theorem mgCells_len (x : Mg) : (mgCells x).length = 5 := rfl
theorem mgCells_one (x : Mg) : ∀ u ∈ mgCells x, u.oneCell' = true := fun u hu => by
  simp only [mgCells, List.mem_cons, List.not_mem_nil, or_false] at hu
  rcases hu with rfl | rfl | rfl | rfl | rfl <;> rfl
/-- Messages one behind the other in a row, from place o on. -/
def RowOf (cs : Array Value) (o : Nat) (xs : List Mg) : Prop := ∀ i x, xs[i]? = some x → ∀ j u, (mgCells x)[j]? = some u → cs[o + 5 * i + j]? = some u
def ReadyR (w : World) (T : Nat → Nat) (rv : Value) (xs : List Mg) : Prop :=
  (xs = [] ∧ rv = .slice none 0 0) ∨ ∃ g o c cs, rv = .slice (some ⟨g, o, none⟩) xs.length c ∧ xs ≠ [] ∧ Blk w g 43 cs ∧ T g = 4 ∧ o + 5 * c ≤ cs.size ∧ xs.length ≤ c ∧ c ≤ 9223372036854775807 ∧ RowOf cs o xs
section
variable {w w' : World} {T T' : Nat → Nat} {rv : Value} {xs : List Mg} {S : Nat → Prop}
theorem ReadyR.fr (h : ReadyR w T rv xs) (hf : Fr S w w') (h4 : ∀ i, i < w.heap.size → T i = 4 → ¬ S i) (he : ∀ i, i < w.heap.size → T' i = T i) : ReadyR w' T' rv xs := by
  rcases h with h | ⟨g, o, c, cs, h1, h2, h3, h4', h5, h6, h7, h8⟩
  · exact .inl h
  · exact .inr ⟨g, o, c, cs, h1, h2, hf.blk h3 (h4 g h3.lt h4'), by rw [he g h3.lt]; exact h4', h5, h6, h7, h8⟩
theorem ReadyR.form (h : ReadyR w T rv xs) : ∃ A c, rv = .slice A xs.length c ∧ xs.length ≤ c ∧ c ≤ 9223372036854775807 := by
  rcases h with ⟨rfl, rfl⟩ | ⟨g, o, c, cs, h1, h2, h3, h4', h5, h6, h7, h8⟩
  · exact ⟨none, 0, rfl, Nat.le_refl _, by omega⟩
  · exact ⟨_, c, h1, h6, h7⟩
theorem msg_info3 : (Try.prog.info? 43).map (fun i => (i.size, i.bytes)) = some (5, 40) := by kernel_rfl
theorem msg_zero5 : ((Try.prog.info? 43).bind fun i => i.zero.map fun z => z.cells.size) = some 5 := by kernel_rfl
theorem row_snoc {cs cs' : Array Value} {o : Nat} {x : Mg} (h : RowOf cs o xs) (h1 : ∀ k u, k < o + 5 * xs.length → cs[k]? = some u → cs'[k]? = some u) (h2 : ∀ j u, (mgCells x)[j]? = some u → cs'[o + 5 * xs.length + j]? = some u) : RowOf cs' o (xs ++ [x]) := fun i y hy j u hu => by
  have hj : j < 5 := by have := (List.getElem?_eq_some_iff.1 hu).1; rwa [mgCells_len] at this
  rcases Nat.lt_or_ge i xs.length with hi | hi
  · rw [List.getElem?_append_left hi] at hy
    exact h1 _ u (by omega) (h i y hy j u hu)
  · have hi2 : i = xs.length := by
      have := (List.getElem?_eq_some_iff.1 hy).1
      simp at this
      omega
    subst hi2
    rw [List.getElem?_append_right (Nat.le_refl _), Nat.sub_self] at hy
    simp only [List.getElem?_cons_zero, Option.some.injEq] at hy
    subst hy
    exact h2 j u hu
theorem ReadyR.append (h : ReadyR w T rv xs) (hl : xs.length ≤ 2000000001) {g1 : Nat} {x : Mg} (hx : Blk w g1 43 (mgCells x).toArray) (ty : TypeId) :
    ∃ v' w', (Builtin.append_ #[74, 74] ty #[rv, .slice (some ⟨g1, 0, none⟩) 1 1]).run Try.prog w = .ok v' w' ∧ ReadyR w' (extT w w' T 4) v' (xs ++ [x]) ∧ Fr (fun i => i < w.heap.size ∧ T i = 4) w w' := by
  obtain ⟨i0, hi0, hii⟩ := Option.map_eq_some_iff.1 msg_info3
  simp only [Prod.mk.injEq] at hii
  obtain ⟨his, hib⟩ := hii
  obtain ⟨z, hz, hzs⟩ : ∃ z, i0.zero = some z ∧ z.cells.size = 5 := by
    have := msg_zero5
    rw [hi0, Option.bind_some] at this
    cases hzz : i0.zero with
    | none => rw [hzz] at this; cases this
    | some z => rw [hzz] at this; simp at this; exact ⟨z, rfl, this⟩
  have hnews : ∀ j u, (mgCells x)[j]? = some u → w.cell? ((⟨g1, 0, none⟩ : Addr).add j) = some u := fun j u hu => by rw [hx.cellAdd]; simpa using hu
  have hne : xs ++ [x] ≠ [] := by simp
  rcases h with ⟨rfl, rfl⟩ | ⟨g, o, c, cs, rfl, h2, h3, h4', h5, h6, h7, h8⟩
  · have hr := run_append_nil (P := Try.prog) (w := w) 74 ty 43 i0 z Try.underlying74 hi0 hz ⟨g1, 0, none⟩ 1 1 (mgCells x) (by rw [mgCells_len, his]) hnews (by omega) (by omega) (by rw [hib]; omega)
    have hge := grownCap_ge w 1 0 43
    have hcm : grownCap w 1 0 43 ≤ maxLen := grownCap_le_maxLen w 1 0 _ (by unfold maxLen; omega)
    generalize grownCap w 1 0 43 = cap at hr hge hcm
    unfold maxLen at hcm
    refine ⟨_, _, hr, .inr ⟨w.heap.size, 0, cap, _, rfl, hne, (Blk.new w.drew _ _), ?_, ?_, hge, by omega, ?_⟩, ?_⟩
    · exact extT_new (Nat.le_refl _) (by simp)
    · rw [Array.size_append, size_zeroCells, hzs]
      simp only [List.size_toArray, mgCells_len]
      omega
    · refine row_snoc (xs := []) (cs := #[]) (fun i y hy => by simp at hy) (fun k u hk => by simp at hk) (fun j u hu => ?_)
      have hj : j < 5 := by have := (List.getElem?_eq_some_iff.1 hu).1; rwa [mgCells_len] at this
      simp only [List.length_nil, Nat.mul_zero, Nat.add_zero, Nat.zero_add]
      rw [Array.getElem?_append_left (by simp [mgCells_len]; omega)]
      simpa using hu
    · exact ((Fr.refl _ w).drew).alloc _
  · rcases Nat.lt_or_ge xs.length c with hc | hc
    · have hr := run_append_room_at (P := Try.prog) (w := w) 74 ty 43 i0 Try.underlying74 hi0 g o xs.length c cs h3 ⟨g1, 0, none⟩ 1 1 (mgCells x) (by rw [mgCells_len, his]) hnews (mgCells_one x) (by omega) (by rw [his, mgCells_len]; omega)
      rw [his, mgCells_len] at hr
      have hsz : ((cs.toList.take (o + xs.length * 5) ++ mgCells x ++ cs.toList.drop (o + xs.length * 5 + 5)).toArray).size = cs.size := by
        simp only [List.size_toArray, List.length_append, List.length_take, List.length_drop, Array.length_toList, mgCells_len]
        omega
      refine ⟨_, _, hr, .inr ⟨g, o, c, _, by rw [List.length_append]; rfl, hne, setRow_any h3, ?_, by rw [hsz]; exact h5, by rw [List.length_append]; show xs.length + 1 ≤ c; omega, h7, ?_⟩, (setRow_frM w g _).mono (fun i hi e => ⟨hi, by rw [e]; exact h4'⟩)⟩
      · unfold extT
        rw [if_pos h3.lt]
        exact h4'
      · refine row_snoc h8 (fun k u hk hu => ?_) (fun j u hu => ?_)
        · have htl : (cs.toList.take (o + xs.length * 5)).length = o + xs.length * 5 := by have := Array.length_toList (xs := cs); rw [List.length_take]; omega
          rw [List.getElem?_toArray, List.append_assoc, List.getElem?_append_left (by rw [htl]; omega), List.getElem?_take, if_pos (by omega)]
          simpa using hu
        · have hj : j < 5 := by have := (List.getElem?_eq_some_iff.1 hu).1; rwa [mgCells_len] at this
          have htl : (cs.toList.take (o + xs.length * 5)).length = o + xs.length * 5 := by have := Array.length_toList (xs := cs); rw [List.length_take]; omega
          rw [List.getElem?_toArray, List.append_assoc, List.getElem?_append_right (by rw [htl]; omega), htl, List.getElem?_append_left (by rw [mgCells_len]; omega)]
          rw [← hu]
          congr 1
          omega
    · have hc2 : c = xs.length := by omega
      subst hc2
      have holds : ∀ j v, ((cs.toList.drop o).take (xs.length * 5))[j]? = some v → w.cell? ((⟨g, o, none⟩ : Addr).add j) = some v := fun j v hv => by
        rw [List.getElem?_take] at hv
        split at hv
        · rw [List.getElem?_drop] at hv
          rw [Addr.add_lit]
          have := h3.cell (o + j)
          rw [this]
          simpa using hv
        · cases hv
      have hlo : ((cs.toList.drop o).take (xs.length * 5)).length = xs.length * i0.size := by
        have := Array.length_toList (xs := cs)
        rw [his, List.length_take, List.length_drop]
        omega
      have hr := run_append_grow (P := Try.prog) (w := w) 74 ty 43 i0 z Try.underlying74 hi0 hz ⟨g, o, none⟩ xs.length xs.length _ hlo holds ⟨g1, 0, none⟩ 1 1 (mgCells x) (by rw [mgCells_len, his]) hnews (by omega) (by omega) (growslice_fits (by omega) (by rw [hib]; omega))
      have hge := grownCap_ge w (xs.length + 1) xs.length 43
      have hcm : grownCap w (xs.length + 1) xs.length 43 ≤ maxLen := grownCap_le_maxLen w _ _ _ (by unfold maxLen; omega)
      generalize grownCap w (xs.length + 1) xs.length 43 = cap at hr hge hcm
      unfold maxLen at hcm
      rw [his] at hlo
      refine ⟨_, _, hr, .inr ⟨w.heap.size, 0, cap, _, by rw [List.length_append]; rfl, hne, (Blk.new w.drew _ _), ?_, ?_, by rw [List.length_append]; exact hge, by omega, ?_⟩, ?_⟩
      · exact extT_new (Nat.le_refl _) (by simp)
      · rw [Array.size_append, Array.size_append, size_zeroCells, hzs, List.size_toArray, List.size_toArray, hlo, mgCells_len]
        omega
      · refine row_snoc (cs := ((cs.toList.drop o).take (xs.length * 5)).toArray) (fun i y hy j u hu => ?_) (fun k u hk hu => ?_) (fun j u hu => ?_)
        · have hi : i < xs.length := (List.getElem?_eq_some_iff.1 hy).1
          have hj : j < 5 := by have := (List.getElem?_eq_some_iff.1 hu).1; rwa [mgCells_len] at this
          rw [List.getElem?_toArray, List.getElem?_take, if_pos (by omega), List.getElem?_drop]
          have := h8 i y hy j u hu
          rw [show o + (0 + 5 * i + j) = o + 5 * i + j by omega]
          simpa using this
        · have hk2 := (Array.getElem?_eq_some_iff.1 hu).1
          rw [Array.append_assoc, Array.getElem?_append_left hk2]
          exact hu
        · have hj : j < 5 := by have := (List.getElem?_eq_some_iff.1 hu).1; rwa [mgCells_len] at this
          rw [Array.append_assoc, Array.getElem?_append_right (by simp only [List.size_toArray, hlo]; omega), Array.getElem?_append_left (by simp only [List.size_toArray, mgCells_len, hlo]; omega)]
          rw [← hu, List.getElem?_toArray]
          congr 1
          simp only [List.size_toArray, hlo]
          omega
      · exact ((Fr.refl _ w).drew).alloc _
end
end Go.Proofs.Ytioddokjogbmnaa.Chk

set_option linter.unusedVariables false
set_option linter.unusedSimpArgs false
set_option maxRecDepth 20000
namespace Go.Proofs.Ytioddokjogbmnaa.Chk
open Go.ChangeShapes Go.WideShapes Go.ChangeAt Go.RowKit Go.Deep Go.Maps Go.Proofs.Ytioddokjogbmnaa.Words Go.Proofs.Ytioddokjogbmnaa.Oct Go.Proofs.Ytioddokjogbmnaa.Par Go.Proofs.Ytioddokjogbmnaa.Mx
/-- The joiner but for its fragments. -/
structure JO (w : World) (T : Nat → Nat) (p : Nat) (inter : Bool) (bl bo : Nat) (rv : Value) (h : Nat) (xs : List Mg) (Om : Nat → Option Nat) (Wb next : Nat → Nat) (wait : List Jo.Ms) : Prop where
  jb : JB w p inter bl bo rv h
  tp : T p = 1
  ord : OrdR w T bo inter Om Wb next wait
  rdy : ReadyR w T rv xs
  rok : ∀ x ∈ xs, MgOk w T x
  out : ∀ i, w.heap.size ≤ i → T i = 0
section
variable {w w' : World} {T T' : Nat → Nat} {p bl bo h : Nat} {inter : Bool} {rv : Value} {xs : List Mg} {Om : Nat → Option Nat} {Wb next : Nat → Nat} {wait : List Jo.Ms} {S : Nat → Prop}
/-- What doesn't touch the joiner's own. -/
theorem JO.fr (k : JO w T p inter bl bo rv h xs Om Wb next wait) (hf : Fr S w w') (hS : ∀ i, i < w.heap.size → T i = 1 ∨ T i = 3 ∨ T i = 4 ∨ T i = 5 → ¬ S i) (he : Ext w w' T T') : JO w' T' p inter bl bo rv h xs Om Wb next wait :=
  ⟨k.jb.fr hf (hS p (Blk.lt k.jb) (.inl k.tp)), by rw [he.old p (Blk.lt k.jb)]; exact k.tp, k.ord.fr hf (fun i hi e => hS i hi (.inr (.inl e))) (fun i hi e => hS i hi (.inr (.inr (.inr e)))) he.old, k.rdy.fr hf (fun i hi e => hS i hi (.inr (.inr (.inl e)))) he.old,
    fun x hx => (k.rok x hx).fr hf (fun i hi e => hS i hi (.inr (.inr (.inr e)))) he.old, he.out⟩
theorem JO.grows (k : JO w T p inter bl bo rv h xs Om Wb next wait) (hb : Below w.heap.size w w') : JO w' T p inter bl bo rv h xs Om Wb next wait :=
  k.fr (Fr.of_below hb) (fun i hi _ e => by have e' : w.heap.size ≤ i := e; omega) (Ext.same k.out hb.size)
theorem passed_any (k : JO w T p inter bl bo rv h xs Om Wb next wait) {st mid : Nat} (hst : st < 65536) (hm : MidOk inter mid) :
    Calls Try.prog 40 #[jptr p, .int .u16 (st : Int), .int .u32 (mid : Int)] w fun e w' => e = .returned (.bool (ltB mid (next st) (Jo.modN inter))) ∧ w = w' := by
  have c2 := k.jb.c2
  have hl := k.ord.look hst
  have hlt := less_any k.jb.c0 hm (k.ord.nx st)
  cases ho : Om st with
  | none =>
    have h0 := (k.ord.none_ st ho).1
    rw [ho] at hl
    simp only [Option.map_none] at hl
    rw [h0] at hlt ⊢
    clear k h0 ho
    go_enter Try.func40, Try.ntmps40
    go_wp2_with (go_at_call 63; refine hlt.mono ?_; rintro e w' ⟨rfl, rfl⟩)
    go_ret
    exact ⟨rfl, rfl⟩
  | some b =>
    rw [ho] at hl
    simp only [Option.map_some] at hl
    have cb := (k.ord.ord st b ho).blk.cell 0
    simp only [List.getElem?_toArray, List.getElem?_cons_zero] at cb
    obtain ⟨nx, hnx⟩ : ∃ nx, nx = next st := ⟨_, rfl⟩
    rw [← hnx] at cb hlt ⊢
    clear k hnx ho
    go_enter Try.func40, Try.ntmps40
    go_wp2_with (go_at_call 63; refine hlt.mono ?_; rintro e w' ⟨rfl, rfl⟩)
    go_ret
    exact ⟨rfl, rfl⟩
theorem OrdR.made (k : OrdR w T bo inter Om Wb next wait) (hT : ∀ i, w.heap.size ≤ i → T i = 0) {st : Nat} (hst : st < 65536) (ho : Om st = none) {w1 : World}
    (hm : MapX u16X w1 bo (putF (fun s => (Om s).map optr) st (optr (w.heap.size + 1)))) (ht : ((w.alloc (.map #[] 0)).alloc (.cells #[.int .u32 0, .map (some w.heap.size)] 107)).mapTurned w1 bo) :
    OrdR w1 (extT w w1 T 3) bo inter (fun s => if s = st then some (w.heap.size + 1) else Om s) (fun s => if s = st then w.heap.size else Wb s) next wait ∧ Fr (fun i => i < w.heap.size ∧ T i = 3) w w1 := by
  have hbo := k.map.lt
  have hf0 : Fr (fun i => i = bo) w w1 := (((Fr.refl _ w).alloc _).alloc _).grown ht.grown (fun g hg => by injection hg with hg; exact .inl hg.symm)
  have hs1 : w1.heap.size = w.heap.size + 2 := by
    obtain ⟨es, clock, es', clock', _, rfl⟩ := ht
    simp [ChangeMaps.setBlock]
  have hold : ∀ i, i < w.heap.size → extT w w1 T 3 i = T i := fun i hi => by unfold extT; rw [if_pos hi]
  have hnew : extT w w1 T 3 w.heap.size = 3 ∧ extT w w1 T 3 (w.heap.size + 1) = 3 := ⟨extT_new (Nat.le_refl _) (by omega), extT_new (by omega) (by omega)⟩
  have hg := ht.grown
  have hb1 : Blk w1 (w.heap.size + 1) 107 #[.int .u32 0, .map (some w.heap.size)] := by
    have h1 := Blk.new (w.alloc (.map #[] 0)) 107 #[.int .u32 0, .map (some w.heap.size)]
    rw [World.size_alloc] at h1
    exact h1.grown hg (by simp; omega)
  have hw1 : MapX u32X w1 w.heap.size (fun _ => none) := by
    have h1 := ((MapX.new u32X w).fr ((Fr.refl (fun _ => False) _).alloc (.cells #[.int .u32 0, .map (some w.heap.size)] 107)) (fun hx => hx))
    exact h1.fr (Fr.of_grown hg) (by simp; omega)
  refine ⟨⟨by rw [hold bo hbo]; exact k.tbo, hm.as_ (fun s => ?_), fun s b hs => ?_, fun s hs => ?_, fun s s' b hs hs' => ?_, fun s s' b b' hs hs' e => ?_, k.wok, k.nx, k.wnd⟩, hf0.mono (fun i hi e => ⟨hi, by rw [e]; exact k.tbo⟩)⟩
  · unfold putF
    by_cases e : s = st
    · rw [if_pos e, if_pos e]; rfl
    · rw [if_neg e, if_neg e]
  · by_cases e : s = st
    · subst e
      rw [if_pos rfl] at hs
      injection hs with hs
      subst hs
      have h0 := (k.none_ s ho)
      rw [if_pos rfl, h0.1]
      exact ⟨hnew.2, hnew.1, by omega, hb1, fun _ => none, hw1, (fun i x hx => by cases hx), fun m hm hms => absurd hms (h0.2 m hm)⟩
    · rw [if_neg e] at hs
      rw [if_neg e]
      exact (k.ord s b hs).fr hf0 ⟨fun e' => k.ne_bo hs e', fun e' => (k.ord s b hs).ne e'⟩ (fun i hi h5 e' => by rw [e', k.tbo] at h5; cases h5) hold
  · by_cases e : s = st
    · rw [if_pos e] at hs; cases hs
    · rw [if_neg e] at hs; exact k.none_ s hs
  · by_cases e : s = st
    · by_cases e' : s' = st
      · rw [e, e']
      · rw [if_pos e] at hs; rw [if_neg e'] at hs'
        injection hs with hs
        have := k.lt hs'
        omega
    · by_cases e' : s' = st
      · rw [if_neg e] at hs; rw [if_pos e'] at hs'
        injection hs' with hs'
        have := k.lt hs
        omega
      · rw [if_neg e] at hs; rw [if_neg e'] at hs'
        exact k.inj s s' b hs hs'
  · by_cases e1 : s = st
    · by_cases e2 : s' = st
      · rw [e1, e2]
      · rw [if_neg e2] at hs'
        rw [if_pos e1, if_neg e2] at e
        have := k.wlt hs'
        omega
    · by_cases e2 : s' = st
      · rw [if_neg e1] at hs
        rw [if_neg e1, if_pos e2] at e
        have := k.wlt hs
        omega
      · rw [if_neg e1] at hs; rw [if_neg e2] at hs'
        rw [if_neg e1, if_neg e2] at e
        exact k.sep s s' b b' hs hs' e
theorem order_built (g : Nat) : Try.prog.built 107 [(1, .map (some g))] = some #[.int .u32 0, .map (some g)] := by kernel_rfl
set_option maxHeartbeats 1000000 in
theorem order_any (k : JO w T p inter bl bo rv h xs Om Wb next wait) {st : Nat} (hst : st < 65536) :
    Calls Try.prog 42 #[jptr p, .int .u16 (st : Int)] w fun e w' => ∃ b T' Om' Wb', e = .returned (optr b) ∧ Om' st = some b ∧ JO w' T' p inter bl bo rv h xs Om' Wb' next wait ∧ Fr (fun i => i < w.heap.size ∧ T i = 3) w w' ∧ Ext w w' T T' := by
  have c2 := k.jb.c2
  have hl := k.ord.look hst
  have HK := Lib.hid k
  cases ho : Om st with
  | none =>
    rw [ho] at hl
    simp only [Option.map_none] at hl
    have HO := Lib.hid ho
    have hbo := k.ord.map.lt
    have hm1 : MapX u16X ((w.alloc (.map #[] 0)).alloc (.cells #[.int .u32 0, .map (some w.heap.size)] 107)) bo (fun s => (Om s).map optr) := (k.ord.map.fr ((Fr.refl (fun _ => False) w).alloc _) (fun hx => hx)).fr ((Fr.refl (fun _ => False) _).alloc _) (fun hx => hx)
    obtain ⟨w1, hrun, hm2, ht2⟩ := hm1.put (t := 73) Try.underlying73 (x := st) hst (optr (w.heap.size + 1))
    have HM := Lib.hid hm2
    have HT := Lib.hid ht2
    have c2' : ((w.alloc (.map #[] 0)).alloc (.cells #[.int .u32 0, .map (some w.heap.size)] 107)).cell? ⟨p, 2, none⟩ = some (.map (some bo)) := (((k.jb.fr ((Fr.refl (fun _ => False) w).alloc _) (fun hx => hx)).fr ((Fr.refl (fun _ => False) _).alloc _) (fun hx => hx))).c2
    have hrun2 : (Instr.mapUpdate 73 (.map (some bo)) (.int .u16 (st : Int)) (optr (w.heap.size + 1))).run Try.prog ((w.alloc (.map #[] 0)).alloc (.cells #[.int .u32 0, .map (some w.heap.size)] 107)) = .ok () w1 := hrun
    clear k ho hm1 hm2 ht2 hbo hrun
    have hmm := @run_makeMap Try.prog
    go_enter Try.func42, Try.ntmps42
    go_wp2_with (refine wpList_build_as rfl 107 _ rfl _ (order_built _) ?_)
    go_ret
    obtain ⟨h1, h2⟩ := HK.out.ord.made HK.out.out hst HO.out HM.out HT.out
    have hs : w.heap.size ≤ w1.heap.size := h2.size
    refine ⟨_, extT w w1 T 3, (fun s => if s = st then some (w.heap.size + 1) else Om s), (fun s => if s = st then w.heap.size else Wb s), rfl, if_pos rfl, ?_, h2, extT_ext _ _ _ _ hs⟩
    have he := extT_ext w w1 T 3 hs
    exact ⟨HK.out.jb.fr h2 (fun hx => by have := hx.2; rw [HK.out.tp] at this; cases this), by rw [he.old p (Blk.lt HK.out.jb)]; exact HK.out.tp, h1, HK.out.rdy.fr h2 (fun i hi e hx => by have := hx.2; rw [e] at this; cases this) he.old, fun x hx => (HK.out.rok x hx).fr h2 (fun i hi e hy => by have := hy.2; rw [e] at this; cases this) he.old, he.out⟩
  | some b =>
    rw [ho] at hl
    simp only [Option.map_some] at hl
    have HO := Lib.hid ho
    clear k ho
    go_enter Try.func42, Try.ntmps42
    go_wp2
    go_ret
    exact ⟨b, T, Om, Wb, rfl, HO.out, HK.out, Fr.refl _ _, Ext.refl HK.out.out⟩
set_option maxHeartbeats 1000000 in
theorem formed_any {cs : Array Value} {c : Ck} {Hg Hd' Hs Hp Hb : Hd} (hc : Cells cs c Hg Hd' Hs Hp Hb) (c0 : w.cell? ⟨p, 0, none⟩ = some (.bool inter)) (hk : c.kind = (if inter = true then 64 else 0)) (hl : c.body.length ≤ 2000000000) :
    Calls Try.prog 29 #[jptr p, .agg cs] w fun e w' => e = .returned (.bool (decide (c.body ≠ []) && (!inter || (decide (c.bg = decide (c.fr = 0)) && decide (c.fr ≤ 65535))))) ∧ Below w.heap.size w w' := by
  have e0 := hc.c0
  have e1 := hc.c1
  have e9 := hc.c9
  have e18 := hc.c18
  have hp := World.block_lt_of_cell? w _ c0
  obtain ⟨n, hn⟩ : ∃ n, n = c.body.length := ⟨_, rfl⟩
  rw [← hn] at e18 hl
  have HNE : Hid (decide (c.body ≠ []) = decide (n ≠ 0)) := by
    unfold Hid
    refine decide_eq_decide.2 ?_
    rw [hn]
    cases c.body with
    | nil => simp
    | cons _ _ => simp
  obtain ⟨fr, hfr⟩ : ∃ fr, fr = c.fr := ⟨_, rfl⟩
  obtain ⟨bg, hbg⟩ : ∃ bg, bg = c.bg := ⟨_, rfl⟩
  rw [← hfr] at e9
  rw [← hbg] at e1
  rw [hk] at e0
  rw [← hfr, ← hbg, HNE.out]
  have hw1 : ∀ i u, cs[i]? = some u → (w.alloc (.cells cs 41)).cell? ⟨w.heap.size, i, none⟩ = some u := fun i u hu => ((Blk.new w 41 cs).cell i).trans hu
  have f0 := hw1 0 _ e0
  have f1 := hw1 1 _ e1
  have f9 := hw1 9 _ e9
  have f18 := hw1 18 _ e18
  have g0 : (w.alloc (.cells cs 41)).cell? ⟨p, 0, none⟩ = some (.bool inter) := by rw [World.cell?_alloc_lt w _ _ hp]; exact c0
  have HB := Lib.hid (below_one w (.cells cs 41))
  clear hc e0 e1 e9 e18 hw1 hk HNE hn hfr hbg c0 hp
  go_enter Try.func29, Try.ntmps29
  go_upto_region 1 with (fail)
  obtain ⟨W1, hW1⟩ : ∃ W1, W1 = w.alloc (.cells cs 41) := ⟨_, rfl⟩
  obtain ⟨g, hg⟩ : ∃ g, g = w.heap.size := ⟨_, rfl⟩
  rw [← hW1] at f0 f1 f9 f18 g0 HB ⊢
  rw [← hg] at f0 f1 f9 f18 ⊢
  have HB2 : Hid (Below w.heap.size w W1) := HB.out
  clear hW1 hg HB
  by_cases hn0 : n = 0
  · subst hn0
    go_wp2
    go_ret
    exact ⟨rfl, HB2.out⟩
  · have hn1 : ((n : Int) == 0) = false := by simp; omega
    have hn2 : ¬ ((n : Int) = 0) := by omega
    cases inter
    · simp only [Bool.false_eq_true, if_false] at f0
      go_wp2
      go_ret
      exact ⟨ret_bool (by simp [hn0]), HB2.out⟩
    · simp only [if_true] at f0
      by_cases h1 : bg = decide (fr = 0)
      · have h1' : (bg == ((fr : Int) == 0)) = true := by rw [h1]; simp [nat_beq]; exact decide_eq_decide.2 (by omega)
        by_cases h2 : fr ≤ 65535
        · have h2' : (fr : Int) ≤ 65535 := by omega
          go_wp2
          all_goals
            go_ret
            refine ⟨ret_bool ?_, HB2.out⟩
            simp_all
            done
        · have h2' : ¬ (fr : Int) ≤ 65535 := by omega
          go_wp2
          all_goals
            go_ret
            refine ⟨ret_bool ?_, HB2.out⟩
            simp_all
            done
      · have h1' : (bg == ((fr : Int) == 0)) = false := by
          cases bg <;> simp at h1 ⊢ <;> omega
        go_wp2
        all_goals
          go_ret
          refine ⟨ret_bool ?_, HB2.out⟩
          simp_all
          done
end
end Go.Proofs.Ytioddokjogbmnaa.Chk

set_option linter.unusedVariables false
set_option linter.unusedSimpArgs false
set_option maxRecDepth 20000
namespace Go.Proofs.Ytioddokjogbmnaa.Chk
open Go.ChangeShapes Go.WideShapes Go.ChangeAt Go.RowKit Go.Deep Go.Maps Go.Proofs.Ytioddokjogbmnaa.Words Go.Proofs.Ytioddokjogbmnaa.Oct Go.Proofs.Ytioddokjogbmnaa.Par Go.Proofs.Ytioddokjogbmnaa.Mx
section
variable {w w' : World} {T T' : Nat → Nat} {p bl bo h : Nat} {inter : Bool} {rv : Value} {xs : List Mg} {Om : Nat → Option Nat} {Wb next : Nat → Nat} {wait : List Jo.Ms} {S : Nat → Prop}
def waitB (wait : List Jo.Ms) (st mid : Nat) : Bool := wait.any fun m => decide (m.st = st ∧ m.mid = mid)
theorem waitB_iff {st mid : Nat} : waitB wait st mid = true ↔ ∃ m ∈ wait, m.st = st ∧ m.mid = mid := by
  unfold waitB
  rw [List.any_eq_true]
  simp
theorem msg_zero (w : World) : (zeroValue 43).run Try.prog w = .ok (.agg #[.int .u16 0, .bool false, .int .u32 0, .int .u32 0, .slice none 0 0]) w := by kernel_rfl
def mg0 : Mg := ⟨⟨0, false, 0, 0, []⟩, none, 0⟩
/-- A stream's map of what waits, looked up. -/
theorem OrdAt.look {b wb st nx : Nat} (k : OrdAt w T bo b wb st nx wait) {mid : Nat} (hm : mid < 4294967296) :
    ∃ x : Mg, (∀ n, (Instr.lookup 105 (.map (some wb)) (.int .u32 (mid : Int)) true).run Try.prog (w.drewN n) = .ok (.tuple #[mgV x, .bool (waitB wait st mid)]) (w.drewN n)) ∧
      (waitB wait st mid = true → x.m.mid = mid ∧ x.m.st = st ∧ msOf x.m ∈ wait ∧ MgOk w T x) := by
  obtain ⟨W, h1, h2, h3⟩ := k.ws
  have h4 := fun n => MapX.look_ok (h1.drewN n) (t := 105) Try.underlying105 (msg_zero _) (x := mid) hm
  cases hw : W mid with
  | none =>
    have e : waitB wait st mid = false := by
      cases hb : waitB wait st mid with
      | false => rfl
      | true =>
        obtain ⟨m, h5, h6, h7⟩ := waitB_iff.1 hb
        obtain ⟨x, h8, _⟩ := h3 m h5 h6
        rw [h7, hw] at h8; cases h8
    refine ⟨mg0, ?_, fun hx => by rw [e] at hx; cases hx⟩
    rw [e]
    simp only [hw, Option.map_none, Option.getD_none, Option.isSome_none] at h4
    exact h4
  | some x =>
    obtain ⟨a1, a2, a3, a4⟩ := h2 mid x hw
    have e : waitB wait st mid = true := waitB_iff.2 ⟨_, a3, a2, a1⟩
    refine ⟨x, ?_, fun _ => ⟨a1, a2, a3, a4⟩⟩
    rw [e]
    simp only [hw, Option.map_some, Option.getD_some, Option.isSome_some] at h4
    exact h4
theorem OrdR.drewN (k : OrdR w T bo inter Om Wb next wait) (n : Nat) : OrdR (w.drewN n) T bo inter Om Wb next wait := k.fr ((Fr.refl (fun _ => False) w).drewN n) (fun _ _ _ h => h) (fun _ _ _ h => h) (fun _ _ => rfl)
theorem JO.drewN (k : JO w T p inter bl bo rv h xs Om Wb next wait) (n : Nat) : JO (w.drewN n) T p inter bl bo rv h xs Om Wb next wait := k.fr ((Fr.refl (fun _ => False) w).drewN n) (fun _ _ _ h => h) ⟨fun _ _ => rfl, k.out⟩
def lateB (wait : List Jo.Ms) (next : Nat → Nat) (inter lo : Bool) (st mid : Nat) : Bool := !lo && (waitB wait st mid || ltB mid (next st) (Jo.modN inter))
set_option maxHeartbeats 4000000 in
theorem late_any (k : JO w T p inter bl bo rv h xs Om Wb next wait) {cs : Array Value} {lo : Bool} {st mid : Nat} (hst : st < 65536) (hm : MidOk inter mid) (e3 : cs[3]? = some (.bool lo)) (e6 : cs[6]? = some (.int .u16 (st : Int))) (e7 : cs[7]? = some (.int .u32 (mid : Int))) :
    Calls Try.prog 30 #[jptr p, .agg cs] w fun e w' => e = .returned (.bool (lateB wait next inter lo st mid)) ∧ Below w.heap.size w w' := by
  have hw1 : ∀ i u, cs[i]? = some u → (w.alloc (.cells cs 41)).cell? ⟨w.heap.size, i, none⟩ = some u := fun i u hu => ((Blk.new w 41 cs).cell i).trans hu
  have f3 := hw1 3 _ e3
  have f6 := hw1 6 _ e6
  have f7 := hw1 7 _ e7
  have HB0 := below_one w (.cells cs 41)
  have k1 := k.grows HB0
  go_enter Try.func30, Try.ntmps30
  go_upto_region 1 with (fail)
  obtain ⟨W1, hW1⟩ : ∃ W1, W1 = w.alloc (.cells cs 41) := ⟨_, rfl⟩
  obtain ⟨g, hg⟩ : ∃ g, g = w.heap.size := ⟨_, rfl⟩
  rw [← hW1] at f3 f6 f7 k1 HB0 ⊢
  rw [← hg] at f3 f6 f7 ⊢
  have HB2 : Hid (Below w.heap.size w W1) := HB0
  have HK := Lib.hid k1
  have c2 := k1.jb.c2
  have hlk : ∀ n, (Instr.lookup 73 (.map (some bo)) (.int .u16 (st : Int)) false).run Try.prog (W1.drewN n) = .ok (.pointer ((Om st).map fun b => ⟨b, 0, none⟩)) (W1.drewN n) := fun n => (k1.ord.drewN n).look hst
  clear hW1 hg hw1 e3 e6 e7 k k1 HB0
  cases lo
  · cases ho : Om st with
    | none =>
      obtain ⟨h0, hno⟩ := HK.out.ord.none_ st ho
      have hwf : waitB wait st mid = false := by
        cases hb : waitB wait st mid with
        | false => rfl
        | true => obtain ⟨m, h5, h6, _⟩ := waitB_iff.1 hb; exact absurd h6 (hno m h5)
      rw [ho] at hlk
      simp only [Option.map_none] at hlk
      have HWF := Lib.hid hwf
      clear hwf hno h0 ho
      go_upto_region 4 with (fail)
      go_quiet (fail)
      obtain ⟨W2, hW2⟩ : ∃ W2, W2 = W1.drewN nq := ⟨_, rfl⟩
      rw [← hW2]
      have HB3 : Hid (Below w.heap.size w W2) := by rw [hW2]; exact below_drewN HB2.out nq
      have HK2 := Lib.hid (HK.out.drewN nq)
      rw [← hW2] at HK2
      have f7' : W2.cell? ⟨g, 7, none⟩ = some (.int .u32 (mid : Int)) := by rw [hW2]; exact f7
      have f6' : W2.cell? ⟨g, 6, none⟩ = some (.int .u16 (st : Int)) := by rw [hW2]; exact f6
      clear hW2 hlk f6 f7 f3
      go_wp2_with fail
      refine (passed_any HK2.out hst hm).mono ?_
      rintro e w3 ⟨rfl, rfl⟩
      go_wp2
      go_ret
      exact ⟨ret_bool (by unfold lateB; rw [HWF.out]; rfl), HB3.out⟩
    | some b =>
      rw [ho] at hlk
      simp only [Option.map_some] at hlk
      have HO := Lib.hid ho
      clear ho
      go_upto_region 4 with (fail)
      go_quiet (fail)
      obtain ⟨W2, hW2⟩ : ∃ W2, W2 = W1.drewN nq := ⟨_, rfl⟩
      rw [← hW2]
      have HB3 : Hid (Below w.heap.size w W2) := by rw [hW2]; exact below_drewN HB2.out nq
      have HK2 := Lib.hid (HK.out.drewN nq)
      rw [← hW2] at HK2
      have f7' : W2.cell? ⟨g, 7, none⟩ = some (.int .u32 (mid : Int)) := by rw [hW2]; exact f7
      obtain ⟨x0, hx0, _⟩ := (HK2.out.ord.ord st b HO.out).look (small32 hm)
      have cb := (HK2.out.ord.ord st b HO.out).blk.cell 1
      simp only [List.getElem?_toArray, List.getElem?_cons_succ, List.getElem?_cons_zero] at cb
      obtain ⟨yb, hyb⟩ : ∃ yb, yb = waitB wait st mid := ⟨_, rfl⟩
      rw [← hyb] at hx0
      have HY := Lib.hid hyb
      have f6' : W2.cell? ⟨g, 6, none⟩ = some (.int .u16 (st : Int)) := by rw [hW2]; exact f6
      obtain ⟨wb, hwb⟩ : ∃ wb, wb = Wb st := ⟨_, rfl⟩
      rw [← hwb] at cb hx0
      obtain ⟨y1, y2, y3⟩ := x0
      simp only [mgV] at hx0
      clear hW2 hlk hyb f3 f6 f7 c2 hwb
      go_upto_region 6 with (fail)
      go_quiet (fail)
      obtain ⟨W4, hW4⟩ : ∃ W4, W4 = W2.drewN nq := ⟨_, rfl⟩
      have f6'' : W4.cell? ⟨g, 6, none⟩ = some (.int .u16 (st : Int)) := by rw [hW4]; exact f6'
      have f7'' : W4.cell? ⟨g, 7, none⟩ = some (.int .u32 (mid : Int)) := by rw [hW4]; exact f7'
      have HK4 := Lib.hid (HK2.out.drewN nq)
      have HB4 : Hid (Below w.heap.size w W4) := by rw [hW4]; exact below_drewN HB3.out nq
      rw [← hW4] at HK4 ⊢
      clear hW4 hx0 cb f6' f7'
      cases yb
      · go_wp2_with fail
        refine (passed_any HK4.out hst hm).mono ?_
        rintro e w3 ⟨rfl, rfl⟩
        go_wp2
        go_ret
        exact ⟨ret_bool (by unfold lateB; rw [← HY.out]; rfl), HB4.out⟩
      · go_wp2_with fail
        go_ret
        exact ⟨ret_bool (by unfold lateB; rw [← HY.out]; rfl), HB4.out⟩
  · go_wp2
    go_ret
    exact ⟨rfl, HB2.out⟩
end
end Go.Proofs.Ytioddokjogbmnaa.Chk
