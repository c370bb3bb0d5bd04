/-
  Of the texts FlLibs, FlKey, Fl22, Fl21, Fl23, Fl24, Fl25: what the laws reach.
-/
import Derived.Shelf.SlIterI.Nil
import Derived.Shelf.SortM.Plain
import Derived.Shelf.SortM.SortNone
import Derived.Test.YtfgfiiknbkakaaaChecked
import Derived.Test.YtfgfiiknbkakaaaFC8
import Derived.Lib.SlKeysI
import Derived.Test.YtfgfiiknbkakaaaFC14
import Derived.Test.YtfgfiiknbkakaaaFC6
import Derived.Great.BuildSlice

namespace Go.Proofs
open Go.Shelf
def Try.keysG_ren : Go.Shelf.Ren := ⟨fun | 7 => 47 | 10 => 68 | n => n, fun | 23 => 81 | 26 => 3 | 3 => 107 | 28 => 105 | 0 => 0 | 27 => 104 | 33 => 68 | 4 => 4 | n => n, fun | n => n⟩
theorem Try.keysG : Go.Proofs.SlLaysZI.n7 Try.prog Try.keysG_ren := {
  mixed := by kernel_rfl
  f7 := ⟨Try.f47.name, by decide, Try.func47.trans (congrArg some (by kernel_rfl))⟩
  f10 := ⟨Try.f68.name, by decide, Try.func68.trans (congrArg some (by kernel_rfl))⟩
  t0 := Try.underlying0
  a0 := Try.isAgg0
  z0 := Try.sizeOf0
  v0 := Try.zeroValue0
  t4 := Try.underlying4
  a4 := Try.isAgg4
  z4 := Try.sizeOf4
  v4 := Try.zeroValue4
  t23 := Try.underlying81
  a23 := Try.isAgg81
  z23 := Try.sizeOf81
  v23 := Try.zeroValue81
  t26 := Try.underlying3
  a26 := Try.isAgg3
  z26 := Try.sizeOf3
  v26 := Try.zeroValue3
  t27 := Try.underlying104
  a27 := Try.isAgg104
  z27 := Try.sizeOf104
  v27 := Try.zeroValue104
  t28 := Try.underlying105
  a28 := Try.isAgg105
  z28 := Try.sizeOf105
  v28 := Try.zeroValue105
  t33 := Try.underlying68
  a33 := Try.isAgg68
  z33 := Try.sizeOf68
  v33 := Try.zeroValue68 }
def Try.sortedG_ren : Go.Shelf.Ren := ⟨fun | 6 => 46 | 8 => 66 | 9 => 67 | 11 => 75 | 13 => 73 | 12 => 76 | 23 => 85 | 24 => 86 | 14 => 87 | 15 => 88 | 16 => 89 | 17 => 90 | 18 => 91 | 19 => 92 | 20 => 93 | 21 => 94 | 22 => 95 | 25 => 101 | 26 => 97 | 27 => 98 | 28 => 102 | 29 => 103 | 30 => 104 | 31 => 106 | n => n, fun | 26 => 3 | 28 => 105 | 24 => 50 | 0 => 0 | 3 => 3 | 37 => 66 | 48 => 22 | 50 => 63 | 4 => 4 | 40 => 154 | 39 => 153 | 45 => 158 | 5 => 5 | 9 => 9 | 51 => 167 | 55 => 171 | 57 => 175 | 58 => 176 | 33 => 68 | n => n, fun | n => n⟩
theorem Try.sortedG : Go.Proofs.SlLaysZI.n6 Try.prog Try.sortedG_ren := {
  mixed := by kernel_rfl
  f6 := ⟨Try.f46.name, by decide, Try.func46.trans (congrArg some (by kernel_rfl))⟩
  f8 := ⟨Try.f66.name, by decide, Try.func66.trans (congrArg some (by kernel_rfl))⟩
  f11 := ⟨Try.f75.name, by decide, Try.func75.trans (congrArg some (by kernel_rfl))⟩
  t0 := Try.underlying0
  a0 := Try.isAgg0
  z0 := Try.sizeOf0
  v0 := Try.zeroValue0
  t24 := Try.underlying50
  a24 := Try.isAgg50
  z24 := Try.sizeOf50
  v24 := Try.zeroValue50
  t26 := Try.underlying3
  a26 := Try.isAgg3
  z26 := Try.sizeOf3
  v26 := Try.zeroValue3
  t28 := Try.underlying105
  a28 := Try.isAgg105
  z28 := Try.sizeOf105
  v28 := Try.zeroValue105
  i26 := by kernel_rfl }
def Try.sortG_ren : Go.Shelf.Ren := ⟨fun | 5 => 67 | 8 => 73 | 7 => 76 | 19 => 85 | 20 => 86 | 10 => 87 | 11 => 88 | 12 => 89 | 13 => 90 | 14 => 91 | 15 => 92 | 16 => 93 | 17 => 94 | 18 => 95 | 30 => 101 | 31 => 97 | 32 => 98 | 33 => 102 | 34 => 103 | 35 => 104 | 40 => 106 | n => n, fun | 23 => 50 | 25 => 3 | 3 => 3 | 32 => 66 | 22 => 50 | 0 => 0 | 44 => 22 | 46 => 63 | 4 => 4 | 36 => 154 | 35 => 153 | 41 => 158 | 5 => 5 | 9 => 9 | 53 => 167 | 57 => 171 | 63 => 175 | 64 => 176 | n => n, fun | n => n⟩
theorem Try.sortG : Go.Proofs.SlLaysM.n5 Try.prog Try.sortG_ren := {
  mixed := by kernel_rfl
  f5 := ⟨Try.f67.name, by decide, Try.func67.trans (congrArg some (by kernel_rfl))⟩
  f7 := ⟨Try.f76.name, by decide, Try.func76.trans (congrArg some (by kernel_rfl))⟩
  f8 := Try.func73.trans (congrArg some (by kernel_rfl))
  f10 := ⟨Try.f87.name, by decide, Try.func87.trans (congrArg some (by kernel_rfl))⟩
  f11 := ⟨Try.f88.name, by decide, Try.func88.trans (congrArg some (by kernel_rfl))⟩
  f12 := ⟨Try.f89.name, by decide, Try.func89.trans (congrArg some (by kernel_rfl))⟩
  f13 := ⟨Try.f90.name, by decide, Try.func90.trans (congrArg some (by kernel_rfl))⟩
  f14 := ⟨Try.f91.name, by decide, Try.func91.trans (congrArg some (by kernel_rfl))⟩
  f15 := ⟨Try.f92.name, by decide, Try.func92.trans (congrArg some (by kernel_rfl))⟩
  f16 := ⟨Try.f93.name, by decide, Try.func93.trans (congrArg some (by kernel_rfl))⟩
  f17 := ⟨Try.f94.name, by decide, Try.func94.trans (congrArg some (by kernel_rfl))⟩
  f18 := ⟨Try.f95.name, by decide, Try.func95.trans (congrArg some (by kernel_rfl))⟩
  f19 := Try.func85.trans (congrArg some (by kernel_rfl))
  f20 := Try.func86.trans (congrArg some (by kernel_rfl))
  f30 := ⟨Try.f101.name, by decide, Try.func101.trans (congrArg some (by kernel_rfl))⟩
  f31 := Try.func97.trans (congrArg some (by kernel_rfl))
  f32 := Try.func98.trans (congrArg some (by kernel_rfl))
  f33 := ⟨Try.f102.name, by decide, Try.func102.trans (congrArg some (by kernel_rfl))⟩
  f34 := ⟨Try.f103.name, by decide, Try.func103.trans (congrArg some (by kernel_rfl))⟩
  f35 := ⟨Try.f104.name, by decide, Try.func104.trans (congrArg some (by kernel_rfl))⟩
  f40 := ⟨Try.f106.name, by decide, Try.func106.trans (congrArg some (by kernel_rfl))⟩
  t0 := Try.underlying0
  a0 := Try.isAgg0
  z0 := Try.sizeOf0
  v0 := Try.zeroValue0
  t3 := Try.underlying3
  a3 := Try.isAgg3
  z3 := Try.sizeOf3
  v3 := Try.zeroValue3
  t4 := Try.underlying4
  a4 := Try.isAgg4
  z4 := Try.sizeOf4
  v4 := Try.zeroValue4
  t5 := Try.underlying5
  a5 := Try.isAgg5
  z5 := Try.sizeOf5
  v5 := Try.zeroValue5
  t9 := Try.underlying9
  a9 := Try.isAgg9
  z9 := Try.sizeOf9
  v9 := Try.zeroValue9
  t22 := Try.underlying50
  a22 := Try.isAgg50
  z22 := Try.sizeOf50
  v22 := Try.zeroValue50
  t23 := Try.underlying50
  a23 := Try.isAgg50
  z23 := Try.sizeOf50
  v23 := Try.zeroValue50
  t25 := Try.underlying3
  a25 := Try.isAgg3
  z25 := Try.sizeOf3
  v25 := Try.zeroValue3
  t32 := Try.underlying66
  a32 := Try.isAgg66
  z32 := Try.sizeOf66
  v32 := Try.zeroValue66
  t35 := Try.underlying153
  a35 := Try.isAgg153
  z35 := Try.sizeOf153
  v35 := Try.zeroValue153
  t36 := Try.underlying154
  a36 := Try.isAgg154
  z36 := Try.sizeOf154
  v36 := Try.zeroValue154
  t41 := Try.underlying158
  a41 := Try.isAgg158
  z41 := Try.sizeOf158
  v41 := Try.zeroValue158
  t44 := Try.underlying22
  a44 := Try.isAgg22
  z44 := Try.sizeOf22
  v44 := Try.zeroValue22
  t46 := Try.underlying63
  a46 := Try.isAgg63
  z46 := Try.sizeOf63
  v46 := Try.zeroValue63
  t53 := Try.underlying167
  a53 := Try.isAgg167
  z53 := Try.sizeOf167
  v53 := Try.zeroValue167
  t57 := Try.underlying171
  a57 := Try.isAgg171
  z57 := Try.sizeOf171
  v57 := Try.zeroValue171
  t63 := Try.underlying175
  a63 := Try.isAgg175
  z63 := Try.sizeOf175
  v63 := Try.zeroValue175
  t64 := Try.underlying176
  a64 := Try.isAgg176
  z64 := Try.sizeOf176
  v64 := Try.zeroValue176 }
end Go.Proofs

set_option linter.unusedVariables false
set_option linter.unusedSimpArgs false
set_option maxRecDepth 20000
namespace Go.Proofs.Ytfgfiiknbkakaaa.Fl
open Go.ChangeShapes Go.WideShapes Go.ChangeAt Go.RowKit Go.Deep Go.Maps Go.Proofs.Ytfgfiiknbkakaaa.Words Go.Proofs.Ytfgfiiknbkakaaa.Mx
open Go.WideElems (Fit rd rg pl rd_key rd_val rg_of)
section
variable {P : Program} {k : TypeId} {w w' : World} {b n : Nat} {D : DataW Value} {f : Int → Option Value}
theorem mem_keysz (hu : P.underlying k = some (.int .i64)) (h : w.ownsMap P k anyE b n D) (x : Int) : x ∈ intKeys D ↔ has D (.int .i64 x) = true := by
  obtain ⟨es, rfl, hko⟩ := h.keysOf
  unfold intKeys has
  rw [List.mem_map, List.any_eq_true]
  constructor
  · rintro ⟨p, hp, rfl⟩
    obtain ⟨v, hv⟩ := hko p hp
    obtain ⟨y, _, hy, _⟩ := Maps.keyOf_i64 hu hv
    exact ⟨p, hp, by rw [hy]; simp [Lit.sameKey, Go.intOf]⟩
  · rintro ⟨p, hp, hs⟩
    obtain ⟨v, hv⟩ := hko p hp
    obtain ⟨y, _, hy, _⟩ := Maps.keyOf_i64 hu hv
    rw [hy] at hs
    exact ⟨p, hp, by rw [hy]; simpa [Lit.sameKey, Go.intOf] using hs⟩
theorem nodup_keysz (hu : P.underlying k = some (.int .i64)) (h : w.ownsMap P k anyE b n D) : (intKeys D).Nodup := by
  obtain ⟨es, hD, hpw, _⟩ := h.entries (int_keyed hu)
  obtain ⟨es', hD', hko⟩ := h.keysOf
  obtain rfl : es = es' := by rw [hD] at hD'; simpa using hD'
  subst hD
  unfold intKeys
  refine List.pairwise_map.2 (List.Pairwise.imp_of_mem (fun {p q} hp hq hne e => hne ?_) hpw)
  obtain ⟨v, hv⟩ := hko p hp
  obtain ⟨y, _, hy, _⟩ := Maps.keyOf_i64 hu hv
  obtain ⟨v', hv'⟩ := hko q hq
  obtain ⟨y', _, hy', _⟩ := Maps.keyOf_i64 hu hv'
  rw [hy, hy'] at e ⊢
  have e2 : y = y' := e
  rw [e2]
theorem has_keysz (hu : P.underlying k = some (.int .i64)) (h : w.ownsMap P k anyE b n D) {t e : TypeId} (ht : P.underlying t = some (.map k e)) {z : Value} (hz : (zeroValue e).run P w = .ok z w) {x : Int} (hx : i64ok x) :
    has D (.int .i64 x) = true ↔ Mx.look D (.int .i64 x) ≠ none := by
  obtain ⟨es, clock, hb, F, _, rfl⟩ := h
  rcases Maps.fit_look false (int_keyed hu) ht hz hb F (keyz hu hx) with ⟨_, _, hat⟩ | ⟨e0, y, _, _, _, hRv, hat, _⟩
  · have h1 := has_false_of_atKey hat
    rw [h1]
    unfold Mx.look
    rw [hat .nil]
    exact ⟨fun e => (by cases e), fun e => absurd rfl e⟩
  · have h1 := has_true_of_atKey hat
    rw [h1]
    unfold Mx.look
    rw [hat .nil]
    have e1 : y.1 = .held e0.val := by unfold anyE at hRv; injection hRv with hRv; rw [← hRv]
    rw [e1]
    exact ⟨fun _ e => (by cases e), fun _ => rfl⟩
/-- A map's keys: a list with no key twice, that holds just those at which the map holds something. -/
theorem MapZ.keys (h : MapZ P k w b f) {t e : TypeId} (ht : P.underlying t = some (.map k e)) {z : Value} (hz : (zeroValue e).run P w = .ok z w) {L : List Int} (hL : Few f L) :
    ∃ D, w.ownsMap P k anyE b L.length D ∧ (intKeys D).Nodup ∧ ∀ x, x ∈ intKeys D ↔ f x ≠ none := by
  obtain ⟨D, n, h1, hn, h2⟩ := h.ex
  have h3 := fit_fewz h.und h1 h2 hL
  refine ⟨D, h3, nodup_keysz h.und h3, fun x => ?_⟩
  rw [mem_keysz h.und h3]
  by_cases hx : i64ok x
  · rw [has_keysz h.und h3 ht hz hx, h2 x hx]
  · rw [h.out x hx]
    refine ⟨fun e => absurd ?_ hx, fun e => absurd rfl e⟩
    exact i64_wf.1 (intKeys_wf h3 h.und x ((mem_keysz h.und h3 x).2 e))
/-- Sorted: each key above the one ahead of it. -/
theorem sorted_lt {l ss : List Int} (h : ss.Perm l) (hn : l.Nodup) : (ss.mergeSort leI).Pairwise (· < ·) ∧ ∀ x, x ∈ ss.mergeSort leI ↔ x ∈ l := by
  have tr : ∀ a b c : Int, leI a b = true → leI b c = true → leI a c = true := fun a b c h1 h2 => by simp only [leI, decide_eq_true_eq] at *; exact Int.le_trans h1 h2
  have tt : ∀ a b : Int, (leI a b || leI b a) = true := fun a b => by simp only [leI, Bool.or_eq_true, decide_eq_true_eq]; exact Int.le_total a b
  have hp := (List.mergeSort_perm ss leI).trans h
  have h1 := List.pairwise_mergeSort tr tt ss
  have h2 : (ss.mergeSort leI).Nodup := hp.nodup_iff.2 hn
  refine ⟨List.Pairwise.imp (fun {a b} hab => ?_) (h1.and h2), fun x => hp.mem_iff⟩
  have h3 : a ≤ b := by simpa [leI] using hab.1
  have h4 : a ≠ b := hab.2
  omega
end
end Go.Proofs.Ytfgfiiknbkakaaa.Fl

set_option linter.unusedVariables false
set_option linter.unusedSimpArgs false
set_option maxRecDepth 20000
namespace Go.Proofs.Ytfgfiiknbkakaaa.Fl
open Go.ChangeShapes Go.WideShapes Go.ChangeAt Go.RowKit Go.Deep Go.Maps Go.Sort Go.Shelf Go.Proofs.Ytfgfiiknbkakaaa.Words Go.Proofs.Ytfgfiiknbkakaaa.Mx
section
variable {w w' : World} {b : Nat} {f : Int → Option Value}
theorem sortsG (m : Nat) : AnyZI.SortsIn Try.prog Try.sortedG_ren Fence.wide m :=
  ⟨fun blk off cap ss W hH hblk hsz => callsIn_wide.2 (AnyM.slices_Sort_int Try.sortG blk off cap ss W hH hblk hsz),
   fun p cap W => callsIn_wide.2 (AnyM.slices_Sort_int_none Try.sortG p cap W)⟩
theorem keysG_any (mb : Option Nat) (W : World) : Calls Try.prog 47 #[.map mb] W fun e w' => e = .returned (.func (.func 68) #[] #[.pointer (some ⟨W.heap.size, 0, none⟩)]) ∧ w' = W.alloc (.cells #[.map mb] 81) :=
  (callsIn_wide (n := 5)).1 (AnyZI.keys_in Try.keysG Fence.wide 5 trivial rfl mb W)
theorem zero_unit (w : World) : (zeroValue 107).run Try.prog w = .ok (.agg #[]) w := by kernel_rfl
set_option maxHeartbeats 2000000 in
theorem sortedG_any (h : MapZ Try.prog 3 w b f) {L : List Int} (hL : Few f L) (hl : L.length ≤ 1048576) :
    Calls Try.prog 46 #[.func (.func 68) #[] #[.pointer (some ⟨w.heap.size, 0, none⟩)]] (w.alloc (.cells #[.map (some b)] 81)) fun e w' =>
      ∃ (v : Value) (l : List Int), e = .returned v ∧ w'.ownsRow w.heap.size 3 1 v l.length (l.map fun x => .int .i64 x) ∧ l.Pairwise (· < ·) ∧ (∀ x, x ∈ l ↔ f x ≠ none) ∧ Below w.heap.size w w' := by
  obtain ⟨D0, hown, hnd, hmem⟩ := h.keys (t := 81) Try.underlying81 (zero_unit _) hL
  refine (callsIn_wide (n := 5)).1 ?_
  have hbl := hown.lt
  have hsz := hown.size_le
  have hseq : SeqGives Fence.wide 2 Try.prog 68 #[.pointer (some ⟨w.heap.size, 0, none⟩)] encZ (fun ss => ss.Perm (intKeys D0)) (Maps.size D0) (w.alloc (.cells #[.map (some b)] 81)) :=
    AnyZI.keys_gives (ρ := Try.keysG_ren) { Try.keysG with } Fence.wide _ trivial rfl (by omega) w.heap.size b L.length D0 _ (by simp) (by simp) (by
      obtain ⟨es, clock, hb, Ft, hs, hD⟩ := hown
      exact ⟨es, clock, (Below.heap_alloc _ _ b hbl).trans hb, Ft, hs, hD⟩)
  have cS := AnyZI.sorted_in Try.sortedG Fence.wide 5 trivial trivial trivial trivial rfl (by omega) (sortsG _) (enters_of Try.func67 (by kernel_rfl) rfl) 68 #[.pointer (some ⟨w.heap.size, 0, none⟩)] trivial (enters_of Try.func68 (by kernel_rfl) rfl) _ _ (by unfold maxLen; omega) (by omega) _ hseq
  change CallsIn _ _ Try.prog 46 _ _ _ at cS
  refine cS.mono ?_
  rintro e w' ⟨v, ss, rfl, hS, hrow, hnil, hb⟩
  have hs := sorted_lt hS hnd
  refine ⟨v, ss.mergeSort leI, rfl, ?_, hs.1, fun x => (hs.2 x).trans (hmem x), ((Below.refl _ w).alloc (Nat.le_refl _) _).trans (hb.mono (by simp))⟩
  rw [List.length_mergeSort]
  exact ownsRow_base_a hrow (by simp)
end
end Go.Proofs.Ytfgfiiknbkakaaa.Fl

set_option linter.unusedVariables false
set_option linter.unusedSimpArgs false
set_option maxRecDepth 20000
namespace Go.Proofs.Ytfgfiiknbkakaaa.Fl
open Go.ChangeShapes Go.WideShapes Go.ChangeAt Go.RowKit Go.Deep Go.Maps Go.Proofs.Ytfgfiiknbkakaaa.Words Go.Proofs.Ytfgfiiknbkakaaa.Oct Go.Proofs.Ytfgfiiknbkakaaa.Par Go.Proofs.Ytfgfiiknbkakaaa.Chk Go.Proofs.Ytfgfiiknbkakaaa.Mx
section
variable {w w' : World} {p now : Nat} {a : Ad} {m : FM} {s : FS}
def ExpireDone (w : World) (p : Nat) (a : Ad) (m : FM) (s : FS) (now : Nat) (e : Ending) (w' : World) : Prop := ∃ (v : Value) (l : List Int) (m' : FM), e = .returned v ∧ w'.ownsRow w.heap.size 3 1 v l.length (z64 l) ∧ l.Pairwise (· < ·) ∧ (∀ x, x ∈ l ↔ (s.expire now).gone x = true) ∧ FlS w' p a m' (s.expire now).told ∧ MiOk (s.expire now).told ∧ Stp w w' p a m a m' ∧ (∀ g, v.ownBlock = some g → ¬ FG p a m' g)
set_option maxHeartbeats 8000000 in
theorem expire_s (h : FlS w p a m s) (hmi : MiOk s) (hnow : now < 4294967296) : Calls Try.prog 16 #[fptr p, .int .u32 (now : Int)] w (ExpireDone w p a m s now) := by
  obtain ⟨B, cap, hv, hlc, hbc, hB⟩ := h.list
  have hlt := h.inv.lt
  have hdue := due_s (now := now) h.mem
  have H := Lib.hid h
  have HMI := Lib.hid hmi
  have HV := Lib.hid hv
  have HB := Lib.hid hB
  obtain ⟨N, hN⟩ : ∃ N, N = s.ps.length := ⟨_, rfl⟩
  have HN := Lib.hid hN
  rw [← hN] at hlc hlt
  clear h hmi hv hB hN
  go_enter Try.func16, Try.ntmps16
  go_wp2_with fail
  refine hdue.mono ?_
  rintro e W1 ⟨r, rfl, hb1, hr⟩
  have HS1 := Lib.hid (H.out.below hb1)
  have HT1 : Hid (Stp w W1 p a m a m) := (Stp.refl w p a m).grows hb1
  have HR := Lib.hid hr
  clear hdue hb1 hr
  go_upto_if 10 with (fail)
  go_cut [] from 5 to 38 (fun wr => ∃ m1, Hid (FlS wr p a m1 (s.expire now)) ∧ Hid (Stp w wr p a m a m1))
  case first =>
    cases r
    · go_wp2_with fail
      go_meet
      refine ⟨m, ?_, HT1⟩
      rw [expire_none (fun x hx hl => ?_)]
      · exact HS1
      · cases hk : x.late now with
        | false => rfl
        | true =>
          unfold Pt.late at hk
          simp only [Bool.and_eq_true, beq_iff_eq] at hk
          have hok := H.out.inv.ok x hx
          have h1 := HR.out trivial x.ln hok.ln (fun e => by
            have h2 := H.out.inv.df x.ln
            rw [e] at h2
            have h3 : 0 < dl s.ps x.ln := List.countP_pos_iff.2 ⟨x, hx, by unfold dlP; simp [hl, hk.1]⟩
            omega)
          rw [h1] at hk
          cases hk.2
    · have c1 : W1.cell? ⟨p, 1, none⟩ = some (.slice B N cap) := by have := HS1.out.mem.blk.cell 1; rw [HN.out, ← HV.out]; exact this
      go_upto_region 3 with (fail)
      have HS0 : Hid (FlS W1 p a m (s.expK now 0)) := by rw [expK_zero]; exact HS1
      clear c1
      go_loopw [16] (fun v16 wr => ∃ (i : Nat) (m1 : FM), v16 = .int .i64 (i : Int) ∧ i ≤ N ∧ Hid (FlS wr p a m1 (s.expK now i)) ∧ Hid (Stp w wr p a m a m1)) (fun v16 _ => N - (intOf v16).toNat)
      case atStart => exact ⟨0, m, rfl, by omega, HS0, HT1⟩
      case round =>
        clear HS0 HS1 HT1
        obtain ⟨i, m1, rfl, hi, HS, HT⟩ := hrel
        by_cases hlt2 : i < N
        · have hiz : (i : Int) < (N : Int) := by omega
          obtain ⟨g, off, hBe, hgp⟩ := HB.out (by rw [← HN.out]; omega)
          subst hBe
          obtain ⟨q, hq⟩ : ∃ q, s.ps[i]? = some q := ⟨_, List.getElem?_eq_getElem (by rw [← HN.out]; omega)⟩
          have hq2 := expK_get (now := now) hq i
          obtain ⟨u, hu⟩ : ∃ u, u = exP now s.ps i q := ⟨_, rfl⟩
          rw [← hu] at hq2
          obtain ⟨b, hx, hfr⟩ := HS.out.frag HV.out hq2
          have c1 : wr.cell? ⟨p, 1, none⟩ = some (.slice (some ⟨g, off, none⟩) N cap) := by have := HS.out.mem.blk.cell 1; rw [HN.out, ← HV.out]; exact this
          have hl := left_any (g := g) (o := off + i * 26) (w := wr) (hfr.c 6 (by omega))
          have hla := late_any (g := g) (o := off + i * 26) (w := wr) (now := now) (hfr.c 1 (by omega)) (hfr.c 2 (by omega))
          have cm : wr.cell? ⟨g, off + i * 26, none⟩ = some (.int .i64 q.m) := by rw [show q.m = u.m from by rw [hu, exP_m]]; exact hfr.c 0 (by omega)
          have HQ := Lib.hid hq
          have HU := Lib.hid hu
          have HOK : Hid (PtOk q) := H.out.inv.ok q (List.mem_of_getElem? hq)
          have HPM : Hid (q.m ∈ (s.expK now i).ms) := H.out.inv.pm q (List.mem_of_getElem? hq)
          obtain ⟨lb, hlb⟩ : ∃ x, x = u.left := ⟨_, rfl⟩
          obtain ⟨tb, htb⟩ : ∃ x, x = u.late now := ⟨_, rfl⟩
          rw [show (u.st == 0 || u.st == 1) = lb from hlb.symm] at hl
          rw [show (u.lk == 2 && Ser.lessB (u.ln : Int) (now : Int)) = tb from htb.symm] at hla
          have HLB := Lib.hid hlb
          have HTB := Lib.hid htb
          have HGO : Hid ((lb && tb) = true → s.expK now (i + 1) = (s.expK now i).abandon q.m) := fun e => expK_go hq (by rw [← hu, ← hlb, ← htb]; exact e)
          have HSTY : Hid ((lb && tb) = false → s.expK now (i + 1) = s.expK now i) := fun e => expK_stay hq (by rw [← hu, ← hlb, ← htb]; exact e)
          clear hq hu hq2 hx hfr hlb htb
          have hab := abandon_s HS.out (k := q.m) HOK.out.m HPM.out
          obtain ⟨km, hkm⟩ : ∃ x, x = q.m := ⟨_, rfl⟩
          rw [← hkm] at hab cm HGO
          clear hkm
          go_upto_region 6 with (fail)
          cases lb
          · have HS2 : Hid (FlS wr p a m1 (s.expK now (i + 1))) := by rw [HSTY.out rfl]; exact HS
            go_wp2_with (first | (go_at_call 44; refine hl.mono ?_; rintro e w5 ⟨rfl, rfl⟩))
            go_roundw
            case rel => exact ⟨i + 1, m1, by go_num, by omega, HS2, HT⟩
            case measure => simp [intOf]; omega
          · cases tb
            · have HS2 : Hid (FlS wr p a m1 (s.expK now (i + 1))) := by rw [HSTY.out rfl]; exact HS
              go_wp2_with (first | (go_at_call 44; refine hl.mono ?_; rintro e w5 ⟨rfl, rfl⟩) | (go_at_call 45; refine hla.mono ?_; rintro e w5 ⟨rfl, rfl⟩))
              go_roundw
              case rel => exact ⟨i + 1, m1, by go_num, by omega, HS2, HT⟩
              case measure => simp [intOf]; omega
            · go_wp2_with (first | (go_at_call 44; refine hl.mono ?_; rintro e w5 ⟨rfl, rfl⟩) | (go_at_call 45; refine hla.mono ?_; rintro e w5 ⟨rfl, rfl⟩))
              refine hab.mono ?_
              rintro e W4 ⟨m4, rfl, h4, t4⟩
              have HS2 : Hid (FlS W4 p a m4 (s.expK now (i + 1))) := by rw [HGO.out rfl]; exact h4
              have HT2 : Hid (Stp w W4 p a m a m4) := HT.out.trans t4
              clear h4 t4 hab hl hla
              go_wp2_with fail
              go_roundw
              case rel => exact ⟨i + 1, m4, by go_num, by omega, HS2, HT2⟩
              case measure => simp [intOf]; omega
        · have hin : N = i := by omega
          subst hin
          have hiz : ¬ (N : Int) < (N : Int) := by omega
          go_wp2_with fail
          go_meet
          refine ⟨m1, ?_, HT⟩
          rw [← expK_all, ← HN.out]
          exact HS
  case rest =>
    obtain ⟨m1, HS, HT⟩ := hcut
    obtain ⟨W2, hW2⟩ : ∃ W, W = wc := ⟨_, rfl⟩
    rw [← hW2] at HS HT ⊢
    clear hW2 HS1 HT1 HR
    have c2 : W2.cell? ⟨p, 2, none⟩ = some (.map (some a.go)) := HS.out.mem.blk.cell 2
    have hk := keysG_any (some a.go) W2
    have hs := sortedG_any HS.out.mem.gon (L := m1.ms) (fun x hx => HS.out.mem.mso x (by
      unfold goneF at hx
      by_cases e : m1.gone x = true
      · exact e
      · rw [if_neg e] at hx; exact absurd rfl hx)) HS.out.mem.msl
    go_wp2_with (first | (go_at_call 47; refine hk.mono ?_; rintro e w5 ⟨rfl, rfl⟩))
    refine hs.mono ?_
    rintro e W3 ⟨v, l, rfl, hrow, hpw, hmem, hb3⟩
    have HS3 := Lib.hid (HS.out.below hb3)
    have HT3 := Lib.hid (HT.out.grows hb3)
    obtain ⟨W4, hrun, hmz, htu⟩ := MapZ.clear HS3.out.mem.gon (t := 81) Try.underlying81 0
    have HF4 : Hid (Fr (fun i => i = a.go) W3 W4) := (Fr.of_grown htu.grown).mono (fun i _ e => by injection e)
    have HMZ := Lib.hid hmz
    have c2' : W3.cell? ⟨p, 2, none⟩ = some (.map (some a.go)) := HS3.out.mem.blk.cell 2
    have HROW := Lib.hid hrow
    have HPW := Lib.hid hpw
    have HMEM := Lib.hid hmem
    have HB3 := Lib.hid hb3
    clear hmz htu hrow hpw hmem hb3 hk hs c2
    go_wp2_with fail
    go_ret
    have hgo : a.go < W2.heap.size := HS.out.mem.lt (.inr (.inr (.inl rfl)))
    have hlow : ∀ g, v.ownBlock = some g → W2.heap.size ≤ g := fun g hg => (HROW.out.lt g hg).1
    have hbs : w.heap.size ≤ W2.heap.size := HT.out.fr.size
    have hgone := HS.out.inv.gone
    refine ⟨v, l, { m1 with gone := fun _ => false }, rfl, ?_, HPW.out, fun x => ?_, ⟨HS3.out.mem.gons HF4.out (HMZ.out.as_ (fun x => by unfold goneF; rfl)) (fun x hx => by cases hx), ?_⟩, ?_, HT3.out.trans (Stp.of HF4.out (fun i e => .inr (.inr (.inl e))) (fun i e => e)), fun g hg e => ?_⟩
    · exact own_mono (HF4.out.own HROW.out (fun g hg e => by have h1 := hlow g hg; have h2 : g = a.go := e; omega)) hbs
    · rw [HMEM.out x]
      unfold goneF
      rw [hgone]
      by_cases e : (s.expire now).gone x = true
      · rw [if_pos e]; exact ⟨fun _ => e, fun _ h => by cases h⟩
      · rw [if_neg e]; exact ⟨fun h => absurd rfl h, fun h => absurd h e⟩
    · have hi := HS.out.inv
      exact ⟨hi.mk_, hi.ps, hi.nb, hi.nl, hi.no, hi.fl, hi.rl, rfl, hi.nums, hi.df, hi.fresh, hi.ms, hi.mark, hi.len, hi.ok, hi.pm⟩
    · have h1 : MiOk (s.expire now) := by rw [← expK_all]; exact expK_mi HMI.out _ _
      exact h1
    · have h1 := hlow g hg
      have h2 : FG p a m1 g := e
      have h3 := HS.out.mem.lt h2
      omega
end
end Go.Proofs.Ytfgfiiknbkakaaa.Fl

set_option linter.unusedVariables false
set_option linter.unusedSimpArgs false
set_option maxRecDepth 20000
namespace Go.Proofs.Ytfgfiiknbkakaaa.Fl
open Go.ChangeShapes Go.WideShapes Go.ChangeAt Go.RowKit Go.Deep Go.Maps Go.Proofs.Ytfgfiiknbkakaaa.Words Go.Proofs.Ytfgfiiknbkakaaa.Oct Go.Proofs.Ytfgfiiknbkakaaa.Par Go.Proofs.Ytfgfiiknbkakaaa.Chk Go.Proofs.Ytfgfiiknbkakaaa.Mx
section
variable {w w' : World} {p : Nat}
def ad0 (B : Nat) : Ad := ⟨nilV, B, B + 1, B + 1 + 1, B + 1 + 1 + 1, fun _ => nilV⟩
def fm0 (M : Nat) : FM := ⟨(M + 4294967295) % 4294967296, [], 0, 0, 0, 0, 0, fun _ => false, fun _ => [], fun _ => 0, fun _ => none, true, []⟩
theorem ivm0 (M : Nat) : IvM (fm0 M) (fs0 M) := by
  refine ⟨rfl, rfl, rfl, rfl, rfl, ⟨Nat.le_refl _, fun j q hj hq => ?_⟩, ⟨Nat.le_refl _, fun j q hj hq => ?_, rfl⟩, rfl, ⟨fun _ => [], ⟨fun k => List.Pairwise.nil, fun k j hj => (by cases hj), fun j y hy hl => ?_⟩, fun k => rfl⟩, fun n => rfl, rfl, rfl, Nat.mod_lt _ (by omega), ⟨Nat.le_refl _, Nat.zero_le _⟩, fun y hy => (by cases hy), fun y hy => (by cases hy)⟩
  · simp [fs0] at hq
  · simp [fs0] at hq
  · simp [fs0] at hy
def w4 (w : World) : World := (((w.alloc (.map #[] 0)).alloc (.map #[] 0)).alloc (.map #[] 0)).alloc (.map #[] 0)
theorem mem0 (w : World) (M : Nat) : FlM ((w4 w).alloc (.cells (flArr ((M + 4294967295) % 4294967296) nilV w.heap.size 0 0 0 0 (w.heap.size + 1) (w.heap.size + 1 + 1) 0 (w.heap.size + 1 + 1 + 1)) 89)) (w.heap.size + 1 + 1 + 1 + 1) (ad0 w.heap.size) (fm0 M) := by
  have al : ∀ (V : World) (o : Obj) (k : Nat), k < V.heap.size → (V.alloc o).heap[k]? = V.heap[k]? := fun V o k hk => Below.heap_alloc V o k hk
  refine ⟨blk_newAt _ _ (by simp [w4]) _ _, .nil, fun x hx => (by cases hx), ?_, ?_, fun k hk => absurd rfl hk, fun k k' g _ hk => absurd rfl hk, ?_, ?_, ⟨by simp only [ad0]; omega, by simp only [ad0]; omega, by simp only [ad0]; omega, by simp only [ad0]; omega, by simp only [ad0]; omega, by simp only [ad0]; omega⟩, fun x hx => (by cases hx), fun x hx => absurd rfl hx, Nat.zero_le _, fun x hx => absurd rfl hx⟩
  · have h0 := MapZ.new (P := Try.prog) (k := 3) Try.underlying3 w
    have h1 := (((h0.same (al _ (.map #[] 0) _ h0.lt)))) 
    have h2 := h1.same (al _ (.map #[] 0) _ h1.lt)
    have h3 := h2.same (al _ (.map #[] 0) _ h2.lt)
    have h4 := h3.same (al _ (.cells (flArr ((M + 4294967295) % 4294967296) nilV w.heap.size 0 0 0 0 (w.heap.size + 1) (w.heap.size + 1 + 1) 0 (w.heap.size + 1 + 1 + 1)) 89) _ h3.lt)
    exact h4.as_ (fun x => rfl)
  · have h0 := MapZ.new (P := Try.prog) (k := 3) Try.underlying3 (w.alloc (.map #[] 0))
    have h2 := h0.same (al _ (.map #[] 0) _ h0.lt)
    have h3 := h2.same (al _ (.map #[] 0) _ h2.lt)
    have h4 := h3.same (al _ (.cells (flArr ((M + 4294967295) % 4294967296) nilV w.heap.size 0 0 0 0 (w.heap.size + 1) (w.heap.size + 1 + 1) 0 (w.heap.size + 1 + 1 + 1)) 89) _ h3.lt)
    have e : (w.alloc (.map #[] 0)).heap.size = w.heap.size + 1 := by simp
    rw [e] at h4
    exact h4.as_ (fun x => rfl)
  · have h0 := MapX.new u32X ((w.alloc (.map #[] 0)).alloc (.map #[] 0))
    have h3 := h0.same (al _ (.map #[] 0) _ h0.lt)
    have h4 := h3.same (al _ (.cells (flArr ((M + 4294967295) % 4294967296) nilV w.heap.size 0 0 0 0 (w.heap.size + 1) (w.heap.size + 1 + 1) 0 (w.heap.size + 1 + 1 + 1)) 89) _ h3.lt)
    have e : ((w.alloc (.map #[] 0)).alloc (.map #[] 0)).heap.size = w.heap.size + 1 + 1 := by simp
    rw [e] at h4
    exact h4.as_ (fun x => rfl)
  · have h0 := MapX.new lnX (((w.alloc (.map #[] 0)).alloc (.map #[] 0)).alloc (.map #[] 0))
    have h4 := h0.same (al _ (.cells (flArr ((M + 4294967295) % 4294967296) nilV w.heap.size 0 0 0 0 (w.heap.size + 1) (w.heap.size + 1 + 1) 0 (w.heap.size + 1 + 1 + 1)) 89) _ h0.lt)
    have e : (((w.alloc (.map #[] 0)).alloc (.map #[] 0)).alloc (.map #[] 0)).heap.size = w.heap.size + 1 + 1 + 1 := by simp
    rw [e] at h4
    exact h4.as_ (fun x => rfl)
set_option maxHeartbeats 2000000 in
theorem new_s (w : World) (M : Nat) (hM : M < 4294967296) : Calls Try.prog 10 #[.int .u32 (M : Int)] w fun e w' => ∃ p a m, e = .returned (fptr p) ∧ FlS w' p a m (fs0 M) ∧ MiOk (fs0 M) ∧ (∀ i, FG p a m i → w.heap.size ≤ i) ∧ Below w.heap.size w w' := by
  have hwr : IntKind.u32.wrap ((M : Int) - 1) = (((M + 4294967295) % 4294967296 : Nat) : Int) := by rw [IntKind.wrap_u32]; omega
  obtain ⟨mk, hmk⟩ : ∃ x, x = (M + 4294967295) % 4294967296 := ⟨_, rfl⟩
  rw [← hmk] at hwr
  have HM := mem0 w M
  rw [← hmk] at HM
  have HM' := Lib.hid HM
  clear HM hmk
  go_enter Try.func10, Try.ntmps10
  have hmm := @run_makeMap Try.prog
  go_wp2_with fail
  go_ret
  refine ⟨_, ad0 w.heap.size, fm0 M, rfl, ⟨HM'.out, ivm0 M⟩, fun q hq => (by cases hq), fun i hi => ?_, (((((Below.refl _ w).alloc (Nat.le_refl _) _).alloc (by simp) _).alloc (by simp; omega) _).alloc (by simp; omega) _).alloc (by simp; omega) _⟩
  rcases hi with e | e | e | e | e | e | ⟨k, hk, _⟩ | ⟨x, hx, _⟩
  · omega
  · simp [ad0, Value.ownBlock] at e
  · rw [e]; exact Nat.le_refl _
  · rw [e]; simp only [ad0]; omega
  · rw [e]; simp only [ad0]; omega
  · rw [e]; simp only [ad0]; omega
  · exact absurd rfl hk
  · cases hx
end
end Go.Proofs.Ytfgfiiknbkakaaa.Fl

set_option linter.unusedVariables false
set_option linter.unusedSimpArgs false
set_option maxRecDepth 20000
namespace Go.Proofs.Ytfgfiiknbkakaaa.Fl
open Go.ChangeShapes Go.WideShapes Go.ChangeAt Go.RowKit Go.Deep Go.Maps Go.Proofs.Ytfgfiiknbkakaaa.Words Go.Proofs.Ytfgfiiknbkakaaa.Oct Go.Proofs.Ytfgfiiknbkakaaa.Par Go.Proofs.Ytfgfiiknbkakaaa.Chk Go.Proofs.Ytfgfiiknbkakaaa.Mx
section
variable {w w' : World} {v : Value} {xs : List XP} {l : List Nat}
def flat (xs : List XP) : List Value := (xs.map fun x => x.cells.toList).flatten
theorem cells_len (x : XP) : x.cells.toList.length = 26 := by rw [Array.length_toList]; exact frA_size _ _
theorem flat_len (xs : List XP) : (flat xs).length = xs.length * 26 := by
  induction xs with
  | nil => rfl
  | cons x xs ih =>
    show (x.cells.toList ++ flat xs).length = _
    rw [List.length_append, ih, cells_len, List.length_cons]
    omega
theorem flat_at (xs : List XP) : ∀ (i : Nat) x, xs[i]? = some x → ∀ j, j < 26 → (flat xs)[i * 26 + j]? = x.cells[j]? := by
  induction xs with
  | nil => intro i x h; simp at h
  | cons y xs ih =>
    intro i x h j hj
    show (y.cells.toList ++ flat xs)[i * 26 + j]? = _
    rw [List.getElem?_append, cells_len]
    cases i with
    | zero =>
      rw [if_pos (by omega)]
      have e : y = x := by simpa using h
      rw [e, Nat.zero_mul, Nat.zero_add, Array.getElem?_toList]
    | succ i =>
      rw [if_neg (by omega)]
      have h2 := ih i x (by simpa using h) j hj
      rw [← h2]
      congr 1
      omega
theorem PsV.row0 (h : PsV w true v xs) : w.ownsRow 0 94 26 v xs.length (flat xs) := by
  refine ⟨flat_len xs, ?_⟩
  cases h with
  | nil => exact .inl ⟨rfl, rfl⟩
  | row hr h0 =>
    rename_i g off cap
    obtain ⟨cur, hb, hs, hc⟩ := hr.ex
    have e0 := h0 rfl
    subst e0
    have hle := hr.le
    refine .inr ⟨g, cap, cur, rfl, Nat.zero_le _, hb, hle, hr.mx, by omega, List.ext_getElem? fun k => ?_⟩
    rw [List.getElem?_take]
    have hl := flat_len xs
    split
    · rename_i hk
      have hx : k / 26 < xs.length := by omega
      have h1 := hc (k / 26) _ (List.getElem?_eq_getElem hx) (k % 26) (Nat.mod_lt _ (by omega))
      have h2 := flat_at xs (k / 26) _ (List.getElem?_eq_getElem hx) (k % 26) (Nat.mod_lt _ (by omega))
      rw [show k / 26 * 26 + k % 26 = k by omega] at h2
      rw [show 0 + k / 26 * 26 + k % 26 = k by omega] at h1
      rw [h2, ← h1, Array.getElem?_toList]
    · rw [List.getElem?_eq_none (by omega)]
theorem PsV.of_row {B : Nat} {fresh : Bool} (h : w.ownsRow B 94 26 v xs.length (flat xs)) : PsV w fresh v xs := by
  rcases h.2 with ⟨rfl, hn⟩ | ⟨g, cap, cur, rfl, _, hb, hle, hcap, hs, ht⟩
  · have : xs = [] := List.length_eq_zero_iff.1 hn
    rw [this]; exact .nil
  · refine .row ⟨⟨cur, hb, by omega, fun i x hx j hj => ?_⟩, hle, hcap⟩ (fun _ => rfl)
    have h2 := flat_at xs i x hx j hj
    have hi := (List.getElem?_eq_some_iff.1 hx).1
    rw [← ht, List.getElem?_take, if_pos (by omega), Array.getElem?_toList] at h2
    rw [show 0 + i * 26 + j = i * 26 + j by omega, h2]
theorem NumV.row0 (h : NumV w true v l) : w.ownsRow 0 22 1 v l.length (n32 l) := by
  obtain ⟨g, off, cap, cur, rfl, hle, hmx, hb, h0, hs, hc⟩ := h.ex
  have e0 := h0 rfl
  subst e0
  refine ⟨by simp [n32], .inr ⟨g, cap, cur, rfl, Nat.zero_le _, hb, hle, hmx, by omega, List.ext_getElem? fun k => ?_⟩⟩
  rw [List.getElem?_take]
  split
  · rename_i hk
    have hx : k < l.length := by omega
    have h1 := hc k _ (List.getElem?_eq_getElem hx)
    rw [Nat.zero_add] at h1
    rw [Array.getElem?_toList, h1]
    unfold n32
    rw [List.getElem?_map, List.getElem?_eq_getElem hx]; rfl
  · rw [List.getElem?_eq_none (by simp [n32]; omega)]
theorem NumV.of_row {B : Nat} {fresh : Bool} (hne : l ≠ []) (h : w.ownsRow B 22 1 v l.length (n32 l)) : NumV w fresh v l := by
  rcases h.2 with ⟨rfl, hn⟩ | ⟨g, cap, cur, rfl, _, hb, hle, hcap, hs, ht⟩
  · exact absurd (List.length_eq_zero_iff.1 hn) hne
  · refine ⟨g, 0, cap, cur, rfl, hle, hcap, hb, fun _ => rfl, by omega, fun i x hx => ?_⟩
    have h2 : (n32 l)[i]? = some (.int .u32 (x : Int)) := by unfold n32; rw [List.getElem?_map, hx]; rfl
    have hi := (List.getElem?_eq_some_iff.1 hx).1
    rw [← ht, List.getElem?_take, if_pos (by omega), Array.getElem?_toList] at h2
    rw [Nat.zero_add]; exact h2
end
end Go.Proofs.Ytfgfiiknbkakaaa.Fl

set_option linter.unusedVariables false
set_option linter.unusedSimpArgs false
set_option maxRecDepth 20000
namespace Go.Proofs.Ytfgfiiknbkakaaa.Fl
open Go.ChangeShapes Go.WideShapes Go.ChangeAt Go.RowKit Go.Deep Go.Maps Go.Proofs.Ytfgfiiknbkakaaa.Words Go.Proofs.Ytfgfiiknbkakaaa.Oct Go.Proofs.Ytfgfiiknbkakaaa.Par Go.Proofs.Ytfgfiiknbkakaaa.Chk Go.Proofs.Ytfgfiiknbkakaaa.Mx
section
variable {W V V' : World} {B m n size : Nat} {t : TypeId} {cs : Array Value} {d u : Value} {xs : List Value}
/-- A slice of one that was built. -/
def BldR (B : Nat) (t : TypeId) (cs : Array Value) (v : Value) (V : World) : Prop := ∃ g, v = .slice (some ⟨g, 0, none⟩) 1 1 ∧ B ≤ g ∧ Blk V g t cs
/-- The row with one more. -/
def AppR (W : World) (t : TypeId) (size : Nat) (d : Value) (n : Nat) (xs : List Value) (v : Value) (V : World) : Prop := V.ownsRow 0 t size v n xs ∧ (v.ownBlock = d.ownBlock ∨ ∃ g, v.ownBlock = some g ∧ W.heap.size ≤ g)
def RwS (W : World) (d : Value) (m : Nat) (V : World) : Prop := Fr (fun i => d.ownBlock = some i) W V ∧ (m = 0 → Fr (fun _ => False) W V)
def RwRel (W : World) (d : Value) (m : Nat) (V V' : World) : Prop := (∀ i, d.ownBlock = some i → i < W.heap.size) ∧ Fr (fun i => d.ownBlock = some i) V V' ∧ (1 ≤ m → Fr (fun _ => False) V V')
theorem BldR.lasts (hk : BldR W.heap.size t cs u V) (h : RwRel W d m V V') : BldR W.heap.size t cs u V' := by
  obtain ⟨g, e, hB, hb⟩ := hk
  exact ⟨g, e, hB, h.2.1.blk hb (fun hx => by have := h.1 g hx; omega)⟩
theorem AppR.lasts (hm : 1 ≤ m) (hk : AppR W t size d n xs u V) (h : RwRel W d m V V') : AppR W t size d n xs u V' := ⟨(h.2.2 hm).own hk.1 (fun _ _ h => h), hk.2⟩
theorem AppR.base (hk : AppR V t size d n xs u V') (h : W.heap.size ≤ V.heap.size) : AppR W t size d n xs u V' := ⟨hk.1, hk.2.imp id (fun ⟨g, e, hl⟩ => ⟨g, e, Nat.le_trans h hl⟩)⟩
end
theorem exec_app {P : Program} {ρ : Operand → Value} {o : Oper} {w w' : World} {d x : Operand} {dT sT : TypeId} {v u v' : Value} (hop : o.op = Op.call { callee := Callee.builtin Builtin.append, args := #[d, x], argTypes := #[dT, sT] }) (hd : ρ d = v) (hx : ρ x = u)
    (hr : (Builtin.append_ #[dT, sT] o.type #[v, u]).run P w = .ok v' w') : (execOp ρ o).run P w = .ok (.value v') w' := by
  simp [execOp, hop, resolve, invoke, builtin, hd, hx, hr, Result.andThen]
theorem exec_bslice {P : Program} {ρ : Operand → Value} {o : Oper} {w : World} (t e : TypeId) (len : Nat) (parts : Array (Nat × Operand)) (ho : o.op = .buildSlice t len parts) (cells : Array Value) (ie : TypeInfo) (z : Value)
    (hu : P.underlying t = some (.slice e)) (hie : P.info? e = some ie) (hz : ie.zero = some z) (hsmall : ¬ len * ie.size > 2 ^ 24) (hpos : ¬ len * ie.size = 0)
    (hf : Instr.fill (fun i => some (i * ie.size, ie.size)) ((Array.range (len * ie.size)).map (z.cells[· % z.cells.size]!)) (parts.map fun (i, x) => (i, ρ x)).toList = some cells) :
    (execOp ρ o).run P w = .ok (.value (.slice (some ⟨w.heap.size, 0, none⟩) len len)) (w.alloc (.cells cells e)) := by
  unfold execOp
  simp only [ho, Sem.run_bind, run_buildSlice w t e len _ cells ie z hu hie hz hsmall hpos hf, Result.andThen_ok, Sem.run_pure]
theorem exec_loadR {P : Program} {ρ : Operand → Value} {o : Oper} {ty : TypeId} {x : Operand} {ad : Addr} {cs : Array Value} {d : TypeDesc} {w : World} (ho : o.op = .load ty x) (hx : ρ x = .pointer (some ad)) (hc : ∀ j v, cs[j]? = some v → w.cell? (ad.add j) = some v)
    (hu : P.underlying ty = some d) (hd : d.isRow = true) (hi : (P.info? ty).map (·.size) = some cs.size) : (execOp ρ o).run P w = .ok (.value (.agg cs)) w := by
  unfold execOp
  simp only [ho, hx, Instr.loadAt, Instr.sureAddr, Sem.run_bind, Sem.run_pure, Result.andThen_ok, run_loadVar_any w ad ty cs d hc hu hd hi]
def zPt : Pt := ⟨0, 0, 0, 0, 0, 0, 0, zeroC 0⟩
theorem part_info3 : (Try.prog.info? 94).map (fun i => (i.zero, i.size, i.bytes)) = some (some (.agg (frA zPt ⟨none, 0⟩)), 26, 216) := by kernel_rfl
theorem part_info : (Try.prog.info? 94).map (·.size) = some 26 := by kernel_rfl
theorem fill_part (q : Pt) (b : Hd) : Instr.fill (fun i => some (i * 26, 26)) ((Array.range (1 * 26)).map ((Value.agg (frA zPt ⟨none, 0⟩)).cells[· % (Value.agg (frA zPt ⟨none, 0⟩)).cells.size]!)) [(0, .agg (frA q b))] = some (frA q b) := by kernel_rfl
theorem exec_slice_part {ρ : Operand → Value} {o : Oper} {w : World} (x : Operand) (ho : o.op = .buildSlice 87 1 #[(0, x)]) (cs : Array Value) (hx : ρ x = .agg cs) (hcs : ∃ q b, cs = frA q b) :
    (execOp ρ o).run Try.prog w = .ok (.value (.slice (some ⟨w.heap.size, 0, none⟩) 1 1)) (w.alloc (.cells cs 94)) := by
  obtain ⟨q, b, rfl⟩ := hcs
  obtain ⟨i, hi, hz, hs, _⟩ := info_parts3 part_info3
  refine exec_bslice 87 94 1 #[(0, x)] ho (frA q b) i (.agg (frA zPt ⟨none, 0⟩)) Try.underlying87 hi hz (by rw [hs]; decide) (by rw [hs]; decide) ?_
  rw [hs]
  have e : ((#[(0, x)] : Array (Nat × Operand)).map fun (i, x) => (i, ρ x)).toList = [(0, .agg (frA q b))] := by simp [hx]
  rw [e]
  exact fill_part q b
theorem flat_app (xs : List XP) (x : XP) : flat (xs ++ [x]) = flat xs ++ x.cells.toList := by simp [flat]
theorem app_part {W : World} {d : Value} {xs : List XP} {x : XP} {g : Nat} (h : W.ownsRow 0 94 26 d xs.length (flat xs)) (hl : xs.length ≤ 1048576) (hb : Blk W g 94 x.cells) :
    ∃ v' w', (Builtin.append_ #[87, 87] 87 #[d, .slice (some ⟨g, 0, none⟩) 1 1]).run Try.prog W = .ok v' w' ∧ AppR W 94 26 d (xs ++ [x]).length (flat (xs ++ [x])) v' w' ∧ Fr (fun i => d.ownBlock = some i) W w' := by
  obtain ⟨i0, hi0, hz0, hz1, hz2⟩ := info_parts3 part_info3
  obtain ⟨v', w', h1, h2, h3, h4⟩ := run_append_any (P := Try.prog) W 0 87 87 94 i0 _ 26 216 Try.underlying87 hi0 hz0 hz1 hz2 (frA_size _ _) (by omega) d xs.length (flat xs) h (g + 1) (some ⟨g, 0, none⟩) 1 1 x.cells.toList (blk_reads hb (cells_len x)) (frA_one _ _) (by simp only [maxLen]; omega) (by omega) (Nat.zero_le _)
  refine ⟨v', w', h1, ⟨?_, h4.imp id (fun e => ⟨_, e, Nat.le_refl _⟩)⟩, (Fr.refl _ W).grown h3 (fun g hg => .inl hg)⟩
  rw [flat_app, List.length_append]
  exact h2
section
variable {w w' : World} {p : Nat} {a : Ad} {m : FM} {s : FS}
/-- The list of fragments has grown, and stands in the flight's cell. -/
theorem FlM.grew {ys : List XP} {v' : Value} (h : FlM w p a m) (hf : Fr (fun i => a.v.ownBlock = some i) w w') (hp : PsV w' m.fresh v' ys) (hb : ∀ y ∈ ys, Own w' 0 (XP.bv y) y.1.c.body) : FlM (w'.setCell ⟨p, 1, none⟩ v') p { a with v := v' } { m with xs := ys } := by
  have k := h.kept hf (K := 94 + 1) (fun i e _ => kd_psv h.prt e)
  have kp : kd w' p = some (89 + 1) := kd_blk (k.blk (by decide))
  have hf2 : Fr (fun i => i = p) w' (w'.setCell ⟨p, 1, none⟩ v') := fr_set _
  have ne : ∀ g x, kd w' g = some x → x ≠ 89 + 1 → ¬ g = p := fun g x h1 h2 e => by
    rw [e, kp] at h1
    injection h1 with h1
    exact h2 h1.symm
  exact ⟨(k.blk (by decide)).set_ 1 v', hp.fr hf2 (fun g hg => ne g _ (kd_psv hp hg) (by decide)), fun y hy => hf2.own (hb y hy) (fun g hg => ne g _ (kd_own (hb y hy) hg) (by decide)), (k.gon (by decide)).fr hf2 (ne _ _ (kd_mapz (k.gon (by decide))) (by decide)), (k.num (by decide)).fr hf2 (ne _ _ (kd_mapz (k.num (by decide))) (by decide)),
    fun j hj => (k.row (by decide) j hj).fr hf2 (fun g hg => ne g _ (kd_num (k.row (by decide) j hj) hg) (by decide)), h.inj, (k.dea (by decide)).fr hf2 (ne _ _ (kd_mapx (k.dea (by decide))) (by decide)), (k.lat (by decide)).fr hf2 (ne _ _ (kd_mapx (k.lat (by decide))) (by decide)), h.ne, h.mso, h.msn, h.msl, h.i64⟩
def addM (m : FM) (x : XP) : FM := countM { m with xs := m.xs ++ [x] } x.1 1
def AddDone (w : World) (p : Nat) (a : Ad) (m : FM) (x : XP) (e : Ending) (w' : World) : Prop := ∃ v' : Value, e = .returned (.tuple #[]) ∧ FlM w' p { a with v := v' } (addM m x) ∧ Fr (fun i => i = p ∨ i = a.de ∨ a.v.ownBlock = some i) w w' ∧ (v'.ownBlock = a.v.ownBlock ∨ ∃ g, v'.ownBlock = some g ∧ w.heap.size ≤ g)
theorem PsV.shape {v : Value} {fresh : Bool} {xs : List XP} (h : PsV w fresh v xs) : ∃ A cap, v = .slice A xs.length cap := by
  cases h with
  | nil => exact ⟨_, _, rfl⟩
  | row h _ => exact ⟨_, _, rfl⟩
set_option maxHeartbeats 8000000 in
theorem add_m (h : FlM w p a m) (hfr : m.fresh = true) (hl : m.xs.length < 1048576) (hsm : SmM m) (x : XP) (ho : Own w 0 x.bv x.1.c.body) (hb : x.1.c.body.length ≤ 1000000) (hln : x.1.ln < 4294967296) :
    Calls Try.prog 31 #[fptr p, .agg x.cells] w (AddDone w p a m x) := by
  obtain ⟨cs, hcs⟩ : ∃ cs, cs = x.cells := ⟨_, rfl⟩
  obtain ⟨A, cp, hv⟩ := h.prt.shape
  obtain ⟨N, hN⟩ : ∃ N, N = m.xs.length := ⟨_, rfl⟩
  rw [← hN] at hv hl
  rw [← hcs]
  have HCS := Lib.hid hcs
  have HV := Lib.hid hv
  have HNN := Lib.hid hN
  have HNL := Lib.hid hl
  have H0 := Lib.hid h
  have HSM := Lib.hid hsm
  have HFR := Lib.hid hfr
  have HO := Lib.hid ho
  have HB := Lib.hid hb
  have HLN := Lib.hid hln
  have hb1 := below_one w (.cells cs 94)
  have k1 := Blk.new w 94 cs
  obtain ⟨W1, hW1⟩ : ∃ W1, W1 = w.alloc (.cells cs 94) := ⟨_, rfl⟩
  obtain ⟨g1, hg1⟩ : ∃ g1, g1 = w.heap.size := ⟨_, rfl⟩
  rw [← hW1] at hb1 k1
  rw [← hg1] at k1
  obtain ⟨V1, hV1⟩ : ∃ V1, V1 = W1.drew := ⟨_, rfl⟩
  have hbv : Below w.heap.size w V1 := by rw [hV1]; exact Below.drew hb1
  have k1' : Blk V1 g1 94 cs := by rw [hV1]; exact k1.drew
  have h1 : FlM V1 p a m := h.below hbv
  have HBV := Lib.hid hbv
  have HM1 := Lib.hid h1
  have HK1 := Lib.hid k1'
  have HG1 : Hid (g1 = w.heap.size) := hg1
  have HVE := Lib.hid hV1
  have HLT : Hid (∀ i, a.v.ownBlock = some i → i < V1.heap.size) := fun i hi => h1.lt (.inr (.inl hi))
  have HNV : Hid (¬ a.v.ownBlock = some g1 ∧ ¬ a.v.ownBlock = some p) := ⟨fun e => by have := h.lt (.inr (.inl e)); omega, fun e => by
    have e1 := kd_psv h1.prt e
    rw [kd_blk h1.blk] at e1
    exact absurd e1 (by decide)⟩
  have HCE : Hid (∀ V m', RwS V1 a.v m' V → V.cell? ⟨p, 1, none⟩ = some (.slice A N cp) ∧ Blk V g1 94 cs ∧ Blk V p 89 (flArr m.mark a.v a.go m.nb m.nl m.no m.fl a.nu a.de m.rl a.la)) := fun V m' hS => by
    have b1 := hS.1.blk HM1.out.blk HNV.out.2
    exact ⟨by rw [← HV.out]; exact b1.cell 1, hS.1.blk HK1.out HNV.out.1, b1⟩
  clear hcs hv hN h hsm hfr ho hb hln hb1 k1 hbv k1' h1
  go_enter Try.func31, Try.ntmps31
  go_upto_region 1 with (fail)
  rw [← hW1, ← hg1]
  clear hW1 hg1
  refine wp_region_stage_tail 10 (RwRel V1 a.v) (RwS V1 a.v) [(false, .exact (fptr p)),
      (false, .exact (fptr p)),
      (false, .exact (fptr p)),
      (false, .exact (.pointer (some ⟨p, 1, none⟩))),
      (false, .exact (.slice A N cp)),
      (false, .exact (.agg cs)),
      (false, .grows (BldR V1.heap.size 94 cs)),
      (true, .grows (AppR V1 94 26 a.v (m.xs ++ [x]).length (flat (m.xs ++ [x])))),
      (false, .exact (fptr p)),
      (false, .exact (.pointer (some ⟨p, 1, none⟩)))] (by kernel_rfl) (by kernel_rfl) (by kernel_rfl) rfl (of_decide_eq_true (by kernel_rfl)) (by kernel_rfl) (by kernel_rfl) ?lasts ?start ?walk
  case lasts => exact ⟨fun m v V V' _ h k => BldR.lasts h k, fun m v V V' hm h k => AppR.lasts (Nat.lt_of_le_of_lt (Nat.zero_le _) (hm rfl)) h k, trivial⟩
  case start => exact (by rw [← HVE.out]; exact ⟨Fr.refl _ _, fun _ => Fr.refl _ _⟩)
  case walk =>
    simp only [List.take_succ_cons, List.take_zero, List.drop_succ_cons, List.drop_zero]
    refine stageT_pure rfl (fun m V => ⟨HLT.out, Fr.refl _ V, fun _ => Fr.refl _ V⟩) (fun V m hS hl => by go_simp) ?_
    simp only [Act.put, List.setIfInBounds_toArray, List.set_cons_zero, List.set_cons_succ, List.cons_append, List.nil_append]
    refine stageT_pure rfl (fun m V => ⟨HLT.out, Fr.refl _ V, fun _ => Fr.refl _ V⟩) (fun V m hS hl => by go_simp) ?_
    simp only [Act.put, List.setIfInBounds_toArray, List.set_cons_zero, List.set_cons_succ, List.cons_append, List.nil_append]
    refine stageT_pure rfl (fun m V => ⟨HLT.out, Fr.refl _ V, fun _ => Fr.refl _ V⟩) (fun V m hS hl => by go_simp) ?_
    simp only [Act.put, List.setIfInBounds_toArray, List.set_cons_zero, List.set_cons_succ, List.cons_append, List.nil_append]
    refine stageT_pure rfl (fun m V => ⟨HLT.out, Fr.refl _ V, fun _ => Fr.refl _ V⟩) (fun V m hS hl => by go_simp) ?_
    simp only [Act.put, List.setIfInBounds_toArray, List.set_cons_zero, List.set_cons_succ, List.cons_append, List.nil_append]
    refine stageT_pure rfl (fun m V => ⟨HLT.out, Fr.refl _ V, fun _ => Fr.refl _ V⟩) (fun V m hS hl => by
        have hc := (HCE.out V m hS).1
        go_simp) ?_
    simp only [Act.put, List.setIfInBounds_toArray, List.set_cons_zero, List.set_cons_succ, List.cons_append, List.nil_append]
    refine stageT_pure rfl (fun m V => ⟨HLT.out, Fr.refl _ V, fun _ => Fr.refl _ V⟩) (fun V m hS hl => by
        have hb := (HCE.out V m hS).2.1
        exact exec_loadR rfl rfl (fun j u hu => by rw [hb.cellAdd]; exact hu) Try.underlying94 rfl (by rw [HCS.out]; exact part_info)) ?_
    simp only [Act.put, List.setIfInBounds_toArray, List.set_cons_zero, List.set_cons_succ, List.cons_append, List.nil_append]
    refine stageT_grows rfl (fun V m hS hl => by
        show Words.Leaves _ _ _
        rw [exec_slice_part _ rfl cs rfl ⟨_, _, HCS.out⟩]
        exact ⟨⟨HLT.out, (Fr.refl _ V).alloc _, fun _ => (Fr.refl _ V).alloc _⟩, ⟨_, rfl, hS.1.size, Blk.new V _ _⟩, ⟨hS.1.alloc _, fun e => (hS.2 e).alloc _⟩⟩) (fun v10 => ?_)
    simp only [Act.put, List.setIfInBounds_toArray, List.set_cons_zero, List.set_cons_succ, List.cons_append, List.nil_append]
    refine stageT_move_grows rfl (fun V hS hl => by
        obtain ⟨g1, e1, hB1, hb1⟩ := (hl.1 (by kernel_rfl))
        rw [HCS.out] at hb1
        have hfr := HFR.out
        have hp := HM1.out.prt
        rw [hfr] at hp
        have ho : V.ownsRow 0 94 26 a.v m.xs.length (flat m.xs) := (hS.2 rfl).own hp.row0 (fun _ _ h => h)
        obtain ⟨v', w5, hrun, hr, hf⟩ := app_part (x := x) ho (by have := HNN.out; have := HNL.out; omega) hb1
        rw [HV.out] at hrun
        show Words.Leaves _ _ _
        rw [exec_app rfl rfl e1 hrun]
        exact ⟨⟨HLT.out, hf, fun e => by omega⟩, hr.base hS.1.size, ⟨hS.1.same hf, fun e => by cases e⟩⟩) (fun v11 => ?_)
    simp only [Act.put, List.setIfInBounds_toArray, List.set_cons_zero, List.set_cons_succ, List.cons_append, List.nil_append]
    refine stageT_pure rfl (fun m V => ⟨HLT.out, Fr.refl _ V, fun _ => Fr.refl _ V⟩) (fun V m hS hl => by go_simp) ?_
    simp only [Act.put, List.setIfInBounds_toArray, List.set_cons_zero, List.set_cons_succ, List.cons_append, List.nil_append]
    refine stageT_pure rfl (fun m V => ⟨HLT.out, Fr.refl _ V, fun _ => Fr.refl _ V⟩) (fun V m hS hl => by go_simp) ?_
    simp only [Act.put, List.setIfInBounds_toArray, List.set_cons_zero, List.set_cons_succ, List.cons_append, List.nil_append]
    refine stageT_nil (fun V5 hS hF => ?_)
    have hF2 : BldR V1.heap.size 94 cs v10 V5 ∧ AppR V1 94 26 a.v (m.xs ++ [x]).length (flat (m.xs ++ [x])) v11 V5 ∧ True := hF
    have HAP := Lib.hid hF2.2.1
    have b5 := (HCE.out V5 _ hS).2.2
    have HK5 := Lib.hid (HCE.out V5 _ hS).2.1
    have HS5 := Lib.hid hS.1
    have c1 := b5.cell 1
    have f1 := b5.frozen 1
    simp only [flArr, List.getElem?_toArray, List.getElem?_cons_succ, List.getElem?_cons_zero] at c1
    clear hF hF2 hS b5
    obtain ⟨A6, c6, hv6, h6a, h6b⟩ := own_slice HAP.out.1
    obtain ⟨l6, hl6⟩ : ∃ l6, l6 = (m.xs ++ [x]).length := ⟨_, rfl⟩
    rw [← hl6] at hv6
    rw [hv6] at HAP ⊢
    obtain ⟨v6, hve⟩ : ∃ v6 : Value, v6 = .slice A6 l6 c6 := ⟨_, rfl⟩
    have hp5 : PsV V5 m.fresh v6 (m.xs ++ [x]) := by rw [hve]; exact PsV.of_row HAP.out.1
    have hbo : ∀ y ∈ m.xs ++ [x], Own V5 0 (XP.bv y) y.1.c.body := fun y hy => by
      have h9 : Own V1 0 (XP.bv y) y.1.c.body := by
        rcases List.mem_append.1 hy with hy | hy
        · exact HM1.out.bod y hy
        · rw [List.mem_singleton.1 hy]
          exact (Fr.of_below HBV.out).own HO.out (fun g hg e => by have e' : w.heap.size ≤ g := e; have := (HO.out.lt g hg).2; omega)
      refine HS5.out.own h9 (fun g hg e => ?_)
      have e1 := kd_own h9 hg
      rw [kd_psv HM1.out.prt e] at e1
      exact absurd e1 (by decide)
    have hm6 := HM1.out.grew HS5.out hp5 hbo
    obtain ⟨W6, hW6⟩ : ∃ W6, W6 = V5.setCell ⟨p, 1, none⟩ (.slice A6 l6 c6) := ⟨_, rfl⟩
    rw [hve, ← hW6] at hm6
    have hf6 : Fr (fun i => i = p) V5 W6 := by rw [hW6]; exact fr_set _
    have hk6 : FrAt W6 g1 0 x.1 x.2 := by
      have hb6 : Blk W6 g1 94 cs := hf6.blk HK5.out (fun e => by
        have e1 := kd_blk HK1.out
        have e' : g1 = p := e
        rw [e', kd_blk HM1.out.blk] at e1
        exact absurd e1 (by decide))
      refine ⟨fun j hj => ?_, kd_blk hb6⟩
      rw [hb6.cell, HCS.out, Nat.zero_add]
      rfl
    have HM6 := Lib.hid hm6
    have HK6 := Lib.hid hk6
    have HF6 : Hid (Fr (fun i => i = p ∨ i = a.de ∨ a.v.ownBlock = some i) w W6) := (((Fr.refl (fun i => i = p ∨ i = a.de ∨ a.v.ownBlock = some i) w).grows HBV.out).trans HS5.out (fun i _ e => .inr (.inr e))).trans hf6 (fun i _ e => .inl e)
    have HOB : Hid ((Value.slice A6 l6 c6).ownBlock = a.v.ownBlock ∨ ∃ g, (Value.slice A6 l6 c6).ownBlock = some g ∧ w.heap.size ≤ g) := HAP.out.2.imp id (fun ⟨g, e, hle⟩ => ⟨g, e, Nat.le_trans HBV.out.size hle⟩)
    clear hl6 hv6 h6a h6b hve hp5 hbo hm6 hf6 hk6
    go_upto_region 2 with (fail)
    rw [← hW6]
    clear hW6 c1 f1
    have hc := count_any HM6.out HK6.out (z := 1) (.inl rfl) ⟨by have := HSM.out.nl.1; show _ ≤ m.nl; omega, by have := HSM.out.nl.2; show m.nl ≤ _; omega⟩ ⟨by have := HSM.out.no.1; show _ ≤ m.no; omega, by have := HSM.out.no.2; show m.no ≤ _; omega⟩ ⟨by have := HSM.out.nb.1; show _ ≤ m.nb; omega, by have := HSM.out.nb.2; show m.nb ≤ _; omega⟩ ⟨by have := (HSM.out.df x.1.ln).1; show _ ≤ m.df x.1.ln; omega, by have := (HSM.out.df x.1.ln).2; show m.df x.1.ln ≤ _; omega⟩ HB.out HLN.out
    go_wp2_with (go_at_call 51; refine hc.mono ?_; rintro e w' ⟨rfl, h7, h8⟩)
    go_end0
    exact ⟨_, rfl, h7, HF6.out.trans h8 (fun i _ e => e.elim .inl (fun e => .inr (.inl e))), HOB.out⟩
end
end Go.Proofs.Ytfgfiiknbkakaaa.Fl
