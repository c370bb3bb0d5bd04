/-
  What the laws of layer 6 share: how great a chunk is; what must be answered ahead of everything else.
-/
import Derived.Test.YtpgklhecmafnbaaChPut
import Derived.Test.YtpgklhecmafnbaaChGet
set_option linter.unusedVariables false
set_option linter.unusedSimpArgs false
namespace Go.Proofs.Ytpgklhecmafnbaa.Chk
open Go.ChangeShapes Go.WideShapes Go.ChangeAt Go.RowKit Go.Deep Go.Proofs.Ytpgklhecmafnbaa.Words Go.Proofs.Ytpgklhecmafnbaa.Oct Go.Proofs.Ytpgklhecmafnbaa.Par

/-- How great a chunk's lists are. -/
def sizeC (c : Ck) : Nat := 4 * c.gaps.length + 4 * c.dups.length + 8 * c.skips.length + c.body.length + sizeL c.ps
theorem max_i (a b : Nat) : (if (b : Int) > (a : Int) then (b : Int) else (a : Int)) = ((max a b : Nat) : Int) := by
  rw [Nat.max_def]
  split <;> split <;> omega
theorem run_max_int5 {P : Program} (w : World) (ts : Array TypeId) (t : TypeId) (x y z u v : Int) : (Builtin.max_ ts t #[.int .i64 x, .int .i64 y, .int .i64 z, .int .i64 u, .int .i64 v]).run P w = .ok (.int .i64 (max (max (max (max x y) z) u) v)) w := by
  have e : ∀ a b : Int, (if a < b then b else a) = max a b := fun a b => by rw [Int.max_def]; split <;> split <;> omega
  simp [Builtin.max_, Builtin.max2, e]
theorem sizeL_take_succ {ls : List Prm} {k : Nat} {p : Prm} (h : ls[k]? = some p) : sizeL (ls.take (k + 1)) = sizeL (ls.take k) + (4 + p.2.length) := by
  rw [take_snoc h]
  simp [sizeL]

set_option maxHeartbeats 4000000 in
set_option maxRecDepth 100000 in
theorem size_b {w : World} {B : Nat} {cs : Array Value} {c : Ck} (hB : B ≤ w.heap.size) (h : CkAt w B cs c) :
    Calls Try.prog 50 #[.agg cs] w fun e w' => (∃ s : Nat, e = .returned (.int .i64 (s : Int)) ∧ s ≤ 30000000 ∧ (s ≤ 1000000 → sizeC c = s)) ∧ Below w.heap.size w w' := by
  obtain ⟨g, d, s, p, b, hc, hl⟩ := h.parts
  have HBL := Lib.hid (Blk.new w 32 cs)
  have HB := Lib.hid ((Below.refl w.heap.size w).alloc (Nat.le_refl _) (.cells cs 32))
  have e14 := hc.c14
  have e15 := hc.c15
  have e16 := hc.c16
  have e17 := hc.c17
  have e18 := hc.c18
  have HP := Lib.hid hl.ps
  have hp1 := hl.okp.1
  have hp2 := hl.okp.2
  have hg1 := hl.okg.1
  have hg2 := hl.okg.2
  have hd1 := hl.okd.1
  have hd2 := hl.okd.2
  have hs1 := hl.oks.1
  have hs2 := hl.oks.2
  have hb1 := hl.okb.1
  have hb2 := hl.okb.2
  obtain ⟨ls, hls⟩ : ∃ ls, ls = c.ps := ⟨_, rfl⟩
  obtain ⟨ng, hng⟩ : ∃ n, n = c.gaps.length := ⟨_, rfl⟩
  obtain ⟨nd, hnd⟩ : ∃ n, n = c.dups.length := ⟨_, rfl⟩
  obtain ⟨ns, hns⟩ : ∃ n, n = c.skips.length := ⟨_, rfl⟩
  obtain ⟨np, hnp⟩ : ∃ n, n = ls.length := ⟨_, rfl⟩
  obtain ⟨nb, hnb⟩ : ∃ n, n = c.body.length := ⟨_, rfl⟩
  have HSC : Hid (sizeC c = 4 * ng + 4 * nd + 8 * ns + nb + sizeL ls) := by rw [hng, hnd, hns, hnb, hls]; rfl
  have HNP := Lib.hid hnp
  rw [← hls] at HP e17 hp1
  rw [← hng] at e14 hg1
  rw [← hnd] at e15 hd1
  rw [← hns] at e16 hs1
  rw [← hnp] at e17 hp1
  rw [← hnb] at e18 hb1
  obtain ⟨sc, hsc⟩ : ∃ sc, sc = sizeC c := ⟨_, rfl⟩
  rw [← hsc] at HSC ⊢
  obtain ⟨M, hM⟩ : ∃ M, M = max (max (max (max ng nd) ns) nb) np := ⟨_, rfl⟩
  have hmax : ∀ W, (Builtin.max_ #[3, 3, 3, 3, 3] 3 #[.int .i64 (ng : Int), .int .i64 (nd : Int), .int .i64 (ns : Int), .int .i64 (nb : Int), .int .i64 (np : Int)]).run Try.prog W = .ok (.int .i64 (M : Int)) W := fun W => by
    have e2 : (M : Int) = max (max (max (max (ng : Int) nd) ns) nb) np := by rw [hM]; omega
    rw [e2]
    exact run_max_int5 W _ _ _ _ _ _ _
  have hMb : ng ≤ M ∧ nd ≤ M ∧ ns ≤ M ∧ nb ≤ M ∧ np ≤ M := by omega
  obtain ⟨m1, m2, m3, m4, m5⟩ := hMb
  have HBw := Lib.hid hB
  clear h hc hl hls hng hnd hns hnp hnb hsc hM hB
  go_enter Try.func50, Try.ntmps50
  go_upto_region 1 with (fail)
  obtain ⟨W1, hW1⟩ : ∃ W1, W1 = w.alloc (.cells cs 32) := ⟨_, rfl⟩
  rw [← hW1] at HBL HB ⊢
  obtain ⟨g0, hg0⟩ : ∃ g0, g0 = w.heap.size := ⟨_, rfl⟩
  have HG0 : Hid (CkBlk W1 g0 cs) := by rw [hg0]; exact HBL
  rw [← hg0]
  have f14 := HG0.out.at e14
  have f15 := HG0.out.at e15
  have f16 := HG0.out.at e16
  have f17 := HG0.out.at e17
  have f18 := HG0.out.at e18
  clear hW1 HBL hg0 e14 e15 e16 e17 e18
  by_cases hbig : (1000000 : Int) < (M : Int)
  · go_wp2_with fail
    go_ret
    exact ⟨⟨1000001, rfl, by omega, fun h => by omega⟩, HB.out⟩
  · have n1 : ng ≤ 1000000 := by omega
    have n2 : nd ≤ 1000000 := by omega
    have n3 : ns ≤ 1000000 := by omega
    have n4 : nb ≤ 1000000 := by omega
    have n5 : np ≤ 1000000 := by omega
    obtain ⟨n0, hn0⟩ : ∃ n0, n0 = 4 * ng + 4 * nd + 8 * ns + nb := ⟨_, rfl⟩
    have HN0 := Lib.hid hn0
    have hn0i : 4 * (ng : Int) + 4 * (nd : Int) + 8 * (ns : Int) + (nb : Int) = (n0 : Int) := by omega
    have hn0b : n0 ≤ 17000000 := by omega
    clear hn0 m1 m2 m3 m4 m5
    go_wp2_with fail
    go_loopw [2, 3, 5, 44] (fun _ s _ i wr => ∃ (k acc : Nat), k ≤ np ∧ i = .int .i64 k ∧ s = .int .i64 (acc : Int) ∧ acc ≤ 20000000 ∧ Hid (acc = n0 + sizeL (ls.take k)) ∧ Hid (Below w.heap.size w wr)) (fun _ _ _ i _ => np - (intOf i).toNat)
    case atStart => exact ⟨0, n0, by omega, rfl, by go_num, by omega, by rw [List.take_zero]; rfl, HB⟩
    case round =>
      obtain ⟨k, acc, hk, rfl, rfl, hacc, HI, HBr⟩ := hrel
      by_cases hlt : k < np
      · have hk2 : k < ls.length := by rw [← HNP.out]; exact hlt
        obtain ⟨ad, a, cv, hA, hblk, hp16, hc0, hc1, hvc, hvm, hvb⟩ := (HP.out.keep (w' := wr) (fun q hq => HBr.out.cell (Nat.lt_of_lt_of_le hq HBw.out))) k _ (List.getElem?_eq_getElem hk2)
        obtain ⟨q, hq⟩ : ∃ q, q = ls[k] := ⟨_, rfl⟩
        have HT : Hid (sizeL (ls.take (k + 1)) = sizeL (ls.take k) + (4 + q.2.length)) := sizeL_take_succ (by rw [hq]; exact List.getElem?_eq_getElem hk2)
        have HFL : Hid (sizeL (ls.take (k + 1)) ≤ sizeL ls) := sizeL_take ls (k + 1)
        rw [← hq] at hp16 hc0 hc1 hvc
        obtain ⟨nv, hnv⟩ : ∃ nv, nv = q.2.length := ⟨_, rfl⟩
        rw [← hnv] at hc1 hvc HT
        obtain ⟨kd, hkd⟩ : ∃ kd, kd = q.1 := ⟨_, rfl⟩
        rw [← hkd] at hp16 hc0
        have HBv : Hid (Below w.heap.size w (wr.alloc (.cells #[.int .u16 (kd : Int), .slice a nv cv] 131))) := HBr.out.alloc HBr.out.size _
        rcases hA' : p.A with _ | ad'
        · rw [hA'] at hA; cases hA
        rw [hA'] at hA
        injection hA with hA
        subst hA
        clear hq hnv hkd HBr
        by_cases h1 : (1000000 : Int) < (acc : Int)
        · go_wp2_with fail
          go_ret
          exact ⟨⟨1000001, rfl, by omega, fun h => by omega⟩, HBv.out⟩
        · by_cases h2 : (1000000 : Int) < (nv : Int)
          · go_wp2_with fail
            go_ret
            exact ⟨⟨1000001, rfl, by omega, fun h => by omega⟩, HBv.out⟩
          · have d1 : IntKind.i64.wrap (4 + (nv : Int)) = 4 + (nv : Int) := IntWalk.i64_in _ (by omega)
            have d2 : IntKind.i64.wrap ((acc : Int) + (4 + (nv : Int))) = (acc : Int) + (4 + (nv : Int)) := IntWalk.i64_in _ (by omega)
            go_wp2_with fail
            go_roundw
            case rel => exact ⟨k + 1, acc + (4 + nv), by omega, by go_num, by go_num, by omega, by rw [HT.out, HI.out]; show _ = _; omega, HBv⟩
            case measure => simp [intOf]; omega
      · obtain rfl : k = np := by omega
        go_wp2_with fail
        go_ret
        refine ⟨⟨acc, rfl, by omega, fun _ => ?_⟩, HBr.out⟩
        rw [HSC.out, HI.out, HN0.out, List.take_of_length_le (by rw [HNP.out]; exact Nat.le_refl _)]
theorem size_k {w : World} {B : Nat} {cs : Array Value} {c : Ck} (hB : B ≤ w.heap.size) (h : CkAt w B cs c) :
    Calls Try.prog 50 #[.agg cs] w fun e w' => (∃ s : Nat, e = .returned (.int .i64 (s : Int)) ∧ (s ≤ 1000000 → sizeC c = s)) ∧ Below w.heap.size w w' :=
  (size_b hB h).mono fun _ _ ⟨⟨s, h1, _, h2⟩, h3⟩ => ⟨⟨s, h1, h2⟩, h3⟩
end Go.Proofs.Ytpgklhecmafnbaa.Chk
