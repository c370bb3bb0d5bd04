/-
  Contracts of Len and Gaps.
-/
import Derived.Test.YtgbkmnmkejcogaaSpanFind
import Derived.Maps.AppendAt
import Derived.Deep.RegionHeld3
import Derived.Deep.AppendLies
set_option linter.unusedVariables false
set_option linter.unusedSimpArgs false
namespace Go.Proofs.Ytgbkmnmkejcogaa.Span
open Go.ChangeShapes Go.WideShapes Go.ChangeAt Go.RowKit Go.Proofs.Ytgbkmnmkejcogaa.Ser

theorem dist_two (M : Int) (a b : Nat) (hM : 0 ≤ M ∧ M ≤ 4294967295) (hab : a ≤ b) (hb : b < 4294967296) (w : World) :
    Calls Try.prog 42 #[.int .u32 (adr M a), .int .u32 (adr M b)] w fun e w' => e = .returned (.int .u32 ((b - a : Nat) : Int)) ∧ w = w' :=
  (dist_any _ _ w).mono fun e w' ⟨he, hw⟩ => ⟨by rw [he, dist_adr2 M a b hM hab hb], hw⟩

theorem cnt_take (rs : List (Nat × Nat)) (k : Nat) (h : k < rs.length) : cnt (rs.take (k + 1)) = cnt (rs.take k) + (rs[k].2 - rs[k].1 + 1) := by
  rw [List.take_succ_eq_append_getElem h, cnt_snoc]
theorem gp_take {lo : Nat} {rs : List (Nat × Nat)} (h : Gp lo rs) (k : Nat) : Gp lo (rs.take k) := by
  have : Gp lo (rs.take k ++ rs.drop k) := by rw [List.take_append_drop]; exact h
  exact (gp_append.1 this).1

set_option maxHeartbeats 1000000 in
theorem len_any {w : World} {B p : Nat} {v : Value} {M : Int} {rs : List (Nat × Nat)} {lo : Nat} (h : SetAt w B p v M rs) (hg : Gp lo rs) :
    Calls Try.prog 26 #[ptr p] w fun e w' => e = .returned (.int .i64 (cnt rs : Int)) ∧ Below w.heap.size w w' := by
  have hM := h.hM
  have h1 := h.rows
  have hl := gp_len hg
  have HS := Lib.hid h
  have HG := Lib.hid hg
  obtain ⟨a0, cap, rfl⟩ := own_slice h.own
  obtain ⟨n, hn⟩ : ∃ n, n = rs.length := ⟨_, rfl⟩
  rw [← hn] at h1 hl
  have HN := Lib.hid hn
  clear h hg hn
  go_enter Try.func26, Try.ntmps26
  go_wp2
  go_loopw [3, 11] (fun c i wr => ∃ k : Nat, k ≤ n ∧ i = .int .i64 k ∧ c = .int .i64 ((cnt (rs.take k) : Nat) : Int) ∧ Below w.heap.size w wr) (fun _ i _ => n - (intOf i).toNat)
  case atStart => exact ⟨0, Nat.zero_le _, rfl, rfl, Below.refl _ _⟩
  case round =>
    obtain ⟨k, hk, rfl, rfl, hb⟩ := hrel
    have hc := cnt_le (gp_take HG.out k)
    by_cases hlt : k < n
    · have hk2 : k < rs.length := by rw [← HN.out]; exact hlt
      have hs := HS.out.below hb
      obtain ⟨g, cap', hv, _, hgl, c0, c1⟩ := hs.at_ hk2
      injection hv with hv1 hv2 hv3
      subst hv1
      subst hv3
      have hr := HG.out.2 _ (List.getElem_mem hk2)
      have hct := cnt_take rs k hk2
      obtain ⟨x, hx⟩ : ∃ x, x = rs[k] := ⟨_, rfl⟩
      rw [← hx] at c0 c1 hr hct
      obtain ⟨m, hm⟩ : ∃ m, m = cnt (rs.take k) := ⟨_, rfl⟩
      rw [← hm] at hc hct ⊢
      have HT := Lib.hid hct
      have HB := Lib.hid hb
      clear hb hs hx hm hct
      go_wp2_with (go_at_call 42; refine (dist_two M x.1 x.2 hM (by omega) (by omega) _).mono ?_; rintro e w' ⟨rfl, rfl⟩)
      go_roundw
      case rel =>
        refine ⟨k + 1, by omega, by go_num, ?_, (HB.out.alloc HB.out.size _)⟩
        rw [HT.out]
        go_num
      case measure => simp [intOf]; omega
    · obtain rfl : k = n := by omega
      have HB := Lib.hid hb
      have HT : Hid (cnt (rs.take k) = cnt rs) := by rw [HN.out, List.take_length]; rfl
      clear hb
      go_wp2
      go_ret
      exact ⟨ret_int (by rw [HT.out]), HB.out⟩

/-- The cells of a list of gaps. -/
def gcells : List (Nat × Nat) → List Value
  | [] => []
  | r :: rs => .int .u16 (r.1 : Int) :: .int .u16 (r.2 : Int) :: gcells rs
theorem gcells_append : ∀ (a b : List (Nat × Nat)), gcells (a ++ b) = gcells a ++ gcells b
  | [], _ => rfl
  | r :: a, b => by simp [gcells, gcells_append a b]
theorem gcells_length : ∀ (a : List (Nat × Nat)), (gcells a).length = a.length * 2
  | [] => rfl
  | r :: a => by simp [gcells, gcells_length a]; omega
theorem gcells_take (rs : List (Nat × Nat)) (k : Nat) (h : k < rs.length) : gcells (rs.take (k + 1)) = gcells (rs.take k) ++ [.int .u16 (rs[k].1 : Int), .int .u16 (rs[k].2 : Int)] := by
  rw [List.take_succ_eq_append_getElem h, gcells_append]; rfl
theorem gap_info : (Try.prog.info? 58).map (fun i => (i.zero, i.size, i.bytes)) = some (some (.agg #[.int .u16 0, .int .u16 0]), 2, 4) := by kernel_rfl

/-- How many gaps are told. -/
def told (rs : List (Nat × Nat)) (most : Int) : Nat := min rs.length most.toNat
/-- What Gaps leaves. -/
def Gapsd (w : World) (rs : List (Nat × Nat)) (most : Int) (e : Ending) (w' : World) : Prop :=
  ∃ v, e = .returned v ∧ w'.ownsRow w.heap.size 58 2 v (told rs most) (gcells (rs.take (told rs most))) ∧ Below w.heap.size w w'

set_option maxHeartbeats 1000000 in
theorem gaps_any {w : World} {B p : Nat} {v : Value} {M : Int} {rs : List (Nat × Nat)} {lo : Nat} (h : SetAt w B p v M rs) (hg : Gp lo rs) (most : Int) (hmo : -9223372036854775808 ≤ most ∧ most ≤ 9223372036854775807) :
    Calls Try.prog 22 #[ptr p, .int .i64 most] w (Gapsd w rs most) := by
  have hM := h.hM
  have h1 := h.rows
  have hl := gp_len hg
  have HS := Lib.hid h
  have HG := Lib.hid hg
  obtain ⟨a0, cap, rfl⟩ := own_slice h.own
  obtain ⟨n, hn⟩ : ∃ n, n = rs.length := ⟨_, rfl⟩
  rw [← hn] at h1 hl
  have HN := Lib.hid hn
  clear h hg hn
  obtain ⟨i0, hi0, hz0, hz1, hz2⟩ := info_parts gap_info
  go_enter Try.func22, Try.ntmps22
  go_wp2
  go_loopw [5, 13] (fun c i wr => ∃ (k : Nat) (a : Option Addr) (q : Nat), k ≤ n ∧ (k : Int) ≤ max most 0 ∧ i = .int .i64 k ∧ c = .slice a k q ∧ Hid (wr.ownsRow w.heap.size 58 2 (.slice a k q) k (gcells (rs.take k))) ∧ Below w.heap.size w wr) (fun _ i _ => n - (intOf i).toNat)
  case atStart => exact ⟨0, none, 0, Nat.zero_le _, by omega, rfl, rfl, World.ownsRow_nil _ _ _ _, Below.refl _ _⟩
  case round =>
    obtain ⟨k, a, q, hk, hkm, rfl, rfl, ho, hb⟩ := hrel
    by_cases hlt : k < n
    · have hk2 : k < rs.length := by rw [← HN.out]; exact hlt
      have hs := HS.out.below hb
      obtain ⟨g, cap', hv, _, hgl, c0, c1⟩ := hs.at_ hk2
      injection hv with hv1 hv2 hv3
      subst hv1
      subst hv3
      have hr := HG.out.2 _ (List.getElem_mem hk2)
      have hgt := gcells_take rs k hk2
      obtain ⟨x, hx⟩ : ∃ x, x = rs[k] := ⟨_, rfl⟩
      rw [← hx] at c0 c1 hr hgt
      have m1 := hs.mark
      have hpl := hs.blk.lt
      have HT := Lib.hid hgt
      have HB := Lib.hid hb
      clear hb hs hx hgt
      by_cases hm : most ≤ k
      · have hmk : decide (most ≤ (k : Int)) = true := decide_eq_true hm
        go_wp2
        go_ret
        have e : told rs most = k := by unfold told; rw [← HN.out]; simp only [Nat.min_def]; split <;> omega
        exact ⟨_, rfl, by rw [e]; exact ho.out.alloc _, HB.out.alloc HB.out.size _⟩
      · have hmk : decide (most ≤ (k : Int)) = false := decide_eq_false hm
        go_wp2_with fail
        obtain ⟨wo, hwo⟩ : ∃ wo, wo = wr.alloc (.cells #[.int .u32 (adr M x.1), .int .u32 (adr M x.2)] 71) := ⟨_, rfl⟩
        have m2 : wo.cell? ⟨p, 0, none⟩ = some (.int .u32 M) := by rw [hwo]; go_simp
        have d0 : wo.cell? ⟨wr.heap.size, 0, none⟩ = some (.int .u32 (adr M x.1)) := by rw [hwo]; go_simp
        have d1 : wo.cell? ⟨wr.heap.size, 1, none⟩ = some (.int .u32 (adr M x.2)) := by rw [hwo]; go_simp
        have HB2 : Hid (Below w.heap.size w wo) := by rw [hwo]; exact HB.out.alloc HB.out.size _
        have ho2 : wo.ownsRow w.heap.size 58 2 (.slice a k q) k (gcells (rs.take k)) := by rw [hwo]; exact ho.out.alloc _
        have HO2 := Lib.hid ho2
        rw [← hwo]
        have l1 : wr.heap.size < wo.heap.size := by rw [hwo]; simp
        have l2 : p < wo.heap.size := by omega
        have hwb := HB2.out.size
        have ag : (Value.slice a k q).ownBlock ≠ some p := fun e => by have := (ho.out.lt p e).1; have := HS.out.blk.lt; omega
        have ah : (Value.slice a k q).ownBlock ≠ some wr.heap.size := fun e => by have := (ho.out.lt _ e).2; omega
        have hu1 : IntKind.u16.wrap (x.1 : Int) = (x.1 : Int) := by simp [IntKind.wrap, IntKind.bits, IntKind.signed]; omega
        have hu2 : IntKind.u16.wrap (x.2 : Int) = (x.2 : Int) := by simp [IntKind.wrap, IntKind.bits, IntKind.signed]; omega
        clear hwo m1 c0 c1 ho2 ho HB
        go_region_held3 (fun w' => w'.cell? ⟨p, 0, none⟩ = some (.int .u32 M) ∧ w'.cell? ⟨wr.heap.size, 0, none⟩ = some (.int .u32 (adr M x.1)) ∧ w'.cell? ⟨wr.heap.size, 1, none⟩ = some (.int .u32 (adr M x.2)))
          (first
            | go_keep
            | (go_split_ands
               refine ⟨?_, ?_, ?_⟩
               · (rw [hgrow.cell_far _ (by simp; omega) (Ne.symm ag)]; assumption)
               · (rw [hgrow.cell_far _ (by simp; omega) (Ne.symm ah)]; assumption)
               · (rw [hgrow.cell_far _ (by simp; omega) (Ne.symm ah)]; assumption)))
          (first
            | (go_at_call 42; (with_reducible refine (dist_at M x.1 hM (by omega) _).mono ?_); rintro e w' ⟨rfl, rfl⟩)
            | (go_at_call 42; (with_reducible refine (dist_at M x.2 hM (by omega) _).mono ?_); rintro e w' ⟨rfl, rfl⟩)
            | (refine step_append_lies _ (by rfl) _ _ _ (by rfl) w.heap.size 58 i0 _ 2 4 Try.underlying49 hi0 hz0 hz1 hz2 rfl (by omega) (.slice a k q) k (gcells (rs.take k)) (by rfl) ((HO2.out.alloc _).drew)
                ⟨wo.heap.size, 0, none⟩ 1 1 [.int .u16 x.1, .int .u16 x.2] (by rfl) (by rfl) (World.news_of_block (cs := #[.int .u16 x.1, .int .u16 x.2]) (t := 58) (fr := (0, 0)) (heap_alloc_new wo _)) (by simp [Value.oneCell'])
                (by omega) (by simp only [maxLen]; omega) (by omega) (by simp; omega) (wo.heap.size + 1) (by simp) ?_; intro gg gcap w1 hown1 hgrow hat hgl1))
        have HO3 := Lib.hid hown1
        have HB3 : Hid (Below w.heap.size w w1) := by
          refine ((HB2.out.alloc HB2.out.size _).drew).grown hgrow (Nat.le_trans hwb (by simp)) (fun b e => ?_)
          exact (HO2.out.lt b e).1
        clear hown1 hgrow hat hgl1 hu1 hu2 ag ah
        go_wp2
        go_roundw
        case rel =>
          refine ⟨k + 1, some ⟨gg, 0, none⟩, gcap, by omega, by omega, by go_num, rfl, ?_, HB3.out⟩
          rw [HT.out]
          exact HO3.out
        case measure => simp [intOf]; omega
    · obtain rfl : k = n := by omega
      have HB := Lib.hid hb
      clear hb
      go_wp2
      go_ret
      have e : told rs most = k := by unfold told; rw [← HN.out]; simp only [Nat.min_def]; split <;> omega
      exact ⟨_, rfl, by rw [e]; exact ho.out, HB.out⟩
end Go.Proofs.Ytgbkmnmkejcogaa.Span
