/-
  PROVED: SpanPlays of flumelaw02 answers true for every input, and its arguments read afterwards as before. CONDITIONS: none beside the form's own.
  (The frame was written by the kit's proof-skeleton; the walk is mine.)
-/
import Derived.Test.YtgbkmnmkejcogaaRows
import Derived.Test.YtgbkmnmkejcogaaSpanPly
import Derived.WalkKit
import Derived.ProofKit
import Derived.OpenShut
import Derived.ShutString
import Derived.ChangeOld
import Derived.Below
namespace Go.Proofs.Ytgbkmnmkejcogaa.spanPlays
open Go.ChangeShapes Go.WideShapes Go.ChangeAt Go.RowKit
open Go.ChangeMaps (open_string shut_string)
set_option linter.unusedVariables false

theorem own : ownKnob Try.prog.godebug = none := by kernel_rfl
theorem laidOut : laidOutB Try.prog = true := by kernel_rfl

/-- WHAT THE WALK IS TOLD OF A SLICE OF INTEGERS THAT CAME IN: it is nil; or it leads to a row of 'cap' cells, the numbers 'zs' (the first 'len' are its elements, the rest its spare room), each fitting its kind. -/
def IsRow (k : IntKind) (w : World) (a : Option Addr) (len cap : Nat) (zs : List Int) : Prop :=
  (a = none ∧ len = 0 ∧ cap = 0 ∧ zs = []) ∨
  ∃ x, a = some x ∧ len ≤ cap ∧ cap ≤ maxLen ∧ zs.length = cap ∧ (∀ i, i < zs.length → w.cell? (x.add i) = some (.int k (zs.getD i 0))) ∧ ∀ n ∈ zs, (Lit.int k n).wf = true

/-! ### STEP 1: THE WALK: the Go text returns true, AND WRITES NOTHING THAT WAS THERE: 'Below w.heap.size w w'' (Derived/Below.lean: '.refl', '.alloc', '.drew', '.setCell' at a new block, '.trans'). Open each 'IsRow' by 'rcases' AHEAD of 'go_enter'; part every test ahead of the walk. -/
open Ser Span
theorem elem {w w' : World} {a : Option Addr} {len : Nat} {z : List Int} {K : IntKind} (hr : ∀ i, i < len → ∃ x, a = some x ∧ x.block < w.heap.size ∧ w.cell? (x.add i) = some (.int K (z.getD i 0)) ∧ (Lit.int K (z.getD i 0)).wf = true) (hb : Below w.heap.size w w') {i : Nat} (hi : i < len) :
    ∃ x q, a = some x ∧ w'.cell? (x.add i) = some (.int K q) ∧ (Lit.int K q).wf = true := by
  obtain ⟨x, ha, hx, hc, hw⟩ := hr i hi
  exact ⟨x, z.getD i 0, ha, row_later hb hx hc, hw⟩
set_option maxRecDepth 100000 in
set_option maxHeartbeats 2000000 in
theorem walk (a0 : Int) (a1 : Option Addr) (len1 cap1 : Nat) (z1 : List Int) (a2 : Option Addr) (len2 cap2 : Nat) (z2 : List Int) (w : World) (w0 : (Lit.int .u32 a0).wf = true) (w1 : IsRow .u32 w a1 len1 cap1 z1) (w2 : IsRow .u8 w a2 len2 cap2 z2) :
    Calls Try.prog 7 #[.int .u32 a0, .slice a1 len1 cap1, .slice a2 len2 cap2] w fun e w' => e = .returned (.bool true) ∧ Below w.heap.size w w' := by
  have hM : 0 ≤ a0 ∧ a0 ≤ 4294967295 := bounds_u32 w0
  obtain ⟨hcap, hlen, hrow⟩ := row_of w1
  obtain ⟨hcap2, hlen2, hrow2⟩ := row_of w2
  have HR := Lib.hid hrow
  have HR2 := Lib.hid hrow2
  clear hrow hrow2 w1 w0 w2
  go_enter Try.func7, Try.ntmps7
  go_wp2_with fail
  refine (first_span w).mono ?_
  rintro e W1 ⟨rfl, hb1⟩
  go_wp2_with fail
  refine (new_any a0 hM w.heap.size W1 hb1.size).mono ?_
  rintro e W2 ⟨rfl, hs2, hb2⟩
  have HB2 := Lib.hid (hb1.trans (hb2.mono hb1.size))
  have HS2 := Lib.hid hs2
  have HB1 := Lib.hid hb1
  clear hs2 hb1 hb2
  go_wp2_with (first
    | ((with_reducible refine wpList_build_run _ rfl 45 (.tmp 21) rfl ?_ (run_build_ref a0 _) ?_); (focus rfl))
    | ((with_reducible refine wpList_box_run _ rfl 45 (.tmp 22) rfl ?_ (run_box_ref a0 _) ?_); (focus rfl)))
  have hps : PSt w (W2.alloc (.cells (refNew a0) 45)) W1.heap.size W2.heap.size := by
    have hb3 : Below W2.heap.size W2 (W2.alloc (.cells (refNew a0) 45)) := (Below.refl _ _).alloc (Nat.le_refl _) _
    refine ⟨_, a0, [], HS2.out.below hb3, gp_nil 2, ⟨HB2.out.size, hM, _, heap_alloc_new W2 _, refNew_cells a0⟩, ?_, by simp [Value.ownBlock], HB2.out.trans (hb3.mono HB2.out.size)⟩
    have := HS2.out.blk.lt
    omega
  have HO := Lib.hid hps
  clear hps
  go_loopw [26] (fun i wr => ∃ k : Nat, k ≤ len1 ∧ i = .int .i64 k ∧ Hid (PSt w wr W1.heap.size W2.heap.size)) (fun i _ => len1 - (intOf i).toNat)
  case atStart => exact ⟨0, Nat.zero_le _, rfl, HO⟩
  case round =>
    obtain ⟨wo, rfl⟩ : ∃ wo : World, wo = wr := ⟨_, rfl⟩
    obtain ⟨k, hk, rfl, ho⟩ := hrel
    by_cases hlt : k < len1
    · obtain ⟨x, t, rfl, hc1, hw1⟩ := elem HR.out ho.out.below hlt
      have ht := bounds_u32 hw1
      clear hw1
      by_cases h60 : k < 60
      · go_upto_if 36 with (fail)
        go_cut [11] from 36 to 41 (fun s11 wx => ∃ v : Nat, s11 = .int .u8 (v : Int) ∧ v ≤ 4 ∧ Hid (PSt w wx W1.heap.size W2.heap.size))
        case first =>
          by_cases hk2 : k < len2
          · obtain ⟨x2, v, rfl, hc2, hw2⟩ := elem HR2.out ho.out.below hk2
            have hv := bounds_u8 hw2
            clear hw2
            go_wp2_with fail
            go_meet
            exact ⟨(v % 5).toNat, by congr 1; omega, by omega, ho⟩
          · go_wp2_with fail
            go_meet
            exact ⟨0, rfl, by omega, ho⟩
        case rest =>
          obtain ⟨v, rfl, hv4, ho⟩ := hcut
          clear hc1
          go_upto_if 43 with (fail)
          go_cut [11] from 43 to 57 (fun s11 wx => s11 = .int .u8 (v : Int) ∧ Hid (PSt w wx W1.heap.size W2.heap.size))
          case first =>
            by_cases h4 : v = 4
            · subst h4
              obtain ⟨M, rs, C1, C2⟩ := ho.out.skip1 ht
              have HC1 := Lib.hid C1
              have HC2 := Lib.hid C2
              clear C1 C2
              go_wp2_with fail
              refine HC1.out.mono ?_
              rintro e w3 ⟨rfl, hm⟩
              have HM := Lib.hid hm
              clear hm
              go_wp2_with fail
              refine (HC2.out _ HM.out).mono ?_
              rintro e w4 ⟨rfl, hps⟩
              have HP := Lib.hid hps
              clear hps
              go_wp2_with fail
              go_meet
              exact ⟨rfl, HP⟩
            · have e4 : ((v : Int) == 4) = false := by simp; omega
              obtain ⟨M, rs, C1, C2⟩ := ho.out.add1 ht
              have HC1 := Lib.hid C1
              have HC2 := Lib.hid C2
              clear C1 C2
              go_wp2_with fail
              refine HC1.out.mono ?_
              rintro e w3 ⟨rfl, hm⟩
              have HM := Lib.hid hm
              clear hm
              go_wp2_with fail
              refine (HC2.out _ HM.out).mono ?_
              rintro e w4 ⟨rfl, hps⟩
              have HP := Lib.hid hps
              clear hps
              go_wp2_with fail
              go_meet
              exact ⟨rfl, HP⟩
          case rest =>
            obtain ⟨rfl, HP⟩ := hcut
            go_wp2_with fail
            obtain ⟨v5, M5, rs5, hbs⟩ := HP.out
            refine (rgaps_any hbs.rf hbs.gp).mono ?_
            rintro e w5 ⟨u, rfl, hu, hb5⟩
            have HBS5 := Lib.hid (hbs.later hb5)
            have hgu := GapsAt.of_own hu
            have HOU := Lib.hid hu
            have hu3 := own_cap hu
            obtain ⟨ua, ucap, rfl⟩ := own_slice hu
            have hu4 : rs5.length ≤ ucap := hu3 _ _ rfl
            have hl := gp_len hbs.gp
            obtain ⟨n, hn⟩ : ∃ n, n = rs5.length := ⟨_, rfl⟩
            obtain ⟨cn, hcn⟩ : ∃ cn, cn = cnt rs5 := ⟨_, rfl⟩
            rw [← hn, ← hcn]
            rw [← hn] at hl hgu hu4
            have HUC := Lib.hid hu4
            have HGU := Lib.hid hgu
            have HN := Lib.hid hn
            have HCN := Lib.hid hcn
            have hcl := cnt_le hbs.gp
            rw [← hcn] at hcl
            clear hbs hu hb5 hgu hn hcn hu3 hu4
            go_wp2_with fail
            refine (gaps_read HBS5.out.sa HBS5.out.gp 9999 (by omega)).mono ?_
            rintro e w6 ⟨g, rfl, hg, hb6⟩
            have et : told rs5 9999 = n := by have := HN.out; unfold told; omega
            have hgr := hg.out
            rw [et, show rs5.take n = rs5 by rw [HN.out, List.take_length]] at hgr
            obtain ⟨ga, gcap, rfl⟩ := own_slice hgr.2
            have HGG := Lib.hid hgr.1
            have HOG := Lib.hid hgr.2
            have HBS6 := Lib.hid (HBS5.out.later hb6)
            have HGU6 := Lib.hid (HGU.out.below hb6)
            have HB56 := Lib.hid hb6
            clear et hgr hg hb6
            go_wp2_with fail
            have hsm := same_yes HGG.out HGU6.out (by rw [← HN.out]; omega)
            obtain ⟨t1, ht1⟩ : ∃ t1, t1 = (t + 1) % 4294967296 := ⟨_, rfl⟩
            have ht1b : 0 ≤ t1 ∧ t1 ≤ 4294967295 := by omega
            have hbr : Below w6.heap.size w6 w6.drew := (Below.refl _ _).drew
            have hm0 : w6.cell? ⟨W2.heap.size, 0, none⟩ = some (.int .u32 M5) := HBS6.out.rf.mark
            have hql : W2.heap.size < w6.heap.size := by obtain ⟨cs, h, _⟩ := HBS6.out.rf.blk; exact h.lt
            have CM : Hid (∀ V, Below w6.heap.size w6 V → Calls Try.prog 23 #[ptr W1.heap.size] V fun e w' => e = .returned (.int .u32 M5) ∧ V = w') := fun V hV => mark_any (HBS6.out.later hV).sa
            have CH1 : Hid (∀ V, Below w6.heap.size w6 V → Calls Try.prog 24 #[ptr W1.heap.size, .int .u32 t] V fun e w' => e = .returned (.bool (hasB rs5 (dN M5 t))) ∧ Below V.heap.size V w') := fun V hV => ((HBS6.out.later hV).has2 ht).1
            have CR1 : Hid (∀ V, Below w6.heap.size w6 V → Calls Try.prog 25 #[ptr W2.heap.size, .int .u32 t] V fun e w' => e = .returned (.bool (hasB rs5 (dN M5 t))) ∧ V = w') := fun V hV => ((HBS6.out.later hV).has2 ht).2
            have CH2 : Hid (∀ V, Below w6.heap.size w6 V → Calls Try.prog 24 #[ptr W1.heap.size, .int .u32 t1] V fun e w' => e = .returned (.bool (hasB rs5 (dN M5 t1))) ∧ Below V.heap.size V w') := fun V hV => ((HBS6.out.later hV).has2 ht1b).1
            have CR2 : Hid (∀ V, Below w6.heap.size w6 V → Calls Try.prog 25 #[ptr W2.heap.size, .int .u32 t1] V fun e w' => e = .returned (.bool (hasB rs5 (dN M5 t1))) ∧ V = w') := fun V hV => ((HBS6.out.later hV).has2 ht1b).2
            have CL : Hid (∀ V, Below w6.heap.size w6 V → Calls Try.prog 26 #[ptr W1.heap.size] V fun e w' => e = .returned (.int .i64 (cn : Int)) ∧ Below V.heap.size V w') := fun V hV => by rw [HCN.out]; exact len_any (HBS6.out.later hV).sa HBS6.out.gp
            have CS : Hid (∀ V, Below w6.heap.size w6 V → Calls Try.prog 27 #[.slice ga n gcap, .slice ua n ucap] V fun e w' => e = .returned (.bool true) ∧ Below V.heap.size V w') := fun V hV => same_yes (HGG.out.below hV) (HGU6.out.below hV) (by rw [← HN.out]; omega)
            have u1 : IntKind.u32.wrap (t + 1) = t1 := by rw [IntKind.wrap_u32, ht1]
            have u2 : (t + 1) % 4294967296 = t1 := ht1.symm
            clear ht1 hsm
            go_region_held3 (fun w' => Below w6.heap.size w6 w' ∧ w'.cell? ⟨W2.heap.size, 0, none⟩ = some (.int .u32 M5))
              (first
                | exact ⟨hbr, hm0⟩
                | go_keep
                | (go_split_ands
                   refine ⟨?_, ?_⟩
                   · exact Below.trans (by assumption) (hbN.mono (Below.size (by assumption)))
                   · exact (hbN.cell (p := ⟨W2.heap.size, 0, none⟩) (Nat.lt_of_lt_of_le hql (Below.size (by assumption)))).trans (by assumption)))
              (first
                | (go_at_call 23; go_split_ands; (refine (CM.out _ (by assumption)).mono ?_); rintro e w' ⟨rfl, rfl⟩)
                | (go_at_call 25; go_split_ands; (with_reducible refine (CR1.out _ ?_).mono ?_); (assumption); rintro e w' ⟨rfl, rfl⟩)
                | (go_at_call 25; go_split_ands; (with_reducible refine (CR2.out _ ?_).mono ?_); (assumption); rintro e w' ⟨rfl, rfl⟩)
                | (go_at_call 24; go_split_ands; (with_reducible refine (CH1.out _ ?_).mono ?_); (assumption); rintro e wN ⟨rfl, hbN⟩)
                | (go_at_call 24; go_split_ands; (with_reducible refine (CH2.out _ ?_).mono ?_); (assumption); rintro e wN ⟨rfl, hbN⟩)
                | (go_at_call 26; go_split_ands; (with_reducible refine (CL.out _ ?_).mono ?_); (assumption); rintro e wN ⟨rfl, hbN⟩)
                | (go_at_call 27; go_split_ands; (with_reducible refine (CS.out _ ?_).mono ?_); (assumption); rintro e wN ⟨rfl, hbN⟩))
            have hbw : Below w6.heap.size w6 wN := by first | assumption | exact Below.trans (by assumption) (hbN.mono (Below.size (by assumption)))
            obtain ⟨w7, hw7⟩ : ∃ w7, w7 = wN := ⟨_, rfl⟩
            have HBS7 := Lib.hid (HBS6.out.later hbw)
            have HGU7 := Lib.hid (HGU6.out.below hbw)
            have HB57 : Hid (Below w5.heap.size w5 wN) := HB56.out.trans (hbw.mono HB56.out.size)
            have HOG7 : Hid (wN.ownsRow w5.heap.size 58 2 (.slice ga n gcap) n (gcells rs5)) := HOG.out.kept (row := none) (by exact ⟨hbw.os, hbw.tape, hbw.output, hbw.size, fun k hk _ => hbw.block k hk⟩) (by rcases h : (Value.slice ga n gcap).ownBlock with _ | b; exact .inl rfl; exact .inr (fun e => by cases e))
            rw [← hw7] at HBS7 HGU7 HB57 HOG7
            clear hbw hbN CM CH1 CR1 CH2 CR2 CL CS hbr
            go_wp2_with fail
            rw [← hw7]
            clear hw7
            have CG1 : Hid (∀ V, Below w7.heap.size w7 V → Calls Try.prog 22 #[ptr W1.heap.size, .int .i64 (v : Int)] V fun e w' => ∃ u, e = .returned u ∧ Hid (GapsAt w' u (rs5.take (min n v))) ∧ Below V.heap.size V w') := fun V hV => by
              refine (gaps_read (HBS7.out.later hV).sa HBS7.out.gp (v : Int) (by omega)).mono ?_
              rintro e w' ⟨u, he, hg, hb⟩
              refine ⟨u, he, ?_, hb⟩
              have et : told rs5 (v : Int) = min n v := by have := HN.out; unfold told; omega
              have := hg.out.1
              rwa [et] at this
            have CG2 : Hid (∀ V, Below w7.heap.size w7 V → Calls Try.prog 22 #[ptr W1.heap.size, .int .i64 (-(v : Int))] V fun e w' => (∃ a c, e = .returned (.slice a 0 c)) ∧ Below V.heap.size V w') := fun V hV => gaps_none (HBS7.out.later hV).sa HBS7.out.gp _ (by omega)
            have CS2 : Hid (∀ (j : Nat) (V : World) (u : Value), j = min n v → j ≤ n → Below w7.heap.size w7 V → GapsAt V u (rs5.take (min n v)) → Calls Try.prog 27 #[u, .slice ua j ucap] V fun e w' => e = .returned (.bool true) ∧ Below V.heap.size V w') := fun j V u hj hjn hV hu => by
              rw [← hj] at hu
              exact same_yes hu ((HGU7.out.below hV).take HN.out hjn) (by rw [List.length_take]; omega)
            have hbr7 : Below w7.heap.size w7 w7.drew := (Below.refl _ _).drew
            have n1 : IntKind.i64.wrap (-(v : Int)) = -(v : Int) := IntWalk.i64_in _ (by omega)
            have n2 : n ≤ ucap := HUC.out
            have n3 : (n : Int) ≤ (ucap : Int) := by omega
            have n4 : (0 : Int) ≤ (v : Int) := by omega
            go_cut [124] from 106 to 123 (fun s124 wx => s124 = .bool false ∧ Below w7.heap.size w7 wx)
            case first =>
              by_cases hmn : (n : Int) < (v : Int)
              · have e21 : ¬ (v : Int) ≤ (n : Int) := by omega
                go_region_held3 (fun w' => Below w7.heap.size w7 w')
                  (first
                    | exact hbr7
                    | assumption
                    | go_keep
                    | exact Below.trans (by assumption) (hbN.mono (Below.size (by assumption))))
                  (first
                    | (go_at_call 22; (with_reducible refine (CG1.out _ ?_).mono ?_); (assumption); rintro e wN ⟨u, rfl, hu, hbN⟩)
                    | (go_at_call 22; (with_reducible refine (CG2.out _ ?_).mono ?_); (assumption); rintro e wN ⟨⟨a9, c9, rfl⟩, hbN⟩)
                    | (go_at_call 27; (refine (CS2.out n _ _ (by omega) (by omega) ?_ hu.out).mono ?_); (assumption); rintro e wN ⟨rfl, hbN⟩))
                all_goals
                  have hb8 : Below w7.heap.size w7 wN := by first | assumption | exact Below.trans (by assumption) (hbN.mono (Below.size (by assumption)))
                  go_wp2_with fail
                  go_meet
                  exact ⟨rfl, hb8⟩
              · have e21 : (v : Int) ≤ (n : Int) := by omega
                have n5 : (v : Int) ≤ (ucap : Int) := by omega
                have n6 : v ≤ ucap := by omega
                have n7 : ¬ n < v := by omega
                go_region_held3 (fun w' => Below w7.heap.size w7 w')
                  (first
                    | exact hbr7
                    | assumption
                    | go_keep
                    | exact Below.trans (by assumption) (hbN.mono (Below.size (by assumption))))
                  (first
                    | (go_at_call 22; (with_reducible refine (CG1.out _ ?_).mono ?_); (assumption); rintro e wN ⟨u, rfl, hu, hbN⟩)
                    | (go_at_call 22; (with_reducible refine (CG2.out _ ?_).mono ?_); (assumption); rintro e wN ⟨⟨a9, c9, rfl⟩, hbN⟩)
                    | (go_at_call 27; (refine (CS2.out v _ _ (by omega) (by omega) ?_ hu.out).mono ?_); (assumption); rintro e wN ⟨rfl, hbN⟩))
                all_goals
                  have hb8 : Below w7.heap.size w7 wN := by first | assumption | exact Below.trans (by assumption) (hbN.mono (Below.size (by assumption)))
                  go_wp2_with fail
                  go_meet
                  exact ⟨rfl, hb8⟩
            case rest =>
              obtain ⟨rfl, hb8⟩ := hcut
              have HB58 := Lib.hid (HB57.out.trans (hb8.mono HB57.out.size))
              have HOG8 : Hid (wc.ownsRow w5.heap.size 58 2 (.slice ga n gcap) n (gcells rs5)) := HOG7.out.kept (row := none) (by exact ⟨hb8.os, hb8.tape, hb8.output, hb8.size, fun k hk _ => hb8.block k hk⟩) (by rcases h : (Value.slice ga n gcap).ownBlock with _ | b; exact .inl rfl; exact .inr (fun e => by cases e))
              clear hb8 CG1 CG2 CS2 hbr7 n1 n2 n3 n4
              go_wp2_with fail
              go_loopw [16, 127] (fun _ i wr => ∃ j : Nat, j ≤ n ∧ i = .int .i64 (j : Int) ∧ Hid (∃ cs, wr.ownsRow w5.heap.size 58 2 (.slice ga n gcap) n cs) ∧ Hid (Below w5.heap.size w5 wr)) (fun _ i _ => n - (intOf i).toNat)
              case atStart => exact ⟨0, by omega, rfl, ⟨_, HOG8.out⟩, HB58.out⟩
              case round =>
                obtain ⟨j, hj, rfl, hog, hbg⟩ := hrel
                by_cases hjn : j < n
                · obtain ⟨cs, hown⟩ := hog.out
                  obtain ⟨gb, cap', hv, hg1, hg2⟩ := hown.form (by omega)
                  injection hv with e1 _ e3
                  subst e1 e3
                  have hcl := hown.1
                  obtain ⟨q0, c0⟩ : ∃ q, wr.cell? ⟨gb, j * 2, none⟩ = some q := ⟨_, (hown.cellAt (j * 2) (by omega)).trans (List.getElem?_eq_getElem (by omega))⟩
                  obtain ⟨q1, c1⟩ : ∃ q, wr.cell? ⟨gb, j * 2 + 1, none⟩ = some q := ⟨_, (hown.cellAt (j * 2 + 1) (by omega)).trans (List.getElem?_eq_getElem (by omega))⟩
                  have f0 := hown.frozenAt (j * 2)
                  have f1 := hown.frozenAt (j * 2 + 1)
                  have HST := Lib.hid hown
                  clear hog hown hcl
                  go_wp2_with fail
                  go_roundw
                  case rel => exact ⟨j + 1, by omega, by go_num, ⟨_, ((HST.out.stored (j * 2) _).1.stored (j * 2 + 1) _).1⟩, (hbg.out.setCell (p := ⟨gb, j * 2, none⟩) hg1 _).setCell (p := ⟨gb, j * 2 + 1, none⟩) hg1 _⟩
                  case measure => simp [intOf]; omega
                · obtain rfl : j = n := by omega
                  have HPS : Hid (PSt w wr W1.heap.size W2.heap.size) := ⟨_, _, _, HBS5.out.later hbg.out⟩
                  go_wp2_with fail
                  go_roundw
                  case rel => exact ⟨k + 1, by omega, by go_num, HPS.out⟩
                  case measure => simp [intOf]; omega
      · go_wp2
        go_ret
        exact ⟨rfl, ho.out.below⟩
    · obtain rfl : k = len1 := by omega
      go_wp2
      go_ret
      exact ⟨rfl, ho.out.below⟩

/-! ### THE ROW's STEP: WRITTEN OUT: LEAVE IT -/
set_option maxRecDepth 100000 in
theorem lifted (os : Os) (started : os.Started) (H : Type) (enc : TypeId × Value → H) :
    ReturnsInHanded {} Try.checked os 7 .any (Rows.spanPlaysSpec.pre6 enc Try.prog Try.f7 Rows.spanPlaysRow.domain false) (Rows.spanPlaysSpec.post enc Try.prog Try.f7 false true false false) := by
  refine returnsInHanded_of_change (C := Try.checked) own started (by kernel_rfl) Try.func7
    (ChangeSpec.witness6 (enc := enc) (C := Try.checked) false ⟨#[], #[.int .u32 0, .slice none 0 0, .slice none 0 0], []⟩ 8 (by kernel_rfl) (by kernel_rfl) (by kernel_rfl) (by kernel_rfl)) ?_
  intro W base args ds gs before hval0 hW hcnd _
  have hval : ∀ (j : Nat) t v, Try.f7.params[j]? = some t → args[j]? = some v → Value.okWide Try.prog W .any base t v := hval0
  have hW' := hW
  obtain ⟨p, q, hA0, hV, rfl, hfz, hnd⟩ := hW
  have hA : DataW.TrodAll enc Try.prog W 0 (fun _ => true) true Try.f7.params.toList args.toList ds p := hA0
  rw [Try.params7] at hA hval
  obtain ⟨v0, vs0, d0, ds0, p0, q0, hargs, rfl, rfl, h0, r0⟩ := trodAll_cons hA
  obtain ⟨v1, vs1, d1, ds1, p1, q1, rfl, rfl, rfl, h1, r1⟩ := trodAll_cons r0
  obtain ⟨v2, vs2, d2, ds2, p2, q2, rfl, rfl, rfl, h2, r2⟩ := trodAll_cons r1
  obtain ⟨rfl, rfl, rfl⟩ := trodAll_nil r2
  obtain rfl : args = #[v0, v1, v2] := by cases args; simp_all
  obtain ⟨rfl, rfl⟩ := trodVars_none hV
  obtain ⟨a0, rfl, rfl, rfl, w0⟩ := open_int Try.underlying25 (hval 0 25 v0 rfl rfl) h0
  obtain ⟨a1, len1, cap1, rfl⟩ := okWide_slice Try.underlying39 (hval 1 39 v1 rfl rfl)
  have k1 := h1
  have lt1 : ∀ x ∈ p1, x.block < W.heap.size := by obtain ⟨m, hm⟩ := k1; exact DataW.trod_lt m _ _ _ hm
  obtain ⟨z1, w1⟩ : ∃ zs, IsRow .u32 W a1 len1 cap1 zs := by
    obtain ⟨fuel, hf⟩ := h1
    rcases open_ints Try.underlying39 Try.underlying25 (by kernel_rfl) hf with ⟨hcs, _⟩ | ⟨x, l, c, zs, hcs, _, hl, hm, hz, _, hcell, hwz⟩
    · simp [Value.cells] at hcs
      obtain ⟨rfl, rfl, rfl⟩ := hcs
      exact ⟨[], .inl ⟨rfl, rfl, rfl, rfl⟩⟩
    · simp [Value.cells] at hcs
      obtain ⟨rfl, rfl, rfl⟩ := hcs
      exact ⟨zs, .inr ⟨_, rfl, hl, hm, by simpa using hz, hcell, hwz⟩⟩
  obtain ⟨a2, len2, cap2, rfl⟩ := okWide_slice Try.underlying22 (hval 2 22 v2 rfl rfl)
  have k2 := h2
  have lt2 : ∀ x ∈ p2, x.block < W.heap.size := by obtain ⟨m, hm⟩ := k2; exact DataW.trod_lt m _ _ _ hm
  obtain ⟨z2, w2⟩ : ∃ zs, IsRow .u8 W a2 len2 cap2 zs := by
    obtain ⟨fuel, hf⟩ := h2
    rcases open_ints Try.underlying22 Try.underlying5 (by kernel_rfl) hf with ⟨hcs, _⟩ | ⟨x, l, c, zs, hcs, _, hl, hm, hz, _, hcell, hwz⟩
    · simp [Value.cells] at hcs
      obtain ⟨rfl, rfl, rfl⟩ := hcs
      exact ⟨[], .inl ⟨rfl, rfl, rfl, rfl⟩⟩
    · simp [Value.cells] at hcs
      obtain ⟨rfl, rfl, rfl⟩ := hcs
      exact ⟨zs, .inr ⟨_, rfl, hl, hm, by simpa using hz, hcell, hwz⟩⟩
  clear hA0 hval0
  refine (walk a0 a1 len1 cap1 z1 a2 len2 cap2 z2 W w0 w1 w2).mono fun e W' ⟨he, bel⟩ => ?_
  subst he
  exact ⟨_, rfl, _, _, _, [], _, [], hW', trodAll_mk1 (shut_bool Try.underlying4 _), (trodAll_cons_mk (shut_int Try.underlying25 w0) (trodAll_cons_mk (Below.trod laidOut (by kernel_rfl) (of_decide_eq_true (by kernel_rfl)) k1 bel lt1) (trodAll_cons_mk (Below.trod laidOut (by kernel_rfl) (of_decide_eq_true (by kernel_rfl)) k2 bel lt2) trodAll_mk0))), rfl, bel.frame _, fun h => by cases h⟩

theorem over : Rows.spanPlaysRow.holds Try.pinned (OpenSpec.ofChange Rows.spanPlaysSpec) :=
  OpenClaim.holds_of_wide 7 Try.f7 rfl rfl rfl rfl rfl rfl rfl ⟨rfl, rfl, rfl, rfl, rfl⟩ rfl rfl rfl rfl rfl (by kernel_rfl) Try.func7 (by kernel_rfl)
    (of_decide_eq_true (by kernel_rfl)) (by unfold Func.isWrapper; first | (rw [if_pos (by decide +kernel)]; kernel_rfl) | (rw [if_neg (by decide +kernel)]; exact ⟨rfl, rfl⟩))
    (fun os started H enc _ => lifted os started H enc)

/-- ████ THE STATEMENT ████ -/
theorem proved : Rows.SpanPlaysSaid := over
#print axioms proved
end Go.Proofs.Ytgbkmnmkejcogaa.spanPlays
