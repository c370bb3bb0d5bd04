/-
  Contracts of package mac's laws: first.
-/
import Derived.Test.YtepmhejmfbcobaaDoorMac10
import Derived.Test.YtepmhejmfbcobaaDoorMacFst
set_option linter.unusedVariables false
set_option linter.unusedSimpArgs false
namespace Go.Proofs.YtepmhejmfbcobaaDoor.Sha
open Go.ChangeShapes Go.WideShapes Go.ChangeAt Go.RowKit Go.Proofs.YtepmhejmfbcobaaDoor.Words

theorem wpList_load_row_want {P : Program} {ops : Array Oper} {rest : List Oper} {o : Oper} {a : Act} {w : World} {Q : Exit → Act → World → Prop} (hgd : Region.wanted o (yielded ops a.tmps) = true) (ty : TypeId) (x : Operand) (ho : o.op = .load ty x)
    (g : Nat) (hx : a.eval x = .pointer (some ⟨g, 0, none⟩)) (t : TypeId) (cs : Array Value) (fr : Nat × Nat) (d : TypeDesc) (hg : w.heap[g]? = some (.cells cs t fr))
    (hu : P.underlying ty = some d) (hd : (match d with | .struct _ | .array _ _ => true | _ => false) = true) (hi : (P.info? ty).map (·.size) = some cs.size)
    (h : wpList P ops Q rest (a.put o.dst (.agg cs)) w) : wpList P ops Q (o :: rest) a w :=
  BigFrame.wpList_want hgd fun _ hK => wp_load_row ty x ho g hx t cs fr d hg hu hd hi (hK _ _ h)
set_option maxHeartbeats 1000000 in
theorem first_any (w : World) (hK : Laid w) : Calls Tryd.prog 7 #[] w fun e w' => e = .returned (.bool true) ∧ Below w.heap.size w w' := by
  have HK := Lib.hid hK
  clear hK
  have kc : ∀ (w : World) (C : Array Value) (n c g : Nat), w.heap.size = g → (convert 22 22 (.slice (some ⟨g, 0, none⟩) n c)).run Tryd.prog (w.alloc (.cells C 5)) = .ok (.slice (some ⟨g, 0, none⟩) n c) (w.alloc (.cells C 5 (C.size, C.size + 1))) := fun w C n c g hg => by
    subst hg
    exact Lib.run_convert_bytes_const (P := Tryd.prog) w 22 5 C n c Tryd.underlying22 Tryd.underlying5
  go_enter Tryd.func7, Tryd.ntmps7
  go_wp2_with fail
  obtain ⟨N, hN⟩ : ∃ N, N = w.heap.size := ⟨_, rfl⟩
  obtain ⟨W1, hW1⟩ : ∃ Wn, Wn = ((w.alloc (.cells #[.int .u8 97] 5 (1, 2))).alloc (.cells #[.int .u8 98, .int .u8 99] 5 (2, 3))).alloc (.cells #[.slice (some ⟨N, 0, none⟩) 1 1, .slice (some ⟨N + 1, 0, none⟩) 2 2] 22) := ⟨_, rfl⟩
  have hb1 : Below w.heap.size w W1 := by rw [hW1]; exact (((Below.refl _ _).alloc (Nat.le_refl _) _).alloc (by simp) _).alloc (by simp; omega) _
  have hs1 : W1.heap.size = N + 3 := by rw [hW1, hN]; simp
  have hP1 : Pts W1 W1.heap.size (some ⟨N + 1 + 1, 0, none⟩) 2 [.slice (some ⟨N, 0, none⟩) 1 1, .slice (some ⟨N + 1, 0, none⟩) 2 2] [[97], [98, 99]] := by
    refine pts_two (t := 22) ?_ (by omega) rfl (Nat.le_refl _) (by omega) ?_ rfl (Nat.le_refl _) (by omega) ?_
    · rw [hW1, hN]
      simpa using Blk.new ((w.alloc (.cells #[.int .u8 97] 5 (1, 2))).alloc (.cells #[.int .u8 98, .int .u8 99] 5 (2, 3))) 22 #[.slice (some ⟨w.heap.size, 0, none⟩) 1 1, .slice (some ⟨w.heap.size + 1, 0, none⟩) 2 2]
    · refine byt_of_heap (t := 5) (fr := (1, 2)) (cs := #[.int .u8 97]) ?_ (by omega) rfl
      rw [hW1, hN]
      exact heap_kept _ _ (heap_kept _ _ (heap_alloc_new w _))
    · refine byt_of_heap (t := 5) (fr := (2, 3)) (cs := #[.int .u8 98, .int .u8 99]) ?_ (by omega) rfl
      rw [hW1, hN]
      exact heap_kept _ _ (by simpa using heap_alloc_new (w.alloc (.cells #[.int .u8 97] 5 (1, 2))) (.cells #[.int .u8 98, .int .u8 99] 5 (2, 3)))
  have HH := Lib.hid (hash_any (c := 2) hP1 (by omega) (by decide) (HK.out.below hb1 HK.out.size))
  rw [← hN, ← hW1]
  have HN := Lib.hid hN
  have HB1 : Hid (Below w.heap.size w W1) := hb1
  have HK1 : Hid (Laid W1) := HK.out.below hb1 HK.out.size
  have hN2 : 2 ≤ N := by rw [hN]; exact HK.out.size
  clear hW1 hP1 hb1 hN
  refine HH.out.mono ?_
  rintro e W2 ⟨rfl, hb2⟩
  obtain ⟨h, hh⟩ : ∃ h, h = hash [[97], [98, 99]].flatten := ⟨_, rfl⟩
  have hl : h.length = 32 := by rw [hh]; exact hash_length _
  have hf : h.getD 0 0 = 186 ∧ h.getD 31 0 = 173 := by rw [hh]; exact hash_first
  rw [← hh]
  obtain ⟨G, hG⟩ : ∃ G, G = W2.heap.size := ⟨_, rfl⟩
  obtain ⟨W3, hW3⟩ : ∃ Wn, Wn = (W2.alloc (.cells (V (Zb 32)) 25)).setRow G (V h) := ⟨_, rfl⟩
  have hb3 : Below W2.heap.size W2 W3 := by rw [hW3]; exact below_setRow ((Below.refl _ _).alloc (Nat.le_refl _) _) (by omega) _
  have hs3 : W3.heap.size = G + 1 := by rw [hW3, hG]; simp [World.setRow]
  have hs2 := hb2.size
  have hb13 : Below W1.heap.size W1 W3 := hb2.trans (hb3.mono (by omega))
  have HG3 : Hid (Blk W3 G 25 (V h)) := by
    show Blk _ _ _ _
    rw [hW3]; exact setRow_heap _ G _ _ _ _ (by rw [hG]; exact Blk.new W2 _ _)
  have HK3 : Hid (Laid W3) := HK1.out.below hb13 HK1.out.size
  have HB3 : Hid (Below w.heap.size w W3) := HB1.out.trans (hb13.mono (by have := HN.out; omega))
  have HL := Lib.hid hl
  have HF := Lib.hid hf
  have HGG := Lib.hid hG
  have HW3 := Lib.hid hW3
  have hNG : N + 3 ≤ G := by omega
  clear hb2 hb3 hb13 hh hl hf hG hW3 HH HK1 HB1 hs2
  go_wp2_with (first
    | (with_reducible refine wpList_alloc_run _ rfl 25 rfl (alloc_b32 _) ?_)
    | (refine wpList_store_row rfl 25 _ _ rfl W2.heap.size (V h) rfl rfl 25 (V (Zb 32)) (Blk.new W2 _ _) (by rw [V_size, HL.out]; exact size_b32) (by rw [V_size, V_size, HL.out]; rfl) (V_one _) ?_; rw [← HGG.out, ← HW3.out]))
  obtain ⟨W4, hW4⟩ : ∃ Wn, Wn = ((W3.alloc (.cells #[.int .u8 74, .int .u8 101, .int .u8 102, .int .u8 101] 5 (4, 5))).alloc (.cells #[.int .u8 119, .int .u8 104, .int .u8 97, .int .u8 116, .int .u8 32, .int .u8 100, .int .u8 111, .int .u8 32, .int .u8 121, .int .u8 97, .int .u8 32, .int .u8 119, .int .u8 97, .int .u8 110, .int .u8 116, .int .u8 32, .int .u8 102, .int .u8 111, .int .u8 114, .int .u8 32, .int .u8 110, .int .u8 111, .int .u8 116, .int .u8 104, .int .u8 105, .int .u8 110, .int .u8 103, .int .u8 63] 5 (28, 29))).alloc (.cells #[.slice (some ⟨G + 1 + 1, 0, none⟩) 28 28] 22) := ⟨_, rfl⟩
  have hb4 : Below W3.heap.size W3 W4 := by rw [hW4]; exact (((Below.refl _ _).alloc (Nat.le_refl _) _).alloc (by simp) _).alloc (by simp; omega) _
  have hs4 : W4.heap.size = G + 4 := by rw [hW4]; simp [hs3]
  have hP4 : Pts W4 W4.heap.size (some ⟨G + 1 + 1 + 1, 0, none⟩) 1 [.slice (some ⟨G + 1 + 1, 0, none⟩) 28 28] [want] := by
    refine pts_one (t := 22) ?_ (by omega) rfl (Nat.le_refl _) (by omega) ?_
    · rw [hW4, ← hs3]
      simpa using Blk.new ((W3.alloc (.cells #[.int .u8 74, .int .u8 101, .int .u8 102, .int .u8 101] 5 (4, 5))).alloc (.cells #[.int .u8 119, .int .u8 104, .int .u8 97, .int .u8 116, .int .u8 32, .int .u8 100, .int .u8 111, .int .u8 32, .int .u8 121, .int .u8 97, .int .u8 32, .int .u8 119, .int .u8 97, .int .u8 110, .int .u8 116, .int .u8 32, .int .u8 102, .int .u8 111, .int .u8 114, .int .u8 32, .int .u8 110, .int .u8 111, .int .u8 116, .int .u8 104, .int .u8 105, .int .u8 110, .int .u8 103, .int .u8 63] 5 (28, 29))) 22 #[.slice (some ⟨W3.heap.size + 1, 0, none⟩) 28 28]
    · refine byt_of_heap (t := 5) (fr := (28, 29)) (cs := #[.int .u8 119, .int .u8 104, .int .u8 97, .int .u8 116, .int .u8 32, .int .u8 100, .int .u8 111, .int .u8 32, .int .u8 121, .int .u8 97, .int .u8 32, .int .u8 119, .int .u8 97, .int .u8 110, .int .u8 116, .int .u8 32, .int .u8 102, .int .u8 111, .int .u8 114, .int .u8 32, .int .u8 110, .int .u8 111, .int .u8 116, .int .u8 104, .int .u8 105, .int .u8 110, .int .u8 103, .int .u8 63]) ?_ (by omega) rfl
      rw [hW4, ← hs3]
      exact heap_kept _ _ (by simpa using heap_alloc_new (W3.alloc (.cells #[.int .u8 74, .int .u8 101, .int .u8 102, .int .u8 101] 5 (4, 5))) (.cells #[.int .u8 119, .int .u8 104, .int .u8 97, .int .u8 116, .int .u8 32, .int .u8 100, .int .u8 111, .int .u8 32, .int .u8 121, .int .u8 97, .int .u8 32, .int .u8 119, .int .u8 97, .int .u8 110, .int .u8 116, .int .u8 32, .int .u8 102, .int .u8 111, .int .u8 114, .int .u8 32, .int .u8 110, .int .u8 111, .int .u8 116, .int .u8 104, .int .u8 105, .int .u8 110, .int .u8 103, .int .u8 63] 5 (28, 29)))
  have hJ : Byt W4 W4.heap.size (some ⟨G + 1, 0, none⟩) jefe := by
    refine byt_of_heap (t := 5) (fr := (4, 5)) (cs := #[.int .u8 74, .int .u8 101, .int .u8 102, .int .u8 101]) ?_ (by omega) rfl
    rw [hW4, ← hs3]
    exact heap_kept _ _ (heap_kept _ _ (heap_alloc_new W3 _))
  have HS := Lib.hid (seal_any (nk := 4) (ck := 4) (c := 1) (kb := jefe) rfl (Nat.le_refl _) (by omega) hJ (by omega) hP4 (by omega) (by decide) (HK3.out.below hb4 HK3.out.size))
  rw [show [want].flatten = want by simp] at HS
  rw [← hW4]
  have HB4 : Hid (Below w.heap.size w W4) := HB3.out.trans (hb4.mono (by have := HN.out; omega))
  have HG4 : Hid (Blk W4 G 25 (V h)) := HG3.out.below hb4 HG3.out.lt
  clear hW4 hP4 hJ hb4 HG3 HK3 HB3
  refine HS.out.mono ?_
  rintro e W5 ⟨rfl, hb5⟩
  obtain ⟨s, hs⟩ : ∃ s, s = seal_ jefe want := ⟨_, rfl⟩
  have hls : s.length = 32 := by rw [hs]; exact seal_length _ _
  have hfs : s.getD 0 0 = 91 ∧ s.getD 31 0 = 67 := by rw [hs]; exact seal_first
  rw [← hs]
  obtain ⟨K, hK⟩ : ∃ K, K = W5.heap.size := ⟨_, rfl⟩
  obtain ⟨W6, hW6⟩ : ∃ Wn, Wn = (W5.alloc (.cells (V (Zb 32)) 25)).setRow K (V s) := ⟨_, rfl⟩
  have hb6 : Below W5.heap.size W5 W6 := by rw [hW6]; exact below_setRow ((Below.refl _ _).alloc (Nat.le_refl _) _) (by omega) _
  have hs5 := hb5.size
  have hb46 : Below W4.heap.size W4 W6 := hb5.trans (hb6.mono (by omega))
  have HK6 : Hid (Blk W6 K 25 (V s)) := by
    show Blk _ _ _ _
    rw [hW6]; exact setRow_heap _ K _ _ _ _ (by rw [hK]; exact Blk.new W5 _ _)
  have HG6 : Hid (Blk W6 G 25 (V h)) := HG4.out.below hb46 HG4.out.lt
  have HB6 : Hid (Below w.heap.size w W6) := HB4.out.trans (hb46.mono (by have := HN.out; omega))
  have HLS := Lib.hid hls
  have HFS := Lib.hid hfs
  have HKK := Lib.hid hK
  have HW6 := Lib.hid hW6
  clear hs hls hfs hK hW6 hb5 hb6 hb46 HS HB4 HG4 hs5
  have cg0 := cellV HG6.out (i := 0) (by rw [HL.out]; omega)
  have cg31 := cellV HG6.out (i := 31) (by rw [HL.out]; omega)
  have cs0 := cellV HK6.out (i := 0) (by rw [HLS.out]; omega)
  have cs31 := cellV HK6.out (i := 31) (by rw [HLS.out]; omega)
  rw [HF.out.1] at cg0
  rw [HF.out.2] at cg31
  rw [HFS.out.1] at cs0
  rw [HFS.out.2] at cs31
  have hne : decide (h = s) = false := decide_eq_false (fun e => by
    have h1 := HF.out.1
    rw [e, HFS.out.1] at h1
    exact absurd h1 (by decide))
  have HNE := Lib.hid hne
  have HS1 : Hid (Calls Tryd.prog 12 #[.agg (V h), .agg (V h)] W6 fun e w' => e = .returned (.bool true) ∧ Below W6.heap.size W6 w') :=
    (same_any h h HL.out HL.out W6).mono fun e w' ⟨h1, h2⟩ => ⟨by rw [h1, decide_eq_true rfl], h2⟩
  have HS2 : Hid (∀ W, Calls Tryd.prog 12 #[.agg (V h), .agg (V s)] W fun e w' => e = .returned (.bool false) ∧ Below W.heap.size W w') :=
    fun W => (same_any h s HL.out HLS.out W).mono fun e w' ⟨h1, h2⟩ => ⟨by rw [h1, HNE.out], h2⟩
  clear hne
  go_wp2_with (first
    | (with_reducible refine wpList_alloc_run _ rfl 25 rfl (alloc_b32 _) ?_)
    | (refine wpList_store_row rfl 25 _ _ rfl W5.heap.size (V s) rfl rfl 25 (V (Zb 32)) (Blk.new W5 _ _) (by rw [V_size, HLS.out]; exact size_b32) (by rw [V_size, V_size, HLS.out]; rfl) (V_one _) ?_; rw [← HKK.out, ← HW6.out])
    | (refine wpList_load_row_want rfl 25 _ rfl G rfl 25 (V h) (0, 0) _ HG6.out Tryd.underlying25 rfl (by rw [V_size, HL.out]; exact size_b32) ?_))
  refine HS1.out.mono ?_
  rintro e W7 ⟨rfl, hb7⟩
  have HG7 : Hid (Blk W7 G 25 (V h)) := HG6.out.below hb7 HG6.out.lt
  have HK7 : Hid (Blk W7 K 25 (V s)) := HK6.out.below hb7 HK6.out.lt
  have hs7 := HB6.out.size
  have HB7 : Hid (Below w.heap.size w W7) := HB6.out.trans (hb7.mono hs7)
  clear hb7 HS1 cg0 cg31 cs0 cs31 hs7
  go_wp2_with (first
    | (refine wpList_load_row_want rfl 25 _ rfl G rfl 25 (V h) (0, 0) _ HG7.out Tryd.underlying25 rfl (by rw [V_size, HL.out]; exact size_b32) ?_)
    | (refine wpList_load_row_want rfl 25 _ rfl K rfl 25 (V s) (0, 0) _ HK7.out Tryd.underlying25 rfl (by rw [V_size, HLS.out]; exact size_b32) ?_))
  refine (HS2.out W7).mono ?_
  rintro e W8 ⟨rfl, hb8⟩
  have hs7 := HB7.out.size
  have HB8 : Hid (Below w.heap.size w W8) := HB7.out.trans (hb8.mono hs7)
  clear hb8
  go_wp2_with fail
  go_ret
  exact ⟨rfl, HB8.out⟩
end Go.Proofs.YtepmhejmfbcobaaDoor.Sha
