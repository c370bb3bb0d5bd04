/-
  Windows, plain: what arrives, what is lost, what a rest leaves.
-/
import Derived.Test.YtabjlmedcbnnpaaBytes
import Derived.OpenShut
set_option linter.unusedVariables false
set_option linter.unusedSimpArgs false
namespace Go.Proofs.Ytabjlmedcbnnpaa.Wnd
open Go.ChangeShapes Go.WideShapes Go.ChangeAt Go.RowKit Go.Proofs.Ytabjlmedcbnnpaa.Words

/-- A window: size, threshold, count. -/
structure Wi where
  s : Int
  t : Int
  c : Int
/-- A number between 0 and 2^30. -/
def cl (n : Int) : Int := min (max n 0) 1073741824
theorem cl_le (n : Int) : 0 ≤ cl n ∧ cl n ≤ 1073741824 := by unfold cl; omega
def gw (x : Wi) (n : Int) : Wi := ⟨min (x.s + n) 1048576, x.t, x.c⟩
def col (x : Wi) (n : Int) (full : Bool) : Wi := if full = true ∧ x.s ≤ x.c + n then ⟨min (x.s + 1200) 1048576, x.t, x.c + n - x.s⟩ else ⟨x.s, x.t, x.c + n⟩
def ack (x : Wi) (n f : Int) (on : Bool) : Wi :=
  if x.s ≤ x.t then (if on = true ∧ x.s ≤ f then gw x (min (cl n) 1200) else x) else col x (cl n) (decide (x.s ≤ f))
def half (x : Wi) : Int := max (x.s / 2) 4800
def lost (x : Wi) : Wi := ⟨half x, half x, 0⟩
def late (x : Wi) : Wi := ⟨1200, half x, 0⟩
def rest (x : Wi) : Wi := ⟨min (half x) x.s, x.t, 0⟩
def wi0 : Wi := ⟨4380, 1048576, 0⟩
structure Wi.Ok (x : Wi) (k : Nat) : Prop where
  s1 : 1200 ≤ x.s
  s2 : x.s ≤ 1048576
  t1 : 4800 ≤ x.t
  t2 : x.t ≤ 1048576
  c1 : 0 ≤ x.c
  c2 : x.c ≤ 1073741824 * k
  k : k ≤ 1000
theorem Wi.Ok.more {x : Wi} {k j : Nat} (h : x.Ok k) (hj : k ≤ j) (h1 : j ≤ 1000) : x.Ok j := ⟨h.s1, h.s2, h.t1, h.t2, h.c1, by have := h.c2; omega, h1⟩
theorem wi0_ok : wi0.Ok 0 := ⟨by decide, by decide, by decide, by decide, by decide, by decide, by decide⟩
theorem ack_ok {x : Wi} {k : Nat} (h : x.Ok k) (n f : Int) (on : Bool) (hk : k < 1000) : (ack x n f on).Ok (k + 1) := by
  obtain ⟨h1, h2, h3, h4, h5, h6, h7⟩ := h
  have := cl_le n
  unfold ack
  split
  · split
    · exact ⟨by simp only [gw]; omega, by simp only [gw]; omega, h3, h4, h5, by simp only [gw]; omega, hk⟩
    · exact ⟨h1, h2, h3, h4, h5, by omega, hk⟩
  · unfold col
    split
    · exact ⟨by simp only; omega, by simp only; omega, h3, h4, by simp only; omega, by simp only; omega, hk⟩
    · exact ⟨h1, h2, h3, h4, by simp only; omega, by simp only; omega, hk⟩
theorem lost_ok {x : Wi} {k : Nat} (h : x.Ok k) : (lost x).Ok k := by
  obtain ⟨h1, h2, h3, h4, h5, h6, h7⟩ := h
  refine ⟨?_, ?_, ?_, ?_, Int.le_refl _, by show (0 : Int) ≤ _; omega, h7⟩ <;> simp only [lost, half] <;> omega
theorem late_ok {x : Wi} {k : Nat} (h : x.Ok k) : (late x).Ok k := by
  obtain ⟨h1, h2, h3, h4, h5, h6, h7⟩ := h
  refine ⟨?_, ?_, ?_, ?_, Int.le_refl _, by show (0 : Int) ≤ _; omega, h7⟩ <;> simp only [late, half] <;> omega
theorem rest_ok {x : Wi} {k : Nat} (h : x.Ok k) : (rest x).Ok k := by
  obtain ⟨h1, h2, h3, h4, h5, h6, h7⟩ := h
  refine ⟨?_, ?_, h3, h4, Int.le_refl _, by show (0 : Int) ≤ _; omega, h7⟩ <;> simp only [rest, half] <;> omega
end Go.Proofs.Ytabjlmedcbnnpaa.Wnd
