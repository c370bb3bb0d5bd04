/-
  Plain facts on a chunk's bytes: how many, the first four, what lies behind the length.
-/
import Derived.Test.YtabkjgklmibagaaChWays
set_option linter.unusedVariables false
set_option linter.unusedSimpArgs false
namespace Go.Proofs.Ytabkjgklmibagaa.Chk
open Go.RowKit Go.Proofs.Ytabkjgklmibagaa.Words Go.Proofs.Ytabkjgklmibagaa.Oct Go.Proofs.Ytabkjgklmibagaa.Par

theorem bytes_cons (c : Ck) : bytesC c = byteAt c.kind 0 :: byteAt (flagsN c) 0 :: byteAt ((cont c).length + 4) 1 :: byteAt ((cont c).length + 4) 0 :: (cont c ++ List.replicate (padC (cont c).length) 0) := rfl
theorem bytes_len (c : Ck) : (bytesC c).length = (cont c).length + 4 + padC (cont c).length := by
  rw [bytes_cons]
  simp only [List.length_cons, List.length_append, List.length_replicate]
  omega
theorem bytes_drop (c : Ck) : (bytesC c).drop ((cont c).length + 4) = List.replicate (padC (cont c).length) 0 := by
  rw [bytes_cons]
  simp only [List.drop_succ_cons, List.drop_left]
theorem byte_toNat {k : Nat} (h : k < 256) : (byteAt k 0).toNat = k := by rw [byteAt_nat]; simp; omega
theorem len_bytes {m : Nat} (h : m < 65536) : 256 * (byteAt m 1).toNat + (byteAt m 0).toNat = m := by rw [byteAt_nat, byteAt_nat]; simp; omega
end Go.Proofs.Ytabkjgklmibagaa.Chk
