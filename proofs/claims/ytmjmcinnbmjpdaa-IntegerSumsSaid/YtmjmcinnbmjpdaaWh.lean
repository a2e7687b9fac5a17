/- Walks: numbers of binary digits; numbers of at most two words. -/
import Derived.Test.YtmjmcinnbmjpdaaWd
import Derived.Lib.BitFns
import Derived.Lib.Tables
namespace Go.Proofs.Ytmjmcinnbmjpdaa
open Go.RowKit
theorem l56 (x : Nat) (h : 72057594037927936 ≤ x) (h2 : x < 18446744073709551616) : (Lib.bitLen x : Int) = 56 + (Lib.bitLen (x / 72057594037927936) : Int) ∧ Lib.bitLen (x / 72057594037927936) ≤ 8 := by
  have s := Lib.bitLen_shift56 x (by omega) (by omega)
  have l := Lib.bitLen_le8' ((x / 72057594037927936 : Nat) : Int) (by omega) (by omega)
  simp only [Int.toNat_natCast] at l
  omega
theorem tab_nat : ∀ n : Fin 256, (Lib.len8tab[n.val]'(by rw [Lib.len8tab_size]; exact n.2)).toNat = Lib.bitLen n.val := by decide +kernel
theorem tab_at (y : Int) (h : y.toNat < Lib.len8tab.size) : ((Lib.len8tab[y.toNat]'h).toNat : Int) = (Lib.bitLen y.toNat : Int) := by
  have hs := Lib.len8tab_size
  exact congrArg Int.ofNat (tab_nat ⟨y.toNat, by omega⟩)
theorem tab_sum (y : Int) (h : y.toNat < Lib.len8tab.size) (k : Int) (hk : 0 ≤ k ∧ k ≤ 56) (X : Nat) (hX : (Lib.bitLen X : Int) = k + (Lib.bitLen y.toNat : Int)) : wrap64 (k + wrap64 ((Lib.len8tab[y.toNat]'h).toNat : Int)) = (Lib.bitLen X : Int) := by
  have hs := Lib.len8tab_size
  have hl := Lib.bitLen_le8 ⟨y.toNat, by omega⟩
  rw [tab_at, hX]
  simp only at hl
  generalize Lib.bitLen y.toNat = l at *
  have e1 : wrap64 (l : Int) = l := IntWalk.wrap64_in _ (by omega)
  rw [e1]
  exact IntWalk.wrap64_in _ (by omega)
theorem sh8 (x : Nat) (h : 256 ≤ x) (hx : x < 18446744073709551616) : (Lib.bitLen x : Int) = 8 + (Lib.bitLen (x / 256) : Int) := by have := Lib.bitLen_shift8 x h hx; omega
theorem sh16 (x : Nat) (h : 65536 ≤ x) (hx : x < 18446744073709551616) : (Lib.bitLen x : Int) = 16 + (Lib.bitLen (x / 65536) : Int) := by have := Lib.bitLen_shift16 x h hx; omega
theorem sh24 (x : Nat) (h : 16777216 ≤ x) (hx : x < 18446744073709551616) : (Lib.bitLen x : Int) = 24 + (Lib.bitLen (x / 16777216) : Int) := by have := Lib.bitLen_shift24 x h hx; omega
theorem sh32 (x : Nat) (h : 4294967296 ≤ x) (hx : x < 18446744073709551616) : (Lib.bitLen x : Int) = 32 + (Lib.bitLen (x / 4294967296) : Int) := by have := Lib.bitLen_shift32 x h hx; omega
theorem sh40 (x : Nat) (h : 1099511627776 ≤ x) (hx : x < 18446744073709551616) : (Lib.bitLen x : Int) = 40 + (Lib.bitLen (x / 1099511627776) : Int) := by have := Lib.bitLen_shift40 x h hx; omega
theorem sh48 (x : Nat) (h : 281474976710656 ≤ x) (hx : x < 18446744073709551616) : (Lib.bitLen x : Int) = 48 + (Lib.bitLen (x / 281474976710656) : Int) := by have := Lib.bitLen_shift48 x h hx; omega
theorem sh56 (x : Nat) (h : 72057594037927936 ≤ x) (hx : x < 18446744073709551616) : (Lib.bitLen x : Int) = 56 + (Lib.bitLen (x / 72057594037927936) : Int) := by have := Lib.bitLen_shift56 x h hx; omega
set_option maxRecDepth 100000 in
set_option maxHeartbeats 4000000 in
theorem len32 (x : Int) (w : World) (h0 : 0 ≤ x) (h1 : x ≤ 4294967295) : Calls Try.prog 73 #[.int .u32 x] w fun e w' => e = .returned (.int .i64 (Lib.bitLen x.toNat)) ∧ w = w' := by
  have hs : (256 : Int) ≤ (Lib.len8tab.size : Int) := by rw [Lib.len8tab_size]; exact Int.le_refl _
  go_enter Try.func73, Try.ntmps73
  go_wp2
  all_goals go_ret
  all_goals (refine ⟨ret_int ?_, rfl⟩)
  · exact tab_sum _ _ 24 (by omega) _ (by rw [sh24 x.toNat (by omega) (by omega), show (x / 65536 / 256).toNat = x.toNat / 16777216 by omega])
  · exact tab_sum _ _ 16 (by omega) _ (by rw [sh16 x.toNat (by omega) (by omega), show (x / 65536).toNat = x.toNat / 65536 by omega])
  · exact tab_sum _ _ 8 (by omega) _ (by rw [sh8 x.toNat (by omega) (by omega), show (x / 256).toNat = x.toNat / 256 by omega])
  · have := tab_sum x (by omega) 0 (by omega) x.toNat (by omega)
    rwa [Int.zero_add] at this
set_option maxRecDepth 100000 in
set_option maxHeartbeats 4000000 in
theorem len64 (x : Int) (w : World) (h0 : 0 ≤ x) (h1 : x ≤ 18446744073709551615) : Calls Try.prog 98 #[.int .u64 x] w fun e w' => e = .returned (.int .i64 (Lib.bitLen x.toNat)) ∧ w = w' := by
  have hs : (256 : Int) ≤ (Lib.len8tab.size : Int) := by rw [Lib.len8tab_size]; exact Int.le_refl _
  go_enter Try.func98, Try.ntmps98
  go_wp2
  all_goals go_ret
  all_goals (refine ⟨ret_int ?_, rfl⟩)
  · exact tab_sum _ _ 56 (by omega) _ (by rw [sh56 x.toNat (by omega) (by omega), show (x / 4294967296 / 65536 / 256).toNat = x.toNat / 72057594037927936 by omega])
  · exact tab_sum _ _ 48 (by omega) _ (by rw [sh48 x.toNat (by omega) (by omega), show (x / 4294967296 / 65536).toNat = x.toNat / 281474976710656 by omega])
  · exact tab_sum _ _ 40 (by omega) _ (by rw [sh40 x.toNat (by omega) (by omega), show (x / 4294967296 / 256).toNat = x.toNat / 1099511627776 by omega])
  · exact tab_sum _ _ 32 (by omega) _ (by rw [sh32 x.toNat (by omega) (by omega), show (x / 4294967296).toNat = x.toNat / 4294967296 by omega])
  · exact tab_sum _ _ 24 (by omega) _ (by rw [sh24 x.toNat (by omega) (by omega), show (x / 65536 / 256).toNat = x.toNat / 16777216 by omega])
  · exact tab_sum _ _ 16 (by omega) _ (by rw [sh16 x.toNat (by omega) (by omega), show (x / 65536).toNat = x.toNat / 65536 by omega])
  · exact tab_sum _ _ 8 (by omega) _ (by rw [sh8 x.toNat (by omega) (by omega), show (x / 256).toNat = x.toNat / 256 by omega])
  · have := tab_sum x (by omega) 0 (by omega) x.toNat (by omega)
    rwa [Int.zero_add] at this
theorem lenU (x : Int) (w : World) (h0 : 0 ≤ x) (h1 : x ≤ 18446744073709551615) : Calls Try.prog 85 #[.int .u64 x] w fun e w' => e = .returned (.int .i64 (Lib.bitLen x.toNat)) ∧ w = w' := by
  have h1' := Lib.hid h1
  clear h1
  go_enter Try.func85, Try.ntmps85
  go_wp2_with (go_at_call 98; refine (len64 _ _ h0 h1'.out).mono ?_; rintro e w' ⟨rfl, rfl⟩)
  go_ret
  exact ⟨rfl, rfl⟩
theorem lz32 (x : Int) (w : World) (h0 : 0 ≤ x) (h1 : x ≤ 4294967295) : Calls Try.prog 94 #[.int .u32 x] w fun e w' => e = .returned (.int .i64 (32 - (Lib.bitLen x.toNat : Int))) ∧ w = w' := by
  have hb := Lib.bitLen_le x.toNat 32 (by omega) (by omega)
  go_enter Try.func94, Try.ntmps94
  go_wp2_with (go_at_call 73; refine (len32 _ _ h0 h1).mono ?_; rintro e w' ⟨rfl, rfl⟩)
  go_ret
  exact ⟨rfl, rfl⟩
end Go.Proofs.Ytmjmcinnbmjpdaa
