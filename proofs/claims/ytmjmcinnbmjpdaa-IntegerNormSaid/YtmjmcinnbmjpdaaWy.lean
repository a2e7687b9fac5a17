/- Walks: binary digits of both sides. -/
import Derived.Test.YtmjmcinnbmjpdaaWt
import Derived.Test.YtmjmcinnbmjpdaaWd3
namespace Go.Proofs.Ytmjmcinnbmjpdaa
open Go.RowKit
/-- the number of binary digits of a list of words without zeros at the end. -/
def bitsN (xs : List Nat) : Nat := if h : 0 < xs.length then 32 * (xs.length - 1) + Lib.bitLen (xs[xs.length - 1]'(by omega)) else 0
theorem bitLen_zero : Lib.bitLen 0 = 0 := by decide
section
variable {A B : Option Addr} {c d n m : Nat} {xs ys : List Nat} {w : World} {s t : Bool}
theorem int_bits (hn : xs.length = n) (hx : Rd w A xs) (h1 : n ≤ 100000) :
    Calls Try.prog 52 #[.slice A n c] w fun e w' => e = .returned (.int .i64 (bitsN xs : Nat)) ∧ w = w' := int_binaryDigits hn hx h1
set_option maxHeartbeats 1000000 in
theorem ref_length (hn : xs.length = n) (hx : Rd w A xs) (h1 : n ≤ 100000) :
    Calls Try.prog 53 #[.slice A n c] w fun e w' => e = .returned (.int .i64 (bitsN xs : Nat)) ∧ w = w' := by
  by_cases h : 0 < xs.length
  · have hb : bitsN xs = 32 * (xs.length - 1) + Lib.bitLen (xs[xs.length - 1]'(by omega)) := by unfold bitsN; rw [dif_pos h]
    obtain ⟨b1, off', rfl, hb1, hc1⟩ := hx.at_ (i := xs.length - 1) (by omega)
    have hxk := hx.1.get (k := xs.length - 1) (by omega)
    subst hn
    have hle : Lib.bitLen xs[xs.length - 1] ≤ 32 := Lib.bitLen_le _ 32 (by omega) (by omega)
    generalize xs[xs.length - 1] = X at *
    have Hb := Lib.hid hb
    clear hb
    have hpos : ¬ xs.length = 0 := by omega
    go_enter Try.func53, Try.ntmps53
    go_wp2
    go_loopw [3, 4] (fun a x wr => ∃ p q : Nat, a = .int .i64 (p : Int) ∧ x = .int .u32 (q : Int) ∧ p + Lib.bitLen q = Lib.bitLen X ∧ q < 4294967296 ∧ wr = w) (fun _ x _ => (intOf x).toNat)
    case atStart => exact ⟨0, X, rfl, rfl, by omega, hxk, rfl⟩
    case round =>
      obtain ⟨p, q, rfl, rfl, hpq, hq, rfl⟩ := hrel
      by_cases hq0 : q = 0
      · subst hq0
        rw [bitLen_zero] at hpq
        go_wp2
        go_ret
        exact ⟨ret_int (by rw [Hb.out]; omega), rfl⟩
      · have hh := Lib.bitLen_half q hq0 (by omega)
        have hqp : (0 : Int) < (q : Int) := by omega
        have hp32 : p < 32 := by omega
        go_wp2
        go_roundw
        case rel => exact ⟨p + 1, q / 2, by go_num, by go_num, by omega, by omega, trivial⟩
        case measure => simp [intOf]; omega
  · have h0 : xs.length = 0 := by omega
    have hb : bitsN xs = 0 := by unfold bitsN; rw [dif_neg h]
    subst hn
    have Hb := Lib.hid hb
    clear hb
    go_enter Try.func53, Try.ntmps53
    go_wp2_with fail
    go_ret
    exact ⟨ret_int (by rw [Hb.out]; rfl), rfl⟩
set_option maxHeartbeats 1000000 in
theorem int_Bits (hn : xs.length = n) (hx : Rd w A xs) (hc : n ≤ c) (hcm : c ≤ maxLen) (h1 : n ≤ 100000) :
    Calls Try.prog 22 #[.agg #[.bool s, .slice A n c]] w fun e w' => e = .returned (.int .i64 (bitsN (trimL xs) : Nat)) ∧ Ext w w' := by
  have Hn := Lib.hid hn
  clear hn
  have lx := trimL_len xs
  have hxt : Rd w A (trimL xs) := by rw [trimL_take]; exact hx.take _
  go_enter Try.func22, Try.ntmps22
  go_upto_region 1 with (fail)
  obtain ⟨W, hW, extW, bx, hz⟩ := box1 w 24 #[.bool s, .slice A n c]
  rw [← hW]
  clear hW
  have x0 := bx.cell 0 (.bool s) rfl
  have x1 := bx.cell 1 (.slice A n c) rfl
  go_wp2_with fail
  refine (int_trimN Hn.out (hx.ext extW) hc hcm).mono ?_
  rintro e w1 ⟨rfl, rfl⟩
  go_wp2_with fail
  refine (int_bits rfl (hxt.ext extW) (by have := Hn.out; omega)).mono ?_
  rintro e w1 ⟨rfl, rfl⟩
  go_wp2_with fail
  go_ret
  exact ⟨rfl, extW⟩
set_option maxHeartbeats 1000000 in
theorem ref_Bits (hn : xs.length = n) (hx : Rd w A xs) (hc : n ≤ c) (hcm : c ≤ maxLen) (h1 : n ≤ 100000) :
    Calls Try.prog 23 #[.agg #[.bool s, .slice A n c]] w fun e w' => e = .returned (.int .i64 (bitsN (trimL xs) : Nat)) ∧ Ext w w' := by
  have Hn := Lib.hid hn
  clear hn
  have lx := trimL_len xs
  have hxt : Rd w A (trimL xs) := by rw [trimL_take]; exact hx.take _
  go_enter Try.func23, Try.ntmps23
  go_upto_region 1 with (fail)
  obtain ⟨W, hW, extW, bx, hz⟩ := box1 w 24 #[.bool s, .slice A n c]
  rw [← hW]
  clear hW
  have x0 := bx.cell 0 (.bool s) rfl
  have x1 := bx.cell 1 (.slice A n c) rfl
  go_wp2_with fail
  refine (ref_trimN Hn.out (hx.ext extW) hc hcm).mono ?_
  rintro e w1 ⟨rfl, rfl⟩
  go_wp2_with fail
  refine (ref_length rfl (hxt.ext extW) (by have := Hn.out; omega)).mono ?_
  rintro e w1 ⟨rfl, rfl⟩
  go_wp2_with fail
  go_ret
  exact ⟨rfl, extW⟩
end
end Go.Proofs.Ytmjmcinnbmjpdaa
