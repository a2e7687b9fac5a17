/- Walks: Sqrt of any integer; the law IntegerSqrt. -/
import Derived.Test.YtmjmcinnbmjpdaaVt
import Derived.Test.YtmjmcinnbmjpdaaVz
import Derived.Test.YtmjmcinnbmjpdaaWx
namespace Go.Proofs.Ytmjmcinnbmjpdaa
open Go.RowKit
attribute [local go_sem ↓] Go.wp_at_zero Go.wp_at_succ
theorem sign_lt {z : Int} (h : z < 0) : z.sign = -1 := Int.sign_eq_neg_one_of_neg h
theorem sign_ge {z : Int} (h : 0 ≤ z) : z.sign = 0 ∨ z.sign = 1 := by
  rcases Int.lt_or_eq_of_le h with h | h
  · exact .inr (Int.sign_eq_one_of_pos h)
  · exact .inl (by rw [← h]; rfl)
theorem ival_abs {s : Bool} {xs : List Nat} (h : 0 ≤ ival s xs) : ival s xs = (val xs : Int) := by
  unfold ival at *
  cases s <;> simp at h ⊢ <;> omega
theorem validB_int {z : Int} {b : Bool} {rs : List Nat} (h : IsInt z b rs) : validB b rs = true := by
  have hn := h.nrm
  unfold Nrm at hn
  have hs := h.sgn
  unfold validB
  rw [hn]
  cases rs with
  | nil => rw [hs rfl]; rfl
  | cons a l => simp
section
variable {A B : Option Addr} {c d n m : Nat} {xs ys : List Nat} {w : World} {s t : Bool}
set_option maxHeartbeats 4000000 in
theorem int_Sqrt_neg (hn : xs.length = n) (hx : Rd w A xs) (hc : n ≤ c) (hcm : c ≤ maxLen) (h1 : n ≤ 50) (hneg : ival s xs < 0) :
    Calls Try.prog 40 #[.agg #[.bool s, .slice A n c]] w (RetIE 0 0 7 w) := by
  have hsg := sign_lt hneg
  have Hn := Lib.hid hn
  clear hn hneg
  go_enter Try.func40, Try.ntmps40
  go_upto_region 1 with (fail)
  obtain ⟨W, hW, extW, bx, bz, hz⟩ := box2 w 24 24 #[.bool s, .slice A n c] #[.bool false, .slice none 0 0]
  rw [← hW]
  clear hW
  have x0 := bx.cell 0 (.bool s) rfl
  have x1 := bx.cell 1 (.slice A n c) rfl
  go_wp2_with fail
  refine (int_Sign Hn.out (hx.ext extW) hc hcm (by omega)).mono ?_
  rintro e w1 ⟨rfl, ext1⟩
  rw [hsg]
  replace bx := bx.ext ext1
  replace bz := bz.ext ext1
  replace extW := extW.trans ext1
  have x1 := bx.cell 1 (.slice A n c) rfl
  have z0 := bz.cell 0 (.bool false) rfl
  have z1 := bz.cell 1 (.slice none 0 0) rfl
  have f0 := bz.frozen 0
  have f1 := bz.frozen 1
  go_wp2_with fail
  obtain ⟨r1, r2, r3, r4⟩ := fin_pair (b := false) (A := none) (rs := []) (n := 0) (c := 0) extW (by omega) bz (Rd.nil _ _)
  exact bodyPost_ret (v := .tuple #[.agg #[.bool false, .slice none 0 0], .int .i64 7]) (by simp [results, Try.results40, go_sem, r3, r4]) rfl ⟨false, none, 0, [], rfl, r1, by simp, by unfold maxLen; omega, IsInt.nil false, by simp, r2⟩
set_option maxHeartbeats 4000000 in
theorem int_Sqrt_pos (hn : xs.length = n) (hx : Rd w A xs) (hc : n ≤ c) (hcm : c ≤ maxLen) (h1 : n ≤ 50) (hpos : 0 ≤ ival s xs) :
    Calls Try.prog 40 #[.agg #[.bool s, .slice A n c]] w fun e w' => ∃ z : Nat, z * z ≤ val xs ∧ val xs < (z + 1) * (z + 1) ∧ RetIE (z : Int) (n + 1) 0 w e w' := by
  have lx := trimL_len xs
  have hxt : Rd w A (trimL xs) := by rw [trimL_take]; exact hx.take _
  have Hn := Lib.hid hn
  clear hn
  rcases sign_ge hpos with hsg | hsg
  all_goals
    clear hpos
    go_enter Try.func40, Try.ntmps40
    go_upto_region 1 with (fail)
    obtain ⟨W, hW, extW, bx, bz, hz⟩ := box2 w 24 24 #[.bool s, .slice A n c] #[.bool false, .slice none 0 0]
    rw [← hW]
    clear hW
    have x0 := bx.cell 0 (.bool s) rfl
    have x1 := bx.cell 1 (.slice A n c) rfl
    go_wp2_with fail
    refine (int_Sign Hn.out (hx.ext extW) hc hcm (by omega)).mono ?_
    rintro e w1 ⟨rfl, ext1⟩
    rw [hsg]
    replace bx := bx.ext ext1
    replace bz := bz.ext ext1
    replace extW := extW.trans ext1
    have x1 := bx.cell 1 (.slice A n c) rfl
    go_wp2_with fail
    refine (int_trimN Hn.out (hx.ext extW) hc hcm).mono ?_
    rintro e w2 ⟨rfl, rfl⟩
    go_wp2_with fail
    refine (int_squareRoot (xs := trimL xs) rfl (hxt.ext extW) (Nrm.trimL _) (by have := Hn.out; omega) hcm (by have := Hn.out; omega)).mono ?_
    rintro e w2 ⟨A2, c2, zs, rfl, ho2, hc2, hm2, ⟨hv2, hv3, hn2, hl2⟩, hext2⟩
    rw [val_trimL] at hv2 hv3
    have Hv2 := Lib.hid hv2
    have Hv3 := Lib.hid hv3
    clear hv2 hv3
    go_wp2_with fail
    refine (int_signed rfl ho2.rd hc2 hm2 hn2).mono ?_
    rintro e w3 ⟨b3, A3, c3, rs, rfl, hr3, hc3, hm3, hi3, hl3, hext3⟩
    have ext3 := hext2.trans hext3
    have bz3 := bz.ext ext3
    have z0 := bz3.cell 0 (.bool false) rfl
    have z1 := bz3.cell 1 (.slice none 0 0) rfl
    have f0 := bz3.frozen 0
    have f1 := bz3.frozen 1
    go_wp2_with fail
    obtain ⟨r1, r2, r3, r4⟩ := fin_pair (b := b3) (n := rs.length) (c := c3) (extW.trans ext3) (by omega) bz3 hr3
    have e9 : ival false zs = (val zs : Int) := by simp [ival]
    rw [e9] at hi3
    exact bodyPost_ret (v := .tuple #[.agg #[.bool b3, .slice A3 rs.length c3], .int .i64 0]) (by simp [results, Try.results40, go_sem, r3, r4]) rfl ⟨val zs, Hv2.out, Hv3.out, b3, A3, c3, rs, rfl, r1, hc3, hm3, hi3, by have := Hn.out; omega, r2⟩
end
end Go.Proofs.Ytmjmcinnbmjpdaa
