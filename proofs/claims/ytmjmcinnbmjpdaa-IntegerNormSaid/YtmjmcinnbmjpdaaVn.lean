/- The walk of the law IntegerNorm. -/
import Derived.Test.YtmjmcinnbmjpdaaWx
import Derived.Test.YtmjmcinnbmjpdaaVi
namespace Go.Proofs.Ytmjmcinnbmjpdaa
open Go.RowKit
attribute [local go_sem ↓] Go.wp_at_zero Go.wp_at_succ
section
variable {A B : Option Addr} {c d n m : Nat} {xs ys : List Nat} {w : World} {s t : Bool}
set_option maxHeartbeats 8000000 in
theorem norm_yes {k : Int} (hk0 : -9223372036854775808 ≤ k) (hk1 : k < 9223372036854775808) (hn : xs.length = n) (hx : Rd w A xs) (hc : n ≤ c) (hcm : c ≤ maxLen) (h1 : n ≤ 20) :
    Calls Try.prog 3 #[.agg #[.bool s, .slice A n c], .int .i64 k] w fun e w' => e = .returned (.bool true) ∧ Ext w w' := by
  have Hk := Lib.hid (And.intro hk0 hk1)
  clear hk0 hk1
  have Hn := Lib.hid hn
  have HA := Lib.hid awake
  clear hn
  go_enter Try.func3, Try.ntmps3
  go_upto_region 1 with (fail)
  obtain ⟨W0, hW, extW, bx, hz⟩ := box1 w 24 #[.bool s, .slice A n c]
  rw [← hW]
  clear hW
  go_wp2_with fail
  refine (HA.out _).mono ?_
  rintro e W ⟨rfl, hxt⟩
  replace extW := extW.trans hxt
  replace bx := bx.ext hxt
  clear hxt hz
  have x0 := bx.cell 0 (.bool s) rfl
  have x1 := bx.cell 1 (.slice A n c) rfl
  have hnb := Box.new W 24 #[.bool s, .slice A n c]
  have e1 := (Ext.refl W).alloc (.cells #[.bool s, .slice A n c] 24)
  go_wp2_with fail
  refine (small_yes1 hnb h1).mono ?_
  rintro e W1 ⟨rfl, hxt⟩
  have ES := e1.trans hxt
  clear hnb e1 hxt x0 x1
  have x0 := (bx.ext ES).cell 0 (.bool s) rfl
  have x1 := (bx.ext ES).cell 1 (.slice A n c) rfl
  go_wp2_with fail
  refine (law_cp Hn.out (hx.ext (extW.trans ES)) (by omega)).mono ?_
  rintro e w2 ⟨A1, c1, rfl, hr1, hc1, hm1, hxt⟩
  replace ES := ES.trans hxt
  clear hxt x0 x1
  go_wp2_with fail
  refine (int_Int64 rfl hr1 hc1 hm1 (by have := Hn.out; omega)).mono ?_
  rintro e w3 ⟨rfl, hxt⟩
  replace ES := ES.trans hxt
  clear hxt hr1 hc1 hm1
  have x0 := (bx.ext ES).cell 0 (.bool s) rfl
  have x1 := (bx.ext ES).cell 1 (.slice A n c) rfl
  go_wp2_with fail
  refine (ref_Int64 Hn.out (hx.ext (extW.trans ES)) hc hcm (by omega)).mono ?_
  rintro e w4 ⟨rfl, hxt⟩
  replace ES := ES.trans hxt
  clear hxt x0 x1
  generalize fitV (ival s xs) = V64 at *
  generalize fitsB (ival s xs) = B64 at *
  have x0 := (bx.ext ES).cell 0 (.bool s) rfl
  have x1 := (bx.ext ES).cell 1 (.slice A n c) rfl
  go_wp2_with fail
  go_region_held3 (fun w' => w'.cell? ⟨w.heap.size, 0, none⟩ = some (.bool s) ∧ w'.cell? ⟨w.heap.size, 1, none⟩ = some (.slice A n c)) (first | exact ⟨(bx.ext ES).cell 0 _ rfl, (bx.ext ES).cell 1 _ rfl⟩ | exact ⟨(bx.ext ES.drew).cell 0 _ rfl, (bx.ext ES.drew).cell 1 _ rfl⟩)
    (first | (go_at_call 13; refine (law_cp Hn.out (hx.ext (by first | exact extW.trans ES | exact extW.trans ES.drew)) (by omega)).mono ?_; rintro e wk ⟨A1, c1, rfl, hr1, hc1, hm1, hxt⟩; replace ES := (by first | exact ES.trans hxt | exact ES.drew.trans hxt : Ext W _)) | (go_at_call 16; refine (int_Norm rfl hr1 hc1 hm1 (by have := Hn.out; omega)).mono ?_; rintro e wk ⟨b3, A3, c3, rs, rfl, hr3, hc3, hm3, hi3, hl3, hxt⟩; replace ES := (by first | exact ES.trans hxt | exact ES.drew.trans hxt : Ext W _)) | (go_at_call 17; refine (ref_Norm Hn.out (hx.ext (by first | exact extW.trans ES | exact extW.trans ES.drew)) hc hcm (by omega)).mono ?_; rintro e wk ⟨b4, A4, c4, qs, rfl, hr4, hc4, hm4, hi4, hl4, hxt⟩; replace ES := (by first | exact ES.trans hxt | exact ES.drew.trans hxt : Ext W _); replace hr3 := hr3.ext hxt) | (go_at_call 15; refine (law_same_int rfl rfl hr3 hr4 (by have := Hn.out; omega) hi3 hi4).mono ?_; rintro e wk ⟨rfl, hxt⟩; replace ES := (by first | exact ES.trans hxt | exact ES.drew.trans hxt : Ext W _)) | (go_at_call 18; refine (int_Valid rfl hr1 hc1 hm1 (by have := Hn.out; omega)).mono ?_; rintro e wk ⟨rfl, hxt⟩; replace ES := (by first | exact ES.trans hxt | exact ES.drew.trans hxt : Ext W _)) | (go_at_call 19; refine (ref_Valid Hn.out (hx.ext (by first | exact extW.trans ES | exact extW.trans ES.drew)) hc hcm (by omega)).mono ?_; rintro e wk ⟨rfl, hxt⟩; replace ES := (by first | exact ES.trans hxt | exact ES.drew.trans hxt : Ext W _)) | (go_at_call 20; refine (int_Sign rfl hr1 hc1 hm1 (by have := Hn.out; omega)).mono ?_; rintro e wk ⟨rfl, hxt⟩; replace ES := (by first | exact ES.trans hxt | exact ES.drew.trans hxt : Ext W _)) | (go_at_call 21; refine (ref_Sign Hn.out (hx.ext (by first | exact extW.trans ES | exact extW.trans ES.drew)) hc hcm (by omega)).mono ?_; rintro e wk ⟨rfl, hxt⟩; replace ES := (by first | exact ES.trans hxt | exact ES.drew.trans hxt : Ext W _)) | (go_at_call 22; refine (int_Bits rfl hr1 hc1 hm1 (by have := Hn.out; omega)).mono ?_; rintro e wk ⟨rfl, hxt⟩; replace ES := (by first | exact ES.trans hxt | exact ES.drew.trans hxt : Ext W _)) | (go_at_call 23; refine (ref_Bits Hn.out (hx.ext (by first | exact extW.trans ES | exact extW.trans ES.drew)) hc hcm (by omega)).mono ?_; rintro e wk ⟨rfl, hxt⟩; replace ES := (by first | exact ES.trans hxt | exact ES.drew.trans hxt : Ext W _)) | (go_at_call 24; refine (int_FromInt k Hk.out.1 Hk.out.2).mono ?_; rintro e wk ⟨b3, A3, c3, rs, rfl, hr3, hc3, hm3, hi3, hl3, hxt⟩; replace ES := (by first | exact ES.trans hxt | exact ES.drew.trans hxt : Ext W _)) | (go_at_call 25; refine (ref_FromInt k Hk.out.1 Hk.out.2).mono ?_; rintro e wk ⟨b4, A4, c4, qs, rfl, hr4, hc4, hm4, hi4, hl4, hxt⟩; replace ES := (by first | exact ES.trans hxt | exact ES.drew.trans hxt : Ext W _); replace hr3 := hr3.ext hxt))
  go_wp2_with fail
  go_ret
  exact ⟨rfl, extW.trans ES⟩
set_option maxHeartbeats 1000000 in
theorem norm_no {k : Int} (hn : xs.length = n) (hno : ¬ n ≤ 20) :
    Calls Try.prog 3 #[.agg #[.bool s, .slice A n c], .int .i64 k] w fun e w' => e = .returned (.bool true) ∧ Ext w w' := by
  have Hn := Lib.hid hn
  have HA := Lib.hid awake
  clear hn
  go_enter Try.func3, Try.ntmps3
  go_upto_region 1 with (fail)
  obtain ⟨W0, hW, extW, bx, hz⟩ := box1 w 24 #[.bool s, .slice A n c]
  rw [← hW]
  clear hW
  go_wp2_with fail
  refine (HA.out _).mono ?_
  rintro e W ⟨rfl, hxt⟩
  replace extW := extW.trans hxt
  replace bx := bx.ext hxt
  clear hxt hz
  have x0 := bx.cell 0 (.bool s) rfl
  have x1 := bx.cell 1 (.slice A n c) rfl
  have hnb := Box.new W 24 #[.bool s, .slice A n c]
  have e1 := (Ext.refl W).alloc (.cells #[.bool s, .slice A n c] 24)
  go_wp2_with fail
  refine (small_no1 hnb hno).mono ?_
  rintro e W1 ⟨rfl, hxt⟩
  have ES := e1.trans hxt
  clear hnb e1 hxt x0 x1
  go_wp2_with fail
  refine (HA.out _).mono ?_
  rintro e W2 ⟨rfl, hxt⟩
  go_wp2_with fail
  go_ret
  exact ⟨rfl, (extW.trans ES).trans hxt⟩
theorem norm_any {k : Int} (hk0 : -9223372036854775808 ≤ k) (hk1 : k < 9223372036854775808) (hn : xs.length = n) (hx : Rd w A xs) (hc : n ≤ c) (hcm : c ≤ maxLen) :
    Calls Try.prog 3 #[.agg #[.bool s, .slice A n c], .int .i64 k] w fun e w' => e = .returned (.bool true) ∧ Ext w w' := by
  by_cases h : n ≤ 20
  · exact norm_yes hk0 hk1 hn hx hc hcm h
  · exact norm_no hn h
end
end Go.Proofs.Ytmjmcinnbmjpdaa
