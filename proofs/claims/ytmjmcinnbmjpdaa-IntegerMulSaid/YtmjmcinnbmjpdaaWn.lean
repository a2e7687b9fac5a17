/- The walk of the law IntegerSums, over the walk of awake. -/
import Derived.Test.YtmjmcinnbmjpdaaWm
namespace Go.Proofs.Ytmjmcinnbmjpdaa
open Go.RowKit
attribute [local go_sem ↓] Go.wp_at_zero Go.wp_at_succ
/-- the examples of the document hold. -/
def Awake : Prop := ∀ w : World, Calls Try.prog 10 #[] w fun e w' => e = .returned (.bool true) ∧ Ext w w'
section
variable {A B : Option Addr} {c d n m : Nat} {xs ys : List Nat} {w : World} {s t : Bool}
set_option maxHeartbeats 4000000 in
theorem sums_yes (hA : Awake) (hn : xs.length = n) (hm : ys.length = m) (hx : Rd w A xs) (hy : Rd w B ys) (hc : n ≤ c) (hcm : c ≤ maxLen) (hd : m ≤ d) (hdm : d ≤ maxLen) (h1 : n ≤ 20) (h2 : m ≤ 20) :
    Calls Try.prog 4 #[.agg #[.bool s, .slice A n c], .agg #[.bool t, .slice B m d]] w fun e w' => e = .returned (.bool true) ∧ Ext w w' := by
  have Hn := Lib.hid hn
  have Hm := Lib.hid hm
  have HA := Lib.hid hA
  clear hn hm hA
  go_enter Try.func4, Try.ntmps4
  go_upto_region 1 with (fail)
  obtain ⟨W0, hW, extW, bx, by_, hz⟩ := box2 w 24 24 #[.bool s, .slice A n c] #[.bool t, .slice B m d]
  rw [← hW]
  clear hW
  go_wp2_with fail
  refine (HA.out _).mono ?_
  rintro e W ⟨rfl, hxt⟩
  replace extW := extW.trans hxt
  replace bx := bx.ext hxt
  replace by_ := by_.ext hxt
  clear hxt hz
  have x0 := bx.cell 0 (.bool s) rfl
  have x1 := bx.cell 1 (.slice A n c) rfl
  have y0 := by_.cell 0 (.bool t) rfl
  have y1 := by_.cell 1 (.slice B m d) rfl
  have hnb := Box.new W 24 #[.bool s, .slice A n c, .bool t, .slice B m d]
  have e1 := (Ext.refl W).alloc (.cells #[.bool s, .slice A n c, .bool t, .slice B m d] 24)
  go_wp2_with fail
  refine (small_yes2 hnb h1 h2).mono ?_
  rintro e W1 ⟨rfl, hxt⟩
  have ES := e1.trans hxt
  clear hnb e1 hxt x0 x1 y0 y1
  have x0 := (bx.ext ES).cell 0 (.bool s) rfl
  have x1 := (bx.ext ES).cell 1 (.slice A n c) rfl
  have y0 := (by_.ext ES).cell 0 (.bool t) rfl
  have y1 := (by_.ext ES).cell 1 (.slice B m d) rfl
  go_wp2_with fail
  go_region_held3 (fun w' => w'.cell? ⟨w.heap.size, 0, none⟩ = some (.bool s) ∧ w'.cell? ⟨w.heap.size, 1, none⟩ = some (.slice A n c) ∧ w'.cell? ⟨w.heap.size + 1, 0, none⟩ = some (.bool t) ∧ w'.cell? ⟨w.heap.size + 1, 1, none⟩ = some (.slice B m d)) (first | exact ⟨(bx.ext ES).cell 0 _ rfl, (bx.ext ES).cell 1 _ rfl, (by_.ext ES).cell 0 _ rfl, (by_.ext ES).cell 1 _ rfl⟩ | exact ⟨(bx.ext ES.drew).cell 0 _ rfl, (bx.ext ES.drew).cell 1 _ rfl, (by_.ext ES.drew).cell 0 _ rfl, (by_.ext ES.drew).cell 1 _ rfl⟩)
    (first | (go_at_call_of 13 A; refine (law_cp Hn.out (hx.ext (by first | exact extW.trans ES | exact extW.trans ES.drew)) (by omega)).mono ?_; rintro e wk ⟨A1, c1, rfl, hr1, hc1, hm1, hxt⟩; replace ES := (by first | exact ES.trans hxt | exact ES.drew.trans hxt : Ext W _)) | (go_at_call_of 13 B; refine (law_cp Hm.out (hy.ext (by first | exact extW.trans ES | exact extW.trans ES.drew)) (by omega)).mono ?_; rintro e wk ⟨A2, c2, rfl, hr2, hc2, hm2, hxt⟩; replace ES := (by first | exact ES.trans hxt | exact ES.drew.trans hxt : Ext W _); replace hr1 := hr1.ext hxt) | (go_at_call 26; refine (int_Add rfl rfl hr1 hr2 hc1 hm1 hc2 hm2 (by have := Hn.out; omega) (by have := Hm.out; omega)).mono ?_; rintro e wk ⟨b3, A3, c3, rs, rfl, hr3, hc3, hm3, hi3, hl3, hxt⟩; replace ES := (by first | exact ES.trans hxt | exact ES.drew.trans hxt : Ext W _)) | (go_at_call 27; refine (ref_Add Hn.out Hm.out (hx.ext (by first | exact extW.trans ES | exact extW.trans ES.drew)) (hy.ext (by first | exact extW.trans ES | exact extW.trans ES.drew)) hc hcm hd hdm (by omega) (by omega)).mono ?_; rintro e wk ⟨b4, A4, c4, qs, rfl, hr4, hc4, hm4, hi4, hl4, hxt⟩; replace ES := (by first | exact ES.trans hxt | exact ES.drew.trans hxt : Ext W _); replace hr3 := hr3.ext hxt) | (go_at_call 28; refine (int_Sub rfl rfl hr1 hr2 hc1 hm1 hc2 hm2 (by have := Hn.out; omega) (by have := Hm.out; omega)).mono ?_; rintro e wk ⟨b3, A3, c3, rs, rfl, hr3, hc3, hm3, hi3, hl3, hxt⟩; replace ES := (by first | exact ES.trans hxt | exact ES.drew.trans hxt : Ext W _)) | (go_at_call 29; refine (ref_Sub Hn.out Hm.out (hx.ext (by first | exact extW.trans ES | exact extW.trans ES.drew)) (hy.ext (by first | exact extW.trans ES | exact extW.trans ES.drew)) hc hcm hd hdm (by omega) (by omega)).mono ?_; rintro e wk ⟨b4, A4, c4, qs, rfl, hr4, hc4, hm4, hi4, hl4, hxt⟩; replace ES := (by first | exact ES.trans hxt | exact ES.drew.trans hxt : Ext W _); replace hr3 := hr3.ext hxt) | (go_at_call 30; refine (int_Neg rfl hr1 hc1 hm1 (by have := Hn.out; omega)).mono ?_; rintro e wk ⟨b3, A3, c3, rs, rfl, hr3, hc3, hm3, hi3, hl3, hxt⟩; replace ES := (by first | exact ES.trans hxt | exact ES.drew.trans hxt : Ext W _)) | (go_at_call 31; refine (ref_Neg Hn.out (hx.ext (by first | exact extW.trans ES | exact extW.trans ES.drew)) hc hcm (by omega)).mono ?_; rintro e wk ⟨b4, A4, c4, qs, rfl, hr4, hc4, hm4, hi4, hl4, hxt⟩; replace ES := (by first | exact ES.trans hxt | exact ES.drew.trans hxt : Ext W _); replace hr3 := hr3.ext hxt) | (go_at_call 32; refine (int_Cmp rfl rfl hr1 hr2 hc1 hm1 hc2 hm2 (by have := Hn.out; omega) (by have := Hm.out; omega)).mono ?_; rintro e wk ⟨rfl, hxt⟩; replace ES := (by first | exact ES.trans hxt | exact ES.drew.trans hxt : Ext W _)) | (go_at_call 33; refine (ref_Cmp Hn.out Hm.out (hx.ext (by first | exact extW.trans ES | exact extW.trans ES.drew)) (hy.ext (by first | exact extW.trans ES | exact extW.trans ES.drew)) hc hcm hd hdm (by omega) (by omega)).mono ?_; rintro e wk ⟨rfl, hxt⟩; replace ES := (by first | exact ES.trans hxt | exact ES.drew.trans hxt : Ext W _)) | (go_at_call 15; refine (law_same_int rfl rfl hr3 hr4 (by have := Hn.out; have := Hm.out; omega) hi3 hi4).mono ?_; rintro e wk ⟨rfl, hxt⟩; replace ES := (by first | exact ES.trans hxt | exact ES.drew.trans hxt : Ext W _)))
  go_wp2_with fail
  go_ret
  exact ⟨rfl, extW.trans ES⟩

set_option maxHeartbeats 1000000 in
theorem sums_no (hA : Awake) (hn : xs.length = n) (hm : ys.length = m) (_hx : Rd w A xs) (_hy : Rd w B ys) (_hc : n ≤ c) (_hcm : c ≤ maxLen) (_hd : m ≤ d) (_hdm : d ≤ maxLen) (hno : ¬ (n ≤ 20 ∧ m ≤ 20)) :
    Calls Try.prog 4 #[.agg #[.bool s, .slice A n c], .agg #[.bool t, .slice B m d]] w fun e w' => e = .returned (.bool true) ∧ Ext w w' := by
  have Hn := Lib.hid hn
  have Hm := Lib.hid hm
  have HA := Lib.hid hA
  clear hn hm hA
  go_enter Try.func4, Try.ntmps4
  go_upto_region 1 with (fail)
  obtain ⟨W0, hW, extW, bx, by_, hz⟩ := box2 w 24 24 #[.bool s, .slice A n c] #[.bool t, .slice B m d]
  rw [← hW]
  clear hW
  go_wp2_with fail
  refine (HA.out _).mono ?_
  rintro e W ⟨rfl, hxt⟩
  replace extW := extW.trans hxt
  replace bx := bx.ext hxt
  replace by_ := by_.ext hxt
  clear hxt hz
  have x0 := bx.cell 0 (.bool s) rfl
  have x1 := bx.cell 1 (.slice A n c) rfl
  have y0 := by_.cell 0 (.bool t) rfl
  have y1 := by_.cell 1 (.slice B m d) rfl
  have hnb := Box.new W 24 #[.bool s, .slice A n c, .bool t, .slice B m d]
  have e1 := (Ext.refl W).alloc (.cells #[.bool s, .slice A n c, .bool t, .slice B m d] 24)
  go_wp2_with fail
  refine (small_no2 hnb hno).mono ?_
  rintro e W1 ⟨rfl, hxt⟩
  have ES := e1.trans hxt
  clear hnb e1 hxt x0 x1 y0 y1
  go_wp2_with fail
  refine (HA.out _).mono ?_
  rintro e W2 ⟨rfl, hxt⟩
  go_wp2_with fail
  go_ret
  exact ⟨rfl, (extW.trans ES).trans hxt⟩

theorem sums_any (hA : Awake) (hn : xs.length = n) (hm : ys.length = m) (hx : Rd w A xs) (hy : Rd w B ys) (hc : n ≤ c) (hcm : c ≤ maxLen) (hd : m ≤ d) (hdm : d ≤ maxLen) :
    Calls Try.prog 4 #[.agg #[.bool s, .slice A n c], .agg #[.bool t, .slice B m d]] w fun e w' => e = .returned (.bool true) ∧ Ext w w' := by
  by_cases h : n ≤ 20 ∧ m ≤ 20
  · exact sums_yes hA hn hm hx hy hc hcm hd hdm h.1 h.2
  · exact sums_no hA hn hm hx hy hc hcm hd hdm h
end
end Go.Proofs.Ytmjmcinnbmjpdaa
