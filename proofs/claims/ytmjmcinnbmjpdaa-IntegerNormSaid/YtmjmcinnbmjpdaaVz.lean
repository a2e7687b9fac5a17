/- Walks: Valid and Int64 of the reference. -/
import Derived.Test.YtmjmcinnbmjpdaaWz
import Derived.Test.YtmjmcinnbmjpdaaWj
import Derived.BigQuiet
namespace Go.Proofs.Ytmjmcinnbmjpdaa
open Go.RowKit
section
variable {A B : Option Addr} {c d n m : Nat} {xs ys : List Nat} {w : World} {s t : Bool}
set_option maxHeartbeats 2000000 in
theorem ref_Valid (hn : xs.length = n) (hx : Rd w A xs) (hc : n ≤ c) (hcm : c ≤ maxLen) (h1 : n ≤ 100000) :
    Calls Try.prog 19 #[.agg #[.bool s, .slice A n c]] w fun e w' => e = .returned (.bool (validB s xs)) ∧ Ext w w' := by
  obtain ⟨W, hW, extW, bx, hz⟩ := box1 w 24 #[.bool s, .slice A n c]
  have x0 := bx.cell 0 (.bool s) rfl
  have x1 := bx.cell 1 (.slice A n c) rfl
  have Hn := Lib.hid hn
  have Hv := Lib.hid (show validB s xs = (decide ((trimL xs).length = n) && (!s || decide (0 < n))) by unfold validB; rw [hn])
  clear hn
  by_cases ht : (trimL xs).length = n
  · have t1 : (((trimL xs).length : Int) == (n : Int)) = true := by rw [beq_iff_eq]; omega
    have t2 : decide ((trimL xs).length = n) = true := decide_eq_true ht
    rw [t2] at Hv
    cases s
    · have Hv2 := Lib.hid (show validB false xs = true by rw [Hv.out]; rfl)
      go_enter Try.func19, Try.ntmps19
      go_upto_region 1 with (fail)
      rw [← hW]
      clear hW
      go_quiet ((go_at_call 51; exact quiet_left (ref_trimN Hn.out (hx.ext (extW.drewN _)) hc hcm)))
      go_wp2_with fail
      go_ret
      exact ⟨by rw [Hv2.out]; rfl, by first | exact extW | exact extW.drew | exact extW.drewN _⟩
    · by_cases h0 : 0 < n
      · have Hv2 := Lib.hid (show validB true xs = true by rw [Hv.out, decide_eq_true h0]; rfl)
        have t3 : decide ((0 : Int) < (n : Int)) = true := decide_eq_true (by omega)
        go_enter Try.func19, Try.ntmps19
        go_upto_region 1 with (fail)
        rw [← hW]
        clear hW
        go_quiet ((go_at_call 51; exact quiet_left (ref_trimN Hn.out (hx.ext (extW.drewN _)) hc hcm)))
        go_wp2_with fail
        go_ret
        exact ⟨by rw [Hv2.out]; rfl, by first | exact extW | exact extW.drew | exact extW.drewN _⟩
      · have Hv2 := Lib.hid (show validB true xs = false by rw [Hv.out, decide_eq_false h0]; rfl)
        have t3 : decide ((0 : Int) < (n : Int)) = false := decide_eq_false (by omega)
        go_enter Try.func19, Try.ntmps19
        go_upto_region 1 with (fail)
        rw [← hW]
        clear hW
        go_quiet ((go_at_call 51; exact quiet_left (ref_trimN Hn.out (hx.ext (extW.drewN _)) hc hcm)))
        go_wp2_with fail
        go_ret
        exact ⟨by rw [Hv2.out]; rfl, by first | exact extW | exact extW.drew | exact extW.drewN _⟩
  · have t1 : (((trimL xs).length : Int) == (n : Int)) = false := by rw [beq_eq_false_iff_ne]; omega
    have Hv2 := Lib.hid (show validB s xs = false by rw [Hv.out, decide_eq_false ht]; rfl)
    go_enter Try.func19, Try.ntmps19
    go_upto_region 1 with (fail)
    rw [← hW]
    clear hW
    go_quiet ((go_at_call 51; exact quiet_left (ref_trimN Hn.out (hx.ext (extW.drewN _)) hc hcm)))
    go_wp2_with fail
    go_ret
    exact ⟨by rw [Hv2.out]; rfl, by first | exact extW | exact extW.drew | exact extW.drewN _⟩
end
end Go.Proofs.Ytmjmcinnbmjpdaa
