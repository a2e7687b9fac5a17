/- Walks: Valid of both sides. -/
import Derived.Test.YtmjmcinnbmjpdaaWy
import Derived.BigQuiet
namespace Go.Proofs.Ytmjmcinnbmjpdaa
open Go.RowKit
theorem trim_last {xs : List Nat} (h : 0 < xs.length) : (trimL xs).length = xs.length ↔ xs[xs.length - 1]'(by omega) ≠ 0 := by
  have hk : xs.length - 1 < xs.length := by omega
  have ht : xs.take (xs.length - 1 + 1) = xs := List.take_of_length_le (by omega)
  constructor
  · intro he h0
    have := trimL_zero xs (xs.length - 1) hk h0
    rw [ht] at this
    have hl := trimL_len (xs.take (xs.length - 1))
    rw [← this, List.length_take] at hl
    omega
  · intro h0
    have := trimL_pos xs (xs.length - 1) hk h0
    rw [ht] at this
    rw [this]
def validB (s : Bool) (xs : List Nat) : Bool := decide ((trimL xs).length = xs.length) && (!s || decide (0 < xs.length))
section
variable {A B : Option Addr} {c d n m : Nat} {xs ys : List Nat} {w : World} {s t : Bool}
set_option maxHeartbeats 1000000 in
theorem int_Valid (hn : xs.length = n) (hx : Rd w A xs) (hc : n ≤ c) (_hcm : c ≤ maxLen) (h1 : n ≤ 100000) :
    Calls Try.prog 18 #[.agg #[.bool s, .slice A n c]] w fun e w' => e = .returned (.bool (validB s xs)) ∧ Ext w w' := by
  by_cases h : 0 < n
  · have hxl : 0 < xs.length := by omega
    have hlast := trim_last hxl
    obtain ⟨W, hW, extW, bx, hz⟩ := box1 w 24 #[.bool s, .slice A n c]
    obtain ⟨b1, off', rfl, hb1, hc1⟩ := (hx.ext extW).at_ (i := xs.length - 1) (by omega)
    have hxk := hx.1.get (k := xs.length - 1) (by omega)
    subst hn
    generalize xs[xs.length - 1] = X at *
    have hv : validB s xs = decide (X ≠ 0) := by
      unfold validB
      rw [decide_eq_true hxl, Bool.or_true, Bool.and_true]
      exact decide_eq_decide.2 hlast
    have Hv := Lib.hid hv
    clear hv hlast
    have hpos : ¬ xs.length = 0 := by omega
    go_enter Try.func18, Try.ntmps18
    go_upto_region 1 with (fail)
    rw [← hW]
    clear hW
    have x0 := bx.cell 0 (.bool s) rfl
    have x1 := bx.cell 1 (.slice (some ⟨b1, off', none⟩) xs.length c) rfl
    go_wp2_with fail
    go_ret
    refine ⟨?_, extW⟩
    rw [Hv.out]
    by_cases h0 : X = 0 <;> simp [h0]
  · obtain rfl : n = 0 := by omega
    have h0 : xs = [] := List.length_eq_zero_iff.1 hn
    subst h0
    have Hv := Lib.hid (show validB s [] = !s by cases s <;> rfl)
    go_enter Try.func18, Try.ntmps18
    go_upto_region 1 with (fail)
    obtain ⟨W, hW, extW, bx, hz⟩ := box1 w 24 #[.bool s, .slice A 0 c]
    rw [← hW]
    clear hW
    have x0 := bx.cell 0 (.bool s) rfl
    have x1 := bx.cell 1 (.slice A 0 c) rfl
    go_wp2_with fail
    go_ret
    exact ⟨by rw [Hv.out]; rfl, extW⟩
end
end Go.Proofs.Ytmjmcinnbmjpdaa
