/- Walks: Int64 of both sides. -/
import Derived.Test.YtmjmcinnbmjpdaaVz
import Derived.Test.YtmjmcinnbmjpdaaVa
namespace Go.Proofs.Ytmjmcinnbmjpdaa
open Go.RowKit
theorem big_val {xs : List Nat} (_hw : W32 xs) (h : 2 < (trimL xs).length) : 18446744073709551616 ≤ val xs := by
  have h2 := val_lt_of_len (xs := [4294967295, 4294967295]) (W32.pair (by omega) (by omega)) (Nrm.trimL xs) (by simpa using h)
  rw [val_trimL, val_pair] at h2
  omega
def fitsB (z : Int) : Bool := decide (-9223372036854775808 ≤ z ∧ z < 9223372036854775808)
def fitV (z : Int) : Int := if -9223372036854775808 ≤ z ∧ z < 9223372036854775808 then z else 0
theorem fit_yes {z : Int} (h : -9223372036854775808 ≤ z ∧ z < 9223372036854775808) : fitsB z = true ∧ fitV z = z := ⟨decide_eq_true h, if_pos h⟩
theorem fit_no {z : Int} (h : ¬ (-9223372036854775808 ≤ z ∧ z < 9223372036854775808)) : fitsB z = false ∧ fitV z = 0 := ⟨decide_eq_false h, if_neg h⟩
theorem neg_back {V : Nat} (h : V ≤ 9223372036854775808) : IntKind.i64.wrap (IntKind.u64.wrap (-(V : Int))) = -(V : Int) := by
  rw [IntKind.wrap_u64, IntKind.wrap_i64]; omega
theorem neg_back2 {V : Nat} (h : V ≤ 9223372036854775808) : IntKind.i64.wrap (-IntKind.i64.wrap (V : Int)) = -(V : Int) := by
  rw [IntKind.wrap_i64, IntKind.wrap_i64]; omega
theorem neg_back3 {V : Nat} (h : V ≤ 9223372036854775808) : wrap64 (-wrap64 (V : Int)) = -(V : Int) := by unfold wrap64; omega
/-- the value and the flag, in a tuple. -/
def RetV (z : Int) (w : World) (e : Ending) (w' : World) : Prop := e = .returned (.tuple #[.int .i64 (fitV z), .bool (fitsB z)]) ∧ Ext w w'
theorem ret_fit {z v : Int} {b : Bool} (h : fitsB z = b ∧ fitV z = v) : Ending.returned (.tuple #[.int .i64 v, .bool b]) = .returned (.tuple #[.int .i64 (fitV z), .bool (fitsB z)]) := by rw [h.1, h.2]
section
variable {A B : Option Addr} {c d n m : Nat} {xs ys : List Nat} {w : World} {s t : Bool}
set_option maxHeartbeats 400000 in
theorem ref_short (hn : xs.length = n) (hx : Rd w A xs) (h2 : n ≤ 2) : Calls Try.prog 46 #[.slice A n c] w fun e w' => e = .returned (.int .u64 (val xs)) ∧ w = w' := by
  subst hn
  match xs, h2 with
  | [], _ =>
    go_enter Try.func46, Try.ntmps46
    go_wp2
    go_loop [3, 4] (fun v i => i = .int .i64 (-1) ∧ v = .int .u64 0) (fun _ _ => 0)
    case atStart => exact ⟨rfl, rfl⟩
    case round =>
      obtain ⟨rfl, rfl⟩ := hrel
      go_wp2
      go_ret
      exact ⟨rfl, rfl⟩
  | [a], _ =>
    obtain ⟨b, off, rfl, hb, hc⟩ := hx.2 (by simp)
    have hc0 := hc 0 (by simp)
    simp only [Nat.add_zero, List.getElem_cons_zero] at hc0
    have ha := hx.1 a (by simp)
    clear hc
    go_enter Try.func46, Try.ntmps46
    go_wp2
    go_loop [3, 4] (fun v i => (i = .int .i64 0 ∧ v = .int .u64 0) ∨ (i = .int .i64 (-1) ∧ v = .int .u64 (a : Int))) (fun _ i => (intOf i + 1).toNat)
    case atStart => exact .inl ⟨rfl, rfl⟩
    case round =>
      rcases hrel with ⟨rfl, rfl⟩ | ⟨rfl, rfl⟩
      · go_wp2
        exact ⟨.inr ⟨rfl, congrArg (Value.int .u64) (or_zero ha)⟩, by simp [intOf]⟩
      · go_wp2
        go_ret
        exact ⟨by simp [val], rfl⟩
  | [a, a2], _ =>
    obtain ⟨b, off, rfl, hb, hc⟩ := hx.2 (by simp)
    have hc0 := hc 0 (by simp)
    have hc1 := hc 1 (by simp)
    simp only [Nat.add_zero, List.getElem_cons_zero, List.getElem_cons_succ] at hc0 hc1
    have ha := hx.1 a (by simp)
    have ha2 := hx.1 a2 (by simp)
    clear hc
    go_enter Try.func46, Try.ntmps46
    go_wp2
    go_loop [3, 4] (fun v i => (i = .int .i64 1 ∧ v = .int .u64 0) ∨ (i = .int .i64 0 ∧ v = .int .u64 (a2 : Int)) ∨ (i = .int .i64 (-1) ∧ v = .int .u64 (val [a, a2] : Nat))) (fun _ i => (intOf i + 1).toNat)
    case atStart => exact .inl ⟨rfl, rfl⟩
    case round =>
      rcases hrel with ⟨rfl, rfl⟩ | ⟨rfl, rfl⟩ | ⟨rfl, rfl⟩
      · go_wp2
        exact ⟨.inr (.inl ⟨rfl, congrArg (Value.int .u64) (or_zero ha2)⟩), by simp [intOf]⟩
      · go_wp2
        exact ⟨.inr (.inr ⟨rfl, congrArg (Value.int .u64) ((high_or ha ha2).trans (by rw [val_pair, Nat.add_comm, Nat.mul_comm]))⟩), by simp [intOf]⟩
      · go_wp2
        go_ret
        exact ⟨rfl, rfl⟩
set_option maxRecDepth 100000 in
set_option maxHeartbeats 4000000 in
theorem int_Int64 (hn : xs.length = n) (hx : Rd w A xs) (hc : n ≤ c) (hcm : c ≤ maxLen) (_h1 : n ≤ 100000) :
    Calls Try.prog 12 #[.agg #[.bool s, .slice A n c]] w (RetV (ival s xs) w) := by
  obtain ⟨W, hW, extW, bx, hz⟩ := box1 w 24 #[.bool s, .slice A n c]
  have x0 := bx.cell 0 (.bool s) rfl
  have x1 := bx.cell 1 (.slice A n c) rfl
  have Hn := Lib.hid hn
  clear hn
  have hxt : Rd w A (trimL xs) := by rw [trimL_take]; exact hx.take _
  by_cases hl : 2 < (trimL xs).length
  · have hbig := big_val hx.1 hl
    have E1 := Lib.hid (fit_no (z := ival s xs) (by unfold ival; cases s <;> simp <;> omega))
    clear hbig
    go_enter Try.func12, Try.ntmps12
    go_upto_region 1 with (fail)
    rw [← hW]
    clear hW
    go_wp2_with (go_at_call 44; refine (int_trimN Hn.out (hx.ext extW) hc hcm).mono ?_; rintro e w1 ⟨rfl, rfl⟩)
    go_ret2
    exact ⟨ret_fit E1.out, extW⟩
  · have hlt := val_lt_two hxt.1 (by omega)
    rw [val_trimL] at hlt
    have hu := int_toUint (c := c) rfl (hxt.ext extW) (by omega)
    rw [val_trimL] at hu
    have Hu := Lib.hid hu
    clear hu
    have hiv : ival s xs = if s then -(val xs : Int) else (val xs : Int) := rfl
    have Hiv := Lib.hid hiv
    clear hiv
    generalize val xs = V at *
    cases s
    · go_enter Try.func12, Try.ntmps12
      go_upto_region 1 with (fail)
      rw [← hW]
      clear hW
      go_upto_region 4 with (first | (go_at_call 44; refine (int_trimN Hn.out (hx.ext extW) hc hcm).mono ?_; rintro e w1 ⟨rfl, rfl⟩) | (go_at_call 45; refine Hu.out.mono ?_; rintro e w1 ⟨rfl, rfl⟩))
      go_upto_region 5 with (first | (go_at_call 44; refine (int_trimN Hn.out (hx.ext extW) hc hcm).mono ?_; rintro e w1 ⟨rfl, rfl⟩) | (go_at_call 45; refine Hu.out.mono ?_; rintro e w1 ⟨rfl, rfl⟩))
      go_upto_region 7 with fail
      by_cases hv : V < 9223372036854775808
      · have E1 := Lib.hid (show fitsB (ival false xs) = true ∧ fitV (ival false xs) = (V : Int) by rw [Hiv.out]; exact fit_yes (by simp; omega))
        have hwv : IntKind.i64.wrap (V : Int) = (V : Int) := by rw [IntKind.wrap_i64]; omega
        generalize hN : (9223372036854775808 : Int) = N
        have dN : decide ((V : Int) < N) = true := decide_eq_true (by omega)
        clear hN hv
        go_wp2_with fail
        go_ret2
        exact ⟨ret_fit E1.out, extW⟩
      · have E1 := Lib.hid (fit_no (z := ival false xs) (by rw [Hiv.out]; simp; omega))
        generalize hN : (9223372036854775808 : Int) = N
        have dN : decide ((V : Int) < N) = false := decide_eq_false (by omega)
        clear hN hv
        go_wp2_with fail
        go_ret2
        exact ⟨ret_fit E1.out, extW⟩
    · by_cases hv : V ≤ 9223372036854775808
      · have E1 := Lib.hid (show fitsB (ival true xs) = true ∧ fitV (ival true xs) = -(V : Int) by rw [Hiv.out]; exact fit_yes (by simp; omega))
        have d2 : decide ((V : Int) ≤ 9223372036854775808) = true := decide_eq_true (by omega)
        have hnb := neg_back hv
        go_enter Try.func12, Try.ntmps12
        go_upto_region 1 with (fail)
        rw [← hW]
        clear hW
        go_wp2_with (first | (go_at_call 44; refine (int_trimN Hn.out (hx.ext extW) hc hcm).mono ?_; rintro e w1 ⟨rfl, rfl⟩) | (go_at_call 45; refine Hu.out.mono ?_; rintro e w1 ⟨rfl, rfl⟩))
        go_ret2
        exact ⟨ret_fit E1.out, extW⟩
      · have E1 := Lib.hid (fit_no (z := ival true xs) (by rw [Hiv.out]; simp; omega))
        have d2 : decide ((V : Int) ≤ 9223372036854775808) = false := decide_eq_false (by omega)
        go_enter Try.func12, Try.ntmps12
        go_upto_region 1 with (fail)
        rw [← hW]
        clear hW
        go_wp2_with (first | (go_at_call 44; refine (int_trimN Hn.out (hx.ext extW) hc hcm).mono ?_; rintro e w1 ⟨rfl, rfl⟩) | (go_at_call 45; refine Hu.out.mono ?_; rintro e w1 ⟨rfl, rfl⟩))
        go_ret2
        exact ⟨ret_fit E1.out, extW⟩
set_option maxRecDepth 100000 in
set_option maxHeartbeats 4000000 in
theorem ref_Int64 (hn : xs.length = n) (hx : Rd w A xs) (hc : n ≤ c) (hcm : c ≤ maxLen) (h1 : n ≤ 100000) :
    Calls Try.prog 14 #[.agg #[.bool s, .slice A n c]] w (RetV (ival s xs) w) := by
  go_enter Try.func14, Try.ntmps14
  go_upto_region 1 with (fail)
  obtain ⟨W, hW, extW, bx, hz⟩ := box1 w 24 #[.bool s, .slice A n c]
  rw [← hW]
  clear hW
  have x0 := bx.cell 0 (.bool s) rfl
  have x1 := bx.cell 1 (.slice A n c) rfl
  have hf0 := bx.frozen 0
  have hf1 := bx.frozen 1
  go_wp2_with fail
  refine (ref_Norm hn (hx.ext extW) hc hcm h1).mono ?_
  rintro e w3 ⟨b3, A3, c3, rs, rfl, hr3, hc3, hm3, hi3, hl3, hext3⟩
  have bx3 := bx.ext hext3
  have z0 := bx3.cell 0 (.bool s) rfl
  have z1 := bx3.cell 1 (.slice A n c) rfl
  have f0 := bx3.frozen 0
  have f1 := bx3.frozen 1
  have hfin := fin_pair (b := b3) (n := rs.length) (c := c3) (extW.trans hext3) (Nat.le_refl _) bx3 hr3
  have Hfin := Lib.hid hfin
  have hrn := hi3.nrm
  have hev := isint_val hi3
  have hw3 := hr3.1
  clear hfin bx bx3 x0 x1 hf0 hf1 hn
  generalize ival s xs = z at *
  by_cases hl : 2 < rs.length
  · have hbig := big_val hw3 (by rw [hrn]; exact hl)
    have E1 := Lib.hid (fit_no (z := z) (by cases b3 <;> simp at hev <;> omega))
    clear hbig hev hrn hw3
    go_wp2_with fail
    go_ret2
    exact ⟨ret_fit E1.out, Hfin.out.2.1⟩
  · have hlt := val_lt_two hw3 (by omega)
    have Hu := Lib.hid (ref_short (c := c3) (n := rs.length) rfl Hfin.out.1 (by omega))
    generalize val rs = V at *
    clear hrn hw3
    cases b3
    · simp only [Bool.false_eq_true, if_false] at hev
      have Hev := Lib.hid hev
      clear hev
      go_upto_region 4 with fail
      go_upto_region 5 with ((go_at_call 46; refine Hu.out.mono ?_; rintro e w1 ⟨rfl, rfl⟩))
      go_upto_region 7 with fail
      by_cases hv : V < 9223372036854775808
      · have E1 := Lib.hid (show fitsB z = true ∧ fitV z = (V : Int) by rw [← Hev.out]; exact fit_yes (by omega))
        have hwv : IntKind.i64.wrap (V : Int) = (V : Int) := by rw [IntKind.wrap_i64]; omega
        generalize hN : (9223372036854775808 : Int) = N
        have dN : decide ((V : Int) < N) = true := decide_eq_true (by omega)
        clear hN hv
        go_wp2_with fail
        go_ret2
        exact ⟨ret_fit E1.out, Hfin.out.2.1⟩
      · have E1 := Lib.hid (fit_no (z := z) (by have := Hev.out; omega))
        generalize hN : (9223372036854775808 : Int) = N
        have dN : decide ((V : Int) < N) = false := decide_eq_false (by omega)
        clear hN hv
        go_wp2_with fail
        go_ret2
        exact ⟨ret_fit E1.out, Hfin.out.2.1⟩
    · simp only [if_true] at hev
      have Hev := Lib.hid hev
      clear hev
      go_upto_region 4 with fail
      go_upto_region 5 with ((go_at_call 46; refine Hu.out.mono ?_; rintro e w1 ⟨rfl, rfl⟩))
      by_cases hv : V ≤ 9223372036854775808
      · have E1 := Lib.hid (show fitsB z = true ∧ fitV z = -(V : Int) by rw [show z = -(V : Int) by have := Hev.out; omega]; exact fit_yes (by omega))
        have Hnb := Lib.hid (neg_back3 hv)
        generalize hN : (9223372036854775808 : Int) = N
        have dN : decide ((V : Int) ≤ N) = true := decide_eq_true (by omega)
        clear hN hv
        go_wp2_with fail
        go_ret2
        exact ⟨ret_fit (by rw [Hnb.out]; exact E1.out), Hfin.out.2.1⟩
      · have E1 := Lib.hid (fit_no (z := z) (by have := Hev.out; omega))
        generalize hN : (9223372036854775808 : Int) = N
        have dN : decide ((V : Int) ≤ N) = false := decide_eq_false (by omega)
        clear hN hv
        go_wp2_with fail
        go_ret2
        exact ⟨ret_fit E1.out, Hfin.out.2.1⟩
end
end Go.Proofs.Ytmjmcinnbmjpdaa
