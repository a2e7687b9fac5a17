/- Walks and laws, a part. -/
import Derived.Test.YtijdljfnmdoffaaGreatDoorP3
import Derived.Test.YtijdljfnmdoffaaGreatDoorP2
import Derived.Test.YtijdljfnmdoffaaGreatDoorP1
import Derived.Test.YtijdljfnmdoffaaGreatDoorP0
import Derived.Lib.Strings
import Derived.Lib.MinMax
set_option linter.unusedSimpArgs false
set_option linter.unusedVariables false
set_option maxHeartbeats 64000000
namespace Go.Proofs.YtijdljfnmdoffaaGreatDoor
section
open Go.RowKit
theorem big_val {xs : List Nat} (_hw : W32 xs) (h : 2 < (trimL xs).length) : 18446744073709551616 <= val xs := by
 have h2 := val_lt_of_len (xs := [4294967295, 4294967295]) (W32.pair (by omega) (by omega)) (Nrm.trimL xs) (by simpa using h);rw [val_trimL, val_pair] at h2;omega
def fitsB (z : Int) : Bool := decide (-9223372036854775808 <= z /\ z < 9223372036854775808)
def fitV (z : Int) : Int := if -9223372036854775808 <= z /\ z < 9223372036854775808 then z else 0
theorem fit_yes {z : Int} (h : -9223372036854775808 <= z /\ z < 9223372036854775808) : fitsB z = true /\ fitV z = z := ⟨decide_eq_true h, if_pos h⟩
theorem fit_no {z : Int} (h : ¬ (-9223372036854775808 <= z /\ z < 9223372036854775808)) : fitsB z = false /\ fitV z = 0 := ⟨decide_eq_false h, if_neg h⟩
theorem neg_back {V : Nat} (h : V <= 9223372036854775808) : IntKind.i64.wrap (IntKind.u64.wrap (-(V : Int))) = -(V : Int) := by
 rw [IntKind.wrap_u64, IntKind.wrap_i64]; omega
def RetV (z : Int) (w : World) (e : Ending) (w' : World) : Prop := e = .returned (.tuple #[.int .i64 (fitV z), .bool (fitsB z)]) /\ Ext w w'
theorem ret_fit {z v : Int} {b : Bool} (h : fitsB z = b /\ fitV z = v) : Ending.returned (.tuple #[.int .i64 v, .bool b]) = .returned (.tuple #[.int .i64 (fitV z), .bool (fitsB z)]) := by rw [h.1, h.2]
section
variable {A B : Option Addr} {c d n m : Nat} {xs ys : List Nat} {w : World} {s t : Bool}
theorem ref_short (hn : xs.length = n) (hx : Rd w A xs) (h2 : n <= 2) : Calls Tryz.prog 129 #[.slice A n c] w fun e w' => e = .returned (.int .u64 (val xs)) /\ w = w' := by
 subst hn
 match xs, h2 with
 | [], _ =>
  go_enter Tryz.func129, Tryz.ntmps129
  go_wp2
  go_loop [3, 4] (fun v i => i = .int .i64 (-1) /\ v = .int .u64 0) (fun _ _ => 0)
  case atStart => exact ⟨rfl, rfl⟩
  case round =>
   obtain ⟨rfl, rfl⟩ := hrel
   go_wp2
   go_ret
   exact ⟨rfl, rfl⟩
 | [a], _ =>
  obtain ⟨b, off, rfl, hb, hc⟩ := hx.2 (by simp);have hc0 := hc 0 (by simp);simp only [Nat.add_zero, List.getElem_cons_zero] at hc0;have ha := hx.1 a (by simp);clear hc
  go_enter Tryz.func129, Tryz.ntmps129
  go_wp2
  go_loop [3, 4] (fun v i => (i = .int .i64 0 /\ v = .int .u64 0) \/ (i = .int .i64 (-1) /\ v = .int .u64 (a : Int))) (fun _ i => (intOf i + 1).toNat)
  case atStart => exact .inl ⟨rfl, rfl⟩
  case round =>
   rcases hrel with ⟨rfl, rfl⟩ | ⟨rfl, rfl⟩
   ·go_wp2
    exact ⟨.inr ⟨rfl, congrArg (Value.int .u64) (or_zero ha)⟩, by simp [intOf]⟩
   ·go_wp2
    go_ret
    exact ⟨by simp [val], rfl⟩
 | [a, a2], _ =>
  obtain ⟨b, off, rfl, hb, hc⟩ := hx.2 (by simp);have hc0 := hc 0 (by simp);have hc1 := hc 1 (by simp);simp only [Nat.add_zero, List.getElem_cons_zero, List.getElem_cons_succ] at hc0 hc1;have ha := hx.1 a (by simp);have ha2 := hx.1 a2 (by simp);clear hc
  go_enter Tryz.func129, Tryz.ntmps129
  go_wp2
  go_loop [3, 4] (fun v i => (i = .int .i64 1 /\ v = .int .u64 0) \/ (i = .int .i64 0 /\ v = .int .u64 (a2 : Int)) \/ (i = .int .i64 (-1) /\ v = .int .u64 (val [a, a2] : Nat))) (fun _ i => (intOf i + 1).toNat)
  case atStart => exact .inl ⟨rfl, rfl⟩
  case round =>
   rcases hrel with ⟨rfl, rfl⟩ | ⟨rfl, rfl⟩ | ⟨rfl, rfl⟩
   ·go_wp2
    exact ⟨.inr (.inl ⟨rfl, congrArg (Value.int .u64) (or_zero ha2)⟩), by simp [intOf]⟩
   ·go_wp2
    exact ⟨.inr (.inr ⟨rfl, congrArg (Value.int .u64) ((high_or ha ha2).trans (by rw [val_pair, Nat.add_comm, Nat.mul_comm]))⟩), by simp [intOf]⟩
   ·go_wp2
    go_ret
    exact ⟨rfl, rfl⟩
set_option maxRecDepth 100000 in
theorem int_Int64 (hn : xs.length = n) (hx : Rd w A xs) (hc : n <= c) (hcm : c <= maxLen) (_h1 : n <= 100000) :
  Calls Tryz.prog 154 #[.agg #[.bool s, .slice A n c]] w (RetV (ival s xs) w) := by
 obtain ⟨W, hW, extW, bx, hz⟩ := box1 w 28 #[.bool s, .slice A n c];have x0 := bx.cell 0 (.bool s) rfl;have x1 := bx.cell 1 (.slice A n c) rfl;have Hn := Lib.hid hn;clear hn;have hxt : Rd w A (trimL xs) := by rw [trimL_take]; exact hx.take _
 by_cases hl : 2 < (trimL xs).length
 ·have hbig := big_val hx.1 hl
  have E1 := Lib.hid (fit_no (z := ival s xs) (by unfold ival; cases s <;> simp <;> omega));clear hbig
  go_enter Tryz.func154, Tryz.ntmps154
  go_upto_region 1 with (fail)
  rw [<- hW];clear hW
  go_wp2_with (go_at_call 114; refine (int_trimN Hn.out (hx.ext extW) hc hcm).mono ?_; rintro e w1 ⟨rfl, rfl⟩)
  go_ret2
  exact ⟨ret_fit E1.out, extW⟩
 ·have hlt := val_lt_two hxt.1 (by omega)
  rw [val_trimL] at hlt;have hu := int_toUint (c := c) rfl (hxt.ext extW) (by omega);rw [val_trimL] at hu;have Hu := Lib.hid hu;clear hu;have hiv : ival s xs = if s then -(val xs : Int) else (val xs : Int) := rfl;have Hiv := Lib.hid hiv;clear hiv;generalize val xs = V at *
  cases s
  ·go_enter Tryz.func154, Tryz.ntmps154
   go_upto_region 1 with (fail)
   rw [<- hW];clear hW
   go_upto_region 4 with (first | (go_at_call 114; refine (int_trimN Hn.out (hx.ext extW) hc hcm).mono ?_; rintro e w1 ⟨rfl, rfl⟩) | (go_at_call 153; refine Hu.out.mono ?_; rintro e w1 ⟨rfl, rfl⟩))
   go_upto_region 5 with (first | (go_at_call 114; refine (int_trimN Hn.out (hx.ext extW) hc hcm).mono ?_; rintro e w1 ⟨rfl, rfl⟩) | (go_at_call 153; refine Hu.out.mono ?_; rintro e w1 ⟨rfl, rfl⟩))
   go_upto_region 7 with fail
   by_cases hv : V < 9223372036854775808
   ·have E1 := Lib.hid (show fitsB (ival false xs) = true /\ fitV (ival false xs) = (V : Int) by rw [Hiv.out]; exact fit_yes (by simp; omega))
    have hwv : IntKind.i64.wrap (V : Int) = (V : Int) := by rw [IntKind.wrap_i64]; omega
    generalize hN : (9223372036854775808 : Int) = N;have dN : decide ((V : Int) < N) = true := decide_eq_true (by omega);clear hN hv
    go_wp2_with fail
    go_ret2
    exact ⟨ret_fit E1.out, extW⟩
   ·have E1 := Lib.hid (fit_no (z := ival false xs) (by rw [Hiv.out]; simp; omega))
    generalize hN : (9223372036854775808 : Int) = N;have dN : decide ((V : Int) < N) = false := decide_eq_false (by omega);clear hN hv
    go_wp2_with fail
    go_ret2
    exact ⟨ret_fit E1.out, extW⟩
  ·by_cases hv : V <= 9223372036854775808
   ·have E1 := Lib.hid (show fitsB (ival true xs) = true /\ fitV (ival true xs) = -(V : Int) by rw [Hiv.out]; exact fit_yes (by simp; omega))
    have d2 : decide ((V : Int) <= 9223372036854775808) = true := decide_eq_true (by omega);have hnb := neg_back hv
    go_enter Tryz.func154, Tryz.ntmps154
    go_upto_region 1 with (fail)
    rw [<- hW];clear hW
    go_wp2_with (first | (go_at_call 114; refine (int_trimN Hn.out (hx.ext extW) hc hcm).mono ?_; rintro e w1 ⟨rfl, rfl⟩) | (go_at_call 153; refine Hu.out.mono ?_; rintro e w1 ⟨rfl, rfl⟩))
    go_ret2
    exact ⟨ret_fit E1.out, extW⟩
   ·have E1 := Lib.hid (fit_no (z := ival true xs) (by rw [Hiv.out]; simp; omega))
    have d2 : decide ((V : Int) <= 9223372036854775808) = false := decide_eq_false (by omega)
    go_enter Tryz.func154, Tryz.ntmps154
    go_upto_region 1 with (fail)
    rw [<- hW];clear hW
    go_wp2_with (first | (go_at_call 114; refine (int_trimN Hn.out (hx.ext extW) hc hcm).mono ?_; rintro e w1 ⟨rfl, rfl⟩) | (go_at_call 153; refine Hu.out.mono ?_; rintro e w1 ⟨rfl, rfl⟩))
    go_ret2
    exact ⟨ret_fit E1.out, extW⟩
end
end
section
open Go.RowKit
attribute [local go_sem ↓] Go.wp_at_zero Go.wp_at_succ
section
variable {A B : Option Addr} {c d n m : Nat} {xs ys : List Nat} {w : World} {s t : Bool}
theorem ref_divide_lt (hn : xs.length = n) (hm : ys.length = m) (hx : Rd w A xs) (hy : Rd w B ys) (hc : n <= c) (hcm : c <= maxLen) (hnx : Nrm xs) (hny : Nrm ys) (hlt : val xs < val ys) (h1 : n <= 100000) (h2 : m <= 100000) :
  Calls Tryz.prog 95 #[.slice A n c, .slice B m d] w (RetQ (val xs) (val ys) w) := by
 have hcm1 := Lib.hid (show cmpL xs ys = -1 by rw [cmpL_nrm hx.1 hy.1 hnx hny]; exact cmpI_of_lt hlt);have Hlt := Lib.hid hlt;clear hlt;subst hn;subst hm
 go_enter Tryz.func95, Tryz.ntmps95
 go_wp2_with fail
 refine (ref_compare A B c d xs ys w hx hy (by unfold maxLen; omega) (by unfold maxLen; omega)).mono ?_;rintro e w1 ⟨rfl, hext1⟩;rw [hcm1.out]
 go_wp2_with fail
 go_ret2
 have h := Hlt.out;exact ⟨none, 0, [], A, c, xs, rfl, Rd.nil _ _, hx.ext hext1, by simp, by unfold maxLen; omega, hc, hcm, by rw [Nat.div_eq_of_lt h]; rfl, by rw [Nat.mod_eq_of_lt h], Nrm.nil, hnx, hext1⟩
set_option maxRecDepth 100000 in
theorem ref_divide_two (hn : xs.length = n) (hm : ys.length = m) (hx : Rd w A xs) (hy : Rd w B ys) (hnx : Nrm xs) (hny : Nrm ys) (hge : val ys <= val xs) (h0 : 0 < m) (h2 : n <= 2) :
  Calls Tryz.prog 95 #[.slice A n c, .slice B m d] w (RetQ (val xs) (val ys) w) := by
 have hml := len_le hx.1 hny hge
 have hpos : val ys ≠ 0 := fun h => by
  have := hny.zero.1 h;subst this;simp at hm;omega
 obtain ⟨CM, hCM, dCM⟩ : ∃ CM, cmpL xs ys = CM /\ decide (CM < 0) = false := ⟨_, rfl, by
  rw [cmpL_nrm hx.1 hy.1 hnx hny]
  rcases Nat.lt_or_ge (val ys) (val xs) with h | h
  ·rw [cmpI_of_gt h]; rfl
  ·rw [cmpI_of_eq (by omega)]; rfl⟩
 have hvx := val_lt_two hx.1 (by omega);have hvy := val_lt_two hy.1 (by omega);have q1 : val xs / val ys <= val xs := Nat.div_le_self _ _;have q2 : val xs % val ys < val ys := Nat.mod_lt _ (by omega);have e1 : val xs / val ys / 4294967296 < 4294967296 := by omega
 have e2 : val xs % val ys / 4294967296 < 4294967296 := by omega
 have Hvx := Lib.hid hvx;have Hvy := Lib.hid hvy;have Hq1 := Lib.hid q1;have Hq2 := Lib.hid q2;have E1 := Lib.hid e1;have E2 := Lib.hid e2;have HCM := Lib.hid hCM;subst hn;subst hm;have Hml := Lib.hid hml;have hz : ((val ys : Nat) : Int) ≠ 0 := by omega
 have hz0 : (((val ys : Nat) : Int) == 0) = false := by rw [beq_eq_false_iff_ne]; exact hz
 have hp1 : (1 : Int) <= ((val ys : Nat) : Int) := by omega
 clear hvx hvy q1 q2 e1 e2 hml hge hz hCM
 go_enter Tryz.func95, Tryz.ntmps95
 go_wp2_with fail
 refine (ref_compare A B c d xs ys w hx hy (by unfold maxLen; omega) (by have := Hml.out; unfold maxLen; omega)).mono ?_;rintro e w1 ⟨rfl, hext1⟩;rw [HCM.out]
 go_wp2_with fail
 refine (ref_short rfl (hx.ext hext1) h2).mono ?_;rintro e w2 ⟨rfl, rfl⟩
 go_wp2_with fail
 refine (ref_short rfl (hy.ext hext1) (by have := Hml.out; omega)).mono ?_;rintro e w2 ⟨rfl, rfl⟩;clear hp1 hz0;generalize hX : val xs = X at *;generalize hY : val ys = Y at *;have HX := Lib.hid hX;have HY := Lib.hid hY;clear hX hY;have hz0 : ((Y : Int) == 0) = false := by rw [beq_eq_false_iff_ne]; omega
 have hp1 : (1 : Int) <= (Y : Int) := by omega
 have hp0 : (0 : Int) <= (X : Int) := by omega
 go_wp2_with fail
 have hq : (X : Int) / (Y : Int) = ((X / Y : Nat) : Int) := (Int.natCast_ediv _ _).symm;have hr : (X : Int) % (Y : Int) = ((X % Y : Nat) : Int) := (Int.natCast_emod _ _).symm;have hq' : (X : Int).tdiv (Y : Int) = ((X / Y : Nat) : Int) := rfl;have hr' : (X : Int).tmod (Y : Int) = ((X % Y : Nat) : Int) := rfl;have hw1 : IntKind.u64.wrap ((X / Y : Nat) : Int) = ((X / Y : Nat) : Int) := wrap_nat (Nat.lt_of_le_of_lt Hq1.out Hvx.out);have hw2 : IntKind.u64.wrap ((X % Y : Nat) : Int) = ((X % Y : Nat) : Int) := wrap_nat (Nat.lt_trans Hq2.out Hvy.out);generalize hU : X / Y = U at *;generalize hV : X % Y = V at *;have HU := Lib.hid hU;have HV := Lib.hid hV;clear hp0 hp1 hU hV
 go_region_with (first | (go_at_call_of 121 U; refine (ref_words U E1.out).mono ?_; rintro e w3 ⟨A3, c3, qs, rfl, ho3, hc3, hm3, ⟨hv3, hn3, hl3⟩, hext3⟩; have Hv3 := Lib.hid hv3; clear hv3) | (go_at_call_of 121 V; refine (ref_words V E2.out).mono ?_; rintro e w4 ⟨A4, c4, rs, rfl, ho4, hc4, hm4, ⟨hv4, hn4, hl4⟩, hext4⟩; have Hv4 := Lib.hid hv4; clear hv4))
 all_goals
  go_wp2_with fail
  go_ret2
  have ext3 := (Ext.refl w1).drew.trans hext3;have e3 := Hv3.out;have e4 := Hv4.out;exact ⟨A3, c3, qs, A4, c4, rs, rfl, ho3.rd.ext hext4, ho4.rd, hc3, hm3, hc4, hm4, by rw [e3, HU.out], by rw [e4, HV.out], hn3, hn4, hext1.trans (ext3.trans hext4)⟩
theorem ref_divide_word {y : Nat} (hn : xs.length = n) (hx : Rd w A xs) (hy : Rd w B [y]) (hy0 : y ≠ 0) (h2 : 2 < n) (h1 : n <= 100000) :
  Calls Tryz.prog 95 #[.slice A n c, .slice B 1 d] w (RetQ (val xs) y w) := by
 have hcm1 := Lib.hid (show cmpL xs [y] = 1 from cmpL_len_gt (by simp; omega));have hyl := hy.1 y (by simp)
 have hr32 : val xs % y < 4294967296 := by
  have := Nat.mod_lt (val xs) (show 0 < y by omega);omega
 subst hn
 go_enter Tryz.func95, Tryz.ntmps95
 go_wp2_with fail
 refine (ref_compare A B c d xs [y] w hx hy (by unfold maxLen; omega) (by unfold maxLen; simp)).mono ?_;rintro e w1 ⟨rfl, hext1⟩;rw [hcm1.out];obtain ⟨b1, o1, rfl, hb1, cb⟩ := (hy.ext hext1).at_ (i := 0) (by simp);simp only [Nat.add_zero, List.getElem_cons_zero] at cb
 go_wp2_with fail
 refine (ref_by rfl (hx.ext hext1) (by omega) hyl (by omega)).mono ?_;rintro e w3 ⟨A3, c3, qs, rfl, ho3, hc3, hm3, hqv, hqn, hql, hext3⟩;have Hqv := Lib.hid hqv;clear hqv cb
 go_wp2_with fail
 refine (ref_words (val xs % y) (by omega)).mono ?_;rintro e w5 ⟨A5, c5, rs, rfl, ho5, hc5, hm5, ⟨hv5, hn5, hl5⟩, hext5⟩;have Hv5 := Lib.hid hv5;clear hv5
 go_wp2_with fail
 go_ret2
 exact ⟨A3, c3, qs, A5, c5, rs, rfl, ho3.rd.ext hext5, ho5.rd, hc3, hm3, hc5, hm5, Hqv.out, Hv5.out, hqn, hn5, hext1.trans (hext3.trans hext5)⟩
theorem ref_divide (hn : xs.length = n) (hm : ys.length = m) (hx : Rd w A xs) (hy : Rd w B ys) (hc : n <= c) (hcm : c <= maxLen) (hnx : Nrm xs) (hny : Nrm ys) (h0 : 0 < m) (h1 : n <= 9000) (h2 : m <= 9000) :
  Calls Tryz.prog 95 #[.slice A n c, .slice B m d] w (RetQ (val xs) (val ys) w) := by
 rcases Nat.lt_or_ge (val xs) (val ys) with h | h
 ·exact ref_divide_lt hn hm hx hy hc hcm hnx hny h (by omega) (by omega)
 ·rcases Nat.lt_or_ge 2 n with h3 | h3
  ·rcases Nat.lt_or_ge 1 m with h4 | h4
   ·exact ref_divideL hn hm hx hy hnx hny h (by omega) h3 h1
   ·obtain rfl : m = 1 := by omega
    obtain ⟨y, rfl⟩ : ∃ y, ys = [y] := by
     match ys, hm with
     | [y], _ => exact ⟨y, rfl⟩
    have hy0 : y ≠ 0 := by
     rintro rfl;have := hny.last (by simp);simp at this
    rw [val_one];exact ref_divide_word hn hx hy hy0 h3 (by omega)
  ·exact ref_divide_two hn hm hx hy hnx hny h h0 h3
end
theorem look_rd' {w : World} {A : Option Addr} {c : Nat} {xs : List Nat} (h : Rd w A xs) : look w (.slice A xs.length c) = val xs := by
 cases A with
 | none =>
  by_cases h0 : xs = []
  ·subst h0; rfl
  ·obtain ⟨b, off, he, _⟩ := h.2 h0; cases he
 | some ad =>
  unfold look;refine congrArg val (List.ext_getElem (by simp) fun i h1 h2 => ?_);obtain ⟨b, off, he, _, hc⟩ := h.at_ h2
  injection he with he
  subst he;simp only [List.getElem_map, List.getElem_range, hc];simp
section
variable {A B : Option Addr} {c d n m : Nat} {xs ys : List Nat} {w : World} {s t : Bool}
theorem ref_GCD (hn : xs.length = n) (hm : ys.length = m) (hx : Rd w A xs) (hy : Rd w B ys) (hc : n <= c) (hcm : c <= maxLen) (hd : m <= d) (hdm : d <= maxLen) (h1 : n <= 9000) (h2 : m <= 9000) :
  Calls Tryz.prog 56 #[.agg #[.bool s, .slice A n c], .agg #[.bool t, .slice B m d]] w (RetI ((Nat.gcd (val xs) (val ys) : Nat) : Int) (max xs.length ys.length) w) := by
 have Hn := Lib.hid hn;have Hm := Lib.hid hm;clear hn hm;have lx := trimL_len xs;have ly := trimL_len ys;have hxt : Rd w A (trimL xs) := by rw [trimL_take]; exact hx.take _
 have hyt : Rd w B (trimL ys) := by rw [trimL_take]; exact hy.take _
 have hg0 := Lib.hid (show Nat.gcd (val (trimL xs)) (val (trimL ys)) = Nat.gcd (val xs) (val ys) by rw [val_trimL, val_trimL]);obtain ⟨L, hL⟩ : ∃ L, max xs.length ys.length = L := ⟨_, rfl⟩;obtain ⟨G, hG⟩ : ∃ G, Nat.gcd (val xs) (val ys) = G := ⟨_, rfl⟩;rw [hL, hG];have l1 : xs.length <= L := by omega
 have l2 : ys.length <= L := by omega
 have l3 : L <= 9000 := by have := Hn.out; have := Hm.out; omega
 have HG := Lib.hid hG;clear hL hG
 go_enter Tryz.func56, Tryz.ntmps56
 go_upto_region 1 with (fail)
 obtain ⟨W, hW, extW, bx, by_, bz, hz⟩ := box3 w 28 28 28 #[.bool s, .slice A n c] #[.bool t, .slice B m d] #[.bool false, .slice none 0 0];rw [<- hW];clear hW;have x1 := bx.cell 1 (.slice A n c) rfl;have y1 := by_.cell 1 (.slice B m d) rfl
 go_region_held3 (fun w' => w'.cell? ⟨w.heap.size, 1, none⟩ = some (.slice A n c) /\ w'.cell? ⟨w.heap.size + 1, 1, none⟩ = some (.slice B m d)) (first | (go_split_ands; refine ⟨?_, ?_⟩ <;> first | (exact Ext.cellv (by assumption) (by assumption)) | (refine (cell_far2 (by omega)).trans ?_; assumption)) | go_keep)
  (first | (go_at_call_of 93 A; refine (ref_trimN Hn.out (hx.ext (by first | exact extW | exact extW.drew | exact extW.drewN _ | exact (extW.drew).drew)) hc hcm).mono ?_; rintro e w1 ⟨rfl, rfl⟩) | (go_at_call_of 93 B; refine (ref_trimN Hm.out (hy.ext (by first | exact extW | exact extW.drew | exact extW.drewN _ | exact (extW.drew).drew)) hd hdm).mono ?_; rintro e w1 ⟨rfl, rfl⟩))
 clear x1 y1 bx by_ hx hy
 go_wp2_with fail
 go_loopw [5, 6] (fun a b V => ∃ A1 c1 us B1 d1 vs, a = .slice A1 (List.length us) c1 /\ b = .slice B1 (List.length vs) d1 /\ Rd V A1 us /\ Rd V B1 vs /\ us.length <= c1 /\ c1 <= maxLen /\ vs.length <= d1 /\ d1 <= maxLen /\ Nrm us /\ Nrm vs /\ us.length <= L /\ vs.length <= L /\ Nat.gcd (val us) (val vs) = G /\ Ext W V) (fun _ b V => look V b)
 case atStart => exact ⟨A, c, trimL xs, B, d, trimL ys, rfl, rfl, hxt.ext (by first | exact extW | exact extW.drew | exact extW.drewN _ | exact (extW.drew).drew), hyt.ext (by first | exact extW | exact extW.drew | exact extW.drewN _ | exact (extW.drew).drew), by have := Hn.out; omega, hcm, by have := Hm.out; omega, hdm, Nrm.trimL _, Nrm.trimL _, by omega, by omega, hg0.out.trans HG.out, by first | exact Ext.refl W | exact (Ext.refl W).drew | exact (Ext.refl W).drewN _⟩
 case round =>
  clear hxt hyt;obtain ⟨A1, c1, us, B1, d1, vs, rfl, rfl, hu, hv, hc1, hm1, hd1, hdm1, hnu, hnv, hlu, hlv, hgg0, hext⟩ := hrel;have hgg := Lib.hid hgg0;clear hgg0
  by_cases h0 : vs.length = 0
  ·have hgv : val us = G := by rw [<- hgg.out, List.length_eq_zero_iff.1 h0]; exact (Nat.gcd_zero_right _).symm
   have Hgv := Lib.hid hgv;have bzr := bz.ext hext;have z0 := bzr.cell 0 (.bool false) rfl;have z1 := bzr.cell 1 (.slice none 0 0) rfl;have f0 := bzr.frozen 0;have f1 := bzr.frozen 1;clear hgv
   go_wp2_with (go_at_call 96; refine (ref_signed rfl hu hc1 hm1).mono ?_; rintro e w3 ⟨b3, A3, c3, rs, rfl, hr3, hc3, hm3, hi3, hl3, hext3⟩; have ext3 := hext.trans hext3; have bz3 := bz.ext ext3; have z0 := bz3.cell 0 (.bool false) rfl; have z1 := bz3.cell 1 (.slice none 0 0) rfl; have f0 := bz3.frozen 0; have f1 := bz3.frozen 1)
   obtain ⟨r1, r2, r3, r4⟩ := fin_pair (b := b3) (n := rs.length) (c := c3) (extW.trans ext3) (by omega) bz3 hr3;have hiv : ival false us = (G : Int) := by rw [<- Hgv.out]; rfl
   exact bodyPost_ret (v := .agg #[.bool b3, .slice A3 rs.length c3]) (by simp [results, Tryz.results56, go_sem, r3, r4]) rfl ⟨b3, A3, c3, rs, rfl, r1, hc3, hm3, by rw [hiv] at hi3; exact hi3, by omega, r2⟩
  ·go_wp2_with fail
   refine (ref_divide rfl rfl hu hv hc1 hm1 hnu hnv (by omega) (by omega) (by omega)).mono ?_;rintro e w4 ⟨Aq, cq, qs, Ar, cr, rs, rfl, hq, hr, hcq, hmq, hcr, hmr, hvq, hvr, hnq, hnr, ext4⟩
   have hpos : 0 < val vs := by
    have := hnv.ge (by rintro rfl; simp at h0);have h5 : 0 < 4294967296 ^ (vs.length - 1) := Nat.pow_pos (by omega);omega
   have hlt : val rs < val vs := by rw [hvr]; exact Nat.mod_lt _ hpos
   have hrl := nrm_len hv.1 hnr (Nat.le_of_lt hlt);have hgn := Lib.hid (show Nat.gcd (val vs) (val rs) = G by rw [hvr, <- hgg.out, Nat.gcd_comm (val us), Nat.gcd_rec (val vs) (val us), Nat.gcd_comm]);have Hlt := Lib.hid hlt;clear hvq hvr hlt hpos hq
   go_wp2_with fail
   refine ⟨⟨B1, d1, vs, Ar, cr, rs, rfl, rfl, hv.ext ext4, hr, hd1, hdm1, hcr, hmr, hnv, hnr, hlv, by omega, hgn.out, hext.trans ext4⟩, ?_⟩;rw [look_rd' hr, look_rd' hv];exact Hlt.out
end
end
section
open Go.RowKit
theorem two_new (w : World) (t : TypeId) (a b : Array Value) : Ext w ((w.alloc (.cells a t)).alloc (.cells b t)) /\ Box ((w.alloc (.cells a t)).alloc (.cells b t)) w.heap.size t a /\ Box ((w.alloc (.cells a t)).alloc (.cells b t)) (w.heap.size + 1) t b := by
 obtain ⟨W, rfl, h1, h2, h3, _⟩ := box2 w t t a b;exact ⟨h1, h2, h3⟩
structure NI (w : World) (z : Int) (L : Nat) (s : Bool) (A : Option Addr) (n c : Nat) : Prop where
 out : ∃ xs : List Nat, xs.length = n /\ Rd w A xs /\ n <= c /\ c <= maxLen /\ IsInt z s xs /\ n <= L
def RetNI (z : Int) (L : Nat) (w : World) (e : Ending) (w' : World) : Prop :=
 ∃ s A n c, e = .returned (.agg #[.bool s, .slice A n c]) /\ NI w' z L s A n c /\ Ext w w'
theorem ival_ab (s : Bool) (xs : List Nat) : (ival s xs).natAbs = val xs := by unfold ival; cases s <;> simp
theorem IsInt.abs {z : Int} {s : Bool} {xs : List Nat} (h : IsInt z s xs) : val xs = z.natAbs := by rw [<- h.eq, ival_ab]
theorem RetI.ni {z : Int} {L L' : Nat} {w w' : World} {e : Ending} (h : RetI z L w e w') (hl : L <= L') : RetNI z L' w e w' := by
 obtain ⟨b, A, c, ys, rfl, hr, hc, hm, hi, hy, hx⟩ := h;exact ⟨b, A, ys.length, c, rfl, ⟨ys, rfl, hr, hc, hm, hi, by omega⟩, hx⟩
section
variable {w w' : World} {z y : Int} {L L' M : Nat} {s t : Bool} {A B : Option Addr} {n c m d : Nat}
theorem NI.ext (h : NI w z L s A n c) (e : Ext w w') : NI w' z L s A n c := by
 obtain ⟨xs, h1, h2, h3⟩ := h.out;exact ⟨xs, h1, h2.ext e, h3⟩
theorem NI.le (h : NI w z L s A n c) (hl : L <= L') : NI w z L' s A n c := by
 obtain ⟨xs, h1, h2, h3, h4, h5, h6⟩ := h.out;exact ⟨xs, h1, h2, h3, h4, h5, by omega⟩
theorem NI.size (h : NI w z L s A n c) : n <= L := by
 obtain ⟨_, _, _, _, _, _, h6⟩ := h.out;exact h6
theorem NI.nil (w : World) (L : Nat) : NI w 0 L false none 0 0 := ⟨[], rfl, Rd.nil _ _, Nat.le_refl _, by unfold maxLen; omega, IsInt.nil false, by omega⟩
theorem NI.zero (h : NI w z L s A n c) : n = 0 ↔ z = 0 := by
 obtain ⟨xs, h1, _, _, _, h5, _⟩ := h.out;rw [<- h5.zero, <- h1];exact List.length_eq_zero_iff
theorem NI.tight (h : NI w z L s A n c) (h' : NI w' y M t B m d) (hz : z.natAbs <= y.natAbs) : NI w z M s A n c := by
 obtain ⟨xs, h1, h2, h3, h4, h5, h6⟩ := h.out;obtain ⟨ys, k1, k2, _, _, k5, k6⟩ := h'.out;refine ⟨xs, h1, h2, h3, h4, h5, ?_⟩;have := nrm_len_le k5.w32 h5.nrm (by rw [h5.abs, k5.abs]; exact hz);omega
theorem NI.tight' (h : NI w z L s A n c) (hz : z.natAbs < 4294967296 ^ M) : NI w z M s A n c := by
 obtain ⟨xs, h1, h2, h3, h4, h5, h6⟩ := h.out;refine ⟨xs, h1, h2, h3, h4, h5, ?_⟩;refine Decidable.byContradiction fun hc => ?_
 have h7 := h5.nrm.ge (by rintro rfl; simp at h1; omega);rw [h5.abs] at h7;have h8 : 4294967296 ^ M <= 4294967296 ^ (xs.length - 1) := Nat.pow_le_pow_right (by omega) (by omega);omega
theorem p_Sign (h : NI w z L s A n c) (hL : L <= 100000) : Calls Tryz.prog 72 #[.agg #[.bool s, .slice A n c]] w fun e w' => e = .returned (.int .i64 z.sign) /\ Ext w w' := by
 obtain ⟨xs, hn, hx, hc, hcm, hi, hl⟩ := h.out;refine (int_Sign hn hx hc hcm (by omega)).mono ?_;rintro e w' ⟨rfl, hxt⟩;rw [hi.eq];exact ⟨rfl, hxt⟩
theorem q_Sign (h : NI w z L s A n c) (hL : L <= 100000) : Calls Tryz.prog 54 #[.agg #[.bool s, .slice A n c]] w fun e w' => e = .returned (.int .i64 z.sign) /\ Ext w w' := by
 obtain ⟨xs, hn, hx, hc, hcm, hi, hl⟩ := h.out;refine (ref_Sign hn hx hc hcm (by omega)).mono ?_;rintro e w' ⟨rfl, hxt⟩;rw [hi.eq];exact ⟨rfl, hxt⟩
theorem p_Norm (h : NI w z L s A n c) (hL : L <= 100000) : Calls Tryz.prog 92 #[.agg #[.bool s, .slice A n c]] w (RetNI z L w) := by
 obtain ⟨xs, hn, hx, hc, hcm, hi, hl⟩ := h.out;refine (int_Norm hn hx hc hcm (by omega)).mono fun e w' hr => ?_
 rw [hi.eq] at hr;exact hr.ni (by omega)
theorem p_Neg (h : NI w z L s A n c) (hL : L <= 100000) : Calls Tryz.prog 119 #[.agg #[.bool s, .slice A n c]] w (RetNI (-z) L w) := by
 obtain ⟨xs, hn, hx, hc, hcm, hi, hl⟩ := h.out;refine (int_Neg hn hx hc hcm (by omega)).mono fun e w' hr => ?_
 rw [hi.eq] at hr;exact hr.ni (by omega)
theorem p_Add (h : NI w z L s A n c) (k : NI w y M t B m d) (hL : L <= 50000) (hM : M <= 50000) : Calls Tryz.prog 99 #[.agg #[.bool s, .slice A n c], .agg #[.bool t, .slice B m d]] w (RetNI (z + y) (max L M + 1) w) := by
 obtain ⟨xs, hn, hx, hc, hcm, hi, hl⟩ := h.out;obtain ⟨ys, hm, hy, hd, hdm, hj, hk⟩ := k.out;refine (int_Add hn hm hx hy hc hcm hd hdm (by omega) (by omega)).mono fun e w' hr => ?_
 rw [hi.eq, hj.eq] at hr;exact hr.ni (by omega)
theorem p_Cmp (h : NI w z L s A n c) (k : NI w y M t B m d) (hL : L <= 50000) (hM : M <= 50000) : Calls Tryz.prog 104 #[.agg #[.bool s, .slice A n c], .agg #[.bool t, .slice B m d]] w fun e w' => e = .returned (.int .i64 (z - y).sign) /\ Ext w w' := by
 obtain ⟨xs, hn, hx, hc, hcm, hi, hl⟩ := h.out;obtain ⟨ys, hm, hy, hd, hdm, hj, hk⟩ := k.out;refine (int_Cmp hn hm hx hy hc hcm hd hdm (by omega) (by omega)).mono ?_;rw [hi.eq, hj.eq];exact fun _ _ h => h
theorem gcd_le_max (a b : Nat) : Nat.gcd a b <= max a b := by
 rcases Nat.eq_zero_or_pos a with h | h
 ·subst h; simp
 ·have := Nat.le_of_dvd h (Nat.gcd_dvd_left a b); omega
theorem gcd_tight {g : Nat} (h : NI w z L s A n c) (k : NI w y M t B m d) {w1 : World} {K : Nat} {u : Bool} {C : Option Addr} {l e : Nat} (hg : NI w1 (g : Int) K u C l e) (hgg : g = Nat.gcd z.natAbs y.natAbs) : NI w1 (g : Int) (max L M) u C l e := by
 have := gcd_le_max z.natAbs y.natAbs
 rcases Nat.le_total z.natAbs y.natAbs with hle | hle
 ·exact (hg.tight k (by simp; omega)).le (by omega)
 ·exact (hg.tight h (by simp; omega)).le (by omega)
theorem p_GCD (h : NI w z L s A n c) (k : NI w y M t B m d) (hL : L <= 3000) (hM : M <= 3000) (hT : Tab w) : Calls Tryz.prog 88 #[.agg #[.bool s, .slice A n c], .agg #[.bool t, .slice B m d]] w (RetNI ((Nat.gcd z.natAbs y.natAbs : Nat) : Int) (max L M) w) := by
 obtain ⟨xs, hn, hx, hc, hcm, hi, hl⟩ := h.out;obtain ⟨ys, hm, hy, hd, hdm, hj, hk⟩ := k.out;refine (int_GCD hn hm hx hy hc hcm hd hdm (by omega) (by omega) hT).mono fun e w' hr => ?_
 rw [hi.abs, hj.abs] at hr;obtain ⟨u, C, l, e', he, hg, hx'⟩ := hr.ni (Nat.le_refl _);exact ⟨u, C, l, e', he, gcd_tight h k hg rfl, hx'⟩
theorem q_GCD (h : NI w z L s A n c) (k : NI w y M t B m d) (hL : L <= 3000) (hM : M <= 3000) : Calls Tryz.prog 56 #[.agg #[.bool s, .slice A n c], .agg #[.bool t, .slice B m d]] w (RetNI ((Nat.gcd z.natAbs y.natAbs : Nat) : Int) (max L M) w) := by
 obtain ⟨xs, hn, hx, hc, hcm, hi, hl⟩ := h.out;obtain ⟨ys, hm, hy, hd, hdm, hj, hk⟩ := k.out;refine (ref_GCD hn hm hx hy hc hcm hd hdm (by omega) (by omega)).mono fun e w' hr => ?_
 rw [hi.abs, hj.abs] at hr;exact hr.ni (by omega)
theorem p_FromInt (k : Int) (h0 : -9223372036854775808 <= k) (h1 : k < 9223372036854775808) : Calls Tryz.prog 90 #[.int .i64 k] w (RetNI k 2 w) :=
 (int_FromInt k h0 h1).mono fun _ _ h => h.ni (Nat.le_refl _)
theorem q_FromInt (k : Int) (h0 : -9223372036854775808 <= k) (h1 : k < 9223372036854775808) : Calls Tryz.prog 82 #[.int .i64 k] w (RetNI k 2 w) :=
 (ref_FromInt k h0 h1).mono fun _ _ h => h.ni (Nat.le_refl _)
def RetND (a b : Int) (L M : Nat) (w : World) (e : Ending) (w' : World) : Prop :=
 ∃ s A n c t B m d, ∃ q r : Int, e = .returned (.tuple #[.agg #[.bool s, .slice A n c], .agg #[.bool t, .slice B m d], .int .i64 0]) /\ NI w' q L s A n c /\ NI w' r M t B m d /\ IsDM a b q r /\ Ext w w'
theorem dm_q_le {a b q r : Int} (h : IsDM a b q r) (hb : b ≠ 0) : q.natAbs <= a.natAbs + 1 /\ r.natAbs <= b.natAbs /\ (b ∣ a -> r = 0 /\ q = a / b /\ q.natAbs <= a.natAbs) := by
 obtain ⟨h1, h2⟩ := h;have hm : ∀ q : Int, (q * b).natAbs = q.natAbs * b.natAbs := fun q => Int.natAbs_mul q b
 have hb1 : 1 <= b.natAbs := by omega
 have hq : q.natAbs <= (q * b).natAbs := by rw [hm]; exact Nat.le_mul_of_pos_right _ hb1
 refine ⟨?_, by omega, fun hd => ?_⟩
 ·-- the remainder has the sign of the divisor
  rcases Nat.lt_or_ge q.natAbs 2 with hs | hs
  ·rcases Nat.lt_or_ge 0 a.natAbs with h0 | h0
   ·omega
   ·omega
  ·have h3 : (q.natAbs - 1) * b.natAbs <= a.natAbs := by
    have h4 : (q * b).natAbs <= a.natAbs + b.natAbs := by omega
    rw [hm] at h4
    have h5 : q.natAbs * b.natAbs = (q.natAbs - 1) * b.natAbs + b.natAbs := by
     rw [show q.natAbs = (q.natAbs - 1) + 1 by omega, Nat.add_mul, Nat.one_mul]; simp
    omega
   have h6 : q.natAbs - 1 <= (q.natAbs - 1) * b.natAbs := Nat.le_mul_of_pos_right _ hb1;omega
 ·have hr : b ∣ r := by
   have : r = a - q * b := by omega
   rw [this];exact Int.dvd_sub hd (Int.dvd_mul_left _ _)
  have h0 : r = 0 := by
   refine Decidable.byContradiction fun hne => ?_
   have := Int.natAbs_dvd_natAbs.2 hr;have := Nat.le_of_dvd (by omega) this;omega
  subst h0;have e : a = q * b := by omega
  refine ⟨rfl, ?_, by rw [e]; exact hq⟩;rw [e, Int.mul_ediv_cancel _ hb]
theorem p_DivMod (h : NI w z L s A n c) (k : NI w y M t B m d) (hL : L <= 9000) (hM : M <= 9000) (h0 : y ≠ 0) : Calls Tryz.prog 141 #[.agg #[.bool s, .slice A n c], .agg #[.bool t, .slice B m d]] w (RetND z y (L + 1) M w) := by
 obtain ⟨xs, hn, hx, hc, hcm, hi, hl⟩ := h.out;obtain ⟨ys, hm, hy, hd, hdm, hj, hk⟩ := k.out;refine (int_DivMod_L divide_ok hn hm hx hy hc hcm hd hdm (by omega) (by omega) (by omega) (by rw [hj.abs]; omega)).mono ?_;rintro e w' ⟨b3, A3, c3, qs, b4, A4, c4, rs, q, r, rfl, hr3, hr4, hc3, hm3, hc4, hm4, hi3, hi4, hdm, hl3, hl4, hxt⟩;rw [hi.eq, hj.eq] at hdm;have hr : NI w' r (max xs.length ys.length) b4 A4 rs.length c4 := ⟨rs, rfl, hr4, hc4, hm4, hi4, hl4⟩;exact ⟨b3, A3, qs.length, c3, b4, A4, rs.length, c4, q, r, rfl, ⟨qs, rfl, hr3, hc3, hm3, hi3, by omega⟩, hr.tight k (dm_q_le hdm h0).2.1, hdm, hxt⟩
end
end
section
open Go.RowKit
attribute [local go_sem ↓] Go.wp_at_zero Go.wp_at_succ
structure NR (w : World) (q : Rat) (L : Nat) (s : Bool) (A : Option Addr) (n c : Nat) (t : Bool) (B : Option Addr) (m d : Nat) : Prop where
 num : NI w q.num L s A n c
 den : NI w (q.den : Int) L t B m d
def RetNR (q : Rat) (L : Nat) (w : World) (e : Ending) (w' : World) : Prop :=
 ∃ s A n c t B m d, e = .returned (.agg #[.bool s, .slice A n c, .bool t, .slice B m d]) /\ NR w' q L s A n c t B m d /\ Ext w w'
section
variable {w w' : World} {q p : Rat} {z y : Int} {L L' M : Nat} {s t s' t' : Bool} {A B A' B' : Option Addr} {n c m d n' c' m' d' : Nat}
theorem NR.ext (h : NR w q L s A n c t B m d) (e : Ext w w') : NR w' q L s A n c t B m d := ⟨h.num.ext e, h.den.ext e⟩
theorem NR.le (h : NR w q L s A n c t B m d) (hl : L <= L') : NR w q L' s A n c t B m d := ⟨h.num.le hl, h.den.le hl⟩
theorem NI.one_iff (h : NI w z L s A n c) : z = 1 ↔ s = false /\ n = 1 /\ ∃ b off, A = some ⟨b, off, none⟩ /\ w.cell? ⟨b, off, none⟩ = some (.int .u32 1) := by
 obtain ⟨xs, h1, h2, h3, h4, h5, h6⟩ := h.out;have hv := h5.eq
 constructor
 ·intro hz
  have hi1 : IsInt 1 false [1] := ⟨W32.one (by omega), Nrm.snoc [] (by omega), fun _ => rfl, by simp [ival, val]⟩;rw [hz] at h5;obtain ⟨rfl, rfl⟩ := h5.unique hi1;obtain ⟨b, off, hA, hb, hc⟩ := h2.at_ (i := 0) (by simp);exact ⟨rfl, by simpa using h1.symm, b, off, hA, by simpa using hc⟩
 ·rintro ⟨rfl, rfl, b, off, rfl, hc⟩
  match xs, h1 with
  | [x], _ =>
   obtain ⟨b', off', hA, hb, hc'⟩ := h2.at_ (i := 0) (by simp)
   injection hA with hA
   injection hA with e1 e2
   subst e1; subst e2;simp only [Nat.add_zero, List.getElem_cons_zero] at hc';rw [hc] at hc'
   injection hc' with hc'
   injection hc' with _ hc'
   rw [<- hv];simp [ival, val];omega
end
theorem NoWord.four {a b : Bool} {A B : Option Addr} {n c m d : Nat} : NoWord #[.bool a, .slice A n c, .bool b, .slice B m d] := by
 intro i k h
 match i with
 | 0 => simp at h
 | 1 => simp at h
 | 2 => simp at h
 | 3 => simp at h
 | i + 4 => simp at h
def set4 (w : World) (g : Nat) (a b c d : Value) : World := (((w.setCell ⟨g, 0, none⟩ a).setCell ⟨g, 1, none⟩ b).setCell ⟨g, 2, none⟩ c).setCell ⟨g, 3, none⟩ d
def set2 (w : World) (g : Nat) (a b : Value) : World := (w.setCell ⟨g, 0, none⟩ a).setCell ⟨g, 1, none⟩ b
section
variable {w W w' w2 : World} {z : Int} {q : Rat} {L : Nat} {s t x y : Bool} {A B P Q : Option Addr} {n c m d k l i j g : Nat} {T : TypeId}
theorem NI.set (h : NI w z L s A n c) {cs : Array Value} (hb : Box w g T cs) (hn : NoWord cs) (i : Nat) (u : Value) : NI (w.setCell ⟨g, i, none⟩ u) z L s A n c := by
 obtain ⟨xs, h1, h2, h3⟩ := h.out;exact ⟨xs, h1, h2.setBox hb hn i u, h3⟩
theorem fin_quad (hb : Box w2 g T #[.bool x, .slice P k l, .bool y, .slice Q i j]) :
  Box (set4 w2 g (.bool s) (.slice A n c) (.bool t) (.slice B m d)) g T #[.bool s, .slice A n c, .bool t, .slice B m d] /\
  (∀ z L s' A' n' c', NI w2 z L s' A' n' c' -> NI (set4 w2 g (.bool s) (.slice A n c) (.bool t) (.slice B m d)) z L s' A' n' c') /\
  (∀ W, Ext W w2 -> W.heap.size <= g -> Ext W (set4 w2 g (.bool s) (.slice A n c) (.bool t) (.slice B m d))) /\
  (∀ g' T' cs', g' ≠ g -> Box w2 g' T' cs' -> Box (set4 w2 g (.bool s) (.slice A n c) (.bool t) (.slice B m d)) g' T' cs') := by
 unfold set4;have h1 : Box (w2.setCell ⟨g, 0, none⟩ (.bool s)) g T #[.bool s, .slice P k l, .bool y, .slice Q i j] := hb.set 0 (.bool s);have h2 : Box ((w2.setCell ⟨g, 0, none⟩ (.bool s)).setCell ⟨g, 1, none⟩ (.slice A n c)) g T #[.bool s, .slice A n c, .bool y, .slice Q i j] := h1.set 1 (.slice A n c);have h3 : Box (((w2.setCell ⟨g, 0, none⟩ (.bool s)).setCell ⟨g, 1, none⟩ (.slice A n c)).setCell ⟨g, 2, none⟩ (.bool t)) g T #[.bool s, .slice A n c, .bool t, .slice Q i j] := h2.set 2 (.bool t);refine ⟨h3.set 3 (.slice B m d), fun z L s' A' n' c' h => ?_, fun W e hg => ?_, fun g' T' cs' hg h => ?_⟩
 ·exact (((h.set hb NoWord.four 0 _).set h1 NoWord.four 1 _).set h2 NoWord.four 2 _).set h3 NoWord.four 3 _
 ·exact (((e.setCell hg _).setCell hg _).setCell hg _).setCell hg _
 ·exact (((h.far hg _).far hg _).far hg _).far hg _
theorem fin_dual (hb : Box w2 g T #[.bool x, .slice P k l]) :
  Box (set2 w2 g (.bool s) (.slice A n c)) g T #[.bool s, .slice A n c] /\
  (∀ z L s' A' n' c', NI w2 z L s' A' n' c' -> NI (set2 w2 g (.bool s) (.slice A n c)) z L s' A' n' c') /\
  (∀ W, Ext W w2 -> W.heap.size <= g -> Ext W (set2 w2 g (.bool s) (.slice A n c))) /\
  (∀ g' T' cs', g' ≠ g -> Box w2 g' T' cs' -> Box (set2 w2 g (.bool s) (.slice A n c)) g' T' cs') := by
 unfold set2;have h1 : Box (w2.setCell ⟨g, 0, none⟩ (.bool s)) g T #[.bool s, .slice P k l] := hb.set 0 (.bool s);refine ⟨h1.set 1 (.slice A n c), fun z L s' A' n' c' h => ?_, fun W e hg => ?_, fun g' T' cs' hg h => ?_⟩
 ·exact (h.set hb NoWord.two 0 _).set h1 NoWord.two 1 _
 ·exact (e.setCell hg _).setCell hg _
 ·exact (h.far hg _).far hg _
theorem p_isOne (h : NI w z L s A n c) : Calls Tryz.prog 87 #[.agg #[.bool s, .slice A n c]] w fun e w' => e = .returned (.bool (decide (z = 1))) /\ Ext w w' := by
 have h1 := h.one_iff
 cases s with
 | true =>
  have hd : decide (z = 1) = false := decide_eq_false fun hz => by have := (h1.1 hz).1; cases this
  rw [hd]
  go_enter Tryz.func87, Tryz.ntmps87
  go_wp2
  go_ret
  exact ⟨rfl, (Ext.refl w).alloc _⟩
 | false =>
  by_cases hn : n = 1
  ·subst hn
   obtain ⟨xs, hl, hx, _⟩ := h.out;obtain ⟨b, off, rfl, hb, hc⟩ := hx.at_ (i := 0) (by omega);simp only [Nat.add_zero] at hc
   have hv : (decide (z = 1)) = (((xs[0]'(by omega) : Nat) : Int) == 1) := by
    by_cases hz : z = 1
    ·obtain ⟨_, _, b', off', hA, hc'⟩ := h1.1 hz
     injection hA with hA
     injection hA with e1 e2
     subst e1; subst e2;rw [hc] at hc'
     injection hc' with hc'
     injection hc' with _ hc'
     rw [hc'];simp [hz]
    ·have : ¬ ((xs[0]'(by omega) : Nat) : Int) = 1 := fun h2 => hz (h1.2 ⟨rfl, rfl, b, off, rfl, by rw [hc, h2]⟩)
     rw [decide_eq_false hz];exact (beq_eq_false_iff_ne.2 this).symm
   rw [hv];generalize (xs[0]'(by omega) : Nat) = k at hc;have hc2 := ((Ext.refl w).alloc (.cells #[.bool false, .slice (some ⟨b, off, none⟩) 1 c] 28)).cellv hc;clear h1 h hv hx hl
   go_enter Tryz.func87, Tryz.ntmps87
   go_wp2
   go_ret
   exact ⟨rfl, (Ext.refl w).alloc _⟩
  ·have hd : decide (z = 1) = false := decide_eq_false fun hz => hn (h1.1 hz).2.1
   have hn2 : ((n : Int) == 1) = false := by rw [beq_eq_false_iff_ne]; omega
   rw [hd]
   go_enter Tryz.func87, Tryz.ntmps87
   go_wp2
   go_ret
   exact ⟨rfl, (Ext.refl w).alloc _⟩
end
end
section
open Go.RowKit
section
variable {P : Program} {ops : Array Oper} {Q : Exit -> Act -> World -> Prop} {md : Region.Mode} {W0 : World} {z : Nat}
def wpL (P : Program) (md : Region.Mode) (ops : Array Oper) (Q : Exit -> Act -> World -> Prop) (W0 : World) (z : Nat) : Nat -> Array Bool -> Act -> World -> Prop
 | 0, L, a, w => Region.ready md ops L = [] /\ Q .normal a w
 | f + 1, L, a, w =>
  (Region.ready md ops L = [] -> Q .normal a w) /\
  ∀ i ∈ Region.ready md ops L, wpOp P ops Q i (fun a' w' => ((L.setIfInBounds i true).getD z false = true \/ Ext W0 w') /\ wpL P md ops Q W0 z f (L.setIfInBounds i true) a' w') a w
theorem wpL.any : ∀ (f : Nat) (L : Array Bool) (a : Act) (w : World), wpL P md ops Q W0 z f L a w -> wpAny P md ops Q f L a w
 | 0, _, _, _, h => h
 | f + 1, _, _, _, h => ⟨h.1, fun i hi => wpOp_mono (fun a' w' h' => wpL.any f _ a' w' h'.2) (h.2 i hi)⟩
theorem wpL.start {id : Nat} {a : Act} {w : World} (z : Nat) (hm : P.follows .mixedOrders = true) (hQ : QStill Q) (h : QStill Q -> Ext w w.drew -> wpL P .any ops Q w z ops.size (Array.replicate ops.size false) a w.drew) : (Code.region id ops true).wp P Q a w :=
 wp_region_any hm (wpL.any _ _ _ _ (h hQ (Ext.refl w).drew))
theorem wpL.st {id : Nat} {a : Act} {w : World} (z : Nat) (h : QStill Q -> Ext w w.drew -> wpL P .any ops Q w z ops.size (Array.replicate ops.size false) a w.drew) (hm : P.follows .mixedOrders = true := by kernel_rfl) (hQ : QStill Q := by exact (fun _ _ _ _ _ => ⟨fun h => h, fun h => h⟩)) : (Code.region id ops true).wp P Q a w := wpL.start z hm hQ h
def allBut (n i z : Nat) : Array Bool := ((Array.replicate n true).setIfInBounds i false).setIfInBounds z false
theorem allBut_on {n i z k : Nat} (h1 : k ≠ i) (h2 : k ≠ z) (hk : k < n) : (allBut n i z).getD k false = true := by
 unfold allBut;simp [Ne.symm h1, Ne.symm h2, hk]
def Waits (md : Region.Mode) (ops : Array Oper) (i z : Nat) : Prop := ∃ o, ops[z]? = some o /\ ∃ e ∈ o.after, Region.binds md e = true /\ (allBut ops.size i z).getD e.on false = false
theorem waits_not {i : Nat} {L : Array Bool} (h : Waits md ops i z) (hi : L.getD i true = false) (hz : L.getD z false = false) (hsz : L.size = ops.size) : z ∉ Region.ready md ops L := by
 intro hr;obtain ⟨_, o, ho, hall⟩ := mem_ready.1 hr;obtain ⟨o', ho', e, he, hb, hf⟩ := h;rw [ho] at ho'
 injection ho' with ho'
 subst ho';have h1 := hall e he hb
 have hlt : e.on < L.size := by
  rcases Nat.lt_or_ge e.on L.size with h | h
  ·exact h
  ·simp [h] at h1
 have hne1 : e.on ≠ i := by
  intro hh;rw [<- hh] at hi;simp [hlt] at h1 hi;rw [h1] at hi
  cases hi
 have hne2 : e.on ≠ z := by
  intro hh;rw [hh, hz] at h1
  cases h1
 rw [allBut_on hne1 hne2 (by omega)] at hf
 cases hf
theorem wpL.first {i : Nat} {oi : Oper} {v : Value} (hi : ops[i]? = some oi) (hs : Region.noSelect ops = true) (hiz : i ≠ z) (hw : Waits md ops i z) (hQ : QStill Q) :
  ∀ (f : Nat) (L : Array Bool) (a : Act) (w : World), L.size = ops.size -> L.getD z false = false ->
   (∀ j oj, ops[j]? = some oj -> j ≠ i -> L.getD j true = false -> (∀ e ∈ oj.after, Region.binds md e = true -> e.on ≠ i) -> oi.apart ops oj = true) ->
   i ∈ Region.ready md ops L -> YieldsIf P ops (Ext W0) oi v a -> Ext W0 w ->
   wpL P md ops Q W0 z f (L.setIfInBounds i true) (a.put oi.dst v) w -> wpL P md ops Q W0 z (f + 1) L a w := by
 have hsel := Region.noSelect_spec hs;intro f
 induction f with
 | zero =>
  intro L a w _ _ _ hr hy hS H;refine ⟨(fun h0 => by rw [h0] at hr; cases hr), fun j hj => ?_⟩
  by_cases hji : j = i
  ·subst hji; exact hy.wpOp hi hS ⟨.inr hS, H⟩
  ·have := ready_mono hj hji
   rw [H.1] at this
   cases this
 | succ f ih =>
  intro L a w hsz hzL hfree hr hy hS H;refine ⟨(fun h0 => by rw [h0] at hr; cases hr), fun j hj => ?_⟩
  by_cases hji : j = i
  ·subst hji; exact hy.wpOp hi hS ⟨.inr hS, H⟩
  ·have hiL := (mem_ready.1 hr).1
   have hjz : j ≠ z := fun e => waits_not hw hiL hzL hsz (e ▸ hj)
   obtain ⟨hjun, oj, hoj, hall⟩ := mem_ready.1 hj
   have hnot : ∀ e ∈ oj.after, Region.binds md e = true -> e.on ≠ i := fun e he hb hh => by
    have h1 := hall e he hb;rw [hh] at h1
    have hlt : i < L.size := by
     rcases Nat.lt_or_ge i L.size with h | h
     ·exact h
     ·simp [h] at h1
    simp [hlt] at h1 hiL;rw [h1] at hiL
    cases hiL
   have h1 := H.2 j (ready_mono hj hji);have h2 := wpOp_putIf hoj (hfree j oj hoj hji hjun hnot) (fun cs b => hsel i oi cs b hi) (fun cs b => hsel j oj cs b hoj) (fun c a w => (hQ.put c a _ _ w).1) hy h1;refine wpOp_mono (fun a' w' h3 => ?_) h2;obtain ⟨hy', hS', H'⟩ := h3
   have hzz : ((L.setIfInBounds i true).setIfInBounds j true).getD z false = false := by
    rw [getD_set_ne false hjz, getD_set_ne false hiz]; exact hzL
   have hE : Ext W0 w' := by
    rcases hS' with h | h
    ·rw [hzz] at h; cases h
    ·exact h
   refine ⟨.inr hE, ih (L.setIfInBounds j true) a' w' (by simpa using hsz) (by rw [getD_set_ne false hjz]; exact hzL) ?_ (ready_mono hr (Ne.symm hji)) hy' hE ?_⟩
   ·intro k ok hk hki hun hno
    refine hfree k ok hk hki ?_ hno
    by_cases hjk : j = k
    ·subst hjk; exact hjun
    ·rwa [getD_set_ne true hjk] at hun
   ·rw [Array.setIfInBounds_comm _ _ hji]
    exact H'
def waitsB (md : Region.Mode) (ops : Array Oper) (i z : Nat) : Bool := match ops[z]? with
 | some o => o.after.toList.any fun e => Region.binds md e && !(allBut ops.size i z).getD e.on false
 | none => false
theorem waitsB_spec {i : Nat} (h : waitsB md ops i z = true) : Waits md ops i z := by
 unfold waitsB at h
 cases ho : ops[z]? with
 | none => rw [ho] at h; cases h
 | some o =>
  rw [ho] at h;obtain ⟨e, he, hb⟩ := List.any_eq_true.1 h;rw [Bool.and_eq_true, Bool.not_eq_true'] at hb;exact ⟨o, ho, e, Array.mem_toList_iff.1 he, hb.1, hb.2⟩
theorem wpL.take {f i : Nat} {oi : Oper} {d : Option Tmp} {v : Value} {L : Array Bool} {a : Act} {w : World} (hi : ops[i]? = some oi) (hd : oi.dst = d) (hs : Region.noSelect ops = true) (hf : Region.free md ops L i = true)
  (hr : (Region.ready md ops L).contains i = true) (hz : (i != z && waitsB md ops i z && !L.getD z false && L.size == ops.size) = true) (hQ : QStill Q) (hy : YieldsIf P ops (Ext W0) oi v a) (hS : Ext W0 w)
  (h : wpL P md ops Q W0 z f (L.setIfInBounds i true) (a.put d v) w) : wpL P md ops Q W0 z (f + 1) L a w := by
 subst hd;simp only [Bool.and_eq_true, bne_iff_ne, Bool.not_eq_true', beq_iff_eq] at hz;obtain ⟨⟨⟨h1, h2⟩, h3⟩, h4⟩ := hz;exact wpL.first hi hs h1 (waitsB_spec h2) hQ f L a w h4 h3 (fun j oj hj hne hun hno => Region.free_spec hi hf j oj hj hne hun hno) (by simpa using hr) hy hS h
theorem wpL.tk {f i : Nat} {oi : Oper} {d : Option Tmp} {v : Value} {L : Array Bool} {a : Act} {w : World} (hi : ops[i]? = some oi) (hd : oi.dst = d) (hQ : QStill Q) (hy : YieldsIf P ops (Ext W0) oi v a) (hS : Ext W0 w) (h : wpL P md ops Q W0 z f (L.setIfInBounds i true) (a.put d v) w) (hs : Region.noSelect ops = true := by kernel_rfl) (hf : Region.free md ops L i = true := by kernel_rfl) (hr : (Region.ready md ops L).contains i = true := by kernel_rfl) (hz : (i != z && waitsB md ops i z && !L.getD z false && L.size == ops.size) = true := by kernel_rfl) : wpL P md ops Q W0 z (f + 1) L a w := wpL.take hi hd hs hf hr hz hQ hy hS h
theorem wpL.t {f : Nat} {oi : Oper} {L : Array Bool} {a : Act} {w : World} (i : Nat) (d : Tmp) (v : Value) (hQ : QStill Q) (hy : ∀ w, Ext W0 w -> (execOp a.eval oi).run P w = .ok (.value v) w) (hS : Ext W0 w) (h : wpL P md ops Q W0 z f (L.setIfInBounds i true) (a.put (some d) v) w) (hi : ops[i]? = some oi := by exact rfl) (hd : oi.dst = some d := by exact rfl) (hw : Region.wanted oi (yielded ops a.tmps) = true := by exact rfl) (hs : Region.noSelect ops = true := by kernel_rfl) (hf : Region.free md ops L i = true := by kernel_rfl) (hr : (Region.ready md ops L).contains i = true := by kernel_rfl) (hz : (i != z && waitsB md ops i z && !L.getD z false && L.size == ops.size) = true := by kernel_rfl) : wpL P md ops Q W0 z (f + 1) L a w := wpL.take hi hd hs hf hr hz hQ (Or.inl ⟨hw, hy⟩) hS h
theorem wpL.u {f : Nat} {oi : Oper} {v : Value} {L : Array Bool} {a : Act} {w : World} (i : Nat) (d : Tmp) (hQ : QStill Q) (hS : Ext W0 w) (h : wpL P md ops Q W0 z f (L.setIfInBounds i true) (a.put (some d) v) w) (hi : ops[i]? = some oi := by exact rfl) (hd : oi.dst = some d := by exact rfl) (hw : Region.wanted oi (yielded ops a.tmps) = true := by exact rfl) (hs : Region.noSelect ops = true := by kernel_rfl) (hf : Region.free md ops L i = true := by kernel_rfl) (hr : (Region.ready md ops L).contains i = true := by kernel_rfl) (hz : (i != z && waitsB md ops i z && !L.getD z false && L.size == ops.size) = true := by kernel_rfl) (hy : ∀ w, Ext W0 w -> (execOp a.eval oi).run P w = .ok (.value v) w := by intro w hSw; go_simp; try rfl) : wpL P md ops Q W0 z (f + 1) L a w := wpL.take hi hd hs hf hr hz hQ (Or.inl ⟨hw, hy⟩) hS h
theorem wpL.call {f i : Nat} {o : Oper} {L : Array Bool} {a : Act} {w : World} (ho : ops[i]? = some o) (hr : Region.ready md ops L = [i])
  (h : ∀ K : Act -> World -> Prop, Shut (∀ a' w', Ext W0 w' -> wpL P md ops Q W0 z f (L.setIfInBounds i true) a' w' -> K a' w') -> if Region.wanted o (yielded ops a.tmps) = true then Oper.wp P o a w K Q else K (a.put o.dst undef) w) : wpL P md ops Q W0 z (f + 1) L a w := by
 refine ⟨(fun h0 => by rw [hr] at h0; cases h0), fun j hj => ?_⟩;rw [hr, List.mem_singleton] at hj;subst hj;exact wpOp_step ho fun K hK => h K (fun a' w' e hL => hK a' w' ⟨.inr e, hL⟩)
theorem wpL.cl {f i : Nat} {o : Oper} {L : Array Bool} {a : Act} {w : World} (ho : ops[i]? = some o) (h : ∀ K : Act -> World -> Prop, Shut (∀ a' w', Ext W0 w' -> wpL P md ops Q W0 z f (L.setIfInBounds i true) a' w' -> K a' w') -> if Region.wanted o (yielded ops a.tmps) = true then Oper.wp P o a w K Q else K (a.put o.dst undef) w) (hr : Region.ready md ops L = [i] := by kernel_rfl) : wpL P md ops Q W0 z (f + 1) L a w := wpL.call ho hr h
theorem wpL.tail {f i : Nat} {o : Oper} {L : Array Bool} {a : Act} {w : World} (ho : ops[i]? = some o) (hr : Region.ready md ops L = [i]) (hz : (L.setIfInBounds i true).getD z false = true)
  (h : ∀ K : Act -> World -> Prop, Shut (∀ a' w', wpL P md ops Q W0 z f (L.setIfInBounds i true) a' w' -> K a' w') -> if Region.wanted o (yielded ops a.tmps) = true then Oper.wp P o a w K Q else K (a.put o.dst undef) w) : wpL P md ops Q W0 z (f + 1) L a w := by
 refine ⟨(fun h0 => by rw [hr] at h0; cases h0), fun j hj => ?_⟩;rw [hr, List.mem_singleton] at hj;subst hj;exact wpOp_step ho fun K hK => h K (fun a' w' hL => hK a' w' ⟨.inl hz, hL⟩)
theorem wpL.tl {f i : Nat} {o : Oper} {L : Array Bool} {a : Act} {w : World} (ho : ops[i]? = some o) (h : ∀ K : Act -> World -> Prop, Shut (∀ a' w', wpL P md ops Q W0 z f (L.setIfInBounds i true) a' w' -> K a' w') -> if Region.wanted o (yielded ops a.tmps) = true then Oper.wp P o a w K Q else K (a.put o.dst undef) w) (hr : Region.ready md ops L = [i] := by kernel_rfl) (hz : (L.setIfInBounds i true).getD z false = true := by kernel_rfl) : wpL P md ops Q W0 z (f + 1) L a w := wpL.tail ho hr hz h
theorem wpL.done {L : Array Bool} {a : Act} {w : World} (hr : Region.ready md ops L = []) (h : Q .normal a w) : ∀ f, wpL P md ops Q W0 z f L a w
 | 0 => ⟨hr, h⟩
 | _ + 1 => ⟨fun _ => h, by rw [hr]; simp⟩
end
end
section
open Go.RowKit
attribute [local go_sem ↓] Go.wp_at_zero Go.wp_at_succ
section
variable {w w' : World} {z y : Int} {q : Rat} {L M : Nat} {s t : Bool} {A B : Option Addr} {n c m d : Nat}
theorem p_whole (h : NI w z L s A n c) : Calls Tryz.prog 89 #[.agg #[.bool s, .slice A n c]] w (RetNR (z : Rat) (max L 2) w) := by
 go_enter Tryz.func89, Tryz.ntmps89
 go_upto_region 1 with (fail)
 obtain ⟨W, hW, extW, bx, bz, hz⟩ := box2 w 28 30 #[.bool s, .slice A n c] #[Value.bool false, Value.slice none 0 0, Value.bool false, Value.slice none 0 0];rw [<- hW];clear hW;refine wpL.st 3 (fun hQ ES => ?_);refine wpL.t 0 3 ?v_0 hQ ?y_0 ES ?_
 case y_0 => intro w' hSw;have k00 := (bx.ext hSw).c2;go_simp;try rfl
 try simp only [zP]
 refine wpL.cl (i := 1) rfl (fun K hK => ?_);go_simp
 (go_at_call 90; refine (p_FromInt 1 (by omega) (by omega)).mono ?_; rintro e wa ⟨s1, A1, n1, c1, rfl, h1, hx0⟩; have E0_1 := Ext.trans ES hx0)
 refine hK.out _ _ E0_1 ?_;clear hK K
 try simp only [zP]
 refine wpL.u 2 5 hQ E0_1 ?_
 try simp only [zP]
 have z0 := (bz.ext E0_1).cell 0 _ rfl;have z1 := (bz.ext E0_1).cell 1 _ rfl;have z2 := (bz.ext E0_1).cell 2 _ rfl;have z3 := (bz.ext E0_1).cell 3 _ rfl;have f0 := (bz.ext E0_1).frozen 0;have f1 := (bz.ext E0_1).frozen 1;have f2 := (bz.ext E0_1).frozen 2;have f3 := (bz.ext E0_1).frozen 3;refine wpL.tl (i := 3) rfl (fun K hK => ?_);go_simp;refine hK.out _ _ ?_;clear hK K
 try simp only [zP]
 refine wpL.done (by kernel_rfl) ?_ _;clear hQ
 go_wp2_with fail
 obtain ⟨b1, b2, b3, _⟩ := fin_quad (s := s) (A := A) (n := n) (c := c) (t := s1) (B := A1) (m := n1) (d := c1) (bz.ext E0_1);have r0 := b1.cell 0 (.bool s) rfl;have r1 := b1.cell 1 (.slice A n c) rfl;have r2 := b1.cell 2 (.bool s1) rfl;have r3 := b1.cell 3 (.slice A1 n1 c1) rfl;unfold set4 at r0 r1 r2 r3;refine bodyPost_ret (v := .agg #[.bool s, .slice A n c, .bool s1, .slice A1 n1 c1]) (by simp [results, Tryz.results89, go_sem, r0, r1, r2, r3]) rfl ⟨s, A, n, c, s1, A1, n1, c1, rfl, ⟨?_, ?_⟩, b3 _ (extW.trans E0_1) (by omega)⟩
 ·exact (b2 _ _ _ _ _ _ (h.ext (extW.trans E0_1))).le (by omega)
 ·exact (b2 _ _ _ _ _ _ h1).le (by omega)
theorem p_FromIntR (k : Int) (h0 : -9223372036854775808 <= k) (h1 : k < 9223372036854775808) : Calls Tryz.prog 47 #[.int .i64 k] w (RetNR (k : Rat) 2 w) := by
 go_enter Tryz.func47, Tryz.ntmps47
 go_upto_region 1 with (fail)
 obtain ⟨W, hW, extW, bz, hz⟩ := box1 w 30 #[Value.bool false, Value.slice none 0 0, Value.bool false, Value.slice none 0 0];rw [<- hW];clear hW
 go_wp2_with fail
 refine (p_FromInt k h0 h1).mono ?_;rintro e wa ⟨s1, A1, n1, c1, rfl, hk, hx0⟩
 go_wp2_with fail
 refine (p_whole hk).mono ?_;rintro e wb ⟨s, A, n, c, t, B, m, d, rfl, hr, hx1⟩;have hE := hx0.trans hx1;have z0 := (bz.ext hE).cell 0 _ rfl;have z1 := (bz.ext hE).cell 1 _ rfl;have z2 := (bz.ext hE).cell 2 _ rfl;have z3 := (bz.ext hE).cell 3 _ rfl;have f0 := (bz.ext hE).frozen 0;have f1 := (bz.ext hE).frozen 1;have f2 := (bz.ext hE).frozen 2;have f3 := (bz.ext hE).frozen 3
 go_wp2_with fail
 obtain ⟨b1, b2, b3, b4⟩ := fin_quad (s := s) (A := A) (n := n) (c := c) (t := t) (B := B) (m := m) (d := d) (bz.ext hE);have r0 := b1.cell 0 (.bool s) rfl;have r1 := b1.cell 1 (.slice A n c) rfl;have r2 := b1.cell 2 (.bool t) rfl;have r3 := b1.cell 3 (.slice B m d) rfl;unfold set4 at r0 r1 r2 r3;refine bodyPost_ret (v := .agg #[.bool s, .slice A n c, .bool t, .slice B m d]) (by simp [results, Tryz.results47, go_sem, r0, r1, r2, r3]) rfl ⟨s, A, n, c, t, B, m, d, rfl, ⟨?_, ?_⟩, b3 _ (extW.trans hE) (by omega)⟩
 ·exact b2 _ _ _ _ _ _ hr.num
 ·exact b2 _ _ _ _ _ _ hr.den
theorem p_SignR (h : NR w q L s A n c t B m d) (hL : L <= 50000) : Calls Tryz.prog 80 #[.agg #[.bool s, .slice A n c, .bool t, .slice B m d]] w fun e w' => e = .returned (.int .i64 q.num.sign) /\ Ext w w' := by
 go_enter Tryz.func80, Tryz.ntmps80
 go_upto_region 1 with (fail)
 obtain ⟨W, hW, extW, bx, hz⟩ := box1 w 30 #[.bool s, .slice A n c, .bool t, .slice B m d];rw [<- hW];clear hW;have x0 := bx.cell 0 (.bool s) rfl;have x1 := bx.cell 1 (.slice A n c) rfl
 go_wp2_with fail
 refine (p_Sign (h.num.ext extW) (by omega)).mono ?_;rintro e wa ⟨rfl, hx0⟩
 go_wp2_with fail
 go_ret
 exact ⟨rfl, extW.trans hx0⟩
theorem p_NegR (h : NR w q L s A n c t B m d) (hL : L <= 100000) : Calls Tryz.prog 76 #[.agg #[.bool s, .slice A n c, .bool t, .slice B m d]] w (RetNR (-q) L w) := by
 go_enter Tryz.func76, Tryz.ntmps76
 go_upto_region 1 with (fail)
 obtain ⟨W, hW, extW, bx, bz, hz⟩ := box2 w 30 30 #[.bool s, .slice A n c, .bool t, .slice B m d] #[Value.bool false, Value.slice none 0 0, Value.bool false, Value.slice none 0 0];rw [<- hW];clear hW;refine wpL.st 7 (fun hQ ES => ?_);refine wpL.u 0 3 hQ ES ?_
 try simp only [zP]
 refine wpL.u 3 6 hQ ES ?_
 try simp only [zP]
 refine wpL.t 1 4 ?v_2 hQ ?y_2 ES ?_
 case y_2 => intro w' hSw;have k00 := (bx.ext hSw).c4;go_simp;try rfl
 try simp only [zP]
 refine wpL.t 4 7 ?v_3 hQ ?y_3 ES ?_
 case y_3 => intro w' hSw;have k00 := (bx.ext hSw).c4;go_simp;try rfl
 try simp only [zP]
 refine wpL.cl (i := 2) rfl (fun K hK => ?_);go_simp
 (go_at_call 119; refine (p_Neg (h.num.ext (extW.trans ES)) hL).mono ?_; rintro e wa ⟨s1, A1, n1, c1, rfl, h1, hx0⟩; have E0_1 := Ext.trans ES hx0)
 refine hK.out _ _ E0_1 ?_;clear hK K
 try simp only [zP]
 refine wpL.cl (i := 5) rfl (fun K hK => ?_);go_simp
 (go_at_call 92; refine (p_Norm (h.den.ext (extW.trans E0_1)) hL).mono ?_; rintro e wb ⟨s2, A2, n2, c2, rfl, h2, hx1⟩; have E1_1 := Ext.trans E0_1 hx1)
 refine hK.out _ _ E1_1 ?_;clear hK K
 try simp only [zP]
 refine wpL.u 6 9 hQ E1_1 ?_
 try simp only [zP]
 have z0 := (bz.ext E1_1).cell 0 _ rfl;have z1 := (bz.ext E1_1).cell 1 _ rfl;have z2 := (bz.ext E1_1).cell 2 _ rfl;have z3 := (bz.ext E1_1).cell 3 _ rfl;have f0 := (bz.ext E1_1).frozen 0;have f1 := (bz.ext E1_1).frozen 1;have f2 := (bz.ext E1_1).frozen 2;have f3 := (bz.ext E1_1).frozen 3;refine wpL.tl (i := 7) rfl (fun K hK => ?_);go_simp;refine hK.out _ _ ?_;clear hK K
 try simp only [zP]
 refine wpL.done (by kernel_rfl) ?_ _;clear hQ
 go_wp2_with fail
 obtain ⟨b1, b2, b3, b4⟩ := fin_quad (s := s1) (A := A1) (n := n1) (c := c1) (t := s2) (B := A2) (m := n2) (d := c2) (bz.ext E1_1);have r0 := b1.cell 0 (.bool s1) rfl;have r1 := b1.cell 1 (.slice A1 n1 c1) rfl;have r2 := b1.cell 2 (.bool s2) rfl;have r3 := b1.cell 3 (.slice A2 n2 c2) rfl;unfold set4 at r0 r1 r2 r3;refine bodyPost_ret (v := .agg #[.bool s1, .slice A1 n1 c1, .bool s2, .slice A2 n2 c2]) (by simp [results, Tryz.results76, go_sem, r0, r1, r2, r3]) rfl ⟨s1, A1, n1, c1, s2, A2, n2, c2, rfl, ⟨?_, ?_⟩, b3 _ (extW.trans E1_1) (by omega)⟩
 ·exact b2 _ _ _ _ _ _ (h1.ext hx1)
 ·exact b2 _ _ _ _ _ _ h2
theorem p_divide (h : NI w z L s A n c) (k : NI w y M t B m d) (hL : L <= 8000) (hM : M <= 8000) (h0 : y ≠ 0) (hd : y ∣ z) : Calls Tryz.prog 100 #[.agg #[.bool s, .slice A n c], .agg #[.bool t, .slice B m d]] w (RetNI (z / y) L w) := by
 go_enter Tryz.func100, Tryz.ntmps100
 go_upto_region 1 with (fail)
 obtain ⟨W, hW, extW, bx, by_, bz, hz⟩ := box3 w 28 28 28 #[.bool s, .slice A n c] #[.bool t, .slice B m d] #[Value.bool false, Value.slice none 0 0];rw [<- hW];clear hW;have y0 := by_.cell 0 (.bool t) rfl;have y1 := by_.cell 1 (.slice B m d) rfl
 go_wp2_with fail
 refine (p_isOne (k.ext extW)).mono ?_;rintro e wa ⟨rfl, hx0⟩;have x0 := (bx.ext hx0).cell 0 (.bool s) rfl;have x1 := (bx.ext hx0).cell 1 (.slice A n c) rfl;have y2 := (by_.ext hx0).cell 0 (.bool t) rfl;have y3 := (by_.ext hx0).cell 1 (.slice B m d) rfl;have z0 := (bz.ext hx0).cell 0 _ rfl;have z1 := (bz.ext hx0).cell 1 _ rfl;have f0 := (bz.ext hx0).frozen 0;have f1 := (bz.ext hx0).frozen 1;clear y0 y1
 by_cases h1 : y = 1
 ·have hd1 : decide (y = 1) = true := decide_eq_true h1
  rw [hd1]
  go_wp2_with fail
  obtain ⟨b1, b2, b3, b4⟩ := fin_dual (s := s) (A := A) (n := n) (c := c) (bz.ext hx0);have r0 := b1.cell 0 (.bool s) rfl;have r1 := b1.cell 1 (.slice A n c) rfl;unfold set2 at r0 r1;refine bodyPost_ret (v := .agg #[.bool s, .slice A n c]) (by simp [results, Tryz.results100, go_sem, r0, r1]) rfl ⟨s, A, n, c, rfl, ?_, b3 _ (extW.trans hx0) (by omega)⟩;rw [h1, Int.ediv_one];exact b2 _ _ _ _ _ _ (h.ext (extW.trans hx0))
 ·have hd1 : decide (y = 1) = false := decide_eq_false h1
  rw [hd1]
  go_wp2_with fail
  refine (p_DivMod (h.ext (extW.trans hx0)) (k.ext (extW.trans hx0)) (by omega) (by omega) h0).mono ?_;rintro e wb ⟨s1, A1, n1, c1, s2, A2, n2, c2, q, r, rfl, hq, hr, hdm, hx1⟩;obtain ⟨_, hqe, hql⟩ := (dm_q_le hdm h0).2.2 hd;rw [hqe] at hq hql;have hq' := hq.tight h (by simpa using hql);clear x0 x1 y2 y3 z0 z1 f0 f1
  go_upto_region 4 with (fail)
  refine at_world (fun V => Ext W V /\ Box V wb.heap.size 28 #[.bool s1, .slice A1 n1 c1] /\ NI V (z / y) L s1 A1 n1 c1) ?_ ?_
  ·obtain ⟨e1, e2, e3⟩ := two_new wb 28 #[.bool s1, .slice A1 n1 c1] #[.bool s2, .slice A2 n2 c2]
   exact ⟨(hx0.trans hx1).trans e1, e2, hq'.ext e1⟩
  generalize wb.heap.size = g5;rintro V ⟨EV, b5, hqV⟩;have x0 := b5.cell 0 _ rfl;have x1 := b5.cell 1 _ rfl;have z0 := (bz.ext EV).cell 0 _ rfl;have z1 := (bz.ext EV).cell 1 _ rfl;have f0 := (bz.ext EV).frozen 0;have f1 := (bz.ext EV).frozen 1
  go_wp2_with fail
  obtain ⟨b1, b2, b3, b4⟩ := fin_dual (s := s1) (A := A1) (n := n1) (c := c1) (bz.ext EV);have r0 := b1.cell 0 (.bool s1) rfl;have r1 := b1.cell 1 (.slice A1 n1 c1) rfl;unfold set2 at r0 r1;refine bodyPost_ret (v := .agg #[.bool s1, .slice A1 n1 c1]) (by simp [results, Tryz.results100, go_sem, r0, r1]) rfl ⟨s1, A1, n1, c1, rfl, ?_, b3 _ (extW.trans EV) (by omega)⟩;exact b2 _ _ _ _ _ _ hqV
end
theorem gcd_tmod (a b : Int) : Nat.gcd b.natAbs (Int.tmod a b).natAbs = Nat.gcd a.natAbs b.natAbs := by
 rw [Int.natAbs_tmod, Nat.gcd_comm a.natAbs, Nat.gcd_rec b.natAbs a.natAbs, Nat.gcd_comm]
theorem tmod_lt (a b : Int) (h : b ≠ 0) : (Int.tmod a b).natAbs < b.natAbs := by
 rw [Int.natAbs_tmod];exact Nat.mod_lt _ (by omega)
section
variable {w : World}
theorem small_gcd (a b : Int) (ha : a ≠ 0) (h1 : a.natAbs < 9223372036854775808) (h2 : b.natAbs < 9223372036854775808) :
  Calls Tryz.prog 155 #[.int .i64 a, .int .i64 b] w fun e w' => e = .returned (.int .i64 ((Nat.gcd a.natAbs b.natAbs : Nat) : Int)) /\ Ext w w' := by
 obtain ⟨G, hG⟩ : ∃ G, Nat.gcd a.natAbs b.natAbs = G := ⟨_, rfl⟩;rw [hG]
 go_enter Tryz.func155, Tryz.ntmps155
 go_wp2
 go_loopw [0, 1] (fun x y V => ∃ c d : Int, x = .int .i64 c /\ y = .int .i64 d /\ Nat.gcd c.natAbs d.natAbs = G /\ c ≠ 0 /\ c.natAbs < 9223372036854775808 /\ d.natAbs < 9223372036854775808 /\ Ext w V) (fun _ y _ => (intOf y).natAbs)
 case atStart => exact ⟨a, b, rfl, rfl, hG, ha, h1, h2, Ext.refl _⟩
 case round =>
  obtain ⟨c, d, rfl, rfl, hg, hc0, hc, hd, hext⟩ := hrel;have Hg := Lib.hid hg;clear hg
  by_cases h0 : d = 0
  ·subst h0
   have hG2 : c.natAbs = G := by have := Hg.out; rwa [Int.natAbs_zero, Nat.gcd_zero_right] at this
   have hmx : max c (-c) = (G : Int) := by omega
   go_wp2
   go_ret
   exact ⟨rfl, hext⟩
  ·have hne : (d == 0) = false := by rw [beq_eq_false_iff_ne]; exact h0
   have hlt := tmod_lt c d h0;have hgt := gcd_tmod c d;obtain ⟨m, hm⟩ : ∃ m, Int.tmod c d = m := ⟨_, rfl⟩;rw [hm] at hlt hgt;have hw : wrap64 (Int.tmod c d) = m := by rw [hm]; exact IntWalk.wrap64_in _ (by omega)
   have hw2 : IntKind.i64.wrap (Int.tmod c d) = m := by rw [hm]; exact IntWalk.i64_in _ (by omega)
   have Hgt := Lib.hid hgt;clear hgt
   go_wp2_with fail
   have ES0 := Ext.refl wr;refine wp_region_held_drew (S := Ext wr) (by kernel_rfl) ES0.drew (fun ES => ?_);clear ES0;refine Late.s0 ES (fun hAl hQ => ?_);refine Late.u 0 7 hQ ?_
   try simp only [zP]
   refine Late.u 1 8 hQ ?_
   try simp only [zP]
   refine Late.u 2 9 hQ ?_
   try simp only [zP]
   refine Late.u 3 10 hQ ?_
   try simp only [zP]
   refine Late.u 4 0 hQ ?_
   try simp only [zP]
   refine Late.u 5 1 hQ ?_
   try simp only [zP]
   refine Late.d0 (fun wz ez Ez => ?_);clear hAl hQ ES
   go_wp2_with fail
   refine ⟨⟨d, m, rfl, rfl, by rw [Hgt.out, Hg.out], h0, hd, by omega, hext.trans Ez⟩, ?_⟩;simp only [intOf];exact hlt
theorem tdiv_abs_le (a b : Int) : (Int.tdiv a b).natAbs <= a.natAbs := by
 rw [Int.natAbs_tdiv]; exact Nat.div_le_self _ _
theorem p_lowest (N D : Int) (hD : 0 < D) (hN1 : N.natAbs < 9223372036854775808) (hD1 : D.natAbs < 9223372036854775808) : Calls Tryz.prog 137 #[.int .i64 N, .int .i64 D] w (RetNR (mkRat N D.natAbs) 2 w) := by
 obtain ⟨e1, e2⟩ := mkRat_parts N (D := D.natAbs) (by omega);obtain ⟨g, hg⟩ : ∃ g, Nat.gcd D.natAbs N.natAbs = g := ⟨_, rfl⟩;have hg' : N.natAbs.gcd D.natAbs = g := by rw [<- hg, Nat.gcd_comm]
 rw [hg'] at e1 e2;have hgD : g ∣ D.natAbs := by rw [<- hg']; exact Nat.gcd_dvd_right _ _
 have hgN : g ∣ N.natAbs := by rw [<- hg']; exact Nat.gcd_dvd_left _ _
 have hg0 : 0 < g := Nat.pos_of_dvd_of_pos hgD (by omega);have hdN : (g : Int) ∣ N := Int.ofNat_dvd_left.2 hgN;have hdD : (g : Int) ∣ D := Int.ofNat_dvd_left.2 hgD;have hne : ((g : Int) == 0) = false := by rw [beq_eq_false_iff_ne]; omega
 have b1 := tdiv_abs_le N g;have b2 := tdiv_abs_le D g;obtain ⟨Q1, hQ1⟩ : ∃ Q, Int.tdiv N g = Q := ⟨_, rfl⟩;obtain ⟨Q2, hQ2⟩ : ∃ Q, Int.tdiv D g = Q := ⟨_, rfl⟩;rw [hQ1] at b1;rw [hQ2] at b2;have w1 : wrap64 (Int.tdiv N g) = Q1 := by rw [hQ1]; exact IntWalk.wrap64_in _ (by omega)
 have w2 : IntKind.i64.wrap (Int.tdiv N g) = Q1 := by rw [hQ1]; exact IntWalk.i64_in _ (by omega)
 have w3 : wrap64 (Int.tdiv D g) = Q2 := by rw [hQ2]; exact IntWalk.wrap64_in _ (by omega)
 have w4 : IntKind.i64.wrap (Int.tdiv D g) = Q2 := by rw [hQ2]; exact IntWalk.i64_in _ (by omega)
 have hgn : ¬ g = 0 := by omega
 have w5 : IntKind.i64.wrap Q1 = Q1 := IntWalk.i64_in _ (by omega);have w6 : IntKind.i64.wrap Q2 = Q2 := IntWalk.i64_in _ (by omega);have w7 : wrap64 Q1 = Q1 := IntWalk.wrap64_in _ (by omega);have w8 : wrap64 Q2 = Q2 := IntWalk.wrap64_in _ (by omega);have hN : (mkRat N D.natAbs).num = Q1 := by rw [e1, <- hQ1, Int.tdiv_eq_ediv_of_dvd hdN]
 have hDD : ((mkRat N D.natAbs).den : Int) = Q2 := by rw [e2, <- hQ2, Int.tdiv_eq_ediv_of_dvd hdD, Int.natCast_ediv, Int.natAbs_of_nonneg (Int.le_of_lt hD)]
 have HN := Lib.hid hN;have HDD := Lib.hid hDD;have Hg := Lib.hid hg;clear hg hg' e1 e2 hgD hgN hdN hdD hN hDD
 go_enter Tryz.func137, Tryz.ntmps137
 go_upto_region 1 with (fail)
 obtain ⟨W, hW, extW, bz, hz⟩ := box1 w 30 #[Value.bool false, Value.slice none 0 0, Value.bool false, Value.slice none 0 0];rw [<- hW];clear hW
 go_wp2_with fail
 refine (small_gcd D N (by omega) hD1 hN1).mono ?_;rintro e wa ⟨rfl, hxa⟩;rw [Hg.out];replace bz := bz.ext hxa;replace extW := extW.trans hxa
 go_wp2_with fail
 refine wpL.st 9 (fun hQ ES => ?_);refine wpL.u 0 9 hQ ES ?_
 try simp only [zP]
 refine wpL.u 1 10 hQ ES ?_
 try simp only [zP]
 refine wpL.u 4 13 hQ ES ?_
 try simp only [zP]
 refine wpL.u 5 14 hQ ES ?_
 try simp only [zP]
 refine wpL.u 2 11 hQ ES ?_
 try simp only [zP]
 refine wpL.u 6 15 hQ ES ?_
 try simp only [zP]
 refine wpL.cl (i := 3) rfl (fun K hK => ?_);go_simp
 (go_at_call 90; refine (p_FromInt Q1 (by omega) (by omega)).mono ?_; rintro e wb ⟨s1, A1, n1, c1, rfl, h1, hx0⟩; have E0_2 := Ext.trans ES hx0)
 refine hK.out _ _ E0_2 ?_;clear hK K
 try simp only [zP]
 refine wpL.cl (i := 7) rfl (fun K hK => ?_);go_simp
 (go_at_call 90; refine (p_FromInt Q2 (by omega) (by omega)).mono ?_; rintro e wc ⟨s2, A2, n2, c2, rfl, h2, hx1⟩; have E1_2 := Ext.trans E0_2 hx1)
 refine hK.out _ _ E1_2 ?_;clear hK K
 try simp only [zP]
 refine wpL.u 8 17 hQ E1_2 ?_
 try simp only [zP]
 have z0 := (bz.ext E1_2).cell 0 _ rfl;have z1 := (bz.ext E1_2).cell 1 _ rfl;have z2 := (bz.ext E1_2).cell 2 _ rfl;have z3 := (bz.ext E1_2).cell 3 _ rfl;have f0 := (bz.ext E1_2).frozen 0;have f1 := (bz.ext E1_2).frozen 1;have f2 := (bz.ext E1_2).frozen 2;have f3 := (bz.ext E1_2).frozen 3;refine wpL.tl (i := 9) rfl (fun K hK => ?_);go_simp;refine hK.out _ _ ?_;clear hK K
 try simp only [zP]
 refine wpL.done (by kernel_rfl) ?_ _;clear hQ
 go_wp2_with fail
 clear b1 b2;obtain ⟨b1, b2, b3, b4⟩ := fin_quad (s := s1) (A := A1) (n := n1) (c := c1) (t := s2) (B := A2) (m := n2) (d := c2) (bz.ext E1_2);have r0 := b1.cell 0 (.bool s1) rfl;have r1 := b1.cell 1 (.slice A1 n1 c1) rfl;have r2 := b1.cell 2 (.bool s2) rfl;have r3 := b1.cell 3 (.slice A2 n2 c2) rfl;unfold set4 at r0 r1 r2 r3;refine bodyPost_ret (v := .agg #[.bool s1, .slice A1 n1 c1, .bool s2, .slice A2 n2 c2]) (by simp [results, Tryz.results137, go_sem, r0, r1, r2, r3]) rfl ⟨s1, A1, n1, c1, s2, A2, n2, c2, rfl, ⟨?_, ?_⟩, b3 _ (extW.trans E1_2) (by omega)⟩
 ·rw [HN.out]
  exact b2 _ _ _ _ _ _ (h1.ext hx1)
 ·rw [HDD.out]
  exact b2 _ _ _ _ _ _ h2
end
def Sm (q : Rat) (a b : Int) : Prop := a = q.num /\ b = (q.den : Int) /\ a.natAbs < 2147483648 /\ b.natAbs < 2147483648
theorem NoWord.ints {a b : Int} : NoWord #[.int .i64 a, .int .i64 b] := by
 intro i k h
 match i with
 | 0 => simp at h
 | 1 => simp at h
 | i + 2 => simp at h
theorem fin_ints {w2 : World} {g : Nat} {T : TypeId} {x y a b : Int} (hb : Box w2 g T #[.int .i64 x, .int .i64 y]) :
  Box (set2 w2 g (.int .i64 a) (.int .i64 b)) g T #[.int .i64 a, .int .i64 b] /\
  (∀ z L s' A' n' c', NI w2 z L s' A' n' c' -> NI (set2 w2 g (.int .i64 a) (.int .i64 b)) z L s' A' n' c') /\
  (∀ W, Ext W w2 -> W.heap.size <= g -> Ext W (set2 w2 g (.int .i64 a) (.int .i64 b))) /\
  (∀ g' T' cs', g' ≠ g -> Box w2 g' T' cs' -> Box (set2 w2 g (.int .i64 a) (.int .i64 b)) g' T' cs') := by
 unfold set2;have h1 : Box (w2.setCell ⟨g, 0, none⟩ (.int .i64 a)) g T #[.int .i64 a, .int .i64 y] := hb.set 0 (.int .i64 a);refine ⟨h1.set 1 (.int .i64 b), fun z L s' A' n' c' h => ?_, fun W e hg => ?_, fun g' T' cs' hg h => ?_⟩
 ·exact (h.set hb NoWord.ints 0 _).set h1 NoWord.ints 1 _
 ·exact (e.setCell hg _).setCell hg _
 ·exact (h.far hg _).far hg _
section
variable {w w' : World} {z y : Int} {q p : Rat} {L M : Nat} {s t s' t' : Bool} {A B A' B' : Option Addr} {n c m d n' c' m' d' : Nat}
theorem p_Int64 (h : NI w z L s A n c) (hL : L <= 100000) : Calls Tryz.prog 154 #[.agg #[.bool s, .slice A n c]] w (RetV z w) := by
 obtain ⟨xs, hn, hx, hc, hcm, hi, hl⟩ := h.out;rw [<- hi.eq];exact int_Int64 hn hx hc hcm (by omega)
theorem NI.one_word (h : NI w z L s A n c) (h1 : n <= 1) : z.natAbs < 4294967296 := by
 obtain ⟨xs, hn, hx, hc, hcm, hi, hl⟩ := h.out;have h2 := val_lt hx.1;have h3 : 4294967296 ^ xs.length <= 4294967296 ^ 1 := Nat.pow_le_pow_right (by omega) (by omega);rw [hi.abs] at h2;omega
def RetSm (q : Rat) (w : World) (e : Ending) (w' : World) : Prop := ∃ a b ok, e = .returned (.tuple #[.agg #[.int .i64 a, .int .i64 b], .bool ok]) /\ (ok = true -> Sm q a b) /\ Ext w w'
theorem p_toSmall (h : NR w q L s A n c t B m d) (hL : L <= 20000) : Calls Tryz.prog 136 #[.agg #[.bool s, .slice A n c, .bool t, .slice B m d]] w (RetSm q w) := by
 have hnm : n <= 20000 /\ m <= 20000 := by have := h.num.size; have := h.den.size; omega
 go_enter Tryz.func136, Tryz.ntmps136
 go_upto_region 1 with (fail)
 obtain ⟨W, hW, extW, bx, bz, hz⟩ := box2 w 30 94 #[.bool s, .slice A n c, .bool t, .slice B m d] #[Value.int .i64 0, Value.int .i64 0];rw [<- hW];clear hW;have x0 := bx.cell 0 (.bool s) rfl;have x1 := bx.cell 1 (.slice A n c) rfl;have x2 := bx.cell 2 (.bool t) rfl;have x3 := bx.cell 3 (.slice B m d) rfl;have hE := Ext.refl W
 by_cases hn : n <= 1
 ·have d1 : decide ((1 : Int) < (n : Int)) = false := decide_eq_false (by omega)
  have d1' : decide (1 < n) = false := decide_eq_false (by omega)
  by_cases hm : m = 1
  ·have d2 : ((m : Int) != 1) = false := by simp [hm]
   have hq1 := h.num.one_word hn;have hq2 := h.den.one_word (by omega);have hv1 := (fit_yes (z := q.num) (by omega)).2;have hv2 := (fit_yes (z := (q.den : Int)) (by omega)).2;have Hv1 := Lib.hid hv1;have Hv2 := Lib.hid hv2;clear hv1 hv2;subst hm
   go_wp2_with fail
   refine (p_Int64 (h.num.ext extW) (by omega)).mono ?_;rintro e wa ⟨rfl, hxa⟩;rw [Hv1.out];have x2 := (bx.ext hxa).cell 2 (.bool t) rfl;have x3 := (bx.ext hxa).cell 3 (.slice B 1 d) rfl
   go_wp2_with fail
   refine (p_Int64 (h.den.ext (extW.trans hxa)) (by omega)).mono ?_;rintro e wb ⟨rfl, hxb⟩;rw [Hv2.out];clear x0 x1 x2 x3 hE;have hE := hxa.trans hxb;have z0 := (bz.ext hE).cell 0 _ rfl;have z1 := (bz.ext hE).cell 1 _ rfl;have f0 := (bz.ext hE).frozen 0;have f1 := (bz.ext hE).frozen 1;obtain ⟨a, ha⟩ : ∃ a, q.num = a := ⟨_, rfl⟩;obtain ⟨b, hb⟩ : ∃ b, (q.den : Int) = b := ⟨_, rfl⟩;have Ha := Lib.hid ha;have Hb := Lib.hid hb;rw [ha, hb];rw [ha] at hq1;rw [hb] at hq2;clear ha hb
   by_cases k1 : -2147483648 < a
   ·have g1 : decide (-2147483648 < a) = true := decide_eq_true k1
    by_cases k2 : a < 2147483648
    ·have g2 : decide (a < 2147483648) = true := decide_eq_true k2
     by_cases k3 : 0 < b
     ·have g3 : decide (0 < b) = true := decide_eq_true k3
      by_cases k4 : b < 2147483648
      ·have g4 : decide (b < 2147483648) = true := decide_eq_true k4
       go_wp2_with fail
       obtain ⟨b1, b2, b3, b4⟩ := fin_ints (a := a) (b := b) (bz.ext hE);have r0 := b1.cell 0 (.int .i64 (a)) rfl;have r1 := b1.cell 1 (.int .i64 (b)) rfl;unfold set2 at r0 r1;exact bodyPost_ret (v := .tuple #[.agg #[.int .i64 (a), .int .i64 (b)], .bool true]) (by simp [results, Tryz.results136, go_sem, r0, r1]) rfl ⟨a, b, true, rfl, (fun _ => ⟨Ha.out.symm, Hb.out.symm, by omega, by omega⟩), b3 _ (extW.trans hE) (by omega)⟩
      ·have g4 : decide (b < 2147483648) = false := decide_eq_false k4
       go_wp2_with fail
       obtain ⟨b1, b2, b3, b4⟩ := fin_ints (a := a) (b := b) (bz.ext hE);have r0 := b1.cell 0 (.int .i64 (a)) rfl;have r1 := b1.cell 1 (.int .i64 (b)) rfl;unfold set2 at r0 r1;exact bodyPost_ret (v := .tuple #[.agg #[.int .i64 (a), .int .i64 (b)], .bool false]) (by simp [results, Tryz.results136, go_sem, r0, r1]) rfl ⟨a, b, false, rfl, (fun h => by cases h), b3 _ (extW.trans hE) (by omega)⟩
     ·have g3 : decide (0 < b) = false := decide_eq_false k3
      go_wp2_with fail
      obtain ⟨b1, b2, b3, b4⟩ := fin_ints (a := a) (b := b) (bz.ext hE);have r0 := b1.cell 0 (.int .i64 (a)) rfl;have r1 := b1.cell 1 (.int .i64 (b)) rfl;unfold set2 at r0 r1;exact bodyPost_ret (v := .tuple #[.agg #[.int .i64 (a), .int .i64 (b)], .bool false]) (by simp [results, Tryz.results136, go_sem, r0, r1]) rfl ⟨a, b, false, rfl, (fun h => by cases h), b3 _ (extW.trans hE) (by omega)⟩
    ·have g2 : decide (a < 2147483648) = false := decide_eq_false k2
     go_wp2_with fail
     obtain ⟨b1, b2, b3, b4⟩ := fin_ints (a := a) (b := b) (bz.ext hE);have r0 := b1.cell 0 (.int .i64 (a)) rfl;have r1 := b1.cell 1 (.int .i64 (b)) rfl;unfold set2 at r0 r1;exact bodyPost_ret (v := .tuple #[.agg #[.int .i64 (a), .int .i64 (b)], .bool false]) (by simp [results, Tryz.results136, go_sem, r0, r1]) rfl ⟨a, b, false, rfl, (fun h => by cases h), b3 _ (extW.trans hE) (by omega)⟩
   ·have g1 : decide (-2147483648 < a) = false := decide_eq_false k1
    go_wp2_with fail
    obtain ⟨b1, b2, b3, b4⟩ := fin_ints (a := a) (b := b) (bz.ext hE);have r0 := b1.cell 0 (.int .i64 (a)) rfl;have r1 := b1.cell 1 (.int .i64 (b)) rfl;unfold set2 at r0 r1;exact bodyPost_ret (v := .tuple #[.agg #[.int .i64 (a), .int .i64 (b)], .bool false]) (by simp [results, Tryz.results136, go_sem, r0, r1]) rfl ⟨a, b, false, rfl, (fun h => by cases h), b3 _ (extW.trans hE) (by omega)⟩
  ·have d2 : ((m : Int) != 1) = true := by rw [bne_iff_ne]; omega
   have z0 := (bz.ext hE).cell 0 _ rfl;have z1 := (bz.ext hE).cell 1 _ rfl;have f0 := (bz.ext hE).frozen 0;have f1 := (bz.ext hE).frozen 1
   go_wp2_with fail
   obtain ⟨b1, b2, b3, b4⟩ := fin_ints (a := 0) (b := 0) (bz.ext hE);have r0 := b1.cell 0 (.int .i64 (0)) rfl;have r1 := b1.cell 1 (.int .i64 (0)) rfl;unfold set2 at r0 r1;exact bodyPost_ret (v := .tuple #[.agg #[.int .i64 (0), .int .i64 (0)], .bool false]) (by simp [results, Tryz.results136, go_sem, r0, r1]) rfl ⟨0, 0, false, rfl, (fun h => by cases h), b3 _ (extW.trans hE) (by omega)⟩
 ·have d1 : decide ((1 : Int) < (n : Int)) = true := decide_eq_true (by omega)
  have d1' : decide (1 < n) = true := decide_eq_true (by omega);have z0 := (bz.ext hE).cell 0 _ rfl;have z1 := (bz.ext hE).cell 1 _ rfl;have f0 := (bz.ext hE).frozen 0;have f1 := (bz.ext hE).frozen 1
  go_wp2_with fail
  obtain ⟨b1, b2, b3, b4⟩ := fin_ints (a := 0) (b := 0) (bz.ext hE);have r0 := b1.cell 0 (.int .i64 (0)) rfl;have r1 := b1.cell 1 (.int .i64 (0)) rfl;unfold set2 at r0 r1;exact bodyPost_ret (v := .tuple #[.agg #[.int .i64 (0), .int .i64 (0)], .bool false]) (by simp [results, Tryz.results136, go_sem, r0, r1]) rfl ⟨0, 0, false, rfl, (fun h => by cases h), b3 _ (extW.trans hE) (by omega)⟩
theorem mul31 {a b : Int} (ha : a.natAbs < 2147483648) (hb : b.natAbs < 2147483648) : (a * b).natAbs < 4611686018427387904 := by
 rw [Int.natAbs_mul];have := Nat.mul_le_mul (Nat.le_of_lt_succ ha) (Nat.le_of_lt_succ hb);omega
theorem p_plus {a b a' b' : Int} (h : Sm q a b) (k : Sm p a' b') : Calls Tryz.prog 98 #[.agg #[.int .i64 a, .int .i64 b], .agg #[.int .i64 a', .int .i64 b']] w (RetNR (q + p) 2 w) := by
 obtain ⟨h1, h2, h3, h4⟩ := h;obtain ⟨k1, k2, k3, k4⟩ := k;have hb0 : 0 < b := by have := q.den_pos; omega
 have hb0' : 0 < b' := by have := p.den_pos; omega
 have m1 := mul31 h3 k4;have m2 := mul31 k3 h4;have m3 := mul31 h4 k4;have m4 := mul31 h3 k3;have hpos : 0 < b * b' := Int.mul_pos hb0 hb0'
 have hval : mkRat (a * b' + a' * b) (b * b').natAbs = q + p := by
  rw [Rat.add_def', Int.natAbs_mul, h1, h2, k1, k2, Int.natAbs_natCast, Int.natAbs_natCast]
 have Hval := Lib.hid hval;clear hval h1 h2 k1 k2;obtain ⟨u1, hu1⟩ : ∃ u, a * b' = u := ⟨_, rfl⟩;obtain ⟨u2, hu2⟩ : ∃ u, a' * b = u := ⟨_, rfl⟩;obtain ⟨u3, hu3⟩ : ∃ u, b * b' = u := ⟨_, rfl⟩;obtain ⟨u4, hu4⟩ : ∃ u, a * a' = u := ⟨_, rfl⟩;rw [hu1] at m1;rw [hu2] at m2;rw [hu3] at m3 hpos;rw [hu4] at m4;have Hu1 := Lib.hid hu1;have Hu2 := Lib.hid hu2;have Hu3 := Lib.hid hu3;have Hu4 := Lib.hid hu4;have w1 : IntKind.i64.wrap u1 = u1 := IntWalk.i64_in _ (by omega);have w2 : IntKind.i64.wrap u2 = u2 := IntWalk.i64_in _ (by omega);have w3 : IntKind.i64.wrap u3 = u3 := IntWalk.i64_in _ (by omega);have w4 : IntKind.i64.wrap u4 = u4 := IntWalk.i64_in _ (by omega);have v1 : wrap64 u1 = u1 := IntWalk.wrap64_in _ (by omega);have v2 : wrap64 u2 = u2 := IntWalk.wrap64_in _ (by omega);have v3 : wrap64 u3 = u3 := IntWalk.wrap64_in _ (by omega);have v4 : wrap64 u4 = u4 := IntWalk.wrap64_in _ (by omega);have w5 : IntKind.i64.wrap (u1 + u2) = u1 + u2 := IntWalk.i64_in _ (by omega);have v5 : wrap64 (u1 + u2) = u1 + u2 := IntWalk.wrap64_in _ (by omega)
 go_enter Tryz.func98, Tryz.ntmps98
 go_upto_region 1 with (fail)
 obtain ⟨W, hW, extW, bx, by_, bz, hz⟩ := box3 w 94 94 30 #[.int .i64 a, .int .i64 b] #[.int .i64 a', .int .i64 b'] #[Value.bool false, Value.slice none 0 0, Value.bool false, Value.slice none 0 0];rw [<- hW];clear hW;have x0 := bx.cell 0 (.int .i64 a) rfl;have x1 := bx.cell 1 (.int .i64 b) rfl;have y0 := by_.cell 0 (.int .i64 a') rfl;have y1 := by_.cell 1 (.int .i64 b') rfl
 go_wp2_with fail
 refine (p_lowest _ _ hpos (by omega) (by omega)).mono ?_;rintro e wa ⟨s, A, n, c, t, B, m, d, rfl, hr, hxa⟩;rw [<- Hu3.out] at hr;have z0 := (bz.ext hxa).cell 0 _ rfl;have z1 := (bz.ext hxa).cell 1 _ rfl;have z2 := (bz.ext hxa).cell 2 _ rfl;have z3 := (bz.ext hxa).cell 3 _ rfl;have f0 := (bz.ext hxa).frozen 0;have f1 := (bz.ext hxa).frozen 1;have f2 := (bz.ext hxa).frozen 2;have f3 := (bz.ext hxa).frozen 3
 go_wp2_with fail
 rw [<- Hu1.out, <- Hu2.out, Hval.out] at hr;obtain ⟨b1, b2, b3, b4⟩ := fin_quad (s := s) (A := A) (n := n) (c := c) (t := t) (B := B) (m := m) (d := d) (bz.ext hxa);have r0 := b1.cell 0 (.bool s) rfl;have r1 := b1.cell 1 (.slice A n c) rfl;have r2 := b1.cell 2 (.bool t) rfl;have r3 := b1.cell 3 (.slice B m d) rfl;unfold set4 at r0 r1 r2 r3;refine bodyPost_ret (v := .agg #[.bool s, .slice A n c, .bool t, .slice B m d]) (by simp [results, Tryz.results98, go_sem, r0, r1, r2, r3]) rfl ⟨s, A, n, c, t, B, m, d, rfl, ⟨?_, ?_⟩, b3 _ (extW.trans hxa) (by omega)⟩
 ·exact b2 _ _ _ _ _ _ hr.num
 ·exact b2 _ _ _ _ _ _ hr.den
theorem p_times {a b a' b' : Int} (h : Sm q a b) (k : Sm p a' b') : Calls Tryz.prog 101 #[.agg #[.int .i64 a, .int .i64 b], .agg #[.int .i64 a', .int .i64 b']] w (RetNR (q * p) 2 w) := by
 obtain ⟨h1, h2, h3, h4⟩ := h;obtain ⟨k1, k2, k3, k4⟩ := k;have hb0 : 0 < b := by have := q.den_pos; omega
 have hb0' : 0 < b' := by have := p.den_pos; omega
 have m1 := mul31 h3 k4;have m2 := mul31 k3 h4;have m3 := mul31 h4 k4;have m4 := mul31 h3 k3;have hpos : 0 < b * b' := Int.mul_pos hb0 hb0'
 have hval : mkRat (a * a') (b * b').natAbs = q * p := by
  rw [Rat.mul_def', Int.natAbs_mul, h1, h2, k1, k2, Int.natAbs_natCast, Int.natAbs_natCast]
 have Hval := Lib.hid hval;clear hval h1 h2 k1 k2;obtain ⟨u1, hu1⟩ : ∃ u, a * b' = u := ⟨_, rfl⟩;obtain ⟨u2, hu2⟩ : ∃ u, a' * b = u := ⟨_, rfl⟩;obtain ⟨u3, hu3⟩ : ∃ u, b * b' = u := ⟨_, rfl⟩;obtain ⟨u4, hu4⟩ : ∃ u, a * a' = u := ⟨_, rfl⟩;rw [hu1] at m1;rw [hu2] at m2;rw [hu3] at m3 hpos;rw [hu4] at m4;have Hu1 := Lib.hid hu1;have Hu2 := Lib.hid hu2;have Hu3 := Lib.hid hu3;have Hu4 := Lib.hid hu4;have w1 : IntKind.i64.wrap u1 = u1 := IntWalk.i64_in _ (by omega);have w2 : IntKind.i64.wrap u2 = u2 := IntWalk.i64_in _ (by omega);have w3 : IntKind.i64.wrap u3 = u3 := IntWalk.i64_in _ (by omega);have w4 : IntKind.i64.wrap u4 = u4 := IntWalk.i64_in _ (by omega);have v1 : wrap64 u1 = u1 := IntWalk.wrap64_in _ (by omega);have v2 : wrap64 u2 = u2 := IntWalk.wrap64_in _ (by omega);have v3 : wrap64 u3 = u3 := IntWalk.wrap64_in _ (by omega);have v4 : wrap64 u4 = u4 := IntWalk.wrap64_in _ (by omega);have w5 : IntKind.i64.wrap (u1 + u2) = u1 + u2 := IntWalk.i64_in _ (by omega);have v5 : wrap64 (u1 + u2) = u1 + u2 := IntWalk.wrap64_in _ (by omega)
 go_enter Tryz.func101, Tryz.ntmps101
 go_upto_region 1 with (fail)
 obtain ⟨W, hW, extW, bx, by_, bz, hz⟩ := box3 w 94 94 30 #[.int .i64 a, .int .i64 b] #[.int .i64 a', .int .i64 b'] #[Value.bool false, Value.slice none 0 0, Value.bool false, Value.slice none 0 0];rw [<- hW];clear hW;have x0 := bx.cell 0 (.int .i64 a) rfl;have x1 := bx.cell 1 (.int .i64 b) rfl;have y0 := by_.cell 0 (.int .i64 a') rfl;have y1 := by_.cell 1 (.int .i64 b') rfl
 go_wp2_with fail
 refine (p_lowest _ _ hpos (by omega) (by omega)).mono ?_;rintro e wa ⟨s, A, n, c, t, B, m, d, rfl, hr, hxa⟩;rw [<- Hu3.out] at hr;have z0 := (bz.ext hxa).cell 0 _ rfl;have z1 := (bz.ext hxa).cell 1 _ rfl;have z2 := (bz.ext hxa).cell 2 _ rfl;have z3 := (bz.ext hxa).cell 3 _ rfl;have f0 := (bz.ext hxa).frozen 0;have f1 := (bz.ext hxa).frozen 1;have f2 := (bz.ext hxa).frozen 2;have f3 := (bz.ext hxa).frozen 3
 go_wp2_with fail
 rw [<- Hu4.out, Hval.out] at hr;obtain ⟨b1, b2, b3, b4⟩ := fin_quad (s := s) (A := A) (n := n) (c := c) (t := t) (B := B) (m := m) (d := d) (bz.ext hxa);have r0 := b1.cell 0 (.bool s) rfl;have r1 := b1.cell 1 (.slice A n c) rfl;have r2 := b1.cell 2 (.bool t) rfl;have r3 := b1.cell 3 (.slice B m d) rfl;unfold set4 at r0 r1 r2 r3;refine bodyPost_ret (v := .agg #[.bool s, .slice A n c, .bool t, .slice B m d]) (by simp [results, Tryz.results101, go_sem, r0, r1, r2, r3]) rfl ⟨s, A, n, c, t, B, m, d, rfl, ⟨?_, ?_⟩, b3 _ (extW.trans hxa) (by omega)⟩
 ·exact b2 _ _ _ _ _ _ hr.num
 ·exact b2 _ _ _ _ _ _ hr.den
end
theorem Hd.take {P : Program} {ops : Array Oper} {Q : Exit -> Act -> World -> Prop} {md : Region.Mode} {S : World -> Prop} {n i : Nat} {oi : Oper} {d : Option Tmp} {v : Value} {L : Array Bool} {a : Act} {w : World} (hi : ops[i]? = some oi) (hd : oi.dst = d) (hs : Region.noSelect ops = true)
  (hf : Region.free md ops L i = true) (hr : (Region.ready md ops L).contains i = true) (hQ : QStill Q) (hy : YieldsIf P ops S oi v a) (hS : S w) (h : wpAnyH P md ops Q S n (L.setIfInBounds i true) (a.put d v) w) : wpAnyH P md ops Q S (n + 1) L a w := by
 subst hd;exact wpAnyH_first hi (Region.noSelect_spec hs) (fun c a w => (hQ.put c a _ _ w).1) n L a w (fun j oj hj hne hun hno => Region.free_spec hi hf j oj hj hne hun hno) (by simpa using hr) hy hS h
section
variable {w w' : World} {z y : Int} {q p : Rat} {L M : Nat} {s t s' t' : Bool} {A B A' B' : Option Addr} {n c m d n' c' m' d' : Nat}
theorem fin_pairs {w2 : World} {g k : Nat} {T : TypeId} {x y u v a b c d : Int} (hb : Box w2 g T #[.int .i64 x, .int .i64 y]) (hc : Box w2 k T #[.int .i64 u, .int .i64 v]) (hne : g ≠ k) :
  Box (set2 (set2 w2 g (.int .i64 a) (.int .i64 b)) k (.int .i64 c) (.int .i64 d)) g T #[.int .i64 a, .int .i64 b] /\
  Box (set2 (set2 w2 g (.int .i64 a) (.int .i64 b)) k (.int .i64 c) (.int .i64 d)) k T #[.int .i64 c, .int .i64 d] /\
  (∀ W, Ext W w2 -> W.heap.size <= g -> W.heap.size <= k -> Ext W (set2 (set2 w2 g (.int .i64 a) (.int .i64 b)) k (.int .i64 c) (.int .i64 d))) /\ True := by
 obtain ⟨h1, _, h3, h4⟩ := fin_ints (a := a) (b := b) hb;obtain ⟨j1, _, j3, j4⟩ := fin_ints (a := c) (b := d) (h4 k _ _ (Ne.symm hne) hc);exact ⟨j4 g _ _ hne h1, j1, fun W e hg hk => j3 W (h3 W e hg) hk, trivial⟩
def RetPair (q p : Rat) (w : World) (e : Ending) (w' : World) : Prop := ∃ a b c d ok, e = .returned (.tuple #[.agg #[.int .i64 a, .int .i64 b], .agg #[.int .i64 c, .int .i64 d], .bool ok]) /\ (ok = true -> Sm q a b /\ Sm p c d) /\ Ext w w'
theorem p_smallPair (h : NR w q L s A n c t B m d) (k : NR w p M s' A' n' c' t' B' m' d') (hL : L <= 20000) (hM : M <= 20000) : Calls Tryz.prog 97 #[.agg #[.bool s, .slice A n c, .bool t, .slice B m d], .agg #[.bool s', .slice A' n' c', .bool t', .slice B' m' d']] w (RetPair q p w) := by
 go_enter Tryz.func97, Tryz.ntmps97
 go_upto_region 1 with (fail)
 obtain ⟨W, hW, extW, bx, by_, b4, b5, hz⟩ := box4 w 30 30 94 94 #[.bool s, .slice A n c, .bool t, .slice B m d] #[.bool s', .slice A' n' c', .bool t', .slice B' m' d'] #[Value.int .i64 0, Value.int .i64 0] #[Value.int .i64 0, Value.int .i64 0];rw [<- hW];clear hW;have x0 := bx.cell 0 (.bool s) rfl;have x1 := bx.cell 1 (.slice A n c) rfl;have x2 := bx.cell 2 (.bool t) rfl;have x3 := bx.cell 3 (.slice B m d) rfl
 go_wp2_with fail
 refine (p_toSmall (h.ext extW) hL).mono ?_;rintro e wa ⟨a1, a2, ok1, rfl, hok1, hxa⟩;clear x0 x1 x2 x3
 go_upto_region 2 with (fail)
 refine at_world (fun V => Ext W V /\ Box V wa.heap.size 94 #[.int .i64 a1, .int .i64 a2]) ⟨hxa.alloc _, Box.new wa _ _⟩ ?_;have hg7 : w.heap.size + 4 <= wa.heap.size := Nat.le_trans hz hxa.size;generalize wa.heap.size = g7 at hg7 ⊢;rintro V ⟨EV, x7⟩;replace bx := bx.ext EV;replace by_ := by_.ext EV;replace b4 := b4.ext EV;replace b5 := b5.ext EV;replace extW := extW.trans EV;have Hok1 := Lib.hid hok1;clear hok1 EV hxa
 cases ok1 with
 | false =>
  have hE := Ext.refl V;have z0 := (b4.ext hE).cell 0 _ rfl;have z1 := (b4.ext hE).cell 1 _ rfl;have f0 := (b4.ext hE).frozen 0;have f1 := (b4.ext hE).frozen 1;have z2 := (b5.ext hE).cell 0 _ rfl;have z3 := (b5.ext hE).cell 1 _ rfl;have f2 := (b5.ext hE).frozen 0;have f3 := (b5.ext hE).frozen 1
  go_wp2_with fail
  obtain ⟨k1, k2, k3, _⟩ := fin_pairs (a := 0) (b := 0) (c := 0) (d := 0) (b4.ext hE) (b5.ext hE) (by omega);have r0 := k1.cell 0 (.int .i64 (0)) rfl;have r1 := k1.cell 1 (.int .i64 (0)) rfl;have r2 := k2.cell 0 (.int .i64 (0)) rfl;have r3 := k2.cell 1 (.int .i64 (0)) rfl;unfold set2 at r0 r1 r2 r3;exact bodyPost_ret (v := .tuple #[.agg #[.int .i64 (0), .int .i64 (0)], .agg #[.int .i64 (0), .int .i64 (0)], .bool false]) (by simp [results, Tryz.results97, go_sem, r0, r1, r2, r3]) rfl ⟨0, 0, 0, 0, false, rfl, (fun h => by cases h), k3 _ (extW.trans hE) (by omega) (by omega)⟩
 | true =>
  have y0 := by_.cell 0 (.bool s') rfl;have y1 := by_.cell 1 (.slice A' n' c') rfl;have y2 := by_.cell 2 (.bool t') rfl;have y3 := by_.cell 3 (.slice B' m' d') rfl
  go_wp2_with fail
  refine (p_toSmall (k.ext extW) hM).mono ?_;rintro e wb ⟨c1, c2, ok2, rfl, hok2, hxb⟩;clear y0 y1 y2 y3;have Hok2 := Lib.hid hok2;clear hok2
  go_upto_region 5 with (fail)
  refine at_world (fun V9 => Ext V V9 /\ Box V9 wb.heap.size 94 #[.int .i64 c1, .int .i64 c2]) ⟨hxb.alloc _, Box.new wb _ _⟩ ?_;have hg9 : w.heap.size + 4 <= wb.heap.size := by have := hxb.size; have := x7.lt; omega
  generalize wb.heap.size = g9 at hg9 ⊢;rintro V9 ⟨EV, x9⟩;replace x7 := x7.ext EV;replace b4 := b4.ext EV;replace b5 := b5.ext EV;replace extW := extW.trans EV;clear EV hxb;have hE := Ext.refl V9;have x70 := x7.cell 0 (.int .i64 a1) rfl;have x71 := x7.cell 1 (.int .i64 a2) rfl;have x90 := x9.cell 0 (.int .i64 c1) rfl;have x91 := x9.cell 1 (.int .i64 c2) rfl;have l7 : w.heap.size + 4 <= g7 := hg7;have l9 : w.heap.size + 4 <= g9 := hg9;have z0 := (b4.ext hE).cell 0 _ rfl;have z1 := (b4.ext hE).cell 1 _ rfl;have f0 := (b4.ext hE).frozen 0;have f1 := (b4.ext hE).frozen 1;have z2 := (b5.ext hE).cell 0 _ rfl;have z3 := (b5.ext hE).cell 1 _ rfl;have f2 := (b5.ext hE).frozen 0;have f3 := (b5.ext hE).frozen 1;refine wp_region_held_drew (S := (fun U => Box U g7 94 #[.int .i64 a1, .int .i64 a2] /\ Box U g9 94 #[.int .i64 c1, .int .i64 c2])) (by kernel_rfl) ⟨x7.ext hE.drew, x9.ext hE.drew⟩ (fun HS => ?_);refine Hd.take (i := 0) (d := some 24) (v := ?v_0) rfl rfl (by kernel_rfl) (by kernel_rfl) (by kernel_rfl) (fun _ _ _ _ _ => ⟨fun h => h, fun h => h⟩) (Or.inl ⟨by rfl, ?y_0⟩) HS ?r_0
  case y_0 => intro w' hSw;have k0 := hSw.1.cell 0 _ rfl;have k1 := hSw.1.cell 1 _ rfl;have k2 := hSw.2.cell 0 _ rfl;have k3 := hSw.2.cell 1 _ rfl;go_simp;try rfl
  try simp only [zP]
  refine Hd.take (i := 1) (d := some 25) (v := ?v_1) rfl rfl (by kernel_rfl) (by kernel_rfl) (by kernel_rfl) (fun _ _ _ _ _ => ⟨fun h => h, fun h => h⟩) (Or.inl ⟨by rfl, ?y_1⟩) HS ?r_1
  case y_1 => intro w' hSw;have k0 := hSw.1.cell 0 _ rfl;have k1 := hSw.1.cell 1 _ rfl;have k2 := hSw.2.cell 0 _ rfl;have k3 := hSw.2.cell 1 _ rfl;go_simp;try rfl
  try simp only [zP]
  refine Hd.take (i := 2) (d := some 26) (v := ?v_2) rfl rfl (by kernel_rfl) (by kernel_rfl) (by kernel_rfl) (fun _ _ _ _ _ => ⟨fun h => h, fun h => h⟩) (Or.inl ⟨by rfl, ?y_2⟩) HS ?r_2
  case y_2 => intro w' hSw;have k0 := hSw.1.cell 0 _ rfl;have k1 := hSw.1.cell 1 _ rfl;have k2 := hSw.2.cell 0 _ rfl;have k3 := hSw.2.cell 1 _ rfl;go_simp;try rfl
  try simp only [zP]
  have e4 := fin_ints (a := a1) (b := a2) b4;refine wpAnyH_ready (rs := [3]) (by kernel_rfl) (by simp) (AllReadyH.cons rfl (fun K hK => ?_) AllReadyH.nil);go_simp;refine hK.out _ _ ⟨(e4.2.2.2 _ _ _ (by omega) x7).ext (Ext.refl _).drew, (e4.2.2.2 _ _ _ (by omega) x9).ext (Ext.refl _).drew⟩ (fun _ => ?_);clear hK K
  try simp only [zP]
  have e5 := e4.2.2.2 _ _ _ (by omega) b5;have z40 := e5.cell 0 _ rfl;have z41 := e5.cell 1 _ rfl;have z42 := e5.frozen 0;have z43 := e5.frozen 1;have e6 := fin_ints (a := c1) (b := c2) e5;unfold set2 at z40 z41 z42 z43;refine wpAnyH_ready (rs := [4]) (by kernel_rfl) (by simp) (AllReadyH.cons rfl (fun K hK => ?_) AllReadyH.nil);go_simp;refine hK.out _ _ ⟨(e6.2.2.2 _ _ _ (by omega) (e4.2.2.2 _ _ _ (by omega) x7)).ext (Ext.refl _).drew, (e6.2.2.2 _ _ _ (by omega) (e4.2.2.2 _ _ _ (by omega) x9)).ext (Ext.refl _).drew⟩ (fun _ => ?_);clear hK K
  try simp only [zP]
  refine wpAnyH_ready (rs := [5]) (by kernel_rfl) (by simp) (AllReadyH.cons rfl (fun K hK => ?_) AllReadyH.nil);go_simp;refine hK.out _ _ ⟨(e6.2.2.2 _ _ _ (by omega) (e4.2.2.2 _ _ _ (by omega) x7)).ext (Ext.refl _).drew, (e6.2.2.2 _ _ _ (by omega) (e4.2.2.2 _ _ _ (by omega) x9)).ext (Ext.refl _).drew⟩ (fun _ => ?_);clear hK K
  try simp only [zP]
  refine wpAnyH_done (by kernel_rfl) ?_ _
  go_wp2_with fail
  obtain ⟨k1, k2, k3, _⟩ := fin_pairs (a := a1) (b := a2) (c := c1) (d := c2) (b4.ext hE) (b5.ext hE) (by omega);have r0 := k1.cell 0 (.int .i64 (a1)) rfl;have r1 := k1.cell 1 (.int .i64 (a2)) rfl;have r2 := k2.cell 0 (.int .i64 (c1)) rfl;have r3 := k2.cell 1 (.int .i64 (c2)) rfl;unfold set2 at r0 r1 r2 r3;exact bodyPost_ret (v := .tuple #[.agg #[.int .i64 (a1), .int .i64 (a2)], .agg #[.int .i64 (c1), .int .i64 (c2)], .bool ok2]) (by simp [results, Tryz.results97, go_sem, r0, r1, r2, r3]) rfl ⟨a1, a2, c1, c2, ok2, rfl, (fun h => ⟨Hok1.out (by first | rfl | trivial), Hok2.out h⟩), (k3 _ (extW.trans hE) (by omega) (by omega)).drew⟩
end
def MulLe (K : Nat) : Prop := ∀ (A B : Option Addr) (c d n m : Nat) (xs ys : List Nat) (w : World), xs.length = n -> ys.length = m -> Rd w A xs -> Rd w B ys -> n <= K -> m <= K -> n <= c -> c <= maxLen -> m <= d -> d <= maxLen ->
  Calls Tryz.prog 113 #[.slice A n c, .slice B m d] w (RetN (fun zs => val zs = val xs * val ys /\ Nrm zs /\ zs.length <= xs.length + ys.length) w)
theorem Nrm.eq_nil {xs : List Nat} (h : Nrm xs) (hv : val xs = 0) : xs = [] := by
 have := h.len_le (k := 0) (by omega);exact List.eq_nil_of_length_eq_zero (by omega)
theorem Apart.nil (A : Option Addr) (g : Nat) : Apart A [] g := fun h => absurd rfl h
theorem Rd.trimL {w : World} {A : Option Addr} {xs : List Nat} (h : Rd w A xs) : Rd w A (trimL xs) := by rw [trimL_take]; exact h.take _
theorem Apart.trimL {A : Option Addr} {xs : List Nat} {g : Nat} (h : Apart A xs g) : Apart A (trimL xs) g := fun hn a ha => h (by rintro rfl; exact hn rfl) a ha
section
variable {A B : Option Addr} {c d n m : Nat} {xs ys : List Nat} {w : World}
theorem int_subtractFrom_0 : Calls Tryz.prog 159 #[.slice A 0 c, .slice B 0 d] w fun e w' => e = .returned (.tuple #[]) /\ w' = w := by
 go_enter Tryz.func159, Tryz.ntmps159
 go_wp2
 go_loopw [4, 12] (fun cr i wr => i = .int .i64 0 /\ cr = .int .u64 0 /\ wr = w) (fun _ i _ => 0)
 case atStart => exact ⟨rfl, rfl, rfl⟩
 case round =>
  obtain ⟨rfl, rfl, rfl⟩ := hrel
  go_wp2
  go_loopw [4, 8] (fun cr i wr' => i = .int .i64 0 /\ cr = .int .u64 0 /\ wr' = wr) (fun _ i _ => 0)
  case atStart => exact ⟨rfl, rfl, rfl⟩
  case round =>
   obtain ⟨rfl, rfl, rfl⟩ := hrel
   go_wp2
   go_end0
   exact ⟨rfl, rfl⟩
set_option maxRecDepth 100000 in
theorem int_addHalves_g {g N cz off K : Nat} {pre zs0 : List Nat} (hK : MulLe K) (hblk0 : BlkN w g (pre ++ zs0)) (hoff : pre.length = off) (hN : zs0.length = N) (hw : W32 zs0) (hx : Rd w A xs) (hm : xs.length = n) (hap : Apart A xs g) (hy : Rd w B ys) (hp : ys.length = n) (hbp : Apart B ys g)
  (h2 : 2 <= n) (hnK : (n + 1) / 2 + 1 <= K) (h100 : n <= 100000) (hl : n + n <= N) (hN2 : N <= 900000) (hf : val zs0 + val xs * val ys < 4294967296 ^ N) (hc : n <= c) (hcm : c <= maxLen) (hd : n <= d) (hdm : d <= maxLen) (hcz : N <= cz) (hczm : cz <= maxLen) :
  Calls Tryz.prog 163 #[.slice (some ⟨g, off, none⟩) N cz, .slice A n c, .slice B n d] w (Turned w g pre N [] fun zs => val zs = val zs0 + val xs * val ys) := by
 obtain ⟨ba, oa, rfl⟩ := hx.some (by omega);obtain ⟨bb, ob, rfl⟩ := hy.some (by omega);obtain ⟨h, hh⟩ : ∃ h, h = (n + 1) / 2 := ⟨_, rfl⟩;have Hh := Lib.hid (show ((n : Int) + 1) / 2 = (h : Int) by omega);have hh1 : h < n := by omega
 have hh2 : n <= 2 * h := by omega
 have hh3 : 2 * h <= n + 1 := by omega
 have hhK : h + 1 <= K := by omega
 clear hnK;have Hoff := Lib.hid hoff;clear hoff;have Hm := Lib.hid hm;have Hp := Lib.hid hp;have HN := Lib.hid hN;have Hf := Lib.hid hf;clear hm hp hN hf hh;unfold maxLen at hcm hdm hczm;have ra0 := hx.take h;have ra1 := hx.drop h;have rb0 := hy.take h;have rb1 := hy.drop h;have k1 : (h : Int) <= (n : Int) := by omega
 have k2 : (h : Int) <= (c : Int) := by omega
 have k3 : (h : Int) <= (d : Int) := by omega
 have k4 : (n : Int) <= (c : Int) := by omega
 have k5 : (n : Int) <= (d : Int) := by omega
 have k6 : ¬ c = h := by omega
 have k7 : ¬ d = h := by omega
 go_enter Tryz.func163, Tryz.ntmps163
 go_upto_region 1 with (fail)
 rw [Hh.out];have ES0 := Ext.refl w;refine wp_region_held_drew (S := Ext w) (by kernel_rfl) ES0.drew (fun ES => ?_);clear ES0;refine Late.s0 ES (fun hAl hQ => ?_);refine Late.u 0 18 hQ ?_
 try simp only [zP]
 refine Late.u 1 19 hQ ?_
 try simp only [zP]
 refine Late.u 2 20 hQ ?_
 try simp only [zP]
 refine Late.u 4 22 hQ ?_
 try simp only [zP]
 refine Late.u 5 23 hQ ?_
 try simp only [zP]
 refine Late.u 6 24 hQ ?_
 try simp only [zP]
 refine Late.u 8 26 hQ ?_
 try simp only [zP]
 refine Late.u 9 27 hQ ?_
 try simp only [zP]
 refine Late.u 10 28 hQ ?_
 try simp only [zP]
 refine Late.u 12 30 hQ ?_
 try simp only [zP]
 refine Late.u 13 31 hQ ?_
 try simp only [zP]
 refine Late.u 14 32 hQ ?_
 try simp only [zP]
 refine Late.cl (i := 3) rfl hAl hQ (fun w3 e3 E3 K hK => ?_);go_simp
 (go_at_call 114; refine (int_trimN (xs := xs.take h) (by have := Hm.out; have := Hp.out; simp; omega) (ra0.ext E3) (by omega) (by unfold maxLen; omega)).mono ?_; rintro e v3 ⟨rfl, rfl⟩)
 refine hK.out _ _ (Ext.refl _) ?_;clear hK K
 try simp only [zP]
 refine Late.cl (i := 7) rfl hAl hQ (fun w7 e7 E7 K hK => ?_);go_simp
 (go_at_call 114; refine (int_trimN (xs := xs.drop h) (by have := Hm.out; have := Hp.out; simp; omega) (ra1.ext E7) (by omega) (by unfold maxLen; omega)).mono ?_; rintro e v7 ⟨rfl, rfl⟩)
 refine hK.out _ _ (Ext.refl _) ?_;clear hK K
 try simp only [zP]
 refine Late.cl (i := 11) rfl hAl hQ (fun w11 e11 E11 K hK => ?_);go_simp
 (go_at_call 114; refine (int_trimN (xs := ys.take h) (by have := Hm.out; have := Hp.out; simp; omega) (rb0.ext E11) (by omega) (by unfold maxLen; omega)).mono ?_; rintro e v11 ⟨rfl, rfl⟩)
 refine hK.out _ _ (Ext.refl _) ?_;clear hK K
 try simp only [zP]
 refine Late.cl (i := 15) rfl hAl hQ (fun w15 e15 E15 K hK => ?_);go_simp
 (go_at_call 114; refine (int_trimN (xs := ys.drop h) (by have := Hm.out; have := Hp.out; simp; omega) (rb1.ext E15) (by omega) (by unfold maxLen; omega)).mono ?_; rintro e v15 ⟨rfl, rfl⟩)
 refine hK.out _ _ (Ext.refl _) ?_;clear hK K
 try simp only [zP]
 refine Late.u 16 7 hQ ?_
 try simp only [zP]
 refine Late.u 17 8 hQ ?_
 try simp only [zP]
 refine Late.u 18 9 hQ ?_
 try simp only [zP]
 refine Late.u 19 10 hQ ?_
 try simp only [zP]
 refine Late.d0 (fun wz ez Ez => ?_);clear hAl hQ ES;have ta0 := trimL_len (xs.take h);have ta1 := trimL_len (xs.drop h);have tb0 := trimL_len (ys.take h);have tb1 := trimL_len (ys.drop h);rw [List.length_take] at ta0 tb0;rw [List.length_drop] at ta1 tb1;rw [Hm.out] at ta0 ta1;rw [Hp.out] at tb0 tb1;have qa0 : Rd w (some ⟨ba, oa, none⟩) (trimL (xs.take h)) := by rw [trimL_take]; exact ra0.take _
 have qa1 : Rd w (some ⟨ba, oa + h, none⟩) (trimL (xs.drop h)) := by rw [trimL_take]; exact ra1.take _
 have qb0 : Rd w (some ⟨bb, ob, none⟩) (trimL (ys.take h)) := by rw [trimL_take]; exact rb0.take _
 have qb1 : Rd w (some ⟨bb, ob + h, none⟩) (trimL (ys.drop h)) := by rw [trimL_take]; exact rb1.take _
 generalize hta0 : trimL (xs.take h) = l0 at *;generalize hta1 : trimL (xs.drop h) = l1 at *;generalize htb0 : trimL (ys.take h) = m0 at *;generalize htb1 : trimL (ys.drop h) = m1 at *;have va0 : val l0 = val (xs.take h) := by rw [<- hta0, val_trimL]
 have va1 : val l1 = val (xs.drop h) := by rw [<- hta1, val_trimL]
 have vb0 : val m0 = val (ys.take h) := by rw [<- htb0, val_trimL]
 have vb1 : val m1 = val (ys.drop h) := by rw [<- htb1, val_trimL]
 have Va0 := Lib.hid va0;have Va1 := Lib.hid va1;have Vb0 := Lib.hid vb0;have Vb1 := Lib.hid vb1;clear hta0 hta1 htb0 htb1 va0 va1 vb0 vb1 ra0 ra1 rb0 rb1
 go_wp2_with fail
 refine (hK _ _ _ _ _ _ _ _ _ rfl rfl (qa0.ext Ez) (qb0.ext Ez) (by omega) (by omega) (by omega) (by unfold maxLen; omega) (by omega) (by unfold maxLen; omega)).mono ?_;rintro e u1 ⟨A1, c1, lo, rfl, hr1, hc1, hm1, ⟨hv1, hn1, hl1⟩, hx1⟩;have Hv1 := Lib.hid hv1;clear hv1;have F1 := Ez.trans hx1
 go_wp2_with fail
 refine (hK _ _ _ _ _ _ _ _ _ rfl rfl (qa1.ext F1) (qb1.ext F1) (by omega) (by omega) (by omega) (by unfold maxLen; omega) (by omega) (by unfold maxLen; omega)).mono ?_;rintro e u2 ⟨A2, c2, hi, rfl, hr2, hc2, hm2, ⟨hv2, hn2, hl2⟩, hx2⟩;have Hv2 := Lib.hid hv2;clear hv2;have F2 := F1.trans hx2
 go_wp2_with fail
 refine (int_add rfl rfl (qa0.ext F2) (qa1.ext F2) (by omega) (by omega)).mono ?_;rintro e u3 ⟨A3, c3, sa, rfl, hr3, hc3, hm3, ⟨hv3, hn3, hl3⟩, hx3⟩;have Hv3 := Lib.hid hv3;clear hv3;have F3 := F2.trans hx3
 go_wp2_with fail
 refine (int_add rfl rfl (qb0.ext F3) (qb1.ext F3) (by omega) (by omega)).mono ?_;rintro e u4 ⟨A4, c4, sb, rfl, hr4, hc4, hm4, ⟨hv4, hn4, hl4⟩, hx4⟩;have Hv4 := Lib.hid hv4;clear hv4;have F4 := F3.trans hx4
 go_wp2_with fail
 refine (hK _ _ _ _ _ _ _ _ _ rfl rfl (hr3.rd.ext hx4) hr4.rd (by omega) (by omega) hc3 hm3 hc4 hm4).mono ?_;rintro e u5 ⟨A5, c5, mi, rfl, hr5, hc5, hm5, ⟨hv5, hn5, hl5⟩, hx5⟩;have F5 := F4.trans hx5;have sx := val_split xs h (by have := Hm.out; omega);have sy := val_split ys h (by have := Hp.out; omega);rw [Hv3.out, Hv4.out, Va0.out, Va1.out, Vb0.out, Vb1.out] at hv5;have hlo := Hv1.out;have hhi := Hv2.out;rw [Va0.out, Vb0.out] at hlo;rw [Va1.out, Vb1.out] at hhi
 have hmul : val xs * val ys = val (xs.take h) * val (ys.take h) + 4294967296 ^ h * (val (xs.take h) * val (ys.drop h) + val (xs.drop h) * val (ys.take h)) + 4294967296 ^ h * 4294967296 ^ h * (val (xs.drop h) * val (ys.drop h)) := by
  rw [sx, sy]; exact kar_all
 obtain ⟨wmi, hh5⟩ := hr5
 rcases hh5 with rfl | ⟨g5, rfl, hg5, hb5⟩
 case' inl =>
  obtain ⟨mk, hmk0⟩ : ∃ mk : List Nat, mk = [] := ⟨_, rfl⟩;have hz0 : (val (xs.take h) + val (xs.drop h)) * (val (ys.take h) + val (ys.drop h)) = 0 := by rw [<- hv5]; rfl
  have hz1 : val (xs.take h) * val (ys.take h) <= 0 := by rw [<- hz0]; exact kar_low
  have hz2 : val (xs.drop h) * val (ys.drop h) <= 0 := by rw [<- hz0, Nat.add_comm (val (xs.take h)), Nat.add_comm (val (ys.take h))]; exact kar_low
  have hlo1 : lo = [] := hn1.eq_nil (by omega);have hhi1 : hi = [] := hn2.eq_nil (by omega)
  have hvk0 : val mk = val (xs.take h) * val (ys.drop h) + val (xs.drop h) * val (ys.take h) := by
   rw [hmk0];exact kar_mid (m1 := 0) (by omega) (by show val [] + _ = _; rw [show val [] = 0 from rfl]; omega)
  have Hlo := Lib.hid hlo;have Hhi := Lib.hid hhi;have Hmul := Lib.hid hmul;have Hvk := Lib.hid hvk0;clear hv5 hlo hhi hmul sx sy hz0 hvk0 hz1 hz2;subst hlo1;subst hhi1;have y1 : Rd u5 A1 [] := Rd.nil _ _;have y2 : Rd u5 A2 [] := Rd.nil _ _;have hlt : g < w.heap.size := hblk0.lt;have bz := hblk0.ext F5;have Rk : Rd u5 A5 mk := by rw [hmk0]; exact Rd.nil _ _
  have apk : Apart A5 mk g := by rw [hmk0]; exact Apart.nil _ _
  have Hck := Lib.hid (show mk.length = 0 by rw [hmk0]; rfl);have wmk : W32 mk := by rw [hmk0]; exact W32.nil
  have F7 : Ext w u5 := F5;clear hmk0
  go_wp2_with fail
  refine (int_subtractFrom_0).mono ?_;rintro e u6 ⟨rfl, rfl⟩
  go_wp2_with fail
  refine (int_subtractFrom_0).mono ?_;rintro e u7 ⟨rfl, rfl⟩
 case' inr =>
  have hlml : val lo <= val mi := by rw [hv5, hlo]; exact kar_low
  have hlen1 : lo.length <= mi.length := by
   refine Nat.le_of_not_lt fun hlt => ?_
   have := val_lt_of_len wmi hn1 hlt;omega
  have Hvm := Lib.hid hv5;have Hlo := Lib.hid hlo;have Hhi := Lib.hid hhi;have Hmul := Lib.hid hmul;have Hlml := Lib.hid hlml;clear hv5 hlo hhi hmul hlml sx sy;have z1 := hr1.rd.ext (((hx2.trans hx3).trans hx4).trans hx5);have z2 := hr2.rd.ext ((hx3.trans hx4).trans hx5);have hu5 : u1.heap.size <= u4.heap.size := ((hx2.trans hx3).trans hx4).size;have hu6 : u2.heap.size <= u4.heap.size := (hx3.trans hx4).size;have ap1 : Apart A1 lo g5 := (hr1.rd.ext ((hx2.trans hx3).trans hx4)).apart hg5;have ap2 : Apart A2 hi g5 := (hr2.rd.ext (hx3.trans hx4)).apart hg5;have hgw : w.heap.size <= g5 := Nat.le_trans F4.size hg5
  go_wp2_with fail
  refine (int_subtractFrom (pre := []) (zs0 := mi) (post := []) _ _ lo _ (by simpa using hb5) rfl rfl wmi z1 rfl ap1 hlen1 Hlml.out (by omega)).mono ?_;rintro e u6 ⟨mj, rfl, hlj, wmj, hbj, hvj, hmj⟩;simp only [List.nil_append, List.append_nil] at hbj;rw [Hvm.out, Hlo.out] at hvj;have hhl : val hi <= val mj := by rw [Hhi.out]; exact kar_high hvj
  have hlen2 : hi.length <= mi.length := by
   refine Nat.le_of_not_lt fun hlt => ?_
   have h1 := val_lt_of_len wmi hn2 hlt;have h2 := Hvm.out;omega
  have Hvj := Lib.hid hvj;have Hhl := Lib.hid hhl;have Hlj := Lib.hid hlj;clear hvj hhl hlj;have hlt : g < w.heap.size := hblk0.lt;have hne : g ≠ g5 := by omega
  go_wp2_with fail
  refine (int_subtractFrom (pre := []) (zs0 := mj) (post := []) _ _ hi _ (by simpa using hbj) rfl Hlj.out wmj (z2.mod hmj ap2) rfl ap2 hlen2 Hhl.out (by omega)).mono ?_;rintro e u7 ⟨mk, rfl, hlk, wmk, hbk, hvk, hmk⟩;simp only [List.nil_append, List.append_nil] at hbk;rw [Hhi.out] at hvk;have hvk2 := kar_mid Hvj.out hvk;have Hvk := Lib.hid hvk2;have Hlk := Lib.hid hlk;clear hvk hvk2 hlk;have y1 := (z1.mod hmj ap1).mod hmk ap1;have y2 := (z2.mod hmj ap2).mod hmk ap2;have bz := ((hblk0.ext F5).mod hmj hne).mod hmk hne;have Rk := hbk.rd0 wmk;have apk : Apart (some ⟨g5, 0, none⟩) mk g := fun _ a ha => by injection ha with ha; subst ha; show g5 ≠ g; omega
  have Hck := Lib.hid (show mk.length = mi.length by exact Hlk.out);have F7 : Ext w u7 := Mod.ext (Mod.ext F5 hmj hgw) hmk hgw
 all_goals
  have ag1 : Apart A1 _ g := fun hn a ha => by
   obtain ⟨_, hl | ⟨gl, hA, hgl, _⟩⟩ := hr1
   ·exact absurd hl hn
   ·have hs := Ez.size
    rw [ha] at hA; injection hA with hA; subst hA; show gl ≠ g; omega
  have ag2 : Apart A2 _ g := fun hn a ha => by
   obtain ⟨_, hl | ⟨gl, hA, hgl, _⟩⟩ := hr2
   ·exact absurd hl hn
   ·have hs := F1.size
    rw [ha] at hA; injection hA with hA; subst hA; show gl ≠ g; omega
  have hfm := Hf.out;rw [Hmul.out] at hfm;have hp1 : 0 < 4294967296 ^ h := Nat.pow_pos (by omega)
  go_wp2_with fail
  refine (int_addTo (pre := pre) (zs0 := zs0) (post := []) _ _ _ _ (by simpa using bz) Hoff.out HN.out hw y1 rfl ag1 (by first | omega | (simp; done) | (simp; omega)) (by omega)).mono ?_;rintro e u8 ⟨t1, rfl, hlt1, wt1, hbt1, ⟨cy1, _, hvt1⟩, hmt1⟩;rw [List.append_nil] at hbt1;rw [Hlo.out] at hvt1
  have hvt : val t1 = val zs0 + val (xs.take h) * val (ys.take h) := by
   have := kar_step (z := zs0) (zt := t1) (k := 0) (n := N) (cy := cy1) (m := val (xs.take h) * val (ys.take h)) HN.out (by omega) (by simpa using hvt1) (by rw [Nat.pow_zero, Nat.one_mul]; omega)
   simpa using this
  have e1 : (4294967296 : Nat) ^ N = 4294967296 ^ h * 4294967296 ^ (N - h) := by rw [<- Nat.pow_add]; congr 1; omega
  have e2 : (4294967296 : Nat) ^ N = 4294967296 ^ h * 4294967296 ^ h * 4294967296 ^ (N - 2 * h) := by rw [<- Nat.pow_add, <- Nat.pow_add]; congr 1; omega
  have e3 : (4294967296 : Nat) ^ (2 * h) = 4294967296 ^ h * 4294967296 ^ h := by rw [<- Nat.pow_add]; congr 1; omega
  have hmid : val mk < 4294967296 ^ (N - h) := by
   rw [Hvk.out];rw [e1] at hfm;exact kar_lt1 hp1 hfm
  have htk := Nrm.len_le (Nrm.trimL mk) (by rw [val_trimL]; exact hmid)
  have hhk := Nrm.len_le hn2 (k := N - 2 * h) (by
   rw [Hhi.out];have hfm2 := hfm;rw [e2] at hfm2;exact kar_lt2 (Nat.mul_pos hp1 hp1) hfm2)
  have hstep1 : val zs0 + val (xs.take h) * val (ys.take h) + 4294967296 ^ h * (val (xs.take h) * val (ys.drop h) + val (xs.drop h) * val (ys.take h)) < 4294967296 ^ N := by omega
  have Hst1 := Lib.hid hstep1;have Hvt := Lib.hid hvt;have Hlt1 := Lib.hid hlt1;have E3 := Lib.hid e3;have Hfm := Lib.hid hfm;clear e1 e2 e3 hvt hvt1 hlt1 hmid hstep1 hfm hp1;have Rk1 := Rk.mod hmt1 apk;have rk1 := Rk1.trimL;have y3 := y2.mod hmt1 ag2;have hb8 : BlkN u8 g ((pre ++ t1.take h) ++ t1.drop h ++ []) := by rw [List.append_nil, List.append_assoc, List.take_append_drop]; exact hbt1
  have l1 : (h : Int) <= (N : Int) := by omega
  have l2 : (N : Int) <= (cz : Int) := by omega
  have l3 : (h : Int) <= (cz : Int) := by omega
  have l4 : ¬ cz = h := by omega
  have apk1 := apk.trimL;clear k1 k2 k3 k4 k5 k6 k7 hx hy hap hbp ta0 ta1 tb0 tb1 qa0 qa1 qb0 qb1 hr1 hr2 hr3 hr4 hx1 hx2 hx3 hx4 hx5
  go_upto_region 7 with (fail)
  go_region_held3 (fun _ => True) (trivial)
   (first | (go_at_call 114; refine (int_trimN (xs := mk) Hck.out (Rk1.ext (Ext.refl _).drew) hc5 hm5).mono ?_; rintro e u8' ⟨rfl, rfl⟩) | (go_at_call 156; refine (int_addTo (n := N - h) (pre := pre ++ t1.take h) (zs0 := t1.drop h) (post := []) _ _ (trimL mk) _ (hb8.ext (Ext.refl _).drew) (by have := Hlt1.out; have := Hoff.out; simp; omega) (by have := Hlt1.out; simp; omega) (wt1.drop h) (rk1.ext (Ext.refl _).drew) rfl apk1 (by omega) (by omega)).mono ?_; rintro e u9 ⟨t2, rfl, hlt2, wt2, hbt2, ⟨cy2, _, hvt2⟩, hmt2⟩))
  rw [List.append_nil, List.append_assoc] at hbt2;rw [val_trimL, Hvk.out] at hvt2;have hv2 := kar_step (z := t1) (zt := t2) (k := h) (n := N) (cy := cy2) Hlt1.out (by omega) hvt2 (by rw [Hvt.out]; exact Hst1.out);have hl2z : (t1.take h ++ t2).length = N := by have := Hlt1.out; rw [List.length_append, List.length_take, hlt2]; omega
  have hw2z := (wt1.take h).append wt2;generalize hz2 : t1.take h ++ t2 = z2 at hbt2 hv2 hl2z hw2z;rw [Hvt.out] at hv2;have Hv2z := Lib.hid hv2;have Hl2z := Lib.hid hl2z;clear hz2 hv2 hl2z hvt2 hlt2 wt2 wt1 hb8 Rk1 rk1;have y4 := y3.mod ((Mod.refl u8 g).drew.trans hmt2) ag2;have hb9 : BlkN u9 g ((pre ++ z2.take (2 * h)) ++ z2.drop (2 * h) ++ []) := by rw [List.append_nil, List.append_assoc, List.take_append_drop]; exact hbt2
  have m1 : (2 : Int) * (h : Int) <= (N : Int) := by omega
  have m2 : (0 : Int) <= 2 * (h : Int) := by omega
  have m3 : (2 : Int) * (h : Int) <= (cz : Int) := by omega
  have m4 : ¬ cz = 2 * h := by omega
  have m5 : ((2 : Int) * (h : Int)).toNat = 2 * h := by omega
  have Hm5 := Lib.hid m5
  go_wp2_with (go_at_call 156; refine (int_addTo (n := N - 2 * h) (pre := pre ++ z2.take (2 * h)) (zs0 := z2.drop (2 * h)) (post := []) _ _ _ _ hb9 (by have := Hl2z.out; have := Hoff.out; simp; omega) (by have := Hl2z.out; simp; omega) (hw2z.drop _) y4 rfl ag2 (by first | omega | (simp; done) | (simp; omega)) (by omega)).mono ?_; rintro e u10 ⟨t3, rfl, hlt3, wt3, hbt3, ⟨cy3, _, hvt3⟩, hmt3⟩)
  go_end0
  have hfm := Hfm.out;rw [Hhi.out] at hvt3;have hv3 := kar_step (z := z2) (zt := t3) (k := 2 * h) (n := N) (cy := cy3) Hl2z.out (by omega) hvt3 (by rw [Hv2z.out, E3.out]; omega);rw [Hv2z.out, E3.out] at hv3;refine ⟨z2.take (2 * h) ++ t3, rfl, by have := Hl2z.out; rw [List.length_append, List.length_take, hlt3]; omega, (hw2z.take _).append wt3, by simpa [List.append_assoc] using hbt3, by show val _ = _; rw [hv3, Hmul.out]; omega, ?_⟩;exact (((F7.mod g).trans hmt1).trans ((Mod.refl u8 g).drew.trans hmt2)).trans hmt3
end
end
end Go.Proofs.YtijdljfnmdoffaaGreatDoor
