/- Walks and laws, part 19. -/
import Derived.Test.YtmjmcinnbmjpdaaDoorMg7
import Derived.Test.YtmjmcinnbmjpdaaDoorMg12
import Derived.Test.YtmjmcinnbmjpdaaDoorMg15
import Derived.Test.YtmjmcinnbmjpdaaDoorMg16
import Derived.Test.YtmjmcinnbmjpdaaDoorMg18
import Derived.BigQuiet
namespace Go.Proofs.YtmjmcinnbmjpdaaDoor
open Go.RowKit
section
variable {A B : Option Addr} {c d n m : Nat} {xs ys : List Nat} {w : World} {s t : Bool}
end
end Go.Proofs.YtmjmcinnbmjpdaaDoor
namespace Go.Proofs.YtmjmcinnbmjpdaaDoor
open Go.RowKit
theorem big_val {xs : List Nat} (_hw : W32 xs) (h : 2 < (trimL xs).length) : 18446744073709551616 ≤ val xs := by
  have h2 := val_lt_of_len (xs := [4294967295, 4294967295]) (W32.pair (by omega) (by omega)) (Nrm.trimL xs) (by simpa using h)
  rw [val_trimL, val_pair] at h2
  omega
def fitsB (z : Int) : Bool := decide (-9223372036854775808 ≤ z ∧ z < 9223372036854775808)
def fitV (z : Int) : Int := if -9223372036854775808 ≤ z ∧ z < 9223372036854775808 then z else 0
theorem fit_yes {z : Int} (h : -9223372036854775808 ≤ z ∧ z < 9223372036854775808) : fitsB z = true ∧ fitV z = z := ⟨decide_eq_true h, if_pos h⟩
theorem fit_no {z : Int} (h : ¬ (-9223372036854775808 ≤ z ∧ z < 9223372036854775808)) : fitsB z = false ∧ fitV z = 0 := ⟨decide_eq_false h, if_neg h⟩
theorem neg_back {V : Nat} (h : V ≤ 9223372036854775808) : IntKind.i64.wrap (IntKind.u64.wrap (-(V : Int))) = -(V : Int) := by
  rw [IntKind.wrap_u64, IntKind.wrap_i64]; omega
theorem neg_back2 {V : Nat} (h : V ≤ 9223372036854775808) : IntKind.i64.wrap (-IntKind.i64.wrap (V : Int)) = -(V : Int) := by
  rw [IntKind.wrap_i64, IntKind.wrap_i64]; omega
theorem neg_back3 {V : Nat} (h : V ≤ 9223372036854775808) : wrap64 (-wrap64 (V : Int)) = -(V : Int) := by unfold wrap64; omega
/-- the value and the flag, in a tuple. -/
def RetV (z : Int) (w : World) (e : Ending) (w' : World) : Prop := e = .returned (.tuple #[.int .i64 (fitV z), .bool (fitsB z)]) ∧ Ext w w'
theorem ret_fit {z v : Int} {b : Bool} (h : fitsB z = b ∧ fitV z = v) : Ending.returned (.tuple #[.int .i64 v, .bool b]) = .returned (.tuple #[.int .i64 (fitV z), .bool (fitsB z)]) := by rw [h.1, h.2]
section
variable {A B : Option Addr} {c d n m : Nat} {xs ys : List Nat} {w : World} {s t : Bool}
set_option maxHeartbeats 400000 in
theorem ref_short (hn : xs.length = n) (hx : Rd w A xs) (h2 : n ≤ 2) : Calls Tryd.prog 49 #[.slice A n c] w fun e w' => e = .returned (.int .u64 (val xs)) ∧ w = w' := by
  subst hn
  match xs, h2 with
  | [], _ =>
    go_enter Tryd.func49, Tryd.ntmps49
    go_wp2
    go_loop [3, 4] (fun v i => i = .int .i64 (-1) ∧ v = .int .u64 0) (fun _ _ => 0)
    case atStart => exact ⟨rfl, rfl⟩
    case round =>
      obtain ⟨rfl, rfl⟩ := hrel
      go_wp2
      go_ret
      exact ⟨rfl, rfl⟩
  | [a], _ =>
    obtain ⟨b, off, rfl, hb, hc⟩ := hx.2 (by simp)
    have hc0 := hc 0 (by simp)
    simp only [Nat.add_zero, List.getElem_cons_zero] at hc0
    have ha := hx.1 a (by simp)
    clear hc
    go_enter Tryd.func49, Tryd.ntmps49
    go_wp2
    go_loop [3, 4] (fun v i => (i = .int .i64 0 ∧ v = .int .u64 0) ∨ (i = .int .i64 (-1) ∧ v = .int .u64 (a : Int))) (fun _ i => (intOf i + 1).toNat)
    case atStart => exact .inl ⟨rfl, rfl⟩
    case round =>
      rcases hrel with ⟨rfl, rfl⟩ | ⟨rfl, rfl⟩
      · go_wp2
        exact ⟨.inr ⟨rfl, congrArg (Value.int .u64) (or_zero ha)⟩, by simp [intOf]⟩
      · go_wp2
        go_ret
        exact ⟨by simp [val], rfl⟩
  | [a, a2], _ =>
    obtain ⟨b, off, rfl, hb, hc⟩ := hx.2 (by simp)
    have hc0 := hc 0 (by simp)
    have hc1 := hc 1 (by simp)
    simp only [Nat.add_zero, List.getElem_cons_zero, List.getElem_cons_succ] at hc0 hc1
    have ha := hx.1 a (by simp)
    have ha2 := hx.1 a2 (by simp)
    clear hc
    go_enter Tryd.func49, Tryd.ntmps49
    go_wp2
    go_loop [3, 4] (fun v i => (i = .int .i64 1 ∧ v = .int .u64 0) ∨ (i = .int .i64 0 ∧ v = .int .u64 (a2 : Int)) ∨ (i = .int .i64 (-1) ∧ v = .int .u64 (val [a, a2] : Nat))) (fun _ i => (intOf i + 1).toNat)
    case atStart => exact .inl ⟨rfl, rfl⟩
    case round =>
      rcases hrel with ⟨rfl, rfl⟩ | ⟨rfl, rfl⟩ | ⟨rfl, rfl⟩
      · go_wp2
        exact ⟨.inr (.inl ⟨rfl, congrArg (Value.int .u64) (or_zero ha2)⟩), by simp [intOf]⟩
      · go_wp2
        exact ⟨.inr (.inr ⟨rfl, congrArg (Value.int .u64) ((high_or ha ha2).trans (by rw [val_pair, Nat.add_comm, Nat.mul_comm]))⟩), by simp [intOf]⟩
      · go_wp2
        go_ret
        exact ⟨rfl, rfl⟩
end
end Go.Proofs.YtmjmcinnbmjpdaaDoor
namespace Go.Proofs.YtmjmcinnbmjpdaaDoor
open Go.RowKit
attribute [local go_sem ↓] Go.wp_at_zero Go.wp_at_succ
section
variable {A B : Option Addr} {c d n m : Nat} {xs ys : List Nat} {w : World} {s t : Bool}
set_option maxHeartbeats 1000000 in
theorem ref_divide_lt (hn : xs.length = n) (hm : ys.length = m) (hx : Rd w A xs) (hy : Rd w B ys) (hc : n ≤ c) (hcm : c ≤ maxLen) (hnx : Nrm xs) (hny : Nrm ys) (hlt : val xs < val ys) (h1 : n ≤ 100000) (h2 : m ≤ 100000) :
    Calls Tryd.prog 29 #[.slice A n c, .slice B m d] w (RetQ (val xs) (val ys) w) := by
  have hcm1 := Lib.hid (show cmpL xs ys = -1 by rw [cmpL_nrm hx.1 hy.1 hnx hny]; exact cmpI_of_lt hlt)
  have Hlt := Lib.hid hlt
  clear hlt
  subst hn
  subst hm
  go_enter Tryd.func29, Tryd.ntmps29
  go_wp2_with fail
  refine (ref_compare A B c d xs ys w hx hy (by unfold maxLen; omega) (by unfold maxLen; omega)).mono ?_
  rintro e w1 ⟨rfl, hext1⟩
  rw [hcm1.out]
  go_wp2_with fail
  go_ret2
  have h := Hlt.out
  exact ⟨none, 0, [], A, c, xs, rfl, Rd.nil _ _, hx.ext hext1, by simp, by unfold maxLen; omega, hc, hcm, by rw [Nat.div_eq_of_lt h]; rfl, by rw [Nat.mod_eq_of_lt h], Nrm.nil, hnx, hext1⟩
set_option maxRecDepth 100000 in
set_option maxHeartbeats 2000000 in
theorem ref_divide_two (hn : xs.length = n) (hm : ys.length = m) (hx : Rd w A xs) (hy : Rd w B ys) (hnx : Nrm xs) (hny : Nrm ys) (hge : val ys ≤ val xs) (h0 : 0 < m) (h2 : n ≤ 2) :
    Calls Tryd.prog 29 #[.slice A n c, .slice B m d] w (RetQ (val xs) (val ys) w) := by
  have hml := len_le hx.1 hny hge
  have hpos : val ys ≠ 0 := fun h => by
    have := hny.zero.1 h
    subst this
    simp at hm
    omega
  obtain ⟨CM, hCM, dCM⟩ : ∃ CM, cmpL xs ys = CM ∧ decide (CM < 0) = false := ⟨_, rfl, by
    rw [cmpL_nrm hx.1 hy.1 hnx hny]
    rcases Nat.lt_or_ge (val ys) (val xs) with h | h
    · rw [cmpI_of_gt h]; rfl
    · rw [cmpI_of_eq (by omega)]; rfl⟩
  have hvx := val_lt_two hx.1 (by omega)
  have hvy := val_lt_two hy.1 (by omega)
  have q1 : val xs / val ys ≤ val xs := Nat.div_le_self _ _
  have q2 : val xs % val ys < val ys := Nat.mod_lt _ (by omega)
  have e1 : val xs / val ys / 4294967296 < 4294967296 := by omega
  have e2 : val xs % val ys / 4294967296 < 4294967296 := by omega
  have Hvx := Lib.hid hvx
  have Hvy := Lib.hid hvy
  have Hq1 := Lib.hid q1
  have Hq2 := Lib.hid q2
  have E1 := Lib.hid e1
  have E2 := Lib.hid e2
  have HCM := Lib.hid hCM
  subst hn
  subst hm
  have Hml := Lib.hid hml
  have hz : ((val ys : Nat) : Int) ≠ 0 := by omega
  have hz0 : (((val ys : Nat) : Int) == 0) = false := by rw [beq_eq_false_iff_ne]; exact hz
  have hp1 : (1 : Int) ≤ ((val ys : Nat) : Int) := by omega
  clear hvx hvy q1 q2 e1 e2 hml hge hz hCM
  go_enter Tryd.func29, Tryd.ntmps29
  go_wp2_with fail
  refine (ref_compare A B c d xs ys w hx hy (by unfold maxLen; omega) (by have := Hml.out; unfold maxLen; omega)).mono ?_
  rintro e w1 ⟨rfl, hext1⟩
  rw [HCM.out]
  go_wp2_with fail
  refine (ref_short rfl (hx.ext hext1) h2).mono ?_
  rintro e w2 ⟨rfl, rfl⟩
  go_wp2_with fail
  refine (ref_short rfl (hy.ext hext1) (by have := Hml.out; omega)).mono ?_
  rintro e w2 ⟨rfl, rfl⟩
  clear hp1 hz0
  generalize hX : val xs = X at *
  generalize hY : val ys = Y at *
  have HX := Lib.hid hX
  have HY := Lib.hid hY
  clear hX hY
  have hz0 : ((Y : Int) == 0) = false := by rw [beq_eq_false_iff_ne]; omega
  have hp1 : (1 : Int) ≤ (Y : Int) := by omega
  have hp0 : (0 : Int) ≤ (X : Int) := by omega
  go_wp2_with fail
  have hq : (X : Int) / (Y : Int) = ((X / Y : Nat) : Int) := (Int.natCast_ediv _ _).symm
  have hr : (X : Int) % (Y : Int) = ((X % Y : Nat) : Int) := (Int.natCast_emod _ _).symm
  have hq' : (X : Int).tdiv (Y : Int) = ((X / Y : Nat) : Int) := rfl
  have hr' : (X : Int).tmod (Y : Int) = ((X % Y : Nat) : Int) := rfl
  have hw1 : IntKind.u64.wrap ((X / Y : Nat) : Int) = ((X / Y : Nat) : Int) := wrap_nat (Nat.lt_of_le_of_lt Hq1.out Hvx.out)
  have hw2 : IntKind.u64.wrap ((X % Y : Nat) : Int) = ((X % Y : Nat) : Int) := wrap_nat (Nat.lt_trans Hq2.out Hvy.out)
  generalize hU : X / Y = U at *
  generalize hV : X % Y = V at *
  have HU := Lib.hid hU
  have HV := Lib.hid hV
  clear hp0 hp1 hU hV
  go_region_with (first | (go_at_call_of 50 U; refine (ref_words U E1.out).mono ?_; rintro e w3 ⟨A3, c3, qs, rfl, ho3, hc3, hm3, ⟨hv3, hn3, hl3⟩, hext3⟩; have Hv3 := Lib.hid hv3; clear hv3) | (go_at_call_of 50 V; refine (ref_words V E2.out).mono ?_; rintro e w4 ⟨A4, c4, rs, rfl, ho4, hc4, hm4, ⟨hv4, hn4, hl4⟩, hext4⟩; have Hv4 := Lib.hid hv4; clear hv4))
  all_goals
    go_wp2_with fail
    go_ret2
    have ext3 := (Ext.refl w1).drew.trans hext3
    have e3 := Hv3.out
    have e4 := Hv4.out
    exact ⟨A3, c3, qs, A4, c4, rs, rfl, ho3.rd.ext hext4, ho4.rd, hc3, hm3, hc4, hm4, by rw [e3, HU.out], by rw [e4, HV.out], hn3, hn4, hext1.trans (ext3.trans hext4)⟩
set_option maxHeartbeats 2000000 in
theorem ref_divide_word {y : Nat} (hn : xs.length = n) (hx : Rd w A xs) (hy : Rd w B [y]) (hy0 : y ≠ 0) (h2 : 2 < n) (h1 : n ≤ 100000) :
    Calls Tryd.prog 29 #[.slice A n c, .slice B 1 d] w (RetQ (val xs) y w) := by
  have hcm1 := Lib.hid (show cmpL xs [y] = 1 from cmpL_len_gt (by simp; omega))
  have hyl := hy.1 y (by simp)
  have hr32 : val xs % y < 4294967296 := by
    have := Nat.mod_lt (val xs) (show 0 < y by omega)
    omega
  subst hn
  go_enter Tryd.func29, Tryd.ntmps29
  go_wp2_with fail
  refine (ref_compare A B c d xs [y] w hx hy (by unfold maxLen; omega) (by unfold maxLen; simp)).mono ?_
  rintro e w1 ⟨rfl, hext1⟩
  rw [hcm1.out]
  obtain ⟨b1, o1, rfl, hb1, cb⟩ := (hy.ext hext1).at_ (i := 0) (by simp)
  simp only [Nat.add_zero, List.getElem_cons_zero] at cb
  go_wp2_with fail
  refine (ref_by rfl (hx.ext hext1) (by omega) hyl (by omega)).mono ?_
  rintro e w3 ⟨A3, c3, qs, rfl, ho3, hc3, hm3, hqv, hqn, hql, hext3⟩
  have Hqv := Lib.hid hqv
  clear hqv cb
  go_wp2_with fail
  refine (ref_words (val xs % y) (by omega)).mono ?_
  rintro e w5 ⟨A5, c5, rs, rfl, ho5, hc5, hm5, ⟨hv5, hn5, hl5⟩, hext5⟩
  have Hv5 := Lib.hid hv5
  clear hv5
  go_wp2_with fail
  go_ret2
  exact ⟨A3, c3, qs, A5, c5, rs, rfl, ho3.rd.ext hext5, ho5.rd, hc3, hm3, hc5, hm5, Hqv.out, Hv5.out, hqn, hn5, hext1.trans (hext3.trans hext5)⟩
theorem ref_divide (hn : xs.length = n) (hm : ys.length = m) (hx : Rd w A xs) (hy : Rd w B ys) (hc : n ≤ c) (hcm : c ≤ maxLen) (hnx : Nrm xs) (hny : Nrm ys) (h0 : 0 < m) (h1 : n ≤ 9000) (h2 : m ≤ 9000) :
    Calls Tryd.prog 29 #[.slice A n c, .slice B m d] w (RetQ (val xs) (val ys) w) := by
  rcases Nat.lt_or_ge (val xs) (val ys) with h | h
  · exact ref_divide_lt hn hm hx hy hc hcm hnx hny h (by omega) (by omega)
  · rcases Nat.lt_or_ge 2 n with h3 | h3
    · rcases Nat.lt_or_ge 1 m with h4 | h4
      · exact ref_divideL hn hm hx hy hnx hny h (by omega) h3 h1
      · obtain rfl : m = 1 := by omega
        obtain ⟨y, rfl⟩ : ∃ y, ys = [y] := by
          match ys, hm with
          | [y], _ => exact ⟨y, rfl⟩
        have hy0 : y ≠ 0 := by
          rintro rfl
          have := hny.last (by simp)
          simp at this
        rw [val_one]
        exact ref_divide_word hn hx hy hy0 h3 (by omega)
    · exact ref_divide_two hn hm hx hy hnx hny h h0 h3
end
end Go.Proofs.YtmjmcinnbmjpdaaDoor
namespace Go.Proofs.YtmjmcinnbmjpdaaDoor
open Go.RowKit
attribute [local go_sem ↓] Go.wp_at_zero Go.wp_at_succ
theorem look_rd' {w : World} {A : Option Addr} {c : Nat} {xs : List Nat} (h : Rd w A xs) : look w (.slice A xs.length c) = val xs := by
  cases A with
  | none =>
    by_cases h0 : xs = []
    · subst h0; rfl
    · obtain ⟨b, off, he, _⟩ := h.2 h0; cases he
  | some ad =>
    unfold look
    refine congrArg val (List.ext_getElem (by simp) fun i h1 h2 => ?_)
    obtain ⟨b, off, he, _, hc⟩ := h.at_ h2
    injection he with he
    subst he
    simp only [List.getElem_map, List.getElem_range, hc]
    simp
section
variable {A B : Option Addr} {c d n m : Nat} {xs ys : List Nat} {w : World} {s t : Bool}
set_option maxHeartbeats 1000000 in
theorem ref_GCD (hn : xs.length = n) (hm : ys.length = m) (hx : Rd w A xs) (hy : Rd w B ys) (hc : n ≤ c) (hcm : c ≤ maxLen) (hd : m ≤ d) (hdm : d ≤ maxLen) (h1 : n ≤ 9000) (h2 : m ≤ 9000) :
    Calls Tryd.prog 11 #[.agg #[.bool s, .slice A n c], .agg #[.bool t, .slice B m d]] w (RetI ((Nat.gcd (val xs) (val ys) : Nat) : Int) (max xs.length ys.length) w) := by
  have Hn := Lib.hid hn
  have Hm := Lib.hid hm
  clear hn hm
  have lx := trimL_len xs
  have ly := trimL_len ys
  have hxt : Rd w A (trimL xs) := by rw [trimL_take]; exact hx.take _
  have hyt : Rd w B (trimL ys) := by rw [trimL_take]; exact hy.take _
  have hg0 := Lib.hid (show Nat.gcd (val (trimL xs)) (val (trimL ys)) = Nat.gcd (val xs) (val ys) by rw [val_trimL, val_trimL])
  obtain ⟨L, hL⟩ : ∃ L, max xs.length ys.length = L := ⟨_, rfl⟩
  obtain ⟨G, hG⟩ : ∃ G, Nat.gcd (val xs) (val ys) = G := ⟨_, rfl⟩
  rw [hL, hG]
  have l1 : xs.length ≤ L := by omega
  have l2 : ys.length ≤ L := by omega
  have l3 : L ≤ 9000 := by have := Hn.out; have := Hm.out; omega
  have HG := Lib.hid hG
  clear hL hG
  go_enter Tryd.func11, Tryd.ntmps11
  go_upto_region 1 with (fail)
  obtain ⟨W, hW, extW, bx, by_, bz, hz⟩ := box3 w 24 24 24 #[.bool s, .slice A n c] #[.bool t, .slice B m d] #[.bool false, .slice none 0 0]
  rw [← hW]
  clear hW
  have x1 := bx.cell 1 (.slice A n c) rfl
  have y1 := by_.cell 1 (.slice B m d) rfl
  go_region_held3 (fun w' => w'.cell? ⟨w.heap.size, 1, none⟩ = some (.slice A n c) ∧ w'.cell? ⟨w.heap.size + 1, 1, none⟩ = some (.slice B m d)) (first | (go_split_ands; refine ⟨?_, ?_⟩ <;> first | (exact Ext.cellv (by assumption) (by assumption)) | (refine (cell_far2 (by omega)).trans ?_; assumption)) | go_keep)
    (first | (go_at_call_of 28 A; refine (ref_trimN Hn.out (hx.ext (by first | exact extW | exact extW.drew | exact extW.drewN _ | exact (extW.drew).drew)) hc hcm).mono ?_; rintro e w1 ⟨rfl, rfl⟩) | (go_at_call_of 28 B; refine (ref_trimN Hm.out (hy.ext (by first | exact extW | exact extW.drew | exact extW.drewN _ | exact (extW.drew).drew)) hd hdm).mono ?_; rintro e w1 ⟨rfl, rfl⟩))
  clear x1 y1 bx by_ hx hy
  go_wp2_with fail
  go_loopw [5, 6] (fun a b V => ∃ A1 c1 us B1 d1 vs, a = .slice A1 (List.length us) c1 ∧ b = .slice B1 (List.length vs) d1 ∧ Rd V A1 us ∧ Rd V B1 vs ∧ us.length ≤ c1 ∧ c1 ≤ maxLen ∧ vs.length ≤ d1 ∧ d1 ≤ maxLen ∧ Nrm us ∧ Nrm vs ∧ us.length ≤ L ∧ vs.length ≤ L ∧ Nat.gcd (val us) (val vs) = G ∧ Ext W V) (fun _ b V => look V b)
  case atStart => exact ⟨A, c, trimL xs, B, d, trimL ys, rfl, rfl, hxt.ext (by first | exact extW | exact extW.drew | exact extW.drewN _ | exact (extW.drew).drew), hyt.ext (by first | exact extW | exact extW.drew | exact extW.drewN _ | exact (extW.drew).drew), by have := Hn.out; omega, hcm, by have := Hm.out; omega, hdm, Nrm.trimL _, Nrm.trimL _, by omega, by omega, hg0.out.trans HG.out, by first | exact Ext.refl W | exact (Ext.refl W).drew | exact (Ext.refl W).drewN _⟩
  case round =>
    clear hxt hyt
    obtain ⟨A1, c1, us, B1, d1, vs, rfl, rfl, hu, hv, hc1, hm1, hd1, hdm1, hnu, hnv, hlu, hlv, hgg0, hext⟩ := hrel
    have hgg := Lib.hid hgg0
    clear hgg0
    by_cases h0 : vs.length = 0
    · have hgv : val us = G := by rw [← hgg.out, List.length_eq_zero_iff.1 h0]; exact (Nat.gcd_zero_right _).symm
      have Hgv := Lib.hid hgv
      have bzr := bz.ext hext
      have z0 := bzr.cell 0 (.bool false) rfl
      have z1 := bzr.cell 1 (.slice none 0 0) rfl
      have f0 := bzr.frozen 0
      have f1 := bzr.frozen 1
      clear hgv
      go_wp2_with (go_at_call 22; refine (ref_signed rfl hu hc1 hm1).mono ?_; rintro e w3 ⟨b3, A3, c3, rs, rfl, hr3, hc3, hm3, hi3, hl3, hext3⟩; have ext3 := hext.trans hext3; have bz3 := bz.ext ext3; have z0 := bz3.cell 0 (.bool false) rfl; have z1 := bz3.cell 1 (.slice none 0 0) rfl; have f0 := bz3.frozen 0; have f1 := bz3.frozen 1)
      obtain ⟨r1, r2, r3, r4⟩ := fin_pair (b := b3) (n := rs.length) (c := c3) (extW.trans ext3) (by omega) bz3 hr3
      have hiv : ival false us = (G : Int) := by rw [← Hgv.out]; rfl
      exact bodyPost_ret (v := .agg #[.bool b3, .slice A3 rs.length c3]) (by simp [results, Tryd.results11, go_sem, r3, r4]) rfl ⟨b3, A3, c3, rs, rfl, r1, hc3, hm3, by rw [hiv] at hi3; exact hi3, by omega, r2⟩
    · go_wp2_with fail
      refine (ref_divide rfl rfl hu hv hc1 hm1 hnu hnv (by omega) (by omega) (by omega)).mono ?_
      rintro e w4 ⟨Aq, cq, qs, Ar, cr, rs, rfl, hq, hr, hcq, hmq, hcr, hmr, hvq, hvr, hnq, hnr, ext4⟩
      have hpos : 0 < val vs := by
        have := hnv.ge (by rintro rfl; simp at h0)
        have h5 : 0 < 4294967296 ^ (vs.length - 1) := Nat.pow_pos (by omega)
        omega
      have hlt : val rs < val vs := by rw [hvr]; exact Nat.mod_lt _ hpos
      have hrl := nrm_len hv.1 hnr (Nat.le_of_lt hlt)
      have hgn := Lib.hid (show Nat.gcd (val vs) (val rs) = G by rw [hvr, ← hgg.out, Nat.gcd_comm (val us), Nat.gcd_rec (val vs) (val us), Nat.gcd_comm])
      have Hlt := Lib.hid hlt
      clear hvq hvr hlt hpos hq
      go_wp2_with fail
      refine ⟨⟨B1, d1, vs, Ar, cr, rs, rfl, rfl, hv.ext ext4, hr, hd1, hdm1, hcr, hmr, hnv, hnr, hlv, by omega, hgn.out, hext.trans ext4⟩, ?_⟩
      rw [look_rd' hr, look_rd' hv]
      exact Hlt.out
end
end Go.Proofs.YtmjmcinnbmjpdaaDoor
namespace Go.Proofs.YtmjmcinnbmjpdaaDoor
open Go.RowKit
attribute [local go_sem ↓] Go.wp_at_zero Go.wp_at_succ
section
variable {A B C : Option Addr} {c d n m l : Nat} {w : World} {s t u : Bool}
set_option maxHeartbeats 1000000 in
theorem small_yes1 {g : Nat} (hb : Box w g 24 #[.bool s, .slice A n c]) (h0 : n ≤ 20) :
    Calls Tryd.prog 6 #[.slice (some ⟨g, 0, none⟩) 1 1] w fun e w' => e = .returned (.bool true) ∧ Ext w w' := by
  go_enter Tryd.func6, Tryd.ntmps6
  go_wp2
  go_loopw [7] (fun i wr => ∃ k : Nat, k ≤ 1 ∧ i = .int .i64 (k : Int) ∧ Ext w wr) (fun i _ => 1 - (intOf i).toNat)
  case atStart => exact ⟨0, by omega, rfl, Ext.refl _⟩
  case round =>
    obtain ⟨k, hk, rfl, hext⟩ := hrel
    have c0 := (hb.ext hext).cell 0 (.bool s) rfl
    have c1 := (hb.ext hext).cell 1 (.slice A n c) rfl
    have hk2 : k = 0 ∨ k = 1 := by omega
    rcases hk2 with rfl | rfl
    · have ht1 : decide ((20 : Int) < (n : Int)) = false := decide_eq_false (by omega)
      have ht2 : decide (20 < n) = false := decide_eq_false (by omega)
      go_wp2
      go_roundw
      case rel => exact ⟨1, by omega, rfl, hext.alloc _⟩
      case measure => simp [intOf]
    · go_wp2
      go_ret
      exact ⟨rfl, hext⟩

set_option maxHeartbeats 1000000 in
theorem small_no1 {g : Nat} (hb : Box w g 24 #[.bool s, .slice A n c]) (hno : ¬ (n ≤ 20)) :
    Calls Tryd.prog 6 #[.slice (some ⟨g, 0, none⟩) 1 1] w fun e w' => e = .returned (.bool false) ∧ Ext w w' := by
  have HN := Lib.hid hno
  clear hno
  go_enter Tryd.func6, Tryd.ntmps6
  go_wp2
  go_loopw [7] (fun i wr => ∃ k : Nat, k ≤ 1 ∧ i = .int .i64 (k : Int) ∧ Ext w wr ∧ (1 ≤ k → n ≤ 20)) (fun i _ => 1 - (intOf i).toNat)
  case atStart => exact ⟨0, by omega, rfl, Ext.refl _, fun h => absurd h (by omega)⟩
  case round =>
    obtain ⟨k, hk, rfl, hext, e0⟩ := hrel
    have c0 := (hb.ext hext).cell 0 (.bool s) rfl
    have c1 := (hb.ext hext).cell 1 (.slice A n c) rfl
    have hk2 : k = 0 ∨ k = 1 := by omega
    rcases hk2 with rfl | rfl
    · by_cases hle : n ≤ 20
      · have ht1 : decide ((20 : Int) < (n : Int)) = false := decide_eq_false (by omega)
        have ht2 : decide (20 < n) = false := decide_eq_false (by omega)
        clear e0
        go_wp2
        go_roundw
        case rel => exact ⟨1, by omega, rfl, hext.alloc _, fun _ => hle⟩
        case measure => simp [intOf]
      · have ht1 : decide ((20 : Int) < (n : Int)) = true := decide_eq_true (by omega)
        have ht2 : decide (20 < n) = true := decide_eq_true (by omega)
        clear e0
        go_wp2
        go_ret
        exact ⟨rfl, hext.alloc _⟩
    · exact absurd (e0 (by omega)) HN.out

set_option maxHeartbeats 1000000 in
theorem small_yes2 {g : Nat} (hb : Box w g 24 #[.bool s, .slice A n c, .bool t, .slice B m d]) (h0 : n ≤ 20) (h1 : m ≤ 20) :
    Calls Tryd.prog 6 #[.slice (some ⟨g, 0, none⟩) 2 2] w fun e w' => e = .returned (.bool true) ∧ Ext w w' := by
  go_enter Tryd.func6, Tryd.ntmps6
  go_wp2
  go_loopw [7] (fun i wr => ∃ k : Nat, k ≤ 2 ∧ i = .int .i64 (k : Int) ∧ Ext w wr) (fun i _ => 2 - (intOf i).toNat)
  case atStart => exact ⟨0, by omega, rfl, Ext.refl _⟩
  case round =>
    obtain ⟨k, hk, rfl, hext⟩ := hrel
    have c0 := (hb.ext hext).cell 0 (.bool s) rfl
    have c1 := (hb.ext hext).cell 1 (.slice A n c) rfl
    have c2 := (hb.ext hext).cell 2 (.bool t) rfl
    have c3 := (hb.ext hext).cell 3 (.slice B m d) rfl
    have hk2 : k = 0 ∨ k = 1 ∨ k = 2 := by omega
    rcases hk2 with rfl | rfl | rfl
    · have ht1 : decide ((20 : Int) < (n : Int)) = false := decide_eq_false (by omega)
      have ht2 : decide (20 < n) = false := decide_eq_false (by omega)
      go_wp2
      go_roundw
      case rel => exact ⟨1, by omega, rfl, hext.alloc _⟩
      case measure => simp [intOf]
    · have ht1 : decide ((20 : Int) < (m : Int)) = false := decide_eq_false (by omega)
      have ht2 : decide (20 < m) = false := decide_eq_false (by omega)
      go_wp2
      go_roundw
      case rel => exact ⟨2, by omega, rfl, hext.alloc _⟩
      case measure => simp [intOf]
    · go_wp2
      go_ret
      exact ⟨rfl, hext⟩

set_option maxHeartbeats 1000000 in
theorem small_no2 {g : Nat} (hb : Box w g 24 #[.bool s, .slice A n c, .bool t, .slice B m d]) (hno : ¬ (n ≤ 20 ∧ m ≤ 20)) :
    Calls Tryd.prog 6 #[.slice (some ⟨g, 0, none⟩) 2 2] w fun e w' => e = .returned (.bool false) ∧ Ext w w' := by
  have HN := Lib.hid hno
  clear hno
  go_enter Tryd.func6, Tryd.ntmps6
  go_wp2
  go_loopw [7] (fun i wr => ∃ k : Nat, k ≤ 2 ∧ i = .int .i64 (k : Int) ∧ Ext w wr ∧ (1 ≤ k → n ≤ 20) ∧ (2 ≤ k → m ≤ 20)) (fun i _ => 2 - (intOf i).toNat)
  case atStart => exact ⟨0, by omega, rfl, Ext.refl _, fun h => absurd h (by omega), fun h => absurd h (by omega)⟩
  case round =>
    obtain ⟨k, hk, rfl, hext, e0, e1⟩ := hrel
    have c0 := (hb.ext hext).cell 0 (.bool s) rfl
    have c1 := (hb.ext hext).cell 1 (.slice A n c) rfl
    have c2 := (hb.ext hext).cell 2 (.bool t) rfl
    have c3 := (hb.ext hext).cell 3 (.slice B m d) rfl
    have hk2 : k = 0 ∨ k = 1 ∨ k = 2 := by omega
    rcases hk2 with rfl | rfl | rfl
    · by_cases hle : n ≤ 20
      · have ht1 : decide ((20 : Int) < (n : Int)) = false := decide_eq_false (by omega)
        have ht2 : decide (20 < n) = false := decide_eq_false (by omega)
        clear e0 e1
        go_wp2
        go_roundw
        case rel => exact ⟨1, by omega, rfl, hext.alloc _, fun _ => hle, fun h => absurd h (by omega)⟩
        case measure => simp [intOf]
      · have ht1 : decide ((20 : Int) < (n : Int)) = true := decide_eq_true (by omega)
        have ht2 : decide (20 < n) = true := decide_eq_true (by omega)
        clear e0 e1
        go_wp2
        go_ret
        exact ⟨rfl, hext.alloc _⟩
    · by_cases hle : m ≤ 20
      · have ht1 : decide ((20 : Int) < (m : Int)) = false := decide_eq_false (by omega)
        have ht2 : decide (20 < m) = false := decide_eq_false (by omega)
        have f0 := e0 (by omega)
        clear e0 e1
        go_wp2
        go_roundw
        case rel => exact ⟨2, by omega, rfl, hext.alloc _, fun _ => f0, fun _ => hle⟩
        case measure => simp [intOf]
      · have ht1 : decide ((20 : Int) < (m : Int)) = true := decide_eq_true (by omega)
        have ht2 : decide (20 < m) = true := decide_eq_true (by omega)
        clear e0 e1
        go_wp2
        go_ret
        exact ⟨rfl, hext.alloc _⟩
    · exact absurd (show n ≤ 20 ∧ m ≤ 20 by refine ⟨e0 (by omega), e1 (by omega)⟩) HN.out

set_option maxHeartbeats 1000000 in
theorem small_yes3 {g : Nat} {q : Nat} (hb : Box w g 24 #[.bool s, .slice A n c, .bool t, .slice B m d, .bool u, .slice C l q]) (h0 : n ≤ 20) (h1 : m ≤ 20) (h2 : l ≤ 20) :
    Calls Tryd.prog 6 #[.slice (some ⟨g, 0, none⟩) 3 3] w fun e w' => e = .returned (.bool true) ∧ Ext w w' := by
  go_enter Tryd.func6, Tryd.ntmps6
  go_wp2
  go_loopw [7] (fun i wr => ∃ k : Nat, k ≤ 3 ∧ i = .int .i64 (k : Int) ∧ Ext w wr) (fun i _ => 3 - (intOf i).toNat)
  case atStart => exact ⟨0, by omega, rfl, Ext.refl _⟩
  case round =>
    obtain ⟨k, hk, rfl, hext⟩ := hrel
    have c0 := (hb.ext hext).cell 0 (.bool s) rfl
    have c1 := (hb.ext hext).cell 1 (.slice A n c) rfl
    have c2 := (hb.ext hext).cell 2 (.bool t) rfl
    have c3 := (hb.ext hext).cell 3 (.slice B m d) rfl
    have c4 := (hb.ext hext).cell 4 (.bool u) rfl
    have c5 := (hb.ext hext).cell 5 (.slice C l q) rfl
    have hk2 : k = 0 ∨ k = 1 ∨ k = 2 ∨ k = 3 := by omega
    rcases hk2 with rfl | rfl | rfl | rfl
    · have ht1 : decide ((20 : Int) < (n : Int)) = false := decide_eq_false (by omega)
      have ht2 : decide (20 < n) = false := decide_eq_false (by omega)
      go_wp2
      go_roundw
      case rel => exact ⟨1, by omega, rfl, hext.alloc _⟩
      case measure => simp [intOf]
    · have ht1 : decide ((20 : Int) < (m : Int)) = false := decide_eq_false (by omega)
      have ht2 : decide (20 < m) = false := decide_eq_false (by omega)
      go_wp2
      go_roundw
      case rel => exact ⟨2, by omega, rfl, hext.alloc _⟩
      case measure => simp [intOf]
    · have ht1 : decide ((20 : Int) < (l : Int)) = false := decide_eq_false (by omega)
      have ht2 : decide (20 < l) = false := decide_eq_false (by omega)
      go_wp2
      go_roundw
      case rel => exact ⟨3, by omega, rfl, hext.alloc _⟩
      case measure => simp [intOf]
    · go_wp2
      go_ret
      exact ⟨rfl, hext⟩

set_option maxHeartbeats 1000000 in
theorem small_no3 {g : Nat} {q : Nat} (hb : Box w g 24 #[.bool s, .slice A n c, .bool t, .slice B m d, .bool u, .slice C l q]) (hno : ¬ (n ≤ 20 ∧ m ≤ 20 ∧ l ≤ 20)) :
    Calls Tryd.prog 6 #[.slice (some ⟨g, 0, none⟩) 3 3] w fun e w' => e = .returned (.bool false) ∧ Ext w w' := by
  have HN := Lib.hid hno
  clear hno
  go_enter Tryd.func6, Tryd.ntmps6
  go_wp2
  go_loopw [7] (fun i wr => ∃ k : Nat, k ≤ 3 ∧ i = .int .i64 (k : Int) ∧ Ext w wr ∧ (1 ≤ k → n ≤ 20) ∧ (2 ≤ k → m ≤ 20) ∧ (3 ≤ k → l ≤ 20)) (fun i _ => 3 - (intOf i).toNat)
  case atStart => exact ⟨0, by omega, rfl, Ext.refl _, fun h => absurd h (by omega), fun h => absurd h (by omega), fun h => absurd h (by omega)⟩
  case round =>
    obtain ⟨k, hk, rfl, hext, e0, e1, e2⟩ := hrel
    have c0 := (hb.ext hext).cell 0 (.bool s) rfl
    have c1 := (hb.ext hext).cell 1 (.slice A n c) rfl
    have c2 := (hb.ext hext).cell 2 (.bool t) rfl
    have c3 := (hb.ext hext).cell 3 (.slice B m d) rfl
    have c4 := (hb.ext hext).cell 4 (.bool u) rfl
    have c5 := (hb.ext hext).cell 5 (.slice C l q) rfl
    have hk2 : k = 0 ∨ k = 1 ∨ k = 2 ∨ k = 3 := by omega
    rcases hk2 with rfl | rfl | rfl | rfl
    · by_cases hle : n ≤ 20
      · have ht1 : decide ((20 : Int) < (n : Int)) = false := decide_eq_false (by omega)
        have ht2 : decide (20 < n) = false := decide_eq_false (by omega)
        clear e0 e1 e2
        go_wp2
        go_roundw
        case rel => exact ⟨1, by omega, rfl, hext.alloc _, fun _ => hle, fun h => absurd h (by omega), fun h => absurd h (by omega)⟩
        case measure => simp [intOf]
      · have ht1 : decide ((20 : Int) < (n : Int)) = true := decide_eq_true (by omega)
        have ht2 : decide (20 < n) = true := decide_eq_true (by omega)
        clear e0 e1 e2
        go_wp2
        go_ret
        exact ⟨rfl, hext.alloc _⟩
    · by_cases hle : m ≤ 20
      · have ht1 : decide ((20 : Int) < (m : Int)) = false := decide_eq_false (by omega)
        have ht2 : decide (20 < m) = false := decide_eq_false (by omega)
        have f0 := e0 (by omega)
        clear e0 e1 e2
        go_wp2
        go_roundw
        case rel => exact ⟨2, by omega, rfl, hext.alloc _, fun _ => f0, fun _ => hle, fun h => absurd h (by omega)⟩
        case measure => simp [intOf]
      · have ht1 : decide ((20 : Int) < (m : Int)) = true := decide_eq_true (by omega)
        have ht2 : decide (20 < m) = true := decide_eq_true (by omega)
        clear e0 e1 e2
        go_wp2
        go_ret
        exact ⟨rfl, hext.alloc _⟩
    · by_cases hle : l ≤ 20
      · have ht1 : decide ((20 : Int) < (l : Int)) = false := decide_eq_false (by omega)
        have ht2 : decide (20 < l) = false := decide_eq_false (by omega)
        have f0 := e0 (by omega)
        have f1 := e1 (by omega)
        clear e0 e1 e2
        go_wp2
        go_roundw
        case rel => exact ⟨3, by omega, rfl, hext.alloc _, fun _ => f0, fun _ => f1, fun _ => hle⟩
        case measure => simp [intOf]
      · have ht1 : decide ((20 : Int) < (l : Int)) = true := decide_eq_true (by omega)
        have ht2 : decide (20 < l) = true := decide_eq_true (by omega)
        clear e0 e1 e2
        go_wp2
        go_ret
        exact ⟨rfl, hext.alloc _⟩
    · exact absurd (show n ≤ 20 ∧ m ≤ 20 ∧ l ≤ 20 by refine ⟨e0 (by omega), e1 (by omega), e2 (by omega)⟩) HN.out

end
end Go.Proofs.YtmjmcinnbmjpdaaDoor
