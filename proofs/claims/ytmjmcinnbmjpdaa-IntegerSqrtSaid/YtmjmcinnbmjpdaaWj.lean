/- Walks: quotients: numbers of at most two words; DivMod over any contract of divide. -/
import Derived.Test.YtmjmcinnbmjpdaaWi
import Derived.Test.YtmjmcinnbmjpdaaWg
namespace Go.Proofs.Ytmjmcinnbmjpdaa
open Go.RowKit
attribute [local go_sem ↓] Go.wp_at_zero Go.wp_at_succ
/-- two slices of words in new memory. -/
def Ret2 (P : List Nat → List Nat → Prop) (w : World) (e : Ending) (w' : World) : Prop :=
  ∃ A c ys A' c' zs, e = .returned (.tuple #[.slice A (List.length ys) c, .slice A' (List.length zs) c']) ∧ Own w' w.heap.size A ys ∧ Own w' w.heap.size A' zs ∧ ys.length ≤ c ∧ c ≤ maxLen ∧ zs.length ≤ c' ∧ c' ≤ maxLen ∧ P ys zs ∧ Ext w w'
/-- divide is right for lists of at most L words. -/
def DivideOK (L : Nat) : Prop := ∀ (A B : Option Addr) (c d n m : Nat) (xs ys : List Nat) (w : World), xs.length = n → ys.length = m → Rd w A xs → Rd w B ys → n ≤ c → c ≤ maxLen → m ≤ d → d ≤ maxLen → Nrm xs → Nrm ys → 0 < m → n ≤ L → m ≤ 100000 →
    Calls Try.prog 64 #[.slice A n c, .slice B m d] w (Ret2 (fun qs rs => val qs = val xs / val ys ∧ val rs = val xs % val ys ∧ Nrm qs ∧ Nrm rs ∧ qs.length ≤ xs.length ∧ rs.length ≤ xs.length) w)
theorem val_lt_two {xs : List Nat} (h : W32 xs) (hl : xs.length ≤ 2) : val xs < 18446744073709551616 := by
  have := val_lt h
  have : 4294967296 ^ xs.length ≤ 4294967296 ^ 2 := Nat.pow_le_pow_right (by omega) hl
  omega
theorem nrm_len_le {zs xs : List Nat} (hx : W32 xs) (hz : Nrm zs) (h : val zs ≤ val xs) : zs.length ≤ xs.length := by
  rcases Nat.lt_or_ge xs.length zs.length with hl | hl
  · have := val_lt_of_len hx hz hl; omega
  · exact hl
theorem wrap_nat {a : Nat} (h : a < 18446744073709551616) : IntKind.u64.wrap (a : Int) = (a : Int) := by rw [IntKind.wrap_u64]; omega
theorem int_fromUintI {w : World} {X : Int} {x : Nat} (hX : X = x) (hx : x / 4294967296 < 4294967296) : Calls Try.prog 54 #[.int .u64 X] w (RetN (fun zs => val zs = x ∧ Nrm zs ∧ zs.length ≤ 2) w) := by
  subst hX
  exact int_fromUint x hx
section
variable {A B : Option Addr} {c d n m : Nat} {xs ys : List Nat} {w : World} {s t : Bool}
set_option maxHeartbeats 1000000 in
theorem int_divide_lt (hn : xs.length = n) (hm : ys.length = m) (hx : Rd w A xs) (hy : Rd w B ys) (hnx : Nrm xs) (hny : Nrm ys) (hlt : val xs < val ys) (h1 : n ≤ 100000) (h2 : m ≤ 100000) :
    Calls Try.prog 64 #[.slice A n c, .slice B m d] w (Ret2 (fun qs rs => val qs = val xs / val ys ∧ val rs = val xs % val ys ∧ Nrm qs ∧ Nrm rs ∧ qs.length ≤ xs.length ∧ rs.length ≤ xs.length) w) := by
  have hcm1 := Lib.hid (show cmpL xs ys = -1 by rw [cmpL_nrm hx.1 hy.1 hnx hny]; exact cmpI_of_lt hlt)
  have Hlt := Lib.hid hlt
  clear hlt
  go_enter Try.func64, Try.ntmps64
  go_wp2_with fail
  subst hn
  subst hm
  refine (int_compare A B c d xs ys w hx hy (by unfold maxLen; omega) (by unfold maxLen; omega)).mono ?_
  rintro e w1 ⟨rfl, hext1⟩
  rw [hcm1.out]
  go_wp2_with fail
  refine (clone rfl (hx.ext hext1) (by omega)).mono ?_
  rintro e w2 ⟨A2, c2, zs, rfl, ho2, hc2, hm2, rfl, hext2⟩
  go_wp2_with fail
  go_ret2
  have h := Hlt.out
  exact ⟨none, 0, [], A2, c2, zs, rfl, ⟨W32.nil, .inl rfl⟩, ho2.mono hext1.size, by simp, by unfold maxLen; omega, hc2, hm2, ⟨by rw [Nat.div_eq_of_lt h]; rfl, by rw [Nat.mod_eq_of_lt h], Nrm.nil, hnx, by simp, Nat.le_refl _⟩, hext1.trans hext2⟩
set_option maxRecDepth 100000 in
set_option maxHeartbeats 1000000 in
theorem int_divide_two (hn : xs.length = n) (hm : ys.length = m) (hx : Rd w A xs) (hy : Rd w B ys) (hnx : Nrm xs) (hny : Nrm ys) (hge : val ys ≤ val xs) (h0 : 0 < m) (h2 : n ≤ 2) :
    Calls Try.prog 64 #[.slice A n c, .slice B m d] w (Ret2 (fun qs rs => val qs = val xs / val ys ∧ val rs = val xs % val ys ∧ Nrm qs ∧ Nrm rs ∧ qs.length ≤ xs.length ∧ rs.length ≤ xs.length) w) := by
  have hml := len_le hx.1 hny hge
  have hpos : val ys ≠ 0 := fun h => by
    have := hny.zero.1 h
    subst this
    simp at hm
    omega
  have hcase : cmpL xs ys = 0 ∨ cmpL xs ys = 1 := by
    rw [cmpL_nrm hx.1 hy.1 hnx hny]
    rcases Nat.lt_or_ge (val ys) (val xs) with h | h
    · exact .inr (cmpI_of_gt h)
    · exact .inl (cmpI_of_eq (by omega))
  have hvx := val_lt_two hx.1 (by omega)
  have hvy := val_lt_two hy.1 (by omega)
  have q1 : val xs / val ys ≤ val xs := Nat.div_le_self _ _
  have q2 : val xs % val ys < val ys := Nat.mod_lt _ (by omega)
  have e1 : val xs / val ys / 4294967296 < 4294967296 := by omega
  have e2 : val xs % val ys / 4294967296 < 4294967296 := by omega
  have Hvx := Lib.hid hvx
  have Hvy := Lib.hid hvy
  have Hq1 := Lib.hid q1
  have Hq2 := Lib.hid q2
  have E1 := Lib.hid e1
  have E2 := Lib.hid e2
  have Hge := Lib.hid hge
  subst hn
  subst hm
  have Hml := Lib.hid hml
  have hz : ((val ys : Nat) : Int) ≠ 0 := by omega
  have hz0 : (((val ys : Nat) : Int) == 0) = false := by rw [beq_eq_false_iff_ne]; exact hz
  have hp1 : (1 : Int) ≤ ((val ys : Nat) : Int) := by omega
  clear hvx hvy q1 q2 e1 e2 hml hge hz
  rcases hcase with hcm | hcm
  all_goals
    have hcm1 := Lib.hid hcm
    clear hcm
    go_enter Try.func64, Try.ntmps64
    go_wp2_with fail
    refine (int_compare A B c d xs ys w hx hy (by unfold maxLen; omega) (by have := Hml.out; unfold maxLen; omega)).mono ?_
    rintro e w1 ⟨rfl, hext1⟩
    rw [hcm1.out]
    go_wp2_with fail
    refine (int_toUint rfl (hx.ext hext1) h2).mono ?_
    rintro e w2 ⟨rfl, rfl⟩
    go_wp2_with fail
    refine (int_toUint rfl (hy.ext hext1) (by have := Hml.out; omega)).mono ?_
    rintro e w2 ⟨rfl, rfl⟩
    clear hp1 hz0
    generalize hX : val xs = X at *
    generalize hY : val ys = Y at *
    have HX := Lib.hid hX
    have HY := Lib.hid hY
    clear hX hY
    have hz0 : ((Y : Int) == 0) = false := by rw [beq_eq_false_iff_ne]; omega
    have hp1 : (1 : Int) ≤ (Y : Int) := by omega
    have hp0 : (0 : Int) ≤ (X : Int) := by omega
    go_wp2_with fail
    have hq : (X : Int) / (Y : Int) = ((X / Y : Nat) : Int) := (Int.natCast_ediv _ _).symm
    have hr : (X : Int) % (Y : Int) = ((X % Y : Nat) : Int) := (Int.natCast_emod _ _).symm
    have hq' : (X : Int).tdiv (Y : Int) = ((X / Y : Nat) : Int) := rfl
    have hr' : (X : Int).tmod (Y : Int) = ((X % Y : Nat) : Int) := rfl
    have hw1 : IntKind.u64.wrap ((X / Y : Nat) : Int) = ((X / Y : Nat) : Int) := wrap_nat (Nat.lt_of_le_of_lt Hq1.out Hvx.out)
    have hw2 : IntKind.u64.wrap ((X % Y : Nat) : Int) = ((X % Y : Nat) : Int) := wrap_nat (Nat.lt_trans Hq2.out Hvy.out)
    generalize hU : X / Y = U at *
    generalize hV : X % Y = V at *
    have HU := Lib.hid hU
    have HV := Lib.hid hV
    clear hp0 hp1 hU hV
    go_region_with (first | (go_at_call_of 54 U; refine (int_fromUint U E1.out).mono ?_; rintro e w3 ⟨A3, c3, qs, rfl, ho3, hc3, hm3, ⟨hv3, hn3, hl3⟩, hext3⟩; have Hv3 := Lib.hid hv3; clear hv3) | (go_at_call_of 54 V; refine (int_fromUint V E2.out).mono ?_; rintro e w4 ⟨A4, c4, rs, rfl, ho4, hc4, hm4, ⟨hv4, hn4, hl4⟩, hext4⟩; have Hv4 := Lib.hid hv4; clear hv4))
    all_goals
      go_wp2_with fail
      go_ret2
      have ext3 := (Ext.refl w1).drew.trans hext3
      have e3 := Hv3.out
      have e4 := Hv4.out
      have hX := HX.out
      have hY := HY.out
      exact ⟨A3, c3, qs, A4, c4, rs, rfl, (ho3.ext hext4).mono hext1.size, ho4.mono (hext1.trans ext3).size, hc3, hm3, hc4, hm4, ⟨by rw [e3, hX, hY, HU.out], by rw [e4, hX, hY, HV.out], hn3, hn4, nrm_len_le hx.1 hn3 (by rw [e3, hX]; exact Hq1.out), nrm_len_le hx.1 hn4 (by rw [e4, hX]; have := Hq2.out; have := Hge.out; omega)⟩, hext1.trans (ext3.trans hext4)⟩
theorem divide_two : DivideOK 2 := by
  intro A B c d n m xs ys w hn hm hx hy _ _ _ _ hnx hny h0 h1 h2
  rcases Nat.lt_or_ge (val xs) (val ys) with h | h
  · exact int_divide_lt hn hm hx hy hnx hny h (by omega) h2
  · exact int_divide_two hn hm hx hy hnx hny h h0 h1
end
end Go.Proofs.Ytmjmcinnbmjpdaa
