/- Walks and laws, part 16. -/
import Derived.Test.YtmjmcinnbmjpdaaDoorMg2
import Derived.Test.YtmjmcinnbmjpdaaDoorMg5
import Derived.Test.YtmjmcinnbmjpdaaDoorMg15
import Derived.Shelf.Spec.TrailingZeros
namespace Go.Proofs.YtmjmcinnbmjpdaaDoor
open Go.RowKit
/-- the table of the library's package bits, in its variable. -/
def Tab (w : World) : Prop := ∀ j, j < 64 → w.cell? ⟨0, j, none⟩ = some (.int .u8 (Lib.deBruijn64tab.getD j 0 : Nat))
theorem Tab.ext {w w' : World} (h : Tab w) (e : Ext w w') : Tab w' := fun j hj => e.cellv (h j hj)
section
variable {w : World}
theorem tz_core (x k idx : Nat) (hx0 : ((x : Int) == 0) = false)
    (key : IntKind.u64.wrap (bits BinOp.and IntKind.u64 (x : Int) (IntKind.u64.wrap (-(x : Int))) * 285870213051353865) / 288230376151711744 = (idx : Int)) (hi : idx < 64) (hk : k < 64) (hcell : w.cell? ⟨0, idx, none⟩ = some (.int .u8 (k : Int))) :
    Calls Tryd.prog 76 #[.int .u64 (x : Int)] w fun e w' => e = .returned (.int .i64 (k : Int)) ∧ w = w' := by
  go_enter Tryd.func76, Tryd.ntmps76
  go_wp2_with (simp only [key])
  go_ret
  exact ⟨rfl, rfl⟩
theorem int_tz (x : Nat) (h0 : x ≠ 0) (hx : x < 18446744073709551616) (hT : Tab w) :
    Calls Tryd.prog 76 #[.int .u64 (x : Int)] w fun e w' => e = .returned (.int .i64 (Lib.ctz 64 x : Nat)) ∧ w = w' := by
  obtain ⟨hlow, hk⟩ := Lib.lowest_bit 64 x h0 hx
  obtain ⟨hi, htab⟩ := Lib.deBruijn64_at _ hk
  have hcell := hT _ hi
  rw [htab] at hcell
  exact tz_core x _ _ (by rw [beq_eq_false_iff_ne]; omega) (tz64_key x _ hx h0 hlow) hi hk hcell
theorem ctz_odd {x : Nat} (h0 : x ≠ 0) (hx : x < 18446744073709551616) : ∃ m, x = 2 ^ Lib.ctz 64 x * (2 * m + 1) ∧ Lib.ctz 64 x < 64 := by
  unfold Lib.ctz
  rw [if_neg h0]
  exact Lib.ctzFrom_spec 64 x (by omega) hx
theorem ctz_unique {s t m l : Nat} (h : 2 ^ s * (2 * m + 1) = 2 ^ t * (2 * l + 1)) : s = t := by
  have key : ∀ {s t m l : Nat}, s < t → 2 ^ s * (2 * m + 1) = 2 ^ t * (2 * l + 1) → False := by
    intro s t m l hlt h
    obtain ⟨d, rfl⟩ : ∃ d, t = s + (d + 1) := ⟨t - s - 1, by omega⟩
    rw [Nat.pow_add, Nat.mul_assoc] at h
    have h2 := Nat.eq_of_mul_eq_mul_left (Nat.pow_pos (by omega)) h
    rw [Nat.pow_succ, Nat.mul_comm (2 ^ d) 2, Nat.mul_assoc] at h2
    omega
  rcases Nat.lt_trichotomy s t with h1 | h1 | h1
  · exact (key h1 h).elim
  · exact h1
  · exact (key h1 h.symm).elim
theorem or_odd (a c : Nat) : ∃ m, (2 * a + 1) ||| c = 2 * m + 1 := by
  refine ⟨((2 * a + 1) ||| c) / 2, ?_⟩
  have h : ((2 * a + 1) ||| c) % 2 = 1 := by
    simp
  omega
theorem ctz_or {a b : Nat} (ha : a ≠ 0) (hb : b ≠ 0) (ha2 : a < 18446744073709551616) (hb2 : b < 18446744073709551616) : Lib.ctz 64 (a ||| b) = min (Lib.ctz 64 a) (Lib.ctz 64 b) := by
  have key : ∀ {a b : Nat}, a ≠ 0 → b ≠ 0 → a < 18446744073709551616 → b < 18446744073709551616 → Lib.ctz 64 a ≤ Lib.ctz 64 b → Lib.ctz 64 (a ||| b) = Lib.ctz 64 a := by
    intro a b ha hb ha2 hb2 hle
    obtain ⟨m, em, _⟩ := ctz_odd ha ha2
    obtain ⟨l, el, _⟩ := ctz_odd hb hb2
    generalize Lib.ctz 64 a = s at *
    generalize Lib.ctz 64 b = t at *
    have hor : a ||| b = 2 ^ s * ((2 * m + 1) ||| (2 ^ (t - s) * (2 * l + 1))) := by
      have e : b = 2 ^ s * (2 ^ (t - s) * (2 * l + 1)) := by rw [← Nat.mul_assoc, ← Nat.pow_add, show s + (t - s) = t by omega]; exact el
      conv => lhs; rw [em, e]
      rw [Nat.mul_comm (2 ^ s), Nat.mul_comm (2 ^ s), Nat.mul_comm (2 ^ s), ← Nat.shiftLeft_eq, ← Nat.shiftLeft_eq, ← Nat.shiftLeft_eq, Nat.shiftLeft_or_distrib]
    obtain ⟨q, hq⟩ := or_odd m (2 ^ (t - s) * (2 * l + 1))
    rw [hq] at hor
    have hn : a ||| b ≠ 0 := by
      rw [hor]
      exact Nat.ne_of_gt (Nat.mul_pos (Nat.pow_pos (by omega)) (by omega))
    obtain ⟨r, er, _⟩ := ctz_odd hn (Nat.or_lt_two_pow (n := 64) ha2 hb2)
    exact ctz_unique (er.symm.trans hor)
  rcases Nat.le_total (Lib.ctz 64 a) (Lib.ctz 64 b) with h | h
  · rw [key ha hb ha2 hb2 h, Nat.min_eq_left h]
  · rw [Nat.or_comm, key hb ha hb2 ha2 h, Nat.min_eq_right h]
theorem gcd_odd {m k x : Nat} : Nat.gcd (2 * m + 1) (2 ^ k * x) = Nat.gcd (2 * m + 1) x := by
  have h : Nat.Coprime (2 ^ k) (2 * m + 1) := Nat.Coprime.pow_left k (by
    unfold Nat.Coprime
    rw [Nat.gcd_rec, show (2 * m + 1) % 2 = 1 by omega]
    rfl)
  exact Nat.Coprime.gcd_mul_left_cancel_right x h
theorem shr_cast (x t : Nat) : (x : Int) / 2 ^ t = ((x / 2 ^ t : Nat) : Int) := by simp
theorem shl_cast64 {x t : Nat} (h : x * 2 ^ t < 18446744073709551616) : IntKind.u64.wrap ((x : Int) * 2 ^ t) = ((x * 2 ^ t : Nat) : Int) := by
  have e : (x : Int) * 2 ^ t = ((x * 2 ^ t : Nat) : Int) := by rw [Int.natCast_mul, Int.natCast_pow]; rfl
  rw [e, IntWalk.u64_in _ (by omega)]
theorem odd_part {x : Nat} (h0 : x ≠ 0) (hx : x < 18446744073709551616) : ∃ m, x / 2 ^ Lib.ctz 64 x = 2 * m + 1 ∧ x = 2 ^ Lib.ctz 64 x * (2 * m + 1) ∧ Lib.ctz 64 x < 64 := by
  obtain ⟨m, em, hk⟩ := ctz_odd h0 hx
  refine ⟨m, ?_, em, hk⟩
  generalize Lib.ctz 64 x = t at *
  rw [em, Nat.mul_div_cancel_left _ (Nat.pow_pos (by omega))]
set_option maxRecDepth 100000 in
set_option maxHeartbeats 4000000 in
theorem int_commonUint {a0 b0 : Nat} (ha : a0 ≠ 0) (ha2 : a0 < 18446744073709551616) (hb2 : b0 < 18446744073709551616) (hT : Tab w) :
    Calls Tryd.prog 46 #[.int .u64 (a0 : Int), .int .u64 (b0 : Int)] w fun e w' => e = .returned (.int .u64 ((Nat.gcd a0 b0 : Nat) : Int)) ∧ w = w' := by
  by_cases hb : b0 = 0
  · subst hb
    have t0 : (((0 : Nat) : Int) == 0) = true := rfl
    go_enter Tryd.func46, Tryd.ntmps46
    go_wp2_with fail
    go_ret
    exact ⟨by rw [Nat.gcd_zero_right]; rfl, rfl⟩
  · have t0 : ((b0 : Int) == 0) = false := by rw [beq_eq_false_iff_ne]; omega
    have hor := u64_or_nat a0 b0 ha2 hb2
    have hor0 : a0 ||| b0 ≠ 0 := by
      intro h
      have := Nat.left_le_or (n := a0) (m := b0)
      omega
    have hor2 : a0 ||| b0 < 18446744073709551616 := Nat.or_lt_two_pow (n := 64) ha2 hb2
    have hct := ctz_or ha hb ha2 hb2
    obtain ⟨m0, em, ea, k1⟩ := odd_part ha ha2
    obtain ⟨l0, el, eb, k2⟩ := odd_part hb hb2
    have hmin : Nat.gcd a0 b0 = 2 ^ min (Lib.ctz 64 a0) (Lib.ctz 64 b0) * Nat.gcd (2 * m0 + 1) (2 * l0 + 1) := by
      generalize Lib.ctz 64 a0 = s at *
      generalize Lib.ctz 64 b0 = t at *
      rcases Nat.le_total s t with h | h
      · rw [Nat.min_eq_left h]
        have e : b0 = 2 ^ s * (2 ^ (t - s) * (2 * l0 + 1)) := by rw [← Nat.mul_assoc, ← Nat.pow_add, show s + (t - s) = t by omega]; exact eb
        rw [e, ea, Nat.gcd_mul_left, gcd_odd]
      · rw [Nat.min_eq_right h]
        have e : a0 = 2 ^ t * (2 ^ (s - t) * (2 * m0 + 1)) := by rw [← Nat.mul_assoc, ← Nat.pow_add, show t + (s - t) = s by omega]; exact ea
        rw [e, eb, Nat.gcd_mul_left, Nat.gcd_comm, gcd_odd, Nat.gcd_comm]
    have hT1 := int_tz (w := w) _ hor0 hor2 hT
    rw [hct] at hT1
    have hT2 := int_tz (w := w) _ ha ha2 hT
    have hg0 : Nat.gcd (2 * m0 + 1) b0 = Nat.gcd (2 * m0 + 1) (2 * l0 + 1) := by rw [eb, gcd_odd]
    have hle : Nat.gcd a0 b0 ≤ a0 := Nat.le_of_dvd (by omega) (Nat.gcd_dvd_left _ _)
    rw [hmin] at hle ⊢
    have hsc := shr_cast a0 (Lib.ctz 64 a0)
    rw [em] at hsc
    have hm0 : 2 * m0 + 1 ≤ a0 := by rw [← em]; exact Nat.div_le_self _ _
    have htw : min (Lib.ctz 64 a0) (Lib.ctz 64 b0) ≤ 63 := by omega
    generalize min (Lib.ctz 64 a0) (Lib.ctz 64 b0) = tw at *
    generalize hta : Lib.ctz 64 a0 = ta at *
    generalize Nat.gcd (2 * m0 + 1) (2 * l0 + 1) = G at *
    generalize a0 ||| b0 = o at *
    generalize hGG : 2 ^ tw * G = GG at *
    have HGG := Lib.hid hGG
    clear hGG
    have HOr := Lib.hid hor
    have H1 := Lib.hid hT1
    have H2 := Lib.hid hT2
    have HS := Lib.hid hsc
    have HG := Lib.hid hg0
    have HL := Lib.hid hle
    clear hor hT1 hT2 hsc hg0 hle hct hmin em ea el eb hta hor0 hor2
    go_enter Tryd.func46, Tryd.ntmps46
    go_upto_region 3 with (fail)
    go_wp2_with (first | (rw [HOr.out]; refine H1.out.mono ?_; rintro e w1 ⟨rfl, rfl⟩))
    refine H2.out.mono ?_
    rintro e w1 ⟨rfl, rfl⟩
    go_wp2_with fail
    go_loop [0, 1] (fun sa sb => ∃ a b : Nat, sa = .int .u64 (a : Int) ∧ sb = .int .u64 (b : Int) ∧ a % 2 = 1 ∧ Nat.gcd a b = G ∧ a < 18446744073709551616 ∧ b < 18446744073709551616) (fun sa sb => (intOf sa).toNat + (intOf sb).toNat)
    case atStart => exact ⟨2 * m0 + 1, b0, congrArg (Value.int .u64) HS.out, rfl, by omega, HG.out, by omega, hb2⟩
    case round =>
      obtain ⟨a, b, rfl, rfl, ho, hg, hm, hb3⟩ := hrel
      have Ho := Lib.hid ho
      have ha1 : 1 ≤ a := by omega
      clear ho
      by_cases hz : b = 0
      · subst hz
        rw [Nat.gcd_zero_right] at hg
        have t1 : (((0 : Nat) : Int) == 0) = true := rfl
        have t2 : (((0 : Nat) : Int) != 0) = false := rfl
        have hsl := shl_cast64 (x := a) (t := tw) (by rw [hg, Nat.mul_comm, HGG.out]; have := HL.out; omega)
        rw [hg, Nat.mul_comm, HGG.out, ← hg] at hsl
        have HSL := Lib.hid hsl
        clear hsl hg
        go_wp2_with fail
        rw [HSL.out]
        go_ret
        exact ⟨rfl, rfl⟩
      · have t1 : ((b : Int) == 0) = false := by rw [beq_eq_false_iff_ne]; omega
        have t2 : ((b : Int) != 0) = true := by rw [bne_iff_ne]; omega
        obtain ⟨l, e1, e2, k3⟩ := odd_part hz hb3
        have hT3 := int_tz (w := w) _ hz hb3 hT
        have hsc := shr_cast b (Lib.ctz 64 b)
        have hlb : b / 2 ^ Lib.ctz 64 b ≤ b := Nat.div_le_self _ _
        have hg2 : Nat.gcd a (b / 2 ^ Lib.ctz 64 b) = G := by
          obtain ⟨m, rfl⟩ : ∃ m, a = 2 * m + 1 := ⟨a / 2, by have := Ho.out; omega⟩
          rw [← hg, e1]
          conv => rhs; rw [e2]
          rw [gcd_odd]
        have hodd : (b / 2 ^ Lib.ctz 64 b) % 2 = 1 := by omega
        generalize b / 2 ^ Lib.ctz 64 b = q at *
        generalize Lib.ctz 64 b = tb at *
        have H3 := Lib.hid hT3
        have HSC := Lib.hid hsc
        have Hg2 := Lib.hid hg2
        have Hod := Lib.hid hodd
        have hq1 : 1 ≤ q := by omega
        clear hT3 hsc hg2 e1 e2 hg hodd
        go_wp2_with fail
        refine H3.out.mono ?_
        rintro e w1 ⟨rfl, rfl⟩
        go_upto_region 7 with (fail)
        rw [HSC.out]
        by_cases hgt : q < a
        · have t3 : decide ((q : Int) < (a : Int)) = true := decide_eq_true (by omega)
          go_wp2_with fail
          go_round
          case rel => exact ⟨q, a - q, rfl, congrArg (Value.int .u64) (by omega), Hod.out, by rw [Nat.gcd_sub_self_right (by omega), Nat.gcd_comm]; exact Hg2.out, by omega, by omega⟩
          case measure => simp [intOf]; omega
        · have t3 : decide ((q : Int) < (a : Int)) = false := decide_eq_false (by omega)
          go_wp2_with fail
          go_round
          case rel => exact ⟨a, q - a, rfl, congrArg (Value.int .u64) (by omega), Ho.out, by rw [Nat.gcd_sub_self_right (by omega)]; exact Hg2.out, by omega, by omega⟩
          case measure => simp [intOf]; omega
end
end Go.Proofs.YtmjmcinnbmjpdaaDoor
namespace Go.Proofs.YtmjmcinnbmjpdaaDoor
open Go.RowKit
theorem len_two {rs : List Nat} (hn : Nrm rs) (h : val rs < 18446744073709551616) : rs.length ≤ 2 := by
  refine Nat.le_of_not_lt fun hlt => ?_
  have h1 := hn.ge (by rintro rfl; simp at hlt)
  have h2 : 4294967296 ^ 2 ≤ 4294967296 ^ (rs.length - 1) := Nat.pow_le_pow_right (by omega) (by omega)
  have h3 : (4294967296 : Nat) ^ 2 = 18446744073709551616 := by decide
  generalize 4294967296 ^ (rs.length - 1) = p at *
  omega
section
variable {A B : Option Addr} {c d n m : Nat} {xs ys : List Nat} {w : World}
set_option maxRecDepth 100000 in
set_option maxHeartbeats 4000000 in
theorem int_cd_ge (hx : Rd w A xs) (hy : Rd w B ys) (hnx : Nrm xs) (hny : Nrm ys) (h1 : xs.length ≤ 3000) (h2 : ys.length ≤ 3000) (hc : xs.length ≤ c) (hcm : c ≤ maxLen) (hd : ys.length ≤ d) (hdm : d ≤ maxLen) (hT : Tab w) (hle : val ys ≤ val xs) (hlen : ys.length ≤ xs.length) :
    Calls Tryd.prog 25 #[.slice A xs.length c, .slice B ys.length d] w (RetN (fun zs => val zs = Nat.gcd (val xs) (val ys) ∧ Nrm zs ∧ zs.length ≤ max xs.length 2) w) := by
  obtain ⟨S, hS, hSd⟩ : ∃ S, cmpL xs ys = S ∧ decide (S < 0) = false := ⟨_, rfl, by rw [cmpL_nrm hx.1 hy.1 hnx hny, cmpI]; split <;> (try split) <;> simp <;> omega⟩
  have HS := Lib.hid hS
  have Hle := Lib.hid hle
  clear hS hle
  go_enter Tryd.func25, Tryd.ntmps25
  go_wp2_with fail
  refine (int_compare _ _ _ _ _ _ _ hx hy (by omega) (by omega)).mono ?_
  rintro e w1 ⟨he, ext1⟩
  rw [HS.out] at he
  subst he
  by_cases h3 : ys.length ≤ 2
  · by_cases h0 : ys.length = 0
    · go_wp2_with fail
      refine (clone (n := xs.length) rfl (hx.ext ext1) (by omega)).mono ?_
      rintro e w8 ⟨A8, c8, ks, rfl, ho8, hc8, hm8, hk8, ext8⟩
      subst hk8
      go_wp2_with fail
      exact bodyPost_ret (v := .slice A8 ks.length c8) (by simp [results, Tryd.results25, go_sem]) rfl ⟨A8, c8, ks, rfl, ho8.mono ext1.size, hc8, hm8, ⟨by rw [List.length_eq_zero_iff.1 h0]; exact (Nat.gcd_zero_right _).symm, hnx, by omega⟩, ext1.trans ext8⟩
    · go_wp2_with fail
      have hpos : 0 < val ys := by
        have := hny.ge (by rintro rfl; simp at h0)
        have h5 : 0 < 4294967296 ^ (ys.length - 1) := Nat.pow_pos (by omega)
        omega
      have hu64 := val_lt_two (hy.ext ext1).1 h3
      refine (divide_ok _ _ c d xs.length ys.length xs ys _ rfl rfl (hx.ext ext1) (hy.ext ext1) (by omega) (by omega) (by omega) (by omega) hnx hny (by omega) (by omega) (by omega)).mono ?_
      rintro e w8 ⟨Aq, cq, qs, Ar, cr, rs, rfl, hoq, hor, hcq, hmq, hcr, hmr, ⟨hq1, hr1, hq2, hr2, hq3, hr3⟩, ext8⟩
      have hrl : val rs < val ys := by rw [hr1]; exact Nat.mod_lt _ hpos
      have hr64 : val rs < 18446744073709551616 := by omega
      have hrs2 : rs.length ≤ 2 := len_two hr2 hr64
      have hgr : Nat.gcd (val ys) (val rs) = Nat.gcd (val xs) (val ys) := by rw [hr1, Nat.gcd_comm (val ys), ← Nat.gcd_rec, Nat.gcd_comm]
      have Hgr := Lib.hid hgr
      have hgl : Nat.gcd (val ys) (val rs) ≤ val ys := Nat.gcd_le_left _ hpos
      have hur := (hy.ext ext1).ext ext8
      have hrr := hor.rd
      have hT8 := hT.ext (ext1.trans ext8)
      clear hq1 hr1 hgr hoq hrl hor
      go_wp2_with (first | (go_at_call 47; refine (int_toUint rfl (by first | exact hur | exact hrr) (by omega)).mono ?_; rintro e w9 ⟨rfl, rfl⟩) | (go_at_call 46; refine (int_commonUint (a0 := val ys) (b0 := val rs) (by omega) hu64 hr64 hT8).mono ?_; rintro e w9 ⟨rfl, rfl⟩))
      generalize Nat.gcd (val ys) (val rs) = G at *
      refine (int_fromUint G (by omega)).mono ?_
      rintro e w9 ⟨A9, c9, ks, rfl, ho9, hc9, hm9, ⟨hv9, hn9, hl9⟩, ext9⟩
      go_wp2_with fail
      exact bodyPost_ret (v := .slice A9 ks.length c9) (by simp [results, Tryd.results25, go_sem]) rfl ⟨A9, c9, ks, rfl, ho9.mono (ext1.trans ext8).size, hc9, hm9, ⟨by rw [hv9, Hgr.out], hn9, by omega⟩, (ext1.trans ext8).trans ext9⟩
  · go_wp2_with fail
    refine (int_reduce rfl rfl (hx.ext ext1) (hy.ext ext1) hnx hny Hle.out hlen (by omega) h1).mono ?_
    rintro e w2 ⟨A2, c2, zs, B2, d2, us, rfl, hz, hu, hcz, hmz, hcu, hmu, hnz, hnu, hlu, hu2, hzn, hg, ext2⟩
    have Hg := Lib.hid hg
    have Hlu := Lib.hid hlu
    clear hg hlu
    by_cases h0 : us.length = 0
    · go_wp2_with fail
      refine (clone (n := zs.length) rfl hz (by omega)).mono ?_
      rintro e w8 ⟨A8, c8, ks, rfl, ho8, hc8, hm8, hk8, ext8⟩
      subst hk8
      go_wp2_with fail
      exact bodyPost_ret (v := .slice A8 ks.length c8) (by simp [results, Tryd.results25, go_sem]) rfl ⟨A8, c8, ks, rfl, ho8.mono (ext1.trans ext2).size, hc8, hm8, ⟨by rw [← Hg.out, List.length_eq_zero_iff.1 h0]; exact (Nat.gcd_zero_right _).symm, hnz, by omega⟩, (ext1.trans ext2).trans ext8⟩
    · go_wp2_with fail
      have hpos : 0 < val us := by
        have := hnu.ge (by rintro rfl; simp at h0)
        have h5 : 0 < 4294967296 ^ (us.length - 1) := Nat.pow_pos (by omega)
        omega
      have hu64 := val_lt_two hu.1 hu2
      refine (divide_ok _ _ c2 d2 zs.length us.length zs us _ rfl rfl hz hu (by omega) (by omega) (by omega) (by omega) hnz hnu (by omega) (by omega) (by omega)).mono ?_
      rintro e w8 ⟨Aq, cq, qs, Ar, cr, rs, rfl, hoq, hor, hcq, hmq, hcr, hmr, ⟨hq1, hr1, hq2, hr2, hq3, hr3⟩, ext8⟩
      have hrl : val rs < val us := by rw [hr1]; exact Nat.mod_lt _ hpos
      have hr64 : val rs < 18446744073709551616 := by omega
      have hrs2 : rs.length ≤ 2 := len_two hr2 hr64
      have hgr : Nat.gcd (val us) (val rs) = Nat.gcd (val zs) (val us) := by rw [hr1, Nat.gcd_comm (val us), ← Nat.gcd_rec, Nat.gcd_comm]
      have Hgr := Lib.hid hgr
      have hgl : Nat.gcd (val us) (val rs) ≤ val us := Nat.gcd_le_left _ hpos
      have hur := hu.ext ext8
      have hrr := hor.rd
      have hT8 := hT.ext ((ext1.trans ext2).trans ext8)
      clear hq1 hr1 hgr hoq hrl hor
      go_wp2_with (first | (go_at_call 47; refine (int_toUint rfl (by first | exact hur | exact hrr) (by omega)).mono ?_; rintro e w9 ⟨rfl, rfl⟩) | (go_at_call 46; refine (int_commonUint (a0 := val us) (b0 := val rs) (by omega) hu64 hr64 hT8).mono ?_; rintro e w9 ⟨rfl, rfl⟩))
      generalize Nat.gcd (val us) (val rs) = G at *
      refine (int_fromUint G (by omega)).mono ?_
      rintro e w9 ⟨A9, c9, ks, rfl, ho9, hc9, hm9, ⟨hv9, hn9, hl9⟩, ext9⟩
      go_wp2_with fail
      exact bodyPost_ret (v := .slice A9 ks.length c9) (by simp [results, Tryd.results25, go_sem]) rfl ⟨A9, c9, ks, rfl, ho9.mono ((ext1.trans ext2).trans ext8).size, hc9, hm9, ⟨by rw [hv9, Hgr.out, Hg.out], hn9, by omega⟩, ((ext1.trans ext2).trans ext8).trans ext9⟩
set_option maxRecDepth 100000 in
set_option maxHeartbeats 4000000 in
theorem int_cd_lt (hx : Rd w A xs) (hy : Rd w B ys) (hnx : Nrm xs) (hny : Nrm ys) (h1 : xs.length ≤ 3000) (h2 : ys.length ≤ 3000) (hc : xs.length ≤ c) (hcm : c ≤ maxLen) (hd : ys.length ≤ d) (hdm : d ≤ maxLen) (hT : Tab w) (hlt : val ys < val xs) (hlen : ys.length ≤ xs.length) :
    Calls Tryd.prog 25 #[.slice B ys.length d, .slice A xs.length c] w (RetN (fun zs => val zs = Nat.gcd (val xs) (val ys) ∧ Nrm zs ∧ zs.length ≤ max xs.length 2) w) := by
  obtain ⟨S, hS, hSd⟩ : ∃ S, cmpL ys xs = S ∧ decide (S < 0) = true := ⟨_, rfl, by rw [cmpL_nrm hy.1 hx.1 hny hnx, cmpI]; split <;> (try split) <;> simp <;> omega⟩
  have HS := Lib.hid hS
  have Hle := Lib.hid (Nat.le_of_lt hlt)
  clear hS hlt
  go_enter Tryd.func25, Tryd.ntmps25
  go_wp2_with fail
  refine (int_compare _ _ _ _ _ _ _ hy hx (by omega) (by omega)).mono ?_
  rintro e w1 ⟨he, ext1⟩
  rw [HS.out] at he
  subst he
  by_cases h3 : ys.length ≤ 2
  · by_cases h0 : ys.length = 0
    · go_wp2_with fail
      refine (clone (n := xs.length) rfl (hx.ext ext1) (by omega)).mono ?_
      rintro e w8 ⟨A8, c8, ks, rfl, ho8, hc8, hm8, hk8, ext8⟩
      subst hk8
      go_wp2_with fail
      exact bodyPost_ret (v := .slice A8 ks.length c8) (by simp [results, Tryd.results25, go_sem]) rfl ⟨A8, c8, ks, rfl, ho8.mono ext1.size, hc8, hm8, ⟨by rw [List.length_eq_zero_iff.1 h0]; exact (Nat.gcd_zero_right _).symm, hnx, by omega⟩, ext1.trans ext8⟩
    · go_wp2_with fail
      have hpos : 0 < val ys := by
        have := hny.ge (by rintro rfl; simp at h0)
        have h5 : 0 < 4294967296 ^ (ys.length - 1) := Nat.pow_pos (by omega)
        omega
      have hu64 := val_lt_two (hy.ext ext1).1 h3
      refine (divide_ok _ _ c d xs.length ys.length xs ys _ rfl rfl (hx.ext ext1) (hy.ext ext1) (by omega) (by omega) (by omega) (by omega) hnx hny (by omega) (by omega) (by omega)).mono ?_
      rintro e w8 ⟨Aq, cq, qs, Ar, cr, rs, rfl, hoq, hor, hcq, hmq, hcr, hmr, ⟨hq1, hr1, hq2, hr2, hq3, hr3⟩, ext8⟩
      have hrl : val rs < val ys := by rw [hr1]; exact Nat.mod_lt _ hpos
      have hr64 : val rs < 18446744073709551616 := by omega
      have hrs2 : rs.length ≤ 2 := len_two hr2 hr64
      have hgr : Nat.gcd (val ys) (val rs) = Nat.gcd (val xs) (val ys) := by rw [hr1, Nat.gcd_comm (val ys), ← Nat.gcd_rec, Nat.gcd_comm]
      have Hgr := Lib.hid hgr
      have hgl : Nat.gcd (val ys) (val rs) ≤ val ys := Nat.gcd_le_left _ hpos
      have hur := (hy.ext ext1).ext ext8
      have hrr := hor.rd
      have hT8 := hT.ext (ext1.trans ext8)
      clear hq1 hr1 hgr hoq hrl hor
      go_wp2_with (first | (go_at_call 47; refine (int_toUint rfl (by first | exact hur | exact hrr) (by omega)).mono ?_; rintro e w9 ⟨rfl, rfl⟩) | (go_at_call 46; refine (int_commonUint (a0 := val ys) (b0 := val rs) (by omega) hu64 hr64 hT8).mono ?_; rintro e w9 ⟨rfl, rfl⟩))
      generalize Nat.gcd (val ys) (val rs) = G at *
      refine (int_fromUint G (by omega)).mono ?_
      rintro e w9 ⟨A9, c9, ks, rfl, ho9, hc9, hm9, ⟨hv9, hn9, hl9⟩, ext9⟩
      go_wp2_with fail
      exact bodyPost_ret (v := .slice A9 ks.length c9) (by simp [results, Tryd.results25, go_sem]) rfl ⟨A9, c9, ks, rfl, ho9.mono (ext1.trans ext8).size, hc9, hm9, ⟨by rw [hv9, Hgr.out], hn9, by omega⟩, (ext1.trans ext8).trans ext9⟩
  · go_wp2_with fail
    refine (int_reduce rfl rfl (hx.ext ext1) (hy.ext ext1) hnx hny Hle.out hlen (by omega) h1).mono ?_
    rintro e w2 ⟨A2, c2, zs, B2, d2, us, rfl, hz, hu, hcz, hmz, hcu, hmu, hnz, hnu, hlu, hu2, hzn, hg, ext2⟩
    have Hg := Lib.hid hg
    have Hlu := Lib.hid hlu
    clear hg hlu
    by_cases h0 : us.length = 0
    · go_wp2_with fail
      refine (clone (n := zs.length) rfl hz (by omega)).mono ?_
      rintro e w8 ⟨A8, c8, ks, rfl, ho8, hc8, hm8, hk8, ext8⟩
      subst hk8
      go_wp2_with fail
      exact bodyPost_ret (v := .slice A8 ks.length c8) (by simp [results, Tryd.results25, go_sem]) rfl ⟨A8, c8, ks, rfl, ho8.mono (ext1.trans ext2).size, hc8, hm8, ⟨by rw [← Hg.out, List.length_eq_zero_iff.1 h0]; exact (Nat.gcd_zero_right _).symm, hnz, by omega⟩, (ext1.trans ext2).trans ext8⟩
    · go_wp2_with fail
      have hpos : 0 < val us := by
        have := hnu.ge (by rintro rfl; simp at h0)
        have h5 : 0 < 4294967296 ^ (us.length - 1) := Nat.pow_pos (by omega)
        omega
      have hu64 := val_lt_two hu.1 hu2
      refine (divide_ok _ _ c2 d2 zs.length us.length zs us _ rfl rfl hz hu (by omega) (by omega) (by omega) (by omega) hnz hnu (by omega) (by omega) (by omega)).mono ?_
      rintro e w8 ⟨Aq, cq, qs, Ar, cr, rs, rfl, hoq, hor, hcq, hmq, hcr, hmr, ⟨hq1, hr1, hq2, hr2, hq3, hr3⟩, ext8⟩
      have hrl : val rs < val us := by rw [hr1]; exact Nat.mod_lt _ hpos
      have hr64 : val rs < 18446744073709551616 := by omega
      have hrs2 : rs.length ≤ 2 := len_two hr2 hr64
      have hgr : Nat.gcd (val us) (val rs) = Nat.gcd (val zs) (val us) := by rw [hr1, Nat.gcd_comm (val us), ← Nat.gcd_rec, Nat.gcd_comm]
      have Hgr := Lib.hid hgr
      have hgl : Nat.gcd (val us) (val rs) ≤ val us := Nat.gcd_le_left _ hpos
      have hur := hu.ext ext8
      have hrr := hor.rd
      have hT8 := hT.ext ((ext1.trans ext2).trans ext8)
      clear hq1 hr1 hgr hoq hrl hor
      go_wp2_with (first | (go_at_call 47; refine (int_toUint rfl (by first | exact hur | exact hrr) (by omega)).mono ?_; rintro e w9 ⟨rfl, rfl⟩) | (go_at_call 46; refine (int_commonUint (a0 := val us) (b0 := val rs) (by omega) hu64 hr64 hT8).mono ?_; rintro e w9 ⟨rfl, rfl⟩))
      generalize Nat.gcd (val us) (val rs) = G at *
      refine (int_fromUint G (by omega)).mono ?_
      rintro e w9 ⟨A9, c9, ks, rfl, ho9, hc9, hm9, ⟨hv9, hn9, hl9⟩, ext9⟩
      go_wp2_with fail
      exact bodyPost_ret (v := .slice A9 ks.length c9) (by simp [results, Tryd.results25, go_sem]) rfl ⟨A9, c9, ks, rfl, ho9.mono ((ext1.trans ext2).trans ext8).size, hc9, hm9, ⟨by rw [hv9, Hgr.out, Hg.out], hn9, by omega⟩, ((ext1.trans ext2).trans ext8).trans ext9⟩
theorem nrm_len {xs ys : List Nat} (hw : W32 xs) (hn : Nrm ys) (h : val ys ≤ val xs) : ys.length ≤ xs.length := by
  refine Nat.le_of_not_lt fun hlt => ?_
  have h1 := hn.ge (by rintro rfl; simp at hlt)
  have h2 := val_lt hw
  have h3 : 4294967296 ^ xs.length ≤ 4294967296 ^ (ys.length - 1) := Nat.pow_le_pow_right (by omega) (by omega)
  generalize 4294967296 ^ xs.length = p at *
  generalize 4294967296 ^ (ys.length - 1) = q at *
  omega
theorem int_commonDivisor (hx : Rd w A xs) (hy : Rd w B ys) (hnx : Nrm xs) (hny : Nrm ys) (h1 : xs.length ≤ 3000) (h2 : ys.length ≤ 3000) (hc : xs.length ≤ c) (hcm : c ≤ maxLen) (hd : ys.length ≤ d) (hdm : d ≤ maxLen) (hT : Tab w) :
    Calls Tryd.prog 25 #[.slice A xs.length c, .slice B ys.length d] w (RetN (fun zs => val zs = Nat.gcd (val xs) (val ys) ∧ Nrm zs ∧ zs.length ≤ max (max xs.length ys.length) 2) w) := by
  rcases Nat.lt_or_ge (val xs) (val ys) with h | h
  · refine (int_cd_lt hy hx hny hnx h2 h1 hd hdm hc hcm hT h (nrm_len hy.1 hnx (Nat.le_of_lt h))).mono ?_
    rintro e w' ⟨A', c', zs, h1, h2, h3, h4, ⟨h5, h6, h7⟩, h8⟩
    exact ⟨A', c', zs, h1, h2, h3, h4, ⟨by rw [h5, Nat.gcd_comm], h6, by omega⟩, h8⟩
  · refine (int_cd_ge hx hy hnx hny h1 h2 hc hcm hd hdm hT h (nrm_len hx.1 hny h)).mono ?_
    rintro e w' ⟨A', c', zs, h1, h2, h3, h4, ⟨h5, h6, h7⟩, h8⟩
    exact ⟨A', c', zs, h1, h2, h3, h4, ⟨h5, h6, by omega⟩, h8⟩
end
end Go.Proofs.YtmjmcinnbmjpdaaDoor
