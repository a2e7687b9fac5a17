/- Walks and laws, a part. -/
import Derived.Test.YtijdljfnmdoffaaGreatDoorR1
import Derived.Test.YtijdljfnmdoffaaGreatDoorR0
import Derived.Test.YtijdljfnmdoffaaGreatDoorR2
import Derived.Shelf.Spec.TrailingZeros
import Derived.BigQuiet
import Derived.Lib.Strings
set_option linter.unusedSimpArgs false
set_option linter.unusedVariables false
set_option maxHeartbeats 64000000
namespace Go.Proofs.YtijdljfnmdoffaaGreatDoor
section
open Go.RowKit
def Tab (w : World) : Prop := ∀ j, j < 64 -> w.cell? ⟨0, j, none⟩ = some (.int .u8 (Lib.deBruijn64tab.getD j 0 : Nat))
theorem Tab.ext {w w' : World} (h : Tab w) (e : Ext w w') : Tab w' := fun j hj => e.cellv (h j hj)
section
variable {w : World}
theorem tz_core (x k idx : Nat) (hx0 : ((x : Int) == 0) = false)
  (key : IntKind.u64.wrap (bits BinOp.and IntKind.u64 (x : Int) (IntKind.u64.wrap (-(x : Int))) * 285870213051353865) / 288230376151711744 = (idx : Int)) (hi : idx < 64) (hk : k < 64) (hcell : w.cell? ⟨0, idx, none⟩ = some (.int .u8 (k : Int))) :
  Calls Tryz.prog 172 #[.int .u64 (x : Int)] w fun e w' => e = .returned (.int .i64 (k : Int)) /\ w = w' := by
 go_enter Tryz.func172, Tryz.ntmps172
 go_wp2_with (simp only [key])
 go_ret
 exact ⟨rfl, rfl⟩
theorem int_tz (x : Nat) (h0 : x ≠ 0) (hx : x < 18446744073709551616) (hT : Tab w) :
  Calls Tryz.prog 172 #[.int .u64 (x : Int)] w fun e w' => e = .returned (.int .i64 (Lib.ctz 64 x : Nat)) /\ w = w' := by
 obtain ⟨hlow, hk⟩ := Lib.lowest_bit 64 x h0 hx;obtain ⟨hi, htab⟩ := Lib.deBruijn64_at _ hk;have hcell := hT _ hi;rw [htab] at hcell;exact tz_core x _ _ (by rw [beq_eq_false_iff_ne]; omega) (tz64_key x _ hx h0 hlow) hi hk hcell
theorem ctz_odd {x : Nat} (h0 : x ≠ 0) (hx : x < 18446744073709551616) : ∃ m, x = 2 ^ Lib.ctz 64 x * (2 * m + 1) /\ Lib.ctz 64 x < 64 := by
 unfold Lib.ctz;rw [if_neg h0];exact Lib.ctzFrom_spec 64 x (by omega) hx
theorem ctz_unique {s t m l : Nat} (h : 2 ^ s * (2 * m + 1) = 2 ^ t * (2 * l + 1)) : s = t := by
 have key : ∀ {s t m l : Nat}, s < t -> 2 ^ s * (2 * m + 1) = 2 ^ t * (2 * l + 1) -> False := by
  intro s t m l hlt h;obtain ⟨d, rfl⟩ : ∃ d, t = s + (d + 1) := ⟨t - s - 1, by omega⟩;rw [Nat.pow_add, Nat.mul_assoc] at h;have h2 := Nat.eq_of_mul_eq_mul_left (Nat.pow_pos (by omega)) h;rw [Nat.pow_succ, Nat.mul_comm (2 ^ d) 2, Nat.mul_assoc] at h2;omega
 rcases Nat.lt_trichotomy s t with h1 | h1 | h1
 ·exact (key h1 h).elim
 ·exact h1
 ·exact (key h1 h.symm).elim
theorem or_odd (a c : Nat) : ∃ m, (2 * a + 1) ||| c = 2 * m + 1 := by
 refine ⟨((2 * a + 1) ||| c) / 2, ?_⟩
 have h : ((2 * a + 1) ||| c) % 2 = 1 := by
  simp
 omega
theorem ctz_or {a b : Nat} (ha : a ≠ 0) (hb : b ≠ 0) (ha2 : a < 18446744073709551616) (hb2 : b < 18446744073709551616) : Lib.ctz 64 (a ||| b) = min (Lib.ctz 64 a) (Lib.ctz 64 b) := by
 have key : ∀ {a b : Nat}, a ≠ 0 -> b ≠ 0 -> a < 18446744073709551616 -> b < 18446744073709551616 -> Lib.ctz 64 a <= Lib.ctz 64 b -> Lib.ctz 64 (a ||| b) = Lib.ctz 64 a := by
  intro a b ha hb ha2 hb2 hle;obtain ⟨m, em, _⟩ := ctz_odd ha ha2;obtain ⟨l, el, _⟩ := ctz_odd hb hb2;generalize Lib.ctz 64 a = s at *;generalize Lib.ctz 64 b = t at *
  have hor : a ||| b = 2 ^ s * ((2 * m + 1) ||| (2 ^ (t - s) * (2 * l + 1))) := by
   have e : b = 2 ^ s * (2 ^ (t - s) * (2 * l + 1)) := by rw [<- Nat.mul_assoc, <- Nat.pow_add, show s + (t - s) = t by omega]; exact el
   conv => lhs; rw [em, e]
   rw [Nat.mul_comm (2 ^ s), Nat.mul_comm (2 ^ s), Nat.mul_comm (2 ^ s), <- Nat.shiftLeft_eq, <- Nat.shiftLeft_eq, <- Nat.shiftLeft_eq, Nat.shiftLeft_or_distrib]
  obtain ⟨q, hq⟩ := or_odd m (2 ^ (t - s) * (2 * l + 1));rw [hq] at hor
  have hn : a ||| b ≠ 0 := by
   rw [hor];exact Nat.ne_of_gt (Nat.mul_pos (Nat.pow_pos (by omega)) (by omega))
  obtain ⟨r, er, _⟩ := ctz_odd hn (Nat.or_lt_two_pow (n := 64) ha2 hb2);exact ctz_unique (er.symm.trans hor)
 rcases Nat.le_total (Lib.ctz 64 a) (Lib.ctz 64 b) with h | h
 ·rw [key ha hb ha2 hb2 h, Nat.min_eq_left h]
 ·rw [Nat.or_comm, key hb ha hb2 ha2 h, Nat.min_eq_right h]
theorem gcd_odd {m k x : Nat} : Nat.gcd (2 * m + 1) (2 ^ k * x) = Nat.gcd (2 * m + 1) x := by
 have h : Nat.Coprime (2 ^ k) (2 * m + 1) := Nat.Coprime.pow_left k (by
  unfold Nat.Coprime;rw [Nat.gcd_rec, show (2 * m + 1) % 2 = 1 by omega]
  rfl)
 exact Nat.Coprime.gcd_mul_left_cancel_right x h
theorem shr_cast (x t : Nat) : (x : Int) / 2 ^ t = ((x / 2 ^ t : Nat) : Int) := by simp
theorem shl_cast64 {x t : Nat} (h : x * 2 ^ t < 18446744073709551616) : IntKind.u64.wrap ((x : Int) * 2 ^ t) = ((x * 2 ^ t : Nat) : Int) := by
 have e : (x : Int) * 2 ^ t = ((x * 2 ^ t : Nat) : Int) := by rw [Int.natCast_mul, Int.natCast_pow]; rfl
 rw [e, IntWalk.u64_in _ (by omega)]
theorem odd_part {x : Nat} (h0 : x ≠ 0) (hx : x < 18446744073709551616) : ∃ m, x / 2 ^ Lib.ctz 64 x = 2 * m + 1 /\ x = 2 ^ Lib.ctz 64 x * (2 * m + 1) /\ Lib.ctz 64 x < 64 := by
 obtain ⟨m, em, hk⟩ := ctz_odd h0 hx;refine ⟨m, ?_, em, hk⟩;generalize Lib.ctz 64 x = t at *;rw [em, Nat.mul_div_cancel_left _ (Nat.pow_pos (by omega))]
set_option maxRecDepth 100000 in
theorem int_commonUint {a0 b0 : Nat} (ha : a0 ≠ 0) (ha2 : a0 < 18446744073709551616) (hb2 : b0 < 18446744073709551616) (hT : Tab w) :
  Calls Tryz.prog 152 #[.int .u64 (a0 : Int), .int .u64 (b0 : Int)] w fun e w' => e = .returned (.int .u64 ((Nat.gcd a0 b0 : Nat) : Int)) /\ w = w' := by
 by_cases hb : b0 = 0
 ·subst hb
  have t0 : (((0 : Nat) : Int) == 0) = true := rfl
  go_enter Tryz.func152, Tryz.ntmps152
  go_wp2_with fail
  go_ret
  exact ⟨by rw [Nat.gcd_zero_right]; rfl, rfl⟩
 ·have t0 : ((b0 : Int) == 0) = false := by rw [beq_eq_false_iff_ne]; omega
  have hor := u64_or_nat a0 b0 ha2 hb2
  have hor0 : a0 ||| b0 ≠ 0 := by
   intro h;have := Nat.left_le_or (n := a0) (m := b0);omega
  have hor2 : a0 ||| b0 < 18446744073709551616 := Nat.or_lt_two_pow (n := 64) ha2 hb2;have hct := ctz_or ha hb ha2 hb2;obtain ⟨m0, em, ea, k1⟩ := odd_part ha ha2;obtain ⟨l0, el, eb, k2⟩ := odd_part hb hb2
  have hmin : Nat.gcd a0 b0 = 2 ^ min (Lib.ctz 64 a0) (Lib.ctz 64 b0) * Nat.gcd (2 * m0 + 1) (2 * l0 + 1) := by
   generalize Lib.ctz 64 a0 = s at *;generalize Lib.ctz 64 b0 = t at *
   rcases Nat.le_total s t with h | h
   ·rw [Nat.min_eq_left h]
    have e : b0 = 2 ^ s * (2 ^ (t - s) * (2 * l0 + 1)) := by rw [<- Nat.mul_assoc, <- Nat.pow_add, show s + (t - s) = t by omega]; exact eb
    rw [e, ea, Nat.gcd_mul_left, gcd_odd]
   ·rw [Nat.min_eq_right h]
    have e : a0 = 2 ^ t * (2 ^ (s - t) * (2 * m0 + 1)) := by rw [<- Nat.mul_assoc, <- Nat.pow_add, show t + (s - t) = s by omega]; exact ea
    rw [e, eb, Nat.gcd_mul_left, Nat.gcd_comm, gcd_odd, Nat.gcd_comm]
  have hT1 := int_tz (w := w) _ hor0 hor2 hT;rw [hct] at hT1;have hT2 := int_tz (w := w) _ ha ha2 hT;have hg0 : Nat.gcd (2 * m0 + 1) b0 = Nat.gcd (2 * m0 + 1) (2 * l0 + 1) := by rw [eb, gcd_odd]
  have hle : Nat.gcd a0 b0 <= a0 := Nat.le_of_dvd (by omega) (Nat.gcd_dvd_left _ _);rw [hmin] at hle ⊢;have hsc := shr_cast a0 (Lib.ctz 64 a0);rw [em] at hsc;have hm0 : 2 * m0 + 1 <= a0 := by rw [<- em]; exact Nat.div_le_self _ _
  have htw : min (Lib.ctz 64 a0) (Lib.ctz 64 b0) <= 63 := by omega
  generalize min (Lib.ctz 64 a0) (Lib.ctz 64 b0) = tw at *;generalize hta : Lib.ctz 64 a0 = ta at *;generalize Nat.gcd (2 * m0 + 1) (2 * l0 + 1) = G at *;generalize a0 ||| b0 = o at *;generalize hGG : 2 ^ tw * G = GG at *;have HGG := Lib.hid hGG;clear hGG;have HOr := Lib.hid hor;have H1 := Lib.hid hT1;have H2 := Lib.hid hT2;have HS := Lib.hid hsc;have HG := Lib.hid hg0;have HL := Lib.hid hle;clear hor hT1 hT2 hsc hg0 hle hct hmin em ea el eb hta hor0 hor2
  go_enter Tryz.func152, Tryz.ntmps152
  go_upto_region 3 with (fail)
  go_wp2_with (first | (rw [HOr.out]; refine H1.out.mono ?_; rintro e w1 ⟨rfl, rfl⟩))
  refine H2.out.mono ?_;rintro e w1 ⟨rfl, rfl⟩
  go_wp2_with fail
  go_loop [0, 1] (fun sa sb => ∃ a b : Nat, sa = .int .u64 (a : Int) /\ sb = .int .u64 (b : Int) /\ a % 2 = 1 /\ Nat.gcd a b = G /\ a < 18446744073709551616 /\ b < 18446744073709551616) (fun sa sb => (intOf sa).toNat + (intOf sb).toNat)
  case atStart => exact ⟨2 * m0 + 1, b0, congrArg (Value.int .u64) HS.out, rfl, by omega, HG.out, by omega, hb2⟩
  case round =>
   obtain ⟨a, b, rfl, rfl, ho, hg, hm, hb3⟩ := hrel;have Ho := Lib.hid ho;have ha1 : 1 <= a := by omega
   clear ho
   by_cases hz : b = 0
   ·subst hz
    rw [Nat.gcd_zero_right] at hg;have t1 : (((0 : Nat) : Int) == 0) = true := rfl;have t2 : (((0 : Nat) : Int) != 0) = false := rfl;have hsl := shl_cast64 (x := a) (t := tw) (by rw [hg, Nat.mul_comm, HGG.out]; have := HL.out; omega);rw [hg, Nat.mul_comm, HGG.out, <- hg] at hsl;have HSL := Lib.hid hsl;clear hsl hg
    go_wp2_with fail
    rw [HSL.out]
    go_ret
    exact ⟨rfl, rfl⟩
   ·have t1 : ((b : Int) == 0) = false := by rw [beq_eq_false_iff_ne]; omega
    have t2 : ((b : Int) != 0) = true := by rw [bne_iff_ne]; omega
    obtain ⟨l, e1, e2, k3⟩ := odd_part hz hb3;have hT3 := int_tz (w := w) _ hz hb3 hT;have hsc := shr_cast b (Lib.ctz 64 b);have hlb : b / 2 ^ Lib.ctz 64 b <= b := Nat.div_le_self _ _
    have hg2 : Nat.gcd a (b / 2 ^ Lib.ctz 64 b) = G := by
     obtain ⟨m, rfl⟩ : ∃ m, a = 2 * m + 1 := ⟨a / 2, by have := Ho.out; omega⟩;rw [<- hg, e1]
     conv => rhs; rw [e2]
     rw [gcd_odd]
    have hodd : (b / 2 ^ Lib.ctz 64 b) % 2 = 1 := by omega
    generalize b / 2 ^ Lib.ctz 64 b = q at *;generalize Lib.ctz 64 b = tb at *;have H3 := Lib.hid hT3;have HSC := Lib.hid hsc;have Hg2 := Lib.hid hg2;have Hod := Lib.hid hodd;have hq1 : 1 <= q := by omega
    clear hT3 hsc hg2 e1 e2 hg hodd
    go_wp2_with fail
    refine H3.out.mono ?_;rintro e w1 ⟨rfl, rfl⟩
    go_upto_region 7 with (fail)
    rw [HSC.out]
    by_cases hgt : q < a
    ·have t3 : decide ((q : Int) < (a : Int)) = true := decide_eq_true (by omega)
     go_wp2_with fail
     go_round
     case rel => exact ⟨q, a - q, rfl, congrArg (Value.int .u64) (by omega), Hod.out, by rw [Nat.gcd_sub_self_right (by omega), Nat.gcd_comm]; exact Hg2.out, by omega, by omega⟩
     case measure => simp [intOf]; omega
    ·have t3 : decide ((q : Int) < (a : Int)) = false := decide_eq_false (by omega)
     go_wp2_with fail
     go_round
     case rel => exact ⟨a, q - a, rfl, congrArg (Value.int .u64) (by omega), Ho.out, by rw [Nat.gcd_sub_self_right (by omega)]; exact Hg2.out, by omega, by omega⟩
     case measure => simp [intOf]; omega
end
theorem len_two {rs : List Nat} (hn : Nrm rs) (h : val rs < 18446744073709551616) : rs.length <= 2 := by
 refine Nat.le_of_not_lt fun hlt => ?_
 have h1 := hn.ge (by rintro rfl; simp at hlt);have h2 : 4294967296 ^ 2 <= 4294967296 ^ (rs.length - 1) := Nat.pow_le_pow_right (by omega) (by omega);have h3 : (4294967296 : Nat) ^ 2 = 18446744073709551616 := by decide
 generalize 4294967296 ^ (rs.length - 1) = p at *;omega
section
variable {A B : Option Addr} {c d n m : Nat} {xs ys : List Nat} {w : World}
set_option maxRecDepth 100000 in
theorem int_cd_ge (hx : Rd w A xs) (hy : Rd w B ys) (hnx : Nrm xs) (hny : Nrm ys) (h1 : xs.length <= 3000) (h2 : ys.length <= 3000) (hc : xs.length <= c) (hcm : c <= maxLen) (hd : ys.length <= d) (hdm : d <= maxLen) (hT : Tab w) (hle : val ys <= val xs) (hlen : ys.length <= xs.length) :
  Calls Tryz.prog 125 #[.slice A xs.length c, .slice B ys.length d] w (RetN (fun zs => val zs = Nat.gcd (val xs) (val ys) /\ Nrm zs /\ zs.length <= max xs.length 2) w) := by
 obtain ⟨S, hS, hSd⟩ : ∃ S, cmpL xs ys = S /\ decide (S < 0) = false := ⟨_, rfl, by rw [cmpL_nrm hx.1 hy.1 hnx hny, cmpI]; split <;> (try split) <;> simp <;> omega⟩;have HS := Lib.hid hS;have Hle := Lib.hid hle;clear hS hle
 go_enter Tryz.func125, Tryz.ntmps125
 go_wp2_with fail
 refine (int_compare _ _ _ _ _ _ _ hx hy (by omega) (by omega)).mono ?_;rintro e w1 ⟨he, ext1⟩;rw [HS.out] at he;subst he
 by_cases h3 : ys.length <= 2
 ·by_cases h0 : ys.length = 0
  ·go_wp2_with fail
   refine (clone (n := xs.length) rfl (hx.ext ext1) (by omega)).mono ?_;rintro e w8 ⟨A8, c8, ks, rfl, ho8, hc8, hm8, hk8, ext8⟩;subst hk8
   go_wp2_with fail
   exact bodyPost_ret (v := .slice A8 ks.length c8) (by simp [results, Tryz.results125, go_sem]) rfl ⟨A8, c8, ks, rfl, ho8.mono ext1.size, hc8, hm8, ⟨by rw [List.length_eq_zero_iff.1 h0]; exact (Nat.gcd_zero_right _).symm, hnx, by omega⟩, ext1.trans ext8⟩
  ·go_wp2_with fail
   have hpos : 0 < val ys := by
    have := hny.ge (by rintro rfl; simp at h0);have h5 : 0 < 4294967296 ^ (ys.length - 1) := Nat.pow_pos (by omega);omega
   have hu64 := val_lt_two (hy.ext ext1).1 h3;refine (divide_ok _ _ c d xs.length ys.length xs ys _ rfl rfl (hx.ext ext1) (hy.ext ext1) (by omega) (by omega) (by omega) (by omega) hnx hny (by omega) (by omega) (by omega)).mono ?_;rintro e w8 ⟨Aq, cq, qs, Ar, cr, rs, rfl, hoq, hor, hcq, hmq, hcr, hmr, ⟨hq1, hr1, hq2, hr2, hq3, hr3⟩, ext8⟩;have hrl : val rs < val ys := by rw [hr1]; exact Nat.mod_lt _ hpos
   have hr64 : val rs < 18446744073709551616 := by omega
   have hrs2 : rs.length <= 2 := len_two hr2 hr64;have hgr : Nat.gcd (val ys) (val rs) = Nat.gcd (val xs) (val ys) := by rw [hr1, Nat.gcd_comm (val ys), <- Nat.gcd_rec, Nat.gcd_comm]
   have Hgr := Lib.hid hgr;have hgl : Nat.gcd (val ys) (val rs) <= val ys := Nat.gcd_le_left _ hpos;have hur := (hy.ext ext1).ext ext8;have hrr := hor.rd;have hT8 := hT.ext (ext1.trans ext8);clear hq1 hr1 hgr hoq hrl hor
   go_wp2_with (first | (go_at_call 153; refine (int_toUint rfl (by first | exact hur | exact hrr) (by omega)).mono ?_; rintro e w9 ⟨rfl, rfl⟩) | (go_at_call 152; refine (int_commonUint (a0 := val ys) (b0 := val rs) (by omega) hu64 hr64 hT8).mono ?_; rintro e w9 ⟨rfl, rfl⟩))
   generalize Nat.gcd (val ys) (val rs) = G at *;refine (int_fromUint G (by omega)).mono ?_;rintro e w9 ⟨A9, c9, ks, rfl, ho9, hc9, hm9, ⟨hv9, hn9, hl9⟩, ext9⟩
   go_wp2_with fail
   exact bodyPost_ret (v := .slice A9 ks.length c9) (by simp [results, Tryz.results125, go_sem]) rfl ⟨A9, c9, ks, rfl, ho9.mono (ext1.trans ext8).size, hc9, hm9, ⟨by rw [hv9, Hgr.out], hn9, by omega⟩, (ext1.trans ext8).trans ext9⟩
 ·go_wp2_with fail
  refine (int_reduce rfl rfl (hx.ext ext1) (hy.ext ext1) hnx hny Hle.out hlen (by omega) h1).mono ?_;rintro e w2 ⟨A2, c2, zs, B2, d2, us, rfl, hz, hu, hcz, hmz, hcu, hmu, hnz, hnu, hlu, hu2, hzn, hg, ext2⟩;have Hg := Lib.hid hg;have Hlu := Lib.hid hlu;clear hg hlu
  by_cases h0 : us.length = 0
  ·go_wp2_with fail
   refine (clone (n := zs.length) rfl hz (by omega)).mono ?_;rintro e w8 ⟨A8, c8, ks, rfl, ho8, hc8, hm8, hk8, ext8⟩;subst hk8
   go_wp2_with fail
   exact bodyPost_ret (v := .slice A8 ks.length c8) (by simp [results, Tryz.results125, go_sem]) rfl ⟨A8, c8, ks, rfl, ho8.mono (ext1.trans ext2).size, hc8, hm8, ⟨by rw [<- Hg.out, List.length_eq_zero_iff.1 h0]; exact (Nat.gcd_zero_right _).symm, hnz, by omega⟩, (ext1.trans ext2).trans ext8⟩
  ·go_wp2_with fail
   have hpos : 0 < val us := by
    have := hnu.ge (by rintro rfl; simp at h0);have h5 : 0 < 4294967296 ^ (us.length - 1) := Nat.pow_pos (by omega);omega
   have hu64 := val_lt_two hu.1 hu2;refine (divide_ok _ _ c2 d2 zs.length us.length zs us _ rfl rfl hz hu (by omega) (by omega) (by omega) (by omega) hnz hnu (by omega) (by omega) (by omega)).mono ?_;rintro e w8 ⟨Aq, cq, qs, Ar, cr, rs, rfl, hoq, hor, hcq, hmq, hcr, hmr, ⟨hq1, hr1, hq2, hr2, hq3, hr3⟩, ext8⟩;have hrl : val rs < val us := by rw [hr1]; exact Nat.mod_lt _ hpos
   have hr64 : val rs < 18446744073709551616 := by omega
   have hrs2 : rs.length <= 2 := len_two hr2 hr64;have hgr : Nat.gcd (val us) (val rs) = Nat.gcd (val zs) (val us) := by rw [hr1, Nat.gcd_comm (val us), <- Nat.gcd_rec, Nat.gcd_comm]
   have Hgr := Lib.hid hgr;have hgl : Nat.gcd (val us) (val rs) <= val us := Nat.gcd_le_left _ hpos;have hur := hu.ext ext8;have hrr := hor.rd;have hT8 := hT.ext ((ext1.trans ext2).trans ext8);clear hq1 hr1 hgr hoq hrl hor
   go_wp2_with (first | (go_at_call 153; refine (int_toUint rfl (by first | exact hur | exact hrr) (by omega)).mono ?_; rintro e w9 ⟨rfl, rfl⟩) | (go_at_call 152; refine (int_commonUint (a0 := val us) (b0 := val rs) (by omega) hu64 hr64 hT8).mono ?_; rintro e w9 ⟨rfl, rfl⟩))
   generalize Nat.gcd (val us) (val rs) = G at *;refine (int_fromUint G (by omega)).mono ?_;rintro e w9 ⟨A9, c9, ks, rfl, ho9, hc9, hm9, ⟨hv9, hn9, hl9⟩, ext9⟩
   go_wp2_with fail
   exact bodyPost_ret (v := .slice A9 ks.length c9) (by simp [results, Tryz.results125, go_sem]) rfl ⟨A9, c9, ks, rfl, ho9.mono ((ext1.trans ext2).trans ext8).size, hc9, hm9, ⟨by rw [hv9, Hgr.out, Hg.out], hn9, by omega⟩, ((ext1.trans ext2).trans ext8).trans ext9⟩
set_option maxRecDepth 100000 in
theorem int_cd_lt (hx : Rd w A xs) (hy : Rd w B ys) (hnx : Nrm xs) (hny : Nrm ys) (h1 : xs.length <= 3000) (h2 : ys.length <= 3000) (hc : xs.length <= c) (hcm : c <= maxLen) (hd : ys.length <= d) (hdm : d <= maxLen) (hT : Tab w) (hlt : val ys < val xs) (hlen : ys.length <= xs.length) :
  Calls Tryz.prog 125 #[.slice B ys.length d, .slice A xs.length c] w (RetN (fun zs => val zs = Nat.gcd (val xs) (val ys) /\ Nrm zs /\ zs.length <= max xs.length 2) w) := by
 obtain ⟨S, hS, hSd⟩ : ∃ S, cmpL ys xs = S /\ decide (S < 0) = true := ⟨_, rfl, by rw [cmpL_nrm hy.1 hx.1 hny hnx, cmpI]; split <;> (try split) <;> simp <;> omega⟩;have HS := Lib.hid hS;have Hle := Lib.hid (Nat.le_of_lt hlt);clear hS hlt
 go_enter Tryz.func125, Tryz.ntmps125
 go_wp2_with fail
 refine (int_compare _ _ _ _ _ _ _ hy hx (by omega) (by omega)).mono ?_;rintro e w1 ⟨he, ext1⟩;rw [HS.out] at he;subst he
 by_cases h3 : ys.length <= 2
 ·by_cases h0 : ys.length = 0
  ·go_wp2_with fail
   refine (clone (n := xs.length) rfl (hx.ext ext1) (by omega)).mono ?_;rintro e w8 ⟨A8, c8, ks, rfl, ho8, hc8, hm8, hk8, ext8⟩;subst hk8
   go_wp2_with fail
   exact bodyPost_ret (v := .slice A8 ks.length c8) (by simp [results, Tryz.results125, go_sem]) rfl ⟨A8, c8, ks, rfl, ho8.mono ext1.size, hc8, hm8, ⟨by rw [List.length_eq_zero_iff.1 h0]; exact (Nat.gcd_zero_right _).symm, hnx, by omega⟩, ext1.trans ext8⟩
  ·go_wp2_with fail
   have hpos : 0 < val ys := by
    have := hny.ge (by rintro rfl; simp at h0);have h5 : 0 < 4294967296 ^ (ys.length - 1) := Nat.pow_pos (by omega);omega
   have hu64 := val_lt_two (hy.ext ext1).1 h3;refine (divide_ok _ _ c d xs.length ys.length xs ys _ rfl rfl (hx.ext ext1) (hy.ext ext1) (by omega) (by omega) (by omega) (by omega) hnx hny (by omega) (by omega) (by omega)).mono ?_;rintro e w8 ⟨Aq, cq, qs, Ar, cr, rs, rfl, hoq, hor, hcq, hmq, hcr, hmr, ⟨hq1, hr1, hq2, hr2, hq3, hr3⟩, ext8⟩;have hrl : val rs < val ys := by rw [hr1]; exact Nat.mod_lt _ hpos
   have hr64 : val rs < 18446744073709551616 := by omega
   have hrs2 : rs.length <= 2 := len_two hr2 hr64;have hgr : Nat.gcd (val ys) (val rs) = Nat.gcd (val xs) (val ys) := by rw [hr1, Nat.gcd_comm (val ys), <- Nat.gcd_rec, Nat.gcd_comm]
   have Hgr := Lib.hid hgr;have hgl : Nat.gcd (val ys) (val rs) <= val ys := Nat.gcd_le_left _ hpos;have hur := (hy.ext ext1).ext ext8;have hrr := hor.rd;have hT8 := hT.ext (ext1.trans ext8);clear hq1 hr1 hgr hoq hrl hor
   go_wp2_with (first | (go_at_call 153; refine (int_toUint rfl (by first | exact hur | exact hrr) (by omega)).mono ?_; rintro e w9 ⟨rfl, rfl⟩) | (go_at_call 152; refine (int_commonUint (a0 := val ys) (b0 := val rs) (by omega) hu64 hr64 hT8).mono ?_; rintro e w9 ⟨rfl, rfl⟩))
   generalize Nat.gcd (val ys) (val rs) = G at *;refine (int_fromUint G (by omega)).mono ?_;rintro e w9 ⟨A9, c9, ks, rfl, ho9, hc9, hm9, ⟨hv9, hn9, hl9⟩, ext9⟩
   go_wp2_with fail
   exact bodyPost_ret (v := .slice A9 ks.length c9) (by simp [results, Tryz.results125, go_sem]) rfl ⟨A9, c9, ks, rfl, ho9.mono (ext1.trans ext8).size, hc9, hm9, ⟨by rw [hv9, Hgr.out], hn9, by omega⟩, (ext1.trans ext8).trans ext9⟩
 ·go_wp2_with fail
  refine (int_reduce rfl rfl (hx.ext ext1) (hy.ext ext1) hnx hny Hle.out hlen (by omega) h1).mono ?_;rintro e w2 ⟨A2, c2, zs, B2, d2, us, rfl, hz, hu, hcz, hmz, hcu, hmu, hnz, hnu, hlu, hu2, hzn, hg, ext2⟩;have Hg := Lib.hid hg;have Hlu := Lib.hid hlu;clear hg hlu
  by_cases h0 : us.length = 0
  ·go_wp2_with fail
   refine (clone (n := zs.length) rfl hz (by omega)).mono ?_;rintro e w8 ⟨A8, c8, ks, rfl, ho8, hc8, hm8, hk8, ext8⟩;subst hk8
   go_wp2_with fail
   exact bodyPost_ret (v := .slice A8 ks.length c8) (by simp [results, Tryz.results125, go_sem]) rfl ⟨A8, c8, ks, rfl, ho8.mono (ext1.trans ext2).size, hc8, hm8, ⟨by rw [<- Hg.out, List.length_eq_zero_iff.1 h0]; exact (Nat.gcd_zero_right _).symm, hnz, by omega⟩, (ext1.trans ext2).trans ext8⟩
  ·go_wp2_with fail
   have hpos : 0 < val us := by
    have := hnu.ge (by rintro rfl; simp at h0);have h5 : 0 < 4294967296 ^ (us.length - 1) := Nat.pow_pos (by omega);omega
   have hu64 := val_lt_two hu.1 hu2;refine (divide_ok _ _ c2 d2 zs.length us.length zs us _ rfl rfl hz hu (by omega) (by omega) (by omega) (by omega) hnz hnu (by omega) (by omega) (by omega)).mono ?_;rintro e w8 ⟨Aq, cq, qs, Ar, cr, rs, rfl, hoq, hor, hcq, hmq, hcr, hmr, ⟨hq1, hr1, hq2, hr2, hq3, hr3⟩, ext8⟩;have hrl : val rs < val us := by rw [hr1]; exact Nat.mod_lt _ hpos
   have hr64 : val rs < 18446744073709551616 := by omega
   have hrs2 : rs.length <= 2 := len_two hr2 hr64;have hgr : Nat.gcd (val us) (val rs) = Nat.gcd (val zs) (val us) := by rw [hr1, Nat.gcd_comm (val us), <- Nat.gcd_rec, Nat.gcd_comm]
   have Hgr := Lib.hid hgr;have hgl : Nat.gcd (val us) (val rs) <= val us := Nat.gcd_le_left _ hpos;have hur := hu.ext ext8;have hrr := hor.rd;have hT8 := hT.ext ((ext1.trans ext2).trans ext8);clear hq1 hr1 hgr hoq hrl hor
   go_wp2_with (first | (go_at_call 153; refine (int_toUint rfl (by first | exact hur | exact hrr) (by omega)).mono ?_; rintro e w9 ⟨rfl, rfl⟩) | (go_at_call 152; refine (int_commonUint (a0 := val us) (b0 := val rs) (by omega) hu64 hr64 hT8).mono ?_; rintro e w9 ⟨rfl, rfl⟩))
   generalize Nat.gcd (val us) (val rs) = G at *;refine (int_fromUint G (by omega)).mono ?_;rintro e w9 ⟨A9, c9, ks, rfl, ho9, hc9, hm9, ⟨hv9, hn9, hl9⟩, ext9⟩
   go_wp2_with fail
   exact bodyPost_ret (v := .slice A9 ks.length c9) (by simp [results, Tryz.results125, go_sem]) rfl ⟨A9, c9, ks, rfl, ho9.mono ((ext1.trans ext2).trans ext8).size, hc9, hm9, ⟨by rw [hv9, Hgr.out, Hg.out], hn9, by omega⟩, ((ext1.trans ext2).trans ext8).trans ext9⟩
theorem nrm_len {xs ys : List Nat} (hw : W32 xs) (hn : Nrm ys) (h : val ys <= val xs) : ys.length <= xs.length := by
 refine Nat.le_of_not_lt fun hlt => ?_
 have h1 := hn.ge (by rintro rfl; simp at hlt);have h2 := val_lt hw;have h3 : 4294967296 ^ xs.length <= 4294967296 ^ (ys.length - 1) := Nat.pow_le_pow_right (by omega) (by omega);generalize 4294967296 ^ xs.length = p at *;generalize 4294967296 ^ (ys.length - 1) = q at *;omega
theorem int_commonDivisor (hx : Rd w A xs) (hy : Rd w B ys) (hnx : Nrm xs) (hny : Nrm ys) (h1 : xs.length <= 3000) (h2 : ys.length <= 3000) (hc : xs.length <= c) (hcm : c <= maxLen) (hd : ys.length <= d) (hdm : d <= maxLen) (hT : Tab w) :
  Calls Tryz.prog 125 #[.slice A xs.length c, .slice B ys.length d] w (RetN (fun zs => val zs = Nat.gcd (val xs) (val ys) /\ Nrm zs /\ zs.length <= max (max xs.length ys.length) 2) w) := by
 rcases Nat.lt_or_ge (val xs) (val ys) with h | h
 ·refine (int_cd_lt hy hx hny hnx h2 h1 hd hdm hc hcm hT h (nrm_len hy.1 hnx (Nat.le_of_lt h))).mono ?_
  rintro e w' ⟨A', c', zs, h1, h2, h3, h4, ⟨h5, h6, h7⟩, h8⟩;exact ⟨A', c', zs, h1, h2, h3, h4, ⟨by rw [h5, Nat.gcd_comm], h6, by omega⟩, h8⟩
 ·refine (int_cd_ge hx hy hnx hny h1 h2 hc hcm hd hdm hT h (nrm_len hx.1 hny h)).mono ?_
  rintro e w' ⟨A', c', zs, h1, h2, h3, h4, ⟨h5, h6, h7⟩, h8⟩;exact ⟨A', c', zs, h1, h2, h3, h4, ⟨h5, h6, by omega⟩, h8⟩
end
end
section
open Go.RowKit
attribute [local go_sem ↓] Go.wp_at_zero Go.wp_at_succ
section
variable {A B : Option Addr} {c d n m : Nat} {xs ys : List Nat} {w : World} {s t : Bool}
theorem int_GCD (hn : xs.length = n) (hm : ys.length = m) (hx : Rd w A xs) (hy : Rd w B ys) (hc : n <= c) (hcm : c <= maxLen) (hd : m <= d) (hdm : d <= maxLen) (h1 : n <= 3000) (h2 : m <= 3000) (hT : Tab w) :
  Calls Tryz.prog 88 #[.agg #[.bool s, .slice A n c], .agg #[.bool t, .slice B m d]] w (RetI ((Nat.gcd (val xs) (val ys) : Nat) : Int) (max (max xs.length ys.length) 2) w) := by
 have Hn := Lib.hid hn;have Hm := Lib.hid hm;clear hn hm;have lx := trimL_len xs;have ly := trimL_len ys;have hxt : Rd w A (trimL xs) := by rw [trimL_take]; exact hx.take _
 have hyt : Rd w B (trimL ys) := by rw [trimL_take]; exact hy.take _
 go_enter Tryz.func88, Tryz.ntmps88
 go_upto_region 1 with (fail)
 obtain ⟨W, hW, extW, bx, by_, bz, hz⟩ := box3 w 28 28 28 #[.bool s, .slice A n c] #[.bool t, .slice B m d] #[.bool false, .slice none 0 0];rw [<- hW];clear hW;have x1 := bx.cell 1 (.slice A n c) rfl;have y1 := by_.cell 1 (.slice B m d) rfl
 go_region_held3 (fun w' => w'.cell? ⟨w.heap.size, 1, none⟩ = some (.slice A n c) /\ w'.cell? ⟨w.heap.size + 1, 1, none⟩ = some (.slice B m d)) (first | (go_split_ands; refine ⟨?_, ?_⟩ <;> first | (exact Ext.cellv (by assumption) (by assumption)) | (refine (cell_far2 (by omega)).trans ?_; assumption)) | go_keep)
  (first | (go_at_call_of 114 A; refine (int_trimN Hn.out (hx.ext (by first | exact extW | exact extW.drew | exact extW.drewN _ | exact (extW.drew).drew)) hc hcm).mono ?_; rintro e w1 ⟨rfl, rfl⟩) | (go_at_call_of 114 B; refine (int_trimN Hm.out (hy.ext (by first | exact extW | exact extW.drew | exact extW.drewN _ | exact (extW.drew).drew)) hd hdm).mono ?_; rintro e w1 ⟨rfl, rfl⟩) | (go_at_call 125; refine (int_commonDivisor (hxt.ext (by first | exact extW | exact extW.drew | exact extW.drewN _ | exact (extW.drew).drew)) (hyt.ext (by first | exact extW | exact extW.drew | exact extW.drewN _ | exact (extW.drew).drew)) (Nrm.trimL xs) (Nrm.trimL ys) (by have := Hn.out; omega) (by have := Hm.out; omega) (by have := Hn.out; omega) hcm (by have := Hm.out; omega) hdm (hT.ext (by first | exact extW | exact extW.drew | exact extW.drewN _ | exact (extW.drew).drew))).mono ?_; rintro e w2 ⟨A2, c2, zs, rfl, ho2, hc2, hm2, ⟨hv2, hn2, hl2⟩, hext2⟩; have Hv2 := Lib.hid hv2; clear hv2) | (go_at_call 112; refine (int_signed rfl ho2.rd hc2 hm2 hn2).mono ?_; rintro e w3 ⟨b3, A3, c3, rs, rfl, hr3, hc3, hm3, hi3, hl3, hext3⟩; have ext3 := ((Ext.refl W).drew.trans hext2).trans hext3; have bz3 := bz.ext ext3; have z0 := bz3.cell 0 (.bool false) rfl; have z1 := bz3.cell 1 (.slice none 0 0) rfl; have f0 := bz3.frozen 0; have f1 := bz3.frozen 1))
 go_wp2_with fail
 obtain ⟨r1, r2, r3, r4⟩ := fin_pair (b := b3) (n := rs.length) (c := c3) (extW.trans ext3) (by omega) bz3 hr3;have hiv : ival false zs = ((Nat.gcd (val xs) (val ys) : Nat) : Int) := by rw [<- val_trimL xs, <- val_trimL ys, <- Hv2.out]; rfl
 exact bodyPost_ret (v := .agg #[.bool b3, .slice A3 rs.length c3]) (by simp [results, Tryz.results88, go_sem, r3, r4]) rfl ⟨b3, A3, c3, rs, rfl, r1, hc3, hm3, by rw [hiv] at hi3; exact hi3, by omega, r2⟩
end
end
section
open Go.RowKit
section
variable {A B : Option Addr} {c d n m : Nat} {xs ys : List Nat} {w : World} {s t : Bool}
theorem ref_by {v : Nat} (hn : xs.length = n) (hx : Rd w A xs) (hv0 : 0 < v) (hv : v < 4294967296) (h1 : n <= 100000) :
  Calls Tryz.prog 130 #[.slice A n c, .int .u32 (v : Int)] w fun e w' => ∃ A' c' zs, e = .returned (.tuple #[.slice A' (List.length zs) c', .int .u32 ((val xs % v : Nat) : Int)]) /\ Own w' w.heap.size A' zs /\ zs.length <= c' /\ c' <= maxLen /\ val zs = val xs / v /\ Nrm zs /\ zs.length <= n /\ Ext w w' := by
 have hmk : ∀ W : World, (Instr.makeSlice 26 (.int .i64 (n : Int)) (.int .i64 (n : Int))).run Tryz.prog W = .ok (.slice (some ⟨W.heap.size, 0, none⟩) n n) (W.alloc (.cells (madeCells #[.int .u32 0] n) 89)) := fun W => mk_words 26 Tryz.underlying26 n (by omega) W
 have hz0 : ((v : Int) == 0) = false := by rw [beq_eq_false_iff_ne]; omega
 have hp1 : (1 : Int) <= (v : Int) := by omega
 have hb0 := BlkN.new w n;have he0 := (Ext.refl w).alloc (.cells (madeCells #[.int .u32 0] n) 89);have Hn := Lib.hid hn;have Hd0 := Lib.hid (DwInv.start (xs := xs) (zs := List.replicate n 0) (v := v) (by simp [hn]) (W32.replicate _) hv0);rw [hn] at Hd0;clear hn
 go_enter Tryz.func130, Tryz.ntmps130
 go_wp2
 go_loopw [7, 8] (fun r i wr => ∃ (k p : Nat) (zs : List Nat), k <= n /\ i = .int .i64 ((k : Int) - 1) /\ r = .int .u64 (p : Int) /\ DwInv xs zs v k p /\ BlkN wr w.heap.size zs /\ Ext w wr) (fun _ i _ => (intOf i + 1).toNat)
 case atStart => exact ⟨n, 0, _, by omega, rfl, rfl, Hd0.out, hb0, he0⟩
 case round =>
  obtain ⟨k, p, zs, hk, rfl, rfl, hinv, hblk, hext⟩ := hrel;have hpv := hinv.lt;have hzl : zs.length = n := by rw [hinv.len]; exact Hn.out
  rcases k with _ | j
  ·have Hd := Lib.hid hinv.done
   have Hw := Lib.hid hinv.w32;clear hinv;rw [show (((0 : Nat) : Int) - 1) = -1 from rfl];have hp32 : p < 4294967296 := by omega
   go_wp2_with fail
   refine (ref_trimN hzl (hblk.rd0 Hw.out) (Nat.le_refl _) (by unfold maxLen; omega)).mono ?_;rintro e w2 ⟨rfl, rfl⟩
   go_wp2_with fail
   go_ret2
   have hl := trimL_len zs;refine ⟨_, _, trimL zs, by rw [Hd.out.2]; rfl, ?_, by omega, by unfold maxLen; omega, by rw [val_trimL]; exact Hd.out.1, Nrm.trimL _, by omega, hext⟩;rw [trimL_take];exact (Own.of_blk hblk Hw.out (Nat.le_refl _)).take _
  ·rw [show (((j + 1 : Nat) : Int) - 1) = (j : Int) by omega]
   have hjx : j < xs.length := by rw [Hn.out]; omega
   obtain ⟨b1, o1, rfl, hb1, hc⟩ := (hx.ext hext).at_ hjx;have hst := hinv.step hx.1 hjx;have hxj := hx.1.get hjx;have hq := dw_lt hpv hxj;have hor := high_or (b := p) hxj (by omega);have hnl : p * 4294967296 + xs[j] < 18446744073709551616 := by omega
   generalize xs[j] = X at *;generalize p * 4294967296 + X = NV at *;have hr := Nat.mod_lt NV hv0;have hq' : (NV : Int).tdiv (v : Int) = ((NV / v : Nat) : Int) := rfl;have hr' : (NV : Int).tmod (v : Int) = ((NV % v : Nat) : Int) := rfl;generalize NV / v = U at *;generalize NV % v = V at *;have hwu := wrap_u64_nat (a := U) (by omega);have hwv := wrap_u64_nat (a := V) (by omega);have hcz := hblk.cell (i := j) (by omega);have hfz := hblk.frozen j;have Hst := Lib.hid hst;clear hst hinv
   go_wp2
   go_roundw
   case rel => exact ⟨j, V, _, by omega, rfl, rfl, Hst.out, hblk.set j rfl, hext.setCell (Nat.le_refl _) _⟩
   case measure => simp [intOf]
theorem ref_shifted {b : Nat} (hn : xs.length = n) (hx : Rd w A xs) (hb : b < 32) (h1 : n <= 100000) :
  Calls Tryz.prog 132 #[.slice A n c, .int .i64 (b : Int)] w (RetN (fun zs => val zs = val xs * 2 ^ b /\ zs.length = n + 1) w) := by
 have hmk : ∀ W : World, (Instr.makeSlice 26 (.int .i64 ((n : Int) + 1)) (.int .i64 ((n : Int) + 1))).run Tryz.prog W = .ok (.slice (some ⟨W.heap.size, 0, none⟩) (n + 1) (n + 1)) (W.alloc (.cells (madeCells #[.int .u32 0] (n + 1)) 89)) := fun W => by
  have h := mk_words 26 Tryz.underlying26 (n + 1) (by omega) W
  rwa [show ((n + 1 : Nat) : Int) = (n : Int) + 1 by omega] at h
 have hb0 := BlkN.new w (n + 1);have he0 := (Ext.refl w).alloc (.cells (madeCells #[.int .u32 0] (n + 1)) 89);have Hn := Lib.hid hn;have hi := ShlInv.start xs b;rw [hn] at hi;have Hi := Lib.hid hi;clear hn hi
 go_enter Tryz.func132, Tryz.ntmps132
 go_wp2
 go_loopw [6] (fun i wr => ∃ (k : Nat) (zs : List Nat), k <= n /\ i = .int .i64 (k : Int) /\ ShlInv xs b k zs /\ BlkN wr w.heap.size zs /\ Ext w wr) (fun i _ => n - (intOf i).toNat)
 case atStart => exact ⟨0, _, by omega, rfl, Hi.out, hb0, he0⟩
 case round =>
  obtain ⟨k, zs, hk, rfl, hinv, hblk, hext⟩ := hrel;have hzl : zs.length = n + 1 := by rw [hinv.len, Hn.out]
  by_cases hlt : k < n
  ·have hkx : k < xs.length := by rw [Hn.out]; exact hlt
   obtain ⟨b1, o1, rfl, hb1, hc1⟩ := (hx.ext hext).at_ hkx;have hxk := hx.1.get hkx;have hc2 := hblk.cell (i := k) (by omega);have hc3 := hblk.cell (i := k + 1) (by omega);have hzk := hinv.w32.get (k := k) (by omega);have hlow : zs[k]'(by omega) < 2 ^ b := by have := hinv.low; rwa [getD_at (by omega)] at this
   have hfz := hblk.frozen k;have hfz2 := hblk.frozen (k + 1);have hst := hinv.step hb hx.1 hkx;rw [getD_at (by omega)] at hst;have Hst := Lib.hid hst;have Hlo := Lib.hid (shl_lo hxk hb hlow hzk);have Hhi := Lib.hid (shl_hi hxk hb);clear hst hinv hlow
   go_wp2
   go_roundw
   case rel => exact ⟨k + 1, _, by omega, by go_num, Hst.out, (hblk.set k Hlo.out).set (k + 1) Hhi.out, (hext.setCell (Nat.le_refl _) _).setCell (Nat.le_refl _) _⟩
   case measure => simp [intOf]; omega
  ·obtain rfl : k = n := by omega
   have Hw := Lib.hid hinv.w32;have he := hinv.eq;rw [List.take_of_length_le (by omega), List.take_of_length_le (by rw [Hn.out]; exact Nat.le_refl _)] at he;have He := Lib.hid he;have Hzl := Lib.hid hzl;clear hinv he hzl
   go_wp2
   go_ret
   exact ⟨_, _, zs, by rw [Hzl.out]; rfl, Own.of_blk hblk Hw.out (Nat.le_refl _), by rw [Hzl.out]; exact Nat.le_refl _, by unfold maxLen; omega, ⟨He.out, Hzl.out⟩, hext⟩
theorem back_cast {X b : Nat} {Y : Int} (h : Y = (X : Int)) : Y / 2 ^ b % 4294967296 = ((X / 2 ^ b % 4294967296 : Nat) : Int) := by
 subst h;rw [Int.natCast_emod, Int.natCast_ediv];simp
theorem ref_back {b : Nat} (hn : xs.length = n) (hx : Rd w A xs) (hb : b < 32) (h1 : n <= 100000) :
  Calls Tryz.prog 135 #[.slice A n c, .int .i64 (b : Int)] w (RetN (fun zs => val zs = val xs / 2 ^ b /\ Nrm zs /\ zs.length <= n) w) := by
 have hmk : ∀ W : World, (Instr.makeSlice 26 (.int .i64 (n : Int)) (.int .i64 (n : Int))).run Tryz.prog W = .ok (.slice (some ⟨W.heap.size, 0, none⟩) n n) (W.alloc (.cells (madeCells #[.int .u32 0] n) 89)) := fun W => mk_words 26 Tryz.underlying26 n (by omega) W
 have hb0 := BlkN.new w n;have he0 := (Ext.refl w).alloc (.cells (madeCells #[.int .u32 0] n) 89);have Hn := Lib.hid hn;have Hspec := Lib.hid (val_shrL (b := b) (by omega) hx.1);clear hn
 go_enter Tryz.func135, Tryz.ntmps135
 go_wp2
 go_loopw [6] (fun i wr => ∃ (k : Nat) (zs : List Nat), k <= n /\ i = .int .i64 (k : Int) /\ zs.length = n /\ W32 zs /\ zs.take k = (shrL b xs).take k /\ BlkN wr w.heap.size zs /\ Ext w wr) (fun i _ => n - (intOf i).toNat)
 case atStart => exact ⟨0, _, by omega, rfl, by simp, W32.replicate _, rfl, hb0, he0⟩
 case round =>
  obtain ⟨k, zs, hk, rfl, hzl, hzw, htk, hblk, hext⟩ := hrel;have Htk := Lib.hid htk;clear htk
  by_cases hlt : k < n
  ·have hkx : k < xs.length := by rw [Hn.out]; exact hlt
   obtain ⟨b1, o1, rfl, hb1, hc1⟩ := (hx.ext hext).at_ hkx;have hxk := hx.1.get hkx;have hc2 := hblk.cell (i := k) (by omega);have hfz := hblk.frozen k
   by_cases hnx : k + 1 < n
   ·have hkx1 : k + 1 < xs.length := by rw [Hn.out]; exact hnx
    obtain ⟨b2, o2, he, hb2, hc3⟩ := (hx.ext hext).at_ hkx1
    injection he with he
    injection he with he1 he2
    subst he1; subst he2;have hxn := hx.1.get hkx1;have hset := take_shr (b := b) (v := (xs[k] + 4294967296 * xs[k + 1]) / 2 ^ b % 4294967296) hkx (by omega) Htk.out (by rw [getD_at hkx1]);have hor := or_high hxk hxn;have hlp : (k : Int) + 1 < (n : Int) := by omega
    generalize xs[k + 1] = Y at *;generalize xs[k] = X at *;have hXl : X + 4294967296 * Y < 18446744073709551616 := by omega
    generalize X + 4294967296 * Y = Z at *;have Hset := Lib.hid hset;have Hv := Lib.hid (back_cast (X := Z) (b := b) rfl);clear hset
    go_wp2
    go_roundw
    case rel => exact ⟨k + 1, _, by omega, by go_num, by simp [hzl], hzw.set _ (Nat.mod_lt _ (by omega)), Hset.out, hblk.set k Hv.out, hext.setCell (Nat.le_refl _) _⟩
    case measure => simp [intOf]; omega
   ·have hset := take_shr (b := b) (v := xs[k] / 2 ^ b % 4294967296) hkx (by omega) Htk.out (by rw [getD_out (by rw [Hn.out]; exact hnx), Nat.mul_zero, Nat.add_zero])
    have hlp : ¬ (k : Int) + 1 < (n : Int) := by omega
    generalize xs[k] = X at *;have Hset := Lib.hid hset;have Hv := Lib.hid (back_cast (X := X) (b := b) rfl);clear hset
    go_wp2
    go_roundw
    case rel => exact ⟨k + 1, _, by omega, by go_num, by simp [hzl], hzw.set _ (Nat.mod_lt _ (by omega)), Hset.out, hblk.set k (by first | exact Hv.out | (have := Hv.out; omega)), hext.setCell (Nat.le_refl _) _⟩
    case measure => simp [intOf]; omega
  ·obtain rfl : k = n := by omega
   have hfull : zs = shrL b xs := by
    have := Htk.out
    rwa [List.take_of_length_le (by omega), List.take_of_length_le (by rw [shrL_len, Hn.out]; exact Nat.le_refl _)] at this
   have Hfull := Lib.hid hfull;clear hfull
   go_wp2_with fail
   refine (ref_trimN hzl (hblk.rd0 hzw) (Nat.le_refl _) (by unfold maxLen; omega)).mono ?_;rintro e w2 ⟨rfl, rfl⟩
   go_wp2_with fail
   go_ret
   have hl := trimL_len zs;refine ⟨_, _, trimL zs, rfl, ?_, by omega, by unfold maxLen; omega, ⟨by rw [val_trimL, Hfull.out]; exact Hspec.out, Nrm.trimL _, by omega⟩, hext⟩;rw [trimL_take];exact (Own.of_blk hblk hzw (Nat.le_refl _)).take _
end
theorem digit_first {E v1 top D P : Nat} (h1 : E * v1 <= D) (hv : 0 < v1) (h2 : P < E * top + E) : P < (top / v1 + 1) * D := by
 have hq : top + 1 <= (top / v1 + 1) * v1 := by
  have := Nat.div_add_mod top v1;have h2 := Nat.mod_lt top hv;rw [Nat.add_mul, Nat.mul_comm (top / v1)];omega
 have a := Nat.mul_le_mul_left E hq;rw [Nat.mul_add, Nat.mul_one, Nat.mul_left_comm] at a;have b := Nat.mul_le_mul_left (top / v1 + 1) h1;omega
theorem digit_of {ps ds : List Nat} {n : Nat} (hp : W32 ps) (h0 : 0 < n) (hpl : ps.length = n + 1) (hdl : ds.length = n) :
  4294967296 ^ (n - 1) * ds[n - 1]'(by omega) <= val ds /\ val ps < 4294967296 ^ (n - 1) * (ps[n]'(by omega) * 4294967296 + ps[n - 1]'(by omega)) + 4294967296 ^ (n - 1) := by
 obtain ⟨k, rfl⟩ : ∃ k, n = k + 1 := ⟨n - 1, by omega⟩;simp only [Nat.add_sub_cancel];have d1 := val_take_succ ds k (by omega);rw [List.take_of_length_le (by omega)] at d1;have p1 := val_take_succ ps k (by omega);have p2 := val_take_succ ps (k + 1) (by omega);rw [List.take_of_length_le (by omega)] at p2;have lp := val_lt (hp.take k);rw [List.length_take, Nat.min_eq_left (by omega)] at lp;refine ⟨by omega, ?_⟩;rw [p2, p1, Nat.pow_succ, Nat.mul_add, Nat.mul_assoc, Nat.mul_comm 4294967296];omega
section
variable {A B : Option Addr} {c d n m : Nat} {xs ys : List Nat} {w : World} {s t : Bool}
theorem ref_digit {ps ds : List Nat} (hpl : ps.length = n + 1) (hdl : ds.length = n) (h0 : 0 < n) (hp : Rd w A ps) (hd : Rd w B ds) (hdn : Nrm ds) (hlt : val ps < 4294967296 * val ds) (hcp : n + 1 <= c) (hcm : c <= maxLen) (h1 : n <= 10000) :
  Calls Tryz.prog 133 #[.slice A (n + 1) c, .slice B n d] w fun e w' => ∃ (q : Nat) (A' : Option Addr) (c' : Nat) (us : List Nat), e = .returned (.tuple #[.int .u32 (q : Int), .slice A' us.length c']) /\ Own w' w.heap.size A' us /\ us.length <= c' /\ c' <= maxLen /\ q < 4294967296 /\ val us = q * val ds /\ Nrm us /\ q * val ds <= val ps /\ val ps < (q + 1) * val ds /\ Ext w w' := by
 have hdf := digit_of hp.1 h0 hpl hdl
 have hv0 : ds[n - 1]'(by omega) ≠ 0 := by
  subst hdl;exact hdn.last h0
 obtain ⟨b1, o1, rfl, hb1, c0⟩ := hp.at_ (i := n) (by omega);obtain ⟨b1', o1', he, _, c1⟩ := hp.at_ (i := n - 1) (by omega)
 injection he with he
 injection he with he1 he2
 subst he1; subst he2;obtain ⟨b2, o2, rfl, hb2, d1⟩ := hd.at_ (i := n - 1) (by omega);have hu0 := hp.1.get (k := n) (by omega);have hu1 := hp.1.get (k := n - 1) (by omega);have hv1 := hd.1.get (k := n - 1) (by omega);have hor := high_or hu1 hu0;have hnl : ps[n]'(by omega) * 4294967296 + ps[n - 1]'(by omega) < 18446744073709551616 := by omega
 generalize ps[n]'(by omega) = U0 at *;generalize ps[n - 1]'(by omega) = U1 at *;generalize ds[n - 1]'(by omega) = V1 at *;generalize U0 * 4294967296 + U1 = T at *;have hz0 : ((V1 : Int) == 0) = false := by rw [beq_eq_false_iff_ne]; omega
 have hp1 : (1 : Int) <= (V1 : Int) := by omega
 have hdf1 := digit_first hdf.1 (by omega) hdf.2;have hq' : (T : Int).tdiv (V1 : Int) = ((T / V1 : Nat) : Int) := rfl;have hQT : T / V1 <= T := Nat.div_le_self _ _;generalize T / V1 = Q at *;have hwu := wrap_u64_nat (a := Q) (by omega);have Hpl := Lib.hid hpl;have Hdl := Lib.hid hdl;have Hlt := Lib.hid hlt;have Hdf1 := Lib.hid hdf1;clear hpl hdl hlt hdf1
 by_cases hbig : 4294967295 < Q
 ·have d3 : decide ((4294967295 : Int) < (Q : Int)) = true := decide_eq_true (by omega)
  have hfirst := Hlt.out;have Hfirst := Lib.hid hfirst;clear hfirst hdf
  go_enter Tryz.func133, Tryz.ntmps133
  go_wp2
  go_quiet (fail)
  have hnb := fun W : World => BlkN.lit W [4294967295] #[.int .u32 ((4294967295 : Nat) : Int)] rfl
  have hw1 : W32 [4294967295] := W32.one (by omega)
  go_wp2_with fail
  refine (ref_times1 (m := 1) (xs := ds) (ys := [4294967295]) Hdl.out rfl (hd.ext (((Ext.refl w).drewN _).alloc _)) ((hnb _).rd0 hw1) (by omega)).mono ?_;rintro e w1 ⟨A1, c1, pp, rfl, ho1, hc1, hm1, ⟨hv1', hn1, hl1⟩, hxt1⟩;rw [val_one, Nat.mul_comm] at hv1';have Hv1 := Lib.hid hv1';have ext1 := ((((Ext.refl w).drewN _).alloc _).trans hxt1 : Ext w _);have hl1' : pp.length <= n + 1 := by rw [Hdl.out] at hl1; exact hl1
  clear hv1' hl1 hnb hw1
  go_wp2_with fail
  go_loopw [7, 8] (fun a b wr => ∃ (q : Nat) (A2 : Option Addr) (c2 : Nat) (us : List Nat), a = .int .u64 (q : Int) /\ b = .slice A2 us.length c2 /\ val us = q * val ds /\ Nrm us /\ Own wr w.heap.size A2 us /\ us.length <= c2 /\ c2 <= maxLen /\ us.length <= n + 1 /\ val ps < (q + 1) * val ds /\ q < 4294967296 /\ Ext w wr) (fun a _ _ => (intOf a).toNat)
  case atStart => exact ⟨4294967295, A1, c1, pp, rfl, rfl, Hv1.out, hn1, ho1.mono (by first | exact (((Ext.refl w).drewN _).alloc _).size | simp), hc1, hm1, hl1', Hfirst.out, (by omega), ext1⟩
  case round =>
   clear ho1 hc1 hm1 hn1 hl1' ext1 hxt1;obtain ⟨q, A2, c2, us, rfl, rfl, huv, hun, hou, hc2, hm2, hul, hP, hq32, hext⟩ := hrel;have Huv := Lib.hid huv;have HP := Lib.hid hP;clear huv hP
   go_wp2_with fail
   refine (ref_trimN Hpl.out (hp.ext hext) hcp hcm).mono ?_;rintro e w2 ⟨rfl, rfl⟩;have hpt : Rd wr (some ⟨b1, o1, none⟩) (trimL ps) := by rw [trimL_take]; exact (hp.ext hext).take _
   have hptl : (trimL ps).length <= n + 1 := by have := trimL_len ps; rw [Hpl.out] at this; exact this
   go_wp2_with fail
   refine (ref_compare _ A2 c c2 (trimL ps) us wr hpt hou.rd (by unfold maxLen; omega) (by unfold maxLen; omega)).mono ?_;rintro e w2 ⟨rfl, hxt2⟩;have hcv : cmpL (trimL ps) us = cmpI (val ps) (val us) := by rw [cmpL_nrm hpt.1 hou.1 (Nrm.trimL _) hun, val_trimL]
   rw [hcv];clear hcv
   rcases Nat.lt_trichotomy (val ps) (val us) with hlt | hlt | hlt
   ·rw [cmpI_of_lt hlt]
    rw [Huv.out] at hlt
    have hq0 : 1 <= q := by
     rcases Nat.eq_zero_or_pos q with rfl | h
     ·rw [Nat.zero_mul] at hlt; omega
     ·exact h
    have hle : val ds <= val us := by
     rw [Huv.out];exact Nat.le_mul_of_pos_left _ hq0
    have hlen : n <= us.length := by have := len_le hou.1 hdn hle; rw [Hdl.out] at this; exact this
    have Hle := Lib.hid hle;have Hlt := Lib.hid hlt;have hqi : (1 : Int) <= (q : Int) := by omega
    clear hle hlt
    go_wp2_with fail
    refine (ref_minus rfl Hdl.out (hou.rd.ext hxt2) (hd.ext (hext.trans hxt2)) hlen Hle.out (by omega)).mono ?_;rintro e w3 ⟨A3, c3, vs, rfl, ho3, hc3, hm3, ⟨hv3, hn3, hl3⟩, hxt3⟩;have Hv3 := Lib.hid hv3;clear hv3
    go_wp2_with fail
    go_roundw
    case rel =>
     refine ⟨q - 1, A3, c3, vs, congrArg (Value.int .u64) (by omega), rfl, ?_, hn3, ho3.mono (hext.trans hxt2).size, hc3, hm3, by omega, ?_, by omega, hext.trans (hxt2.trans hxt3)⟩
     ·rw [Hv3.out, Huv.out, Nat.sub_mul, Nat.one_mul]
     ·rw [Nat.sub_add_cancel hq0]; exact Hlt.out
    case measure => simp [intOf]; omega
   ·rw [cmpI_of_eq hlt]
    rw [Huv.out] at hlt;have Hlt := Lib.hid hlt;clear hlt
    go_wp2_with fail
    go_ret2
    exact ⟨q, A2, c2, us, rfl, hou.ext hxt2, hc2, hm2, hq32, Huv.out, hun, by rw [Hlt.out]; exact Nat.le_refl _, HP.out, hext.trans hxt2⟩
   ·rw [cmpI_of_gt hlt]
    rw [Huv.out] at hlt;have Hlt := Lib.hid hlt;clear hlt
    go_wp2_with fail
    go_ret2
    exact ⟨q, A2, c2, us, rfl, hou.ext hxt2, hc2, hm2, hq32, Huv.out, hun, Nat.le_of_lt Hlt.out, HP.out, hext.trans hxt2⟩
 ·have d3 : decide ((4294967295 : Int) < (Q : Int)) = false := decide_eq_false (by omega)
  have hQ32 : Q < 4294967296 := by omega
  have hfirst := Hdf1.out;have Hfirst := Lib.hid hfirst;clear hfirst hdf
  go_enter Tryz.func133, Tryz.ntmps133
  go_wp2
  go_quiet (fail)
  have hnb := fun W : World => BlkN.lit W [Q] #[.int .u32 ((Q : Nat) : Int)] rfl
  have hw1 : W32 [Q] := W32.one hQ32
  go_wp2_with fail
  refine (ref_times1 (m := 1) (xs := ds) (ys := [Q]) Hdl.out rfl (hd.ext (((Ext.refl w).drewN _).alloc _)) ((hnb _).rd0 hw1) (by omega)).mono ?_;rintro e w1 ⟨A1, c1, pp, rfl, ho1, hc1, hm1, ⟨hv1', hn1, hl1⟩, hxt1⟩;rw [val_one, Nat.mul_comm] at hv1';have Hv1 := Lib.hid hv1';have ext1 := ((((Ext.refl w).drewN _).alloc _).trans hxt1 : Ext w _);have hl1' : pp.length <= n + 1 := by rw [Hdl.out] at hl1; exact hl1
  clear hv1' hl1 hnb hw1
  go_wp2_with fail
  go_loopw [7, 8] (fun a b wr => ∃ (q : Nat) (A2 : Option Addr) (c2 : Nat) (us : List Nat), a = .int .u64 (q : Int) /\ b = .slice A2 us.length c2 /\ val us = q * val ds /\ Nrm us /\ Own wr w.heap.size A2 us /\ us.length <= c2 /\ c2 <= maxLen /\ us.length <= n + 1 /\ val ps < (q + 1) * val ds /\ q < 4294967296 /\ Ext w wr) (fun a _ _ => (intOf a).toNat)
  case atStart => exact ⟨Q, A1, c1, pp, rfl, rfl, Hv1.out, hn1, ho1.mono (by first | exact (((Ext.refl w).drewN _).alloc _).size | simp), hc1, hm1, hl1', Hfirst.out, hQ32, ext1⟩
  case round =>
   clear ho1 hc1 hm1 hn1 hl1' ext1 hxt1;obtain ⟨q, A2, c2, us, rfl, rfl, huv, hun, hou, hc2, hm2, hul, hP, hq32, hext⟩ := hrel;have Huv := Lib.hid huv;have HP := Lib.hid hP;clear huv hP
   go_wp2_with fail
   refine (ref_trimN Hpl.out (hp.ext hext) hcp hcm).mono ?_;rintro e w2 ⟨rfl, rfl⟩;have hpt : Rd wr (some ⟨b1, o1, none⟩) (trimL ps) := by rw [trimL_take]; exact (hp.ext hext).take _
   have hptl : (trimL ps).length <= n + 1 := by have := trimL_len ps; rw [Hpl.out] at this; exact this
   go_wp2_with fail
   refine (ref_compare _ A2 c c2 (trimL ps) us wr hpt hou.rd (by unfold maxLen; omega) (by unfold maxLen; omega)).mono ?_;rintro e w2 ⟨rfl, hxt2⟩;have hcv : cmpL (trimL ps) us = cmpI (val ps) (val us) := by rw [cmpL_nrm hpt.1 hou.1 (Nrm.trimL _) hun, val_trimL]
   rw [hcv];clear hcv
   rcases Nat.lt_trichotomy (val ps) (val us) with hlt | hlt | hlt
   ·rw [cmpI_of_lt hlt]
    rw [Huv.out] at hlt
    have hq0 : 1 <= q := by
     rcases Nat.eq_zero_or_pos q with rfl | h
     ·rw [Nat.zero_mul] at hlt; omega
     ·exact h
    have hle : val ds <= val us := by
     rw [Huv.out];exact Nat.le_mul_of_pos_left _ hq0
    have hlen : n <= us.length := by have := len_le hou.1 hdn hle; rw [Hdl.out] at this; exact this
    have Hle := Lib.hid hle;have Hlt := Lib.hid hlt;have hqi : (1 : Int) <= (q : Int) := by omega
    clear hle hlt
    go_wp2_with fail
    refine (ref_minus rfl Hdl.out (hou.rd.ext hxt2) (hd.ext (hext.trans hxt2)) hlen Hle.out (by omega)).mono ?_;rintro e w3 ⟨A3, c3, vs, rfl, ho3, hc3, hm3, ⟨hv3, hn3, hl3⟩, hxt3⟩;have Hv3 := Lib.hid hv3;clear hv3
    go_wp2_with fail
    go_roundw
    case rel =>
     refine ⟨q - 1, A3, c3, vs, congrArg (Value.int .u64) (by omega), rfl, ?_, hn3, ho3.mono (hext.trans hxt2).size, hc3, hm3, by omega, ?_, by omega, hext.trans (hxt2.trans hxt3)⟩
     ·rw [Hv3.out, Huv.out, Nat.sub_mul, Nat.one_mul]
     ·rw [Nat.sub_add_cancel hq0]; exact Hlt.out
    case measure => simp [intOf]; omega
   ·rw [cmpI_of_eq hlt]
    rw [Huv.out] at hlt;have Hlt := Lib.hid hlt;clear hlt
    go_wp2_with fail
    go_ret2
    exact ⟨q, A2, c2, us, rfl, hou.ext hxt2, hc2, hm2, hq32, Huv.out, hun, by rw [Hlt.out]; exact Nat.le_refl _, HP.out, hext.trans hxt2⟩
   ·rw [cmpI_of_gt hlt]
    rw [Huv.out] at hlt;have Hlt := Lib.hid hlt;clear hlt
    go_wp2_with fail
    go_ret2
    exact ⟨q, A2, c2, us, rfl, hou.ext hxt2, hc2, hm2, hq32, Huv.out, hun, Nat.le_of_lt Hlt.out, HP.out, hext.trans hxt2⟩
end
theorem LInv.part2 {D N L K i n : Nat} {R Q : List Nat} (h : LInv D N L K (i + 1) R Q) (hL : i + n + 1 <= L) (hD : D < 4294967296 ^ n) :
  val (R.drop (i + n + 1)) = 0 /\ val ((R.drop i).take (n + 1)) = val (R.drop i) /\ val ((R.drop i).take (n + 1)) < 4294967296 * D := by
 have hr := h.rl;have e1 := val_drop_succ R i (by omega);have hx := h.rw.get (k := i) (by omega);have hlt := h.lt;have h1 : val (R.drop i) < 4294967296 * D := by omega
 have e2 := val_split (R.drop i) (n + 1) (by rw [List.length_drop]; omega);rw [List.drop_drop, <- Nat.add_assoc, Nat.pow_succ] at e2
 have h0 : val (R.drop (i + n + 1)) = 0 := by
  rcases Nat.eq_zero_or_pos (val (R.drop (i + n + 1))) with h0 | h0
  ·exact h0
  ·have : 4294967296 ^ (n + 1) * 1 <= 4294967296 ^ (n + 1) * val (R.drop (i + n + 1)) := Nat.mul_le_mul_left _ h0
   rw [Nat.pow_succ] at this;omega
 rw [h0, Nat.mul_zero] at e2;exact ⟨h0, by omega, by omega⟩
theorem LInv.step2 {D N L K i n w : Nat} {R Q ps : List Nat} (h : LInv D N L K (i + 1) R Q) (hi : i < K) (hL : i + n + 1 <= L) (hD : D < 4294967296 ^ n) (hps : ps.length = n + 1) (hpw : W32 ps) (hw : w < 4294967296)
  (hlt : val ps < D) (he : val ps + w * D = val ((R.drop i).take (n + 1))) : LInv D N L K i (R.take i ++ ps ++ R.drop (i + n + 1)) (Q.set i w) := by
 obtain ⟨h0, h1, _⟩ := h.part2 hL hD;have hr := h.rl;have hq := h.ql;have htl : (R.take i).length = i := by rw [List.length_take]; omega
 have hd : val ((R.take i ++ ps ++ R.drop (i + n + 1)).drop i) = val ps := by
  rw [List.append_assoc, List.drop_append_of_le_length (by omega), List.drop_of_length_le (by omega), List.nil_append, val_append, h0, Nat.mul_zero, Nat.add_zero]
 refine ⟨?_, ((h.rw.take _).append hpw).append (h.rw.drop _), by simpa using hq, h.qw.set _ hw, by rw [hd]; exact hlt, ?_⟩
 ·simp only [List.length_append, htl, hps, List.length_drop, hr]; omega
 ·have e := h.eq
  have eR := val_split R i (by omega)
  have e2 : val (R.take i ++ ps ++ R.drop (i + n + 1)) = val (R.take i) + 4294967296 ^ i * val ps := by
   rw [val_append, h0, Nat.mul_zero, Nat.add_zero, val_append, htl]
  have e3 : val ((Q.set i w).drop i) = w + 4294967296 * val (Q.drop (i + 1)) := by
   rw [val_drop_succ _ i (by simp; omega), drop_set_succ];simp
  rw [e2, e3, <- e, eR, <- h1, <- he, Nat.pow_succ];generalize 4294967296 ^ i = p;generalize val (Q.drop (i + 1)) = t;rw [Nat.mul_add p w, Nat.add_mul, Nat.mul_add p (val ps), <- Nat.mul_assoc p w D, <- Nat.mul_assoc p 4294967296 t];omega
theorem LInv.start2 {a b s la lb : Nat} {R : List Nat} (hR : R.length = la + 1) (hRw : W32 R) (hv : val R = a * 2 ^ s) (hab : lb <= la) (h1 : 0 < lb) (ha : a < 4294967296 ^ la) (hb : 4294967296 ^ (lb - 1) <= b) :
  LInv (b * 2 ^ s) (a * 2 ^ s) (la + 1) la (la - lb + 1) R (List.replicate la 0) := by
 have h := LInv.start (Q := List.replicate (la - lb + 1) 0) hR hRw rfl hv hab h1 ha hb;refine ⟨hR, hRw, by simp, W32.replicate _, h.lt, ?_⟩;rw [List.drop_replicate, val_replicate, hv];simp
theorem Own.apart {w : World} {lo g : Nat} {A : Option Addr} {ns : List Nat} (h : Own w lo A ns) (hg : g < lo) : Apart A ns g := by
 intro hn a ha
 rcases h.2 with h0 | ⟨g', hA, hl, _⟩
 ·exact absurd h0 hn
 ·rw [hA] at ha
  injection ha with ha
  subst ha
  show g' ≠ g
  omega
def padL (ns : List Nat) (k : Nat) : List Nat := ns ++ List.replicate (k - ns.length) 0
theorem padL_len {ns : List Nat} {k : Nat} (h : ns.length <= k) : (padL ns k).length = k := by simp [padL]; omega
theorem padL_val (ns : List Nat) (k : Nat) : val (padL ns k) = val ns := by rw [padL, val_append, val_replicate, Nat.mul_zero, Nat.add_zero]
theorem pad_step {zs P : List Nat} {k v : Nat} (hz : k < zs.length) (hp : k < P.length) (h : zs.take k = P.take k) (hv : P[k] = v) : (zs.set k v).take (k + 1) = P.take (k + 1) := by
 rw [take_succ' (xs := zs.set k v) (k := k) (by simpa using hz), take_succ' (xs := P) (k := k) hp, take_set_self, h, hv];simp
theorem padL_in {ns : List Nat} {k i : Nat} (h : i < ns.length) (hp : i < (padL ns k).length) : (padL ns k)[i] = ns[i] := by
 simp only [padL];rw [List.getElem_append_left h]
theorem padL_out {ns : List Nat} {k i : Nat} (h : ¬ i < ns.length) (hp : i < (padL ns k).length) : (padL ns k)[i] = 0 := by
 simp only [padL];rw [List.getElem_append_right (by omega)];simp
def RetQ (x y : Nat) (w : World) (e : Ending) (w' : World) : Prop :=
 ∃ A c qs A' c' rs, e = .returned (.tuple #[.slice A (List.length qs) c, .slice A' (List.length rs) c']) /\ Rd w' A qs /\ Rd w' A' rs /\ qs.length <= c /\ c <= maxLen /\ rs.length <= c' /\ c' <= maxLen /\ val qs = x / y /\ val rs = x % y /\ Nrm qs /\ Nrm rs /\ Ext w w'
section
variable {A B : Option Addr} {c d n m : Nat} {xs ys : List Nat} {w : World} {s t : Bool}
set_option maxRecDepth 100000 in
theorem ref_divideL (hn : xs.length = n) (hm : ys.length = m) (hx : Rd w A xs) (hy : Rd w B ys) (hnx : Nrm xs) (hny : Nrm ys) (hge : val ys <= val xs) (h2 : 2 <= m) (h3 : 2 < n) (h1 : n <= 9000) :
  Calls Tryz.prog 95 #[.slice A n c, .slice B m d] w (RetQ (val xs) (val ys) w) := by
 have hmn : m <= n := by have := len_le hx.1 hny hge; omega
 have hl0 : ys[m - 1]'(by omega) ≠ 0 := by
  subst hm;exact hny.last (by omega)
 have hY := hy.1.get (k := m - 1) (by omega);obtain ⟨s1, s2, s3, s4⟩ := shift_top hY hl0;have hnorm : ∀ zs, W32 zs -> Nrm zs -> val zs = val ys * 2 ^ (32 - Lib.bitLen (ys[m - 1]'(by omega))) -> zs.length = m /\ val zs < 4294967296 ^ m /\ ∀ h : m - 1 < zs.length, 2147483648 <= zs[m - 1] := fun zs a b e => div_norm hy.1 hm (by omega) s1 s2 a b e
 have hbn : bitsN ys = 32 * (m - 1) + Lib.bitLen (ys[m - 1]'(by omega)) := by
  subst hm;unfold bitsN;rw [dif_pos (by omega)]
 have hlen : ∀ W : World, Rd W B ys -> Calls Tryz.prog 131 #[.slice B m d] W fun e w' => e = .returned (.int .i64 (bitsN ys : Nat)) /\ W = w' := fun W hyW => ref_length hm hyW (by omega)
 have hS : 32 * (m : Int) - ((bitsN ys : Nat) : Int) = ((32 - Lib.bitLen (ys[m - 1]'(by omega)) : Nat) : Int) := by rw [hbn]; omega
 have hbl : bitsN ys <= 32 * m := by rw [hbn]; omega
 clear s1 s2 hbn;generalize ys[m - 1]'(by omega) = Y at *;have hS32 : 32 - Lib.bitLen Y < 32 := by omega
 generalize 32 - Lib.bitLen Y = S at *;generalize bitsN ys = BN at *
 obtain ⟨CM, hCM, dCM⟩ : ∃ CM, cmpL xs ys = CM /\ decide (CM < 0) = false := ⟨_, rfl, by
  rw [cmpL_nrm hx.1 hy.1 hnx hny]
  rcases Nat.lt_or_ge (val ys) (val xs) with h | h
  ·rw [cmpI_of_gt h]; rfl
  ·rw [cmpI_of_eq (by omega)]; rfl⟩
 have Hlen := Lib.hid hlen;have Hnorm := Lib.hid hnorm;have HS := Lib.hid hS;have Hn := Lib.hid hn;have Hm := Lib.hid hm;have HCM := Lib.hid hCM
 have Hb := Lib.hid (show 4294967296 ^ (m - 1) <= val ys by
  have := hny.ge (by rintro rfl; simp at hm; omega)
  rwa [hm] at this)
 have Ha := Lib.hid (show val xs < 4294967296 ^ n by have := val_lt hx.1; rwa [hn] at this);clear hnorm s3 s4 hl0 hn hm hCM hlen hS hge;have hmk : ∀ W : World, (Instr.makeSlice 26 (.int .i64 (n : Int)) (.int .i64 (n : Int))).run Tryz.prog W = .ok (.slice (some ⟨W.heap.size, 0, none⟩) n n) (W.alloc (.cells (madeCells #[.int .u32 0] n) 89)) := fun W => mk_words 26 Tryz.underlying26 n (by omega) W
 have hcmp := fun W (h1 : Rd W A xs) (h2 : Rd W B ys) => ref_compare A B c d xs ys W h1 h2 (by have := Hn.out; unfold maxLen; omega) (by have := Hm.out; unfold maxLen; omega)
 rw [Hn.out, Hm.out, HCM.out] at hcmp;have Hcmp := Lib.hid hcmp;clear hcmp
 go_enter Tryz.func95, Tryz.ntmps95
 go_wp2_with fail
 refine (Hcmp.out _ hx hy).mono ?_;rintro e w1 ⟨rfl, hext1⟩;replace hx := hx.ext hext1;replace hy := hy.ext hext1;clear Hcmp
 go_wp2_with fail
 refine (Hlen.out _ hy).mono ?_;rintro e w0 ⟨rfl, rfl⟩;clear Hlen
 go_wp2_with fail
 rw [HS.out];refine (ref_shifted Hn.out hx hS32 (by omega)).mono ?_;rintro e w2 ⟨Ax, cx, R0, rfl, hox, hcx, hmx, ⟨hRv, hRl⟩, hext2⟩;rw [hRl];rw [hRl] at hcx
 obtain ⟨g1, rfl, hg1, hRb⟩ : ∃ g, Ax = some ⟨g, 0, none⟩ /\ w1.heap.size <= g /\ BlkN w2 g R0 := by
  rcases hox.2 with h | h
  ·subst h; simp at hRl
  ·exact h
 have hRw := hox.1;clear hox
 go_wp2_with fail
 try rw [HS.out]
 refine (ref_shifted Hm.out (hy.ext hext2) hS32 (by omega)).mono ?_;rintro e w3 ⟨A2, c2, ds0, rfl, ho2, hc2, hm2, ⟨hv2, hl2⟩, hext3⟩;rw [hl2];rw [hl2] at hc2
 go_wp2_with fail
 refine (ref_trimN hl2 ho2.rd hc2 hm2).mono ?_;rintro e w0 ⟨rfl, rfl⟩;have hot : Own w3 w2.heap.size A2 (trimL ds0) := by rw [trimL_take]; exact ho2.take _
 rw [<- val_trimL] at hv2;obtain ⟨hdl, hdu, hdt⟩ := Hnorm.out (trimL ds0) hot.1 (Nrm.trimL _) hv2;have hdn := Nrm.trimL ds0;rw [hdl];clear Hnorm ho2 hl2 hdt;generalize trimL ds0 = ds at *;have hg12 : g1 < w2.heap.size := hRb.lt;have hap := hot.apart hg12;have hR3 := hRb.ext hext3;have hd3 := hot.rd;have hL0 := LInv.start2 (a := val xs) (b := val ys) (s := S) (la := n) (lb := m) hRl hRw hRv hmn (by omega) Ha.out Hb.out;rw [<- hv2] at hL0;have HL0 := Lib.hid hL0;have Hv2 := Lib.hid hv2;have Hdl := Lib.hid hdl;have Hdu := Lib.hid hdu;clear hL0 hRv hRl hRw hRb hv2 hdl hdu hot;have hg23 := hext3.size;have hap3 := hd3.apart (Nat.le_refl _);have hQb := BlkN.new w3 n;have hR4 := hR3.ext ((Ext.refl w3).alloc (.cells (madeCells #[.int .u32 0] n) 89));have hd4 := hd3.ext ((Ext.refl w3).alloc (.cells (madeCells #[.int .u32 0] n) 89));have hgw : w.heap.size <= g1 := Nat.le_trans hext1.size hg1;have hg13 : g1 < w3.heap.size := by omega
 have ext4 := (hext1.trans (hext2.trans hext3)).alloc (.cells (madeCells #[.int .u32 0] n) 89);clear hR3 hd3 hext1 hext2 hext3 hg1
 go_wp2_with fail
 go_loopw [14] (fun i wr => ∃ (k : Nat) (R Q : List Nat), k <= n - m + 1 /\ i = .int .i64 ((k : Int) - 1) /\ LInv (val ds) (val xs * 2 ^ S) (n + 1) n k R Q /\ BlkN wr g1 R /\ BlkN wr w3.heap.size Q /\ Rd wr A2 ds /\ Ext w wr) (fun i _ => (intOf i + 1).toNat)
 case atStart => exact ⟨n - m + 1, R0, _, Nat.le_refl _, congrArg (Value.int .i64) (by omega), HL0.out, hR4, hQb, hd4, ext4⟩
 case round =>
  clear hR4 hQb hd4 ext4;obtain ⟨k, R, Q, hk, rfl, hinv, hRb, hQb, hdr, hext⟩ := hrel;have hrl := hinv.rl;have hql := hinv.ql
  rcases k with _ | j
  ·rw [show (((0 : Nat) : Int) - 1) = -1 from rfl]
   have Hinv := Lib.hid hinv;have Hrl := Lib.hid hrl;have Hql := Lib.hid hql;clear hinv hrl hql
   go_wp2_with fail
   refine (ref_trimN Hql.out (hQb.rd0 Hinv.out.qw) (Nat.le_refl _) (by unfold maxLen; omega)).mono ?_;rintro e w4 ⟨rfl, rfl⟩
   go_wp2_with fail
   refine (ref_trimN Hrl.out (hRb.rd0 Hinv.out.rw) hcx hmx).mono ?_;rintro e w4 ⟨rfl, rfl⟩;have hrl2 := trimL_len R;rw [Hrl.out] at hrl2;have hrt : Rd wr (some ⟨g1, 0, none⟩) (trimL R) := by rw [trimL_take]; exact (hRb.rd0 Hinv.out.rw).take _
   have hqt : Rd wr (some ⟨w3.heap.size, 0, none⟩) (trimL Q) := by rw [trimL_take]; exact (hQb.rd0 Hinv.out.qw).take _
   go_wp2_with fail
   refine (ref_back (b := S) rfl hrt hS32 (by omega)).mono ?_;rintro e w5 ⟨A5, c5, rs, rfl, ho5, hc5, hm5, ⟨hv5, hn5, hl5⟩, hext5⟩;have Hv5 := Lib.hid hv5;clear hv5
   go_wp2_with fail
   go_ret2
   have hi := Hinv.out;rw [Hv2.out] at hi;obtain ⟨d1, d2⟩ := hi.done;have hql2 := trimL_len Q;rw [Hql.out] at hql2;exact ⟨_, _, trimL Q, A5, c5, rs, rfl, hqt.ext hext5, ho5.rd, hql2, by unfold maxLen; omega, hc5, hm5, by rw [val_trimL]; exact d1, by rw [Hv5.out, val_trimL]; exact d2, Nrm.trimL _, hn5, hext.trans hext5⟩
  ·rw [show (((j + 1 : Nat) : Int) - 1) = (j : Int) by omega]
   have hj1 : j + m + 1 <= n + 1 := by omega
   have hj2 : j < n := by omega
   obtain ⟨p0, p1, p2⟩ := hinv.part2 hj1 Hdu.out;have hpd : Rd wr (some ⟨g1, j, none⟩) ((R.drop j).take (m + 1)) := hRb.rd hinv.rw (by omega);have hpl : ((R.drop j).take (m + 1)).length = m + 1 := by rw [List.length_take, List.length_drop]; omega
   have hpw : W32 ((R.drop j).take (m + 1)) := (hinv.rw.drop _).take _
   have hRs : R = R.take j ++ (R.drop j).take (m + 1) ++ R.drop (j + m + 1) := by
    rw [List.append_assoc, show j + m + 1 = j + (m + 1) by omega, <- List.drop_drop, List.take_append_drop, List.take_append_drop]
   have htl : (R.take j).length = j := by rw [List.length_take]; omega
   have hst : ∀ (ps : List Nat) (u : Nat), ps.length = m + 1 -> W32 ps -> u < 4294967296 -> val ps < val ds -> val ps + u * val ds = val ((R.drop j).take (m + 1)) -> LInv (val ds) (val xs * 2 ^ S) (n + 1) n j (R.take j ++ ps ++ R.drop (j + m + 1)) (Q.set j u) := fun ps u a1 a2 a3 a4 a5 => hinv.step2 hj2 hj1 Hdu.out a1 a2 a3 a4 a5
   rw [hRs] at hRb;have Hst := Lib.hid hst;have Hqw := Lib.hid hinv.qw;clear hst hinv hRs p0 p1 hrl;generalize R.take j = pre at *;generalize (R.drop j).take (m + 1) = part at *;generalize R.drop (j + m + 1) = post at *;have Htl := Lib.hid htl;have Hpl := Lib.hid hpl;have Hql := Lib.hid hql;have Hp2 := Lib.hid p2;have hcc1 : m + 1 <= cx - j := by omega
   have hcc2 : cx - j <= maxLen := by omega
   have hjc : j + m + 1 <= cx := by omega
   clear htl hpl p2 hql
   go_wp2_with fail
   rw [show j + m + 1 - j = m + 1 by omega];refine (ref_digit Hpl.out Hdl.out (by omega) hpd hdr hdn Hp2.out hcc1 hcc2 (by omega)).mono ?_;rintro e w4 ⟨q, A5, c5, us, rfl, ho5, hc5, hm5, hq32, huv, hun, hq1, hq2, hxt4⟩;have Huv := Lib.hid huv;have Hq1 := Lib.hid hq1;have Hq2 := Lib.hid hq2;have hgw4 := hxt4.size;have hgr : w3.heap.size < wr.heap.size := hQb.lt;clear huv hq1 hq2;have hcq := (hQb.ext hxt4).cell (i := j) (by rw [Hql.out]; exact hj2);have hfq := (hQb.ext hxt4).frozen j
   go_upto_region 18 with fail
   have hne31 : g1 ≠ w3.heap.size := by omega
   refine at_world (fun V => BlkN V g1 (pre ++ part ++ post) /\ BlkN V w3.heap.size (Q.set j q) /\ Rd V A2 ds /\ Rd V A5 us /\ Ext w V /\ w3.heap.size < V.heap.size) ⟨(hRb.ext hxt4).mod ((Mod.refl w4 w3.heap.size).setCell j _) hne31, (hQb.ext hxt4).set j rfl, (hdr.ext hxt4).mod ((Mod.refl w4 w3.heap.size).setCell j _) hap3, ho5.rd.mod ((Mod.refl w4 w3.heap.size).setCell j _) (ho5.apart hgr), (hext.trans hxt4).setCell (by show w.heap.size <= w3.heap.size; omega) _, by simp [World.setCell]; omega⟩ ?_;clear hRb hQb hdr ho5 hext hxt4 hgw4 hgr hcq hfq hpd;rintro V ⟨hRb, hQb, hdr, hus, hext, hgV⟩;have hpt : Rd V (some ⟨g1, j, none⟩) (trimL part) := by rw [trimL_take]; exact (hRb.mid hpw Htl.out).take _
   have hptl : (trimL part).length <= m + 1 := by have := trimL_len part; rw [Hpl.out] at this; exact this
   have hul : us.length <= (trimL part).length := len_le hpt.1 hun (by rw [Huv.out, val_trimL]; exact Hq1.out)
   go_wp2_with fail
   refine (ref_trimN Hpl.out (hRb.mid hpw Htl.out) hcc1 hcc2).mono ?_;rintro e w5 ⟨rfl, rfl⟩
   go_wp2_with fail
   refine (ref_minus rfl rfl hpt hus hul (by rw [val_trimL, Huv.out]; exact Hq1.out) (by omega)).mono ?_;rintro e w6 ⟨A6, c6, dd, rfl, ho6, hc6, hm6, ⟨hv6, hn6, hl6⟩, hxt6⟩
   have hfin : val dd < val ds /\ val dd + q * val ds = val part := by
    have a1 := Hq1.out;have a2 := Hq2.out;rw [val_trimL, Huv.out] at hv6;rw [Nat.add_mul, Nat.one_mul] at a2;omega
   have Hfin := Lib.hid hfin;have hdl6 : dd.length <= m + 1 := by omega
   replace hRb := hRb.ext hxt6;replace hQb := hQb.ext hxt6;replace hdr := hdr.ext hxt6;replace hext := hext.trans hxt6;have hapd := ho6.apart (show g1 < V.heap.size by omega);have hdd := ho6.rd;clear hfin hv6 hl6 hul hpt hptl hus ho6 hxt6 hn6
   go_wp2_with fail
   go_loopw [19] (fun i wk => ∃ (kk : Nat) (zs : List Nat), kk <= m + 1 /\ i = .int .i64 (kk : Int) /\ zs.length = m + 1 /\ W32 zs /\ zs.take kk = (padL dd (m + 1)).take kk /\ BlkN wk g1 (pre ++ zs ++ post) /\ Mod w6 wk g1) (fun i _ => m + 1 - (intOf i).toNat)
   case atStart => exact ⟨0, part, by omega, rfl, Hpl.out, hpw, rfl, hRb, Mod.refl _ _⟩
   case round =>
    obtain ⟨kk, zs, hkk, rfl, hzl, hzw, htk, hblk, hmod⟩ := hrel;have Htk := Lib.hid htk;clear htk
    by_cases hlt : kk < m + 1
    ·obtain ⟨b2, o2, he, hb2, hcz⟩ := (hblk.mid hzw Htl.out).at_ (i := kk) (by omega)
     injection he with he
     injection he with he1 he2
     subst he1; subst he2;have hfz := hblk.frozen (j + kk)
     by_cases hkd : kk < dd.length
     ·go_upto_region 23 with (fail)
      refine at_world (fun W => BlkN W g1 (pre ++ zs.set kk 0 ++ post) /\ Mod w6 W g1) ⟨hblk.setMid Htl.out (by omega) rfl, hmod.setCell _ _⟩ ?_;clear hcz hfz hblk hmod;rintro W ⟨hbW, hmW⟩;obtain ⟨b3, o3, rfl, hb3, hcd⟩ := (hdd.mod hmW hapd).at_ hkd;obtain ⟨b2, o2, he, hb2', hcz⟩ := (hbW.mid (hzw.set kk (by omega)) Htl.out).at_ (i := kk) (by simp; omega)
      injection he with he
      injection he with he1 he2
      subst he1; subst he2;have hfz := hbW.frozen (j + kk);have hdk := hdd.1.get hkd;have hkdi : (kk : Int) < (dd.length : Int) := by omega
      have Hpad := Lib.hid (pad_step (zs := zs) (P := padL dd (m + 1)) (k := kk) (v := dd[kk]) (by omega) (by rw [padL_len hdl6]; omega) Htk.out (padL_in hkd _))
      go_wp2
      go_roundw
      case rel =>
       have hset := hbW.setMid (v := ((dd[kk] : Nat) : Int)) (n := dd[kk]) Htl.out (i := kk) (by simp; omega) rfl;rw [List.set_set] at hset;exact ⟨kk + 1, zs.set kk dd[kk], by omega, by go_num, by simp [hzl], hzw.set _ hdk, Hpad.out, hset, hmW.setCell _ _⟩
      case measure => simp [intOf]; omega
     ·have hkdi : ¬ (kk : Int) < (dd.length : Int) := by omega
      have Hpad := Lib.hid (pad_step (zs := zs) (P := padL dd (m + 1)) (k := kk) (v := 0) (by omega) (by rw [padL_len hdl6]; omega) Htk.out (padL_out hkd _))
      go_wp2
      go_roundw
      case rel => exact ⟨kk + 1, zs.set kk 0, by omega, by go_num, by simp [hzl], hzw.set _ (by omega), Hpad.out, hblk.setMid Htl.out (by omega) rfl, hmod.setCell _ _⟩
      case measure => simp [intOf]; omega
    ·have hkk' : kk = m + 1 := by omega
     have hfull : zs = padL dd (m + 1) := by
      have := Htk.out
      rwa [List.take_of_length_le (by omega), List.take_of_length_le (by rw [padL_len hdl6]; omega)] at this
     have hvz : val zs = val dd := by rw [hfull, padL_val]
     have Hinv2 := Lib.hid (Hst.out zs q hzl hzw hq32 (by rw [hvz]; exact Hfin.out.1) (by rw [hvz]; exact Hfin.out.2));have hlti : ¬ (kk : Int) < (m : Int) + 1 := by omega
     clear hfull hvz hkk'
     go_wp2_with fail
     go_roundw
     case rel => exact ⟨j, _, _, by omega, rfl, Hinv2.out, hblk, hQb.mod hmod (by omega), hdr.mod hmod hap, hmod.ext hext hgw⟩
     case measure => simp [intOf]
end
theorem trim_last {xs : List Nat} (h : 0 < xs.length) : (trimL xs).length = xs.length ↔ xs[xs.length - 1]'(by omega) ≠ 0 := by
 have hk : xs.length - 1 < xs.length := by omega
 have ht : xs.take (xs.length - 1 + 1) = xs := List.take_of_length_le (by omega)
 constructor
 ·intro he h0
  have := trimL_zero xs (xs.length - 1) hk h0;rw [ht] at this;have hl := trimL_len (xs.take (xs.length - 1));rw [<- this, List.length_take] at hl;omega
 ·intro h0
  have := trimL_pos xs (xs.length - 1) hk h0;rw [ht] at this;rw [this]
def validB (s : Bool) (xs : List Nat) : Bool := decide ((trimL xs).length = xs.length) && (!s || decide (0 < xs.length))
section
variable {A B : Option Addr} {c d n m : Nat} {xs ys : List Nat} {w : World} {s t : Bool}
theorem int_Valid (hn : xs.length = n) (hx : Rd w A xs) (hc : n <= c) (_hcm : c <= maxLen) (h1 : n <= 100000) :
  Calls Tryz.prog 86 #[.agg #[.bool s, .slice A n c]] w fun e w' => e = .returned (.bool (validB s xs)) /\ Ext w w' := by
 by_cases h : 0 < n
 ·have hxl : 0 < xs.length := by omega
  have hlast := trim_last hxl;obtain ⟨W, hW, extW, bx, hz⟩ := box1 w 28 #[.bool s, .slice A n c];obtain ⟨b1, off', rfl, hb1, hc1⟩ := (hx.ext extW).at_ (i := xs.length - 1) (by omega);have hxk := hx.1.get (k := xs.length - 1) (by omega);subst hn;generalize xs[xs.length - 1] = X at *
  have hv : validB s xs = decide (X ≠ 0) := by
   unfold validB;rw [decide_eq_true hxl, Bool.or_true, Bool.and_true];exact decide_eq_decide.2 hlast
  have Hv := Lib.hid hv;clear hv hlast;have hpos : ¬ xs.length = 0 := by omega
  go_enter Tryz.func86, Tryz.ntmps86
  go_upto_region 1 with (fail)
  rw [<- hW];clear hW;have x0 := bx.cell 0 (.bool s) rfl;have x1 := bx.cell 1 (.slice (some ⟨b1, off', none⟩) xs.length c) rfl
  go_wp2_with fail
  go_ret
  refine ⟨?_, extW⟩;rw [Hv.out]
  by_cases h0 : X = 0 <;> simp [h0]
 ·obtain rfl : n = 0 := by omega
  have h0 : xs = [] := List.length_eq_zero_iff.1 hn;subst h0;have Hv := Lib.hid (show validB s [] = !s by cases s <;> rfl)
  go_enter Tryz.func86, Tryz.ntmps86
  go_upto_region 1 with (fail)
  obtain ⟨W, hW, extW, bx, hz⟩ := box1 w 28 #[.bool s, .slice A 0 c];rw [<- hW];clear hW;have x0 := bx.cell 0 (.bool s) rfl;have x1 := bx.cell 1 (.slice A 0 c) rfl
  go_wp2_with fail
  go_ret
  exact ⟨by rw [Hv.out]; rfl, extW⟩
theorem ref_Valid (hn : xs.length = n) (hx : Rd w A xs) (hc : n <= c) (hcm : c <= maxLen) (h1 : n <= 100000) :
  Calls Tryz.prog 53 #[.agg #[.bool s, .slice A n c]] w fun e w' => e = .returned (.bool (validB s xs)) /\ Ext w w' := by
 obtain ⟨W, hW, extW, bx, hz⟩ := box1 w 28 #[.bool s, .slice A n c];have x0 := bx.cell 0 (.bool s) rfl;have x1 := bx.cell 1 (.slice A n c) rfl;have Hn := Lib.hid hn;have Hv := Lib.hid (show validB s xs = (decide ((trimL xs).length = n) && (!s || decide (0 < n))) by unfold validB; rw [hn]);clear hn
 by_cases ht : (trimL xs).length = n
 ·have t1 : (((trimL xs).length : Int) == (n : Int)) = true := by rw [beq_iff_eq]; omega
  have t2 : decide ((trimL xs).length = n) = true := decide_eq_true ht;rw [t2] at Hv
  cases s
  ·have Hv2 := Lib.hid (show validB false xs = true by rw [Hv.out]; rfl)
   go_enter Tryz.func53, Tryz.ntmps53
   go_upto_region 1 with (fail)
   rw [<- hW];clear hW
   go_quiet ((go_at_call 93; exact quiet_left (ref_trimN Hn.out (hx.ext (extW.drewN _)) hc hcm)))
   go_wp2_with fail
   go_ret
   exact ⟨by rw [Hv2.out]; rfl, by first | exact extW | exact extW.drew | exact extW.drewN _⟩
  ·by_cases h0 : 0 < n
   ·have Hv2 := Lib.hid (show validB true xs = true by rw [Hv.out, decide_eq_true h0]; rfl)
    have t3 : decide ((0 : Int) < (n : Int)) = true := decide_eq_true (by omega)
    go_enter Tryz.func53, Tryz.ntmps53
    go_upto_region 1 with (fail)
    rw [<- hW];clear hW
    go_quiet ((go_at_call 93; exact quiet_left (ref_trimN Hn.out (hx.ext (extW.drewN _)) hc hcm)))
    go_wp2_with fail
    go_ret
    exact ⟨by rw [Hv2.out]; rfl, by first | exact extW | exact extW.drew | exact extW.drewN _⟩
   ·have Hv2 := Lib.hid (show validB true xs = false by rw [Hv.out, decide_eq_false h0]; rfl)
    have t3 : decide ((0 : Int) < (n : Int)) = false := decide_eq_false (by omega)
    go_enter Tryz.func53, Tryz.ntmps53
    go_upto_region 1 with (fail)
    rw [<- hW];clear hW
    go_quiet ((go_at_call 93; exact quiet_left (ref_trimN Hn.out (hx.ext (extW.drewN _)) hc hcm)))
    go_wp2_with fail
    go_ret
    exact ⟨by rw [Hv2.out]; rfl, by first | exact extW | exact extW.drew | exact extW.drewN _⟩
 ·have t1 : (((trimL xs).length : Int) == (n : Int)) = false := by rw [beq_eq_false_iff_ne]; omega
  have Hv2 := Lib.hid (show validB s xs = false by rw [Hv.out, decide_eq_false ht]; rfl)
  go_enter Tryz.func53, Tryz.ntmps53
  go_upto_region 1 with (fail)
  rw [<- hW];clear hW
  go_quiet ((go_at_call 93; exact quiet_left (ref_trimN Hn.out (hx.ext (extW.drewN _)) hc hcm)))
  go_wp2_with fail
  go_ret
  exact ⟨by rw [Hv2.out]; rfl, by first | exact extW | exact extW.drew | exact extW.drewN _⟩
end
theorem big_val {xs : List Nat} (_hw : W32 xs) (h : 2 < (trimL xs).length) : 18446744073709551616 <= val xs := by
 have h2 := val_lt_of_len (xs := [4294967295, 4294967295]) (W32.pair (by omega) (by omega)) (Nrm.trimL xs) (by simpa using h);rw [val_trimL, val_pair] at h2;omega
def fitsB (z : Int) : Bool := decide (-9223372036854775808 <= z /\ z < 9223372036854775808)
def fitV (z : Int) : Int := if -9223372036854775808 <= z /\ z < 9223372036854775808 then z else 0
theorem fit_yes {z : Int} (h : -9223372036854775808 <= z /\ z < 9223372036854775808) : fitsB z = true /\ fitV z = z := ⟨decide_eq_true h, if_pos h⟩
theorem fit_no {z : Int} (h : ¬ (-9223372036854775808 <= z /\ z < 9223372036854775808)) : fitsB z = false /\ fitV z = 0 := ⟨decide_eq_false h, if_neg h⟩
theorem neg_back {V : Nat} (h : V <= 9223372036854775808) : IntKind.i64.wrap (IntKind.u64.wrap (-(V : Int))) = -(V : Int) := by
 rw [IntKind.wrap_u64, IntKind.wrap_i64]; omega
def RetV (z : Int) (w : World) (e : Ending) (w' : World) : Prop := e = .returned (.tuple #[.int .i64 (fitV z), .bool (fitsB z)]) /\ Ext w w'
theorem ret_fit {z v : Int} {b : Bool} (h : fitsB z = b /\ fitV z = v) : Ending.returned (.tuple #[.int .i64 v, .bool b]) = .returned (.tuple #[.int .i64 (fitV z), .bool (fitsB z)]) := by rw [h.1, h.2]
section
variable {A B : Option Addr} {c d n m : Nat} {xs ys : List Nat} {w : World} {s t : Bool}
theorem ref_short (hn : xs.length = n) (hx : Rd w A xs) (h2 : n <= 2) : Calls Tryz.prog 129 #[.slice A n c] w fun e w' => e = .returned (.int .u64 (val xs)) /\ w = w' := by
 subst hn
 match xs, h2 with
 | [], _ =>
  go_enter Tryz.func129, Tryz.ntmps129
  go_wp2
  go_loop [3, 4] (fun v i => i = .int .i64 (-1) /\ v = .int .u64 0) (fun _ _ => 0)
  case atStart => exact ⟨rfl, rfl⟩
  case round =>
   obtain ⟨rfl, rfl⟩ := hrel
   go_wp2
   go_ret
   exact ⟨rfl, rfl⟩
 | [a], _ =>
  obtain ⟨b, off, rfl, hb, hc⟩ := hx.2 (by simp);have hc0 := hc 0 (by simp);simp only [Nat.add_zero, List.getElem_cons_zero] at hc0;have ha := hx.1 a (by simp);clear hc
  go_enter Tryz.func129, Tryz.ntmps129
  go_wp2
  go_loop [3, 4] (fun v i => (i = .int .i64 0 /\ v = .int .u64 0) \/ (i = .int .i64 (-1) /\ v = .int .u64 (a : Int))) (fun _ i => (intOf i + 1).toNat)
  case atStart => exact .inl ⟨rfl, rfl⟩
  case round =>
   rcases hrel with ⟨rfl, rfl⟩ | ⟨rfl, rfl⟩
   ·go_wp2
    exact ⟨.inr ⟨rfl, congrArg (Value.int .u64) (or_zero ha)⟩, by simp [intOf]⟩
   ·go_wp2
    go_ret
    exact ⟨by simp [val], rfl⟩
 | [a, a2], _ =>
  obtain ⟨b, off, rfl, hb, hc⟩ := hx.2 (by simp);have hc0 := hc 0 (by simp);have hc1 := hc 1 (by simp);simp only [Nat.add_zero, List.getElem_cons_zero, List.getElem_cons_succ] at hc0 hc1;have ha := hx.1 a (by simp);have ha2 := hx.1 a2 (by simp);clear hc
  go_enter Tryz.func129, Tryz.ntmps129
  go_wp2
  go_loop [3, 4] (fun v i => (i = .int .i64 1 /\ v = .int .u64 0) \/ (i = .int .i64 0 /\ v = .int .u64 (a2 : Int)) \/ (i = .int .i64 (-1) /\ v = .int .u64 (val [a, a2] : Nat))) (fun _ i => (intOf i + 1).toNat)
  case atStart => exact .inl ⟨rfl, rfl⟩
  case round =>
   rcases hrel with ⟨rfl, rfl⟩ | ⟨rfl, rfl⟩ | ⟨rfl, rfl⟩
   ·go_wp2
    exact ⟨.inr (.inl ⟨rfl, congrArg (Value.int .u64) (or_zero ha2)⟩), by simp [intOf]⟩
   ·go_wp2
    exact ⟨.inr (.inr ⟨rfl, congrArg (Value.int .u64) ((high_or ha ha2).trans (by rw [val_pair, Nat.add_comm, Nat.mul_comm]))⟩), by simp [intOf]⟩
   ·go_wp2
    go_ret
    exact ⟨rfl, rfl⟩
set_option maxRecDepth 100000 in
theorem int_Int64 (hn : xs.length = n) (hx : Rd w A xs) (hc : n <= c) (hcm : c <= maxLen) (_h1 : n <= 100000) :
  Calls Tryz.prog 154 #[.agg #[.bool s, .slice A n c]] w (RetV (ival s xs) w) := by
 obtain ⟨W, hW, extW, bx, hz⟩ := box1 w 28 #[.bool s, .slice A n c];have x0 := bx.cell 0 (.bool s) rfl;have x1 := bx.cell 1 (.slice A n c) rfl;have Hn := Lib.hid hn;clear hn;have hxt : Rd w A (trimL xs) := by rw [trimL_take]; exact hx.take _
 by_cases hl : 2 < (trimL xs).length
 ·have hbig := big_val hx.1 hl
  have E1 := Lib.hid (fit_no (z := ival s xs) (by unfold ival; cases s <;> simp <;> omega));clear hbig
  go_enter Tryz.func154, Tryz.ntmps154
  go_upto_region 1 with (fail)
  rw [<- hW];clear hW
  go_wp2_with (go_at_call 114; refine (int_trimN Hn.out (hx.ext extW) hc hcm).mono ?_; rintro e w1 ⟨rfl, rfl⟩)
  go_ret2
  exact ⟨ret_fit E1.out, extW⟩
 ·have hlt := val_lt_two hxt.1 (by omega)
  rw [val_trimL] at hlt;have hu := int_toUint (c := c) rfl (hxt.ext extW) (by omega);rw [val_trimL] at hu;have Hu := Lib.hid hu;clear hu;have hiv : ival s xs = if s then -(val xs : Int) else (val xs : Int) := rfl;have Hiv := Lib.hid hiv;clear hiv;generalize val xs = V at *
  cases s
  ·go_enter Tryz.func154, Tryz.ntmps154
   go_upto_region 1 with (fail)
   rw [<- hW];clear hW
   go_upto_region 4 with (first | (go_at_call 114; refine (int_trimN Hn.out (hx.ext extW) hc hcm).mono ?_; rintro e w1 ⟨rfl, rfl⟩) | (go_at_call 153; refine Hu.out.mono ?_; rintro e w1 ⟨rfl, rfl⟩))
   go_upto_region 5 with (first | (go_at_call 114; refine (int_trimN Hn.out (hx.ext extW) hc hcm).mono ?_; rintro e w1 ⟨rfl, rfl⟩) | (go_at_call 153; refine Hu.out.mono ?_; rintro e w1 ⟨rfl, rfl⟩))
   go_upto_region 7 with fail
   by_cases hv : V < 9223372036854775808
   ·have E1 := Lib.hid (show fitsB (ival false xs) = true /\ fitV (ival false xs) = (V : Int) by rw [Hiv.out]; exact fit_yes (by simp; omega))
    have hwv : IntKind.i64.wrap (V : Int) = (V : Int) := by rw [IntKind.wrap_i64]; omega
    generalize hN : (9223372036854775808 : Int) = N;have dN : decide ((V : Int) < N) = true := decide_eq_true (by omega);clear hN hv
    go_wp2_with fail
    go_ret2
    exact ⟨ret_fit E1.out, extW⟩
   ·have E1 := Lib.hid (fit_no (z := ival false xs) (by rw [Hiv.out]; simp; omega))
    generalize hN : (9223372036854775808 : Int) = N;have dN : decide ((V : Int) < N) = false := decide_eq_false (by omega);clear hN hv
    go_wp2_with fail
    go_ret2
    exact ⟨ret_fit E1.out, extW⟩
  ·by_cases hv : V <= 9223372036854775808
   ·have E1 := Lib.hid (show fitsB (ival true xs) = true /\ fitV (ival true xs) = -(V : Int) by rw [Hiv.out]; exact fit_yes (by simp; omega))
    have d2 : decide ((V : Int) <= 9223372036854775808) = true := decide_eq_true (by omega);have hnb := neg_back hv
    go_enter Tryz.func154, Tryz.ntmps154
    go_upto_region 1 with (fail)
    rw [<- hW];clear hW
    go_wp2_with (first | (go_at_call 114; refine (int_trimN Hn.out (hx.ext extW) hc hcm).mono ?_; rintro e w1 ⟨rfl, rfl⟩) | (go_at_call 153; refine Hu.out.mono ?_; rintro e w1 ⟨rfl, rfl⟩))
    go_ret2
    exact ⟨ret_fit E1.out, extW⟩
   ·have E1 := Lib.hid (fit_no (z := ival true xs) (by rw [Hiv.out]; simp; omega))
    have d2 : decide ((V : Int) <= 9223372036854775808) = false := decide_eq_false (by omega)
    go_enter Tryz.func154, Tryz.ntmps154
    go_upto_region 1 with (fail)
    rw [<- hW];clear hW
    go_wp2_with (first | (go_at_call 114; refine (int_trimN Hn.out (hx.ext extW) hc hcm).mono ?_; rintro e w1 ⟨rfl, rfl⟩) | (go_at_call 153; refine Hu.out.mono ?_; rintro e w1 ⟨rfl, rfl⟩))
    go_ret2
    exact ⟨ret_fit E1.out, extW⟩
end
end
section
open Go.RowKit
attribute [local go_sem ↓] Go.wp_at_zero Go.wp_at_succ
section
variable {A B : Option Addr} {c d n m : Nat} {xs ys : List Nat} {w : World} {s t : Bool}
theorem ref_divide_lt (hn : xs.length = n) (hm : ys.length = m) (hx : Rd w A xs) (hy : Rd w B ys) (hc : n <= c) (hcm : c <= maxLen) (hnx : Nrm xs) (hny : Nrm ys) (hlt : val xs < val ys) (h1 : n <= 100000) (h2 : m <= 100000) :
  Calls Tryz.prog 95 #[.slice A n c, .slice B m d] w (RetQ (val xs) (val ys) w) := by
 have hcm1 := Lib.hid (show cmpL xs ys = -1 by rw [cmpL_nrm hx.1 hy.1 hnx hny]; exact cmpI_of_lt hlt);have Hlt := Lib.hid hlt;clear hlt;subst hn;subst hm
 go_enter Tryz.func95, Tryz.ntmps95
 go_wp2_with fail
 refine (ref_compare A B c d xs ys w hx hy (by unfold maxLen; omega) (by unfold maxLen; omega)).mono ?_;rintro e w1 ⟨rfl, hext1⟩;rw [hcm1.out]
 go_wp2_with fail
 go_ret2
 have h := Hlt.out;exact ⟨none, 0, [], A, c, xs, rfl, Rd.nil _ _, hx.ext hext1, by simp, by unfold maxLen; omega, hc, hcm, by rw [Nat.div_eq_of_lt h]; rfl, by rw [Nat.mod_eq_of_lt h], Nrm.nil, hnx, hext1⟩
set_option maxRecDepth 100000 in
theorem ref_divide_two (hn : xs.length = n) (hm : ys.length = m) (hx : Rd w A xs) (hy : Rd w B ys) (hnx : Nrm xs) (hny : Nrm ys) (hge : val ys <= val xs) (h0 : 0 < m) (h2 : n <= 2) :
  Calls Tryz.prog 95 #[.slice A n c, .slice B m d] w (RetQ (val xs) (val ys) w) := by
 have hml := len_le hx.1 hny hge
 have hpos : val ys ≠ 0 := fun h => by
  have := hny.zero.1 h;subst this;simp at hm;omega
 obtain ⟨CM, hCM, dCM⟩ : ∃ CM, cmpL xs ys = CM /\ decide (CM < 0) = false := ⟨_, rfl, by
  rw [cmpL_nrm hx.1 hy.1 hnx hny]
  rcases Nat.lt_or_ge (val ys) (val xs) with h | h
  ·rw [cmpI_of_gt h]; rfl
  ·rw [cmpI_of_eq (by omega)]; rfl⟩
 have hvx := val_lt_two hx.1 (by omega);have hvy := val_lt_two hy.1 (by omega);have q1 : val xs / val ys <= val xs := Nat.div_le_self _ _;have q2 : val xs % val ys < val ys := Nat.mod_lt _ (by omega);have e1 : val xs / val ys / 4294967296 < 4294967296 := by omega
 have e2 : val xs % val ys / 4294967296 < 4294967296 := by omega
 have Hvx := Lib.hid hvx;have Hvy := Lib.hid hvy;have Hq1 := Lib.hid q1;have Hq2 := Lib.hid q2;have E1 := Lib.hid e1;have E2 := Lib.hid e2;have HCM := Lib.hid hCM;subst hn;subst hm;have Hml := Lib.hid hml;have hz : ((val ys : Nat) : Int) ≠ 0 := by omega
 have hz0 : (((val ys : Nat) : Int) == 0) = false := by rw [beq_eq_false_iff_ne]; exact hz
 have hp1 : (1 : Int) <= ((val ys : Nat) : Int) := by omega
 clear hvx hvy q1 q2 e1 e2 hml hge hz hCM
 go_enter Tryz.func95, Tryz.ntmps95
 go_wp2_with fail
 refine (ref_compare A B c d xs ys w hx hy (by unfold maxLen; omega) (by have := Hml.out; unfold maxLen; omega)).mono ?_;rintro e w1 ⟨rfl, hext1⟩;rw [HCM.out]
 go_wp2_with fail
 refine (ref_short rfl (hx.ext hext1) h2).mono ?_;rintro e w2 ⟨rfl, rfl⟩
 go_wp2_with fail
 refine (ref_short rfl (hy.ext hext1) (by have := Hml.out; omega)).mono ?_;rintro e w2 ⟨rfl, rfl⟩;clear hp1 hz0;generalize hX : val xs = X at *;generalize hY : val ys = Y at *;have HX := Lib.hid hX;have HY := Lib.hid hY;clear hX hY;have hz0 : ((Y : Int) == 0) = false := by rw [beq_eq_false_iff_ne]; omega
 have hp1 : (1 : Int) <= (Y : Int) := by omega
 have hp0 : (0 : Int) <= (X : Int) := by omega
 go_wp2_with fail
 have hq : (X : Int) / (Y : Int) = ((X / Y : Nat) : Int) := (Int.natCast_ediv _ _).symm;have hr : (X : Int) % (Y : Int) = ((X % Y : Nat) : Int) := (Int.natCast_emod _ _).symm;have hq' : (X : Int).tdiv (Y : Int) = ((X / Y : Nat) : Int) := rfl;have hr' : (X : Int).tmod (Y : Int) = ((X % Y : Nat) : Int) := rfl;have hw1 : IntKind.u64.wrap ((X / Y : Nat) : Int) = ((X / Y : Nat) : Int) := wrap_nat (Nat.lt_of_le_of_lt Hq1.out Hvx.out);have hw2 : IntKind.u64.wrap ((X % Y : Nat) : Int) = ((X % Y : Nat) : Int) := wrap_nat (Nat.lt_trans Hq2.out Hvy.out);generalize hU : X / Y = U at *;generalize hV : X % Y = V at *;have HU := Lib.hid hU;have HV := Lib.hid hV;clear hp0 hp1 hU hV
 go_region_with (first | (go_at_call_of 121 U; refine (ref_words U E1.out).mono ?_; rintro e w3 ⟨A3, c3, qs, rfl, ho3, hc3, hm3, ⟨hv3, hn3, hl3⟩, hext3⟩; have Hv3 := Lib.hid hv3; clear hv3) | (go_at_call_of 121 V; refine (ref_words V E2.out).mono ?_; rintro e w4 ⟨A4, c4, rs, rfl, ho4, hc4, hm4, ⟨hv4, hn4, hl4⟩, hext4⟩; have Hv4 := Lib.hid hv4; clear hv4))
 all_goals
  go_wp2_with fail
  go_ret2
  have ext3 := (Ext.refl w1).drew.trans hext3;have e3 := Hv3.out;have e4 := Hv4.out;exact ⟨A3, c3, qs, A4, c4, rs, rfl, ho3.rd.ext hext4, ho4.rd, hc3, hm3, hc4, hm4, by rw [e3, HU.out], by rw [e4, HV.out], hn3, hn4, hext1.trans (ext3.trans hext4)⟩
theorem ref_divide_word {y : Nat} (hn : xs.length = n) (hx : Rd w A xs) (hy : Rd w B [y]) (hy0 : y ≠ 0) (h2 : 2 < n) (h1 : n <= 100000) :
  Calls Tryz.prog 95 #[.slice A n c, .slice B 1 d] w (RetQ (val xs) y w) := by
 have hcm1 := Lib.hid (show cmpL xs [y] = 1 from cmpL_len_gt (by simp; omega));have hyl := hy.1 y (by simp)
 have hr32 : val xs % y < 4294967296 := by
  have := Nat.mod_lt (val xs) (show 0 < y by omega);omega
 subst hn
 go_enter Tryz.func95, Tryz.ntmps95
 go_wp2_with fail
 refine (ref_compare A B c d xs [y] w hx hy (by unfold maxLen; omega) (by unfold maxLen; simp)).mono ?_;rintro e w1 ⟨rfl, hext1⟩;rw [hcm1.out];obtain ⟨b1, o1, rfl, hb1, cb⟩ := (hy.ext hext1).at_ (i := 0) (by simp);simp only [Nat.add_zero, List.getElem_cons_zero] at cb
 go_wp2_with fail
 refine (ref_by rfl (hx.ext hext1) (by omega) hyl (by omega)).mono ?_;rintro e w3 ⟨A3, c3, qs, rfl, ho3, hc3, hm3, hqv, hqn, hql, hext3⟩;have Hqv := Lib.hid hqv;clear hqv cb
 go_wp2_with fail
 refine (ref_words (val xs % y) (by omega)).mono ?_;rintro e w5 ⟨A5, c5, rs, rfl, ho5, hc5, hm5, ⟨hv5, hn5, hl5⟩, hext5⟩;have Hv5 := Lib.hid hv5;clear hv5
 go_wp2_with fail
 go_ret2
 exact ⟨A3, c3, qs, A5, c5, rs, rfl, ho3.rd.ext hext5, ho5.rd, hc3, hm3, hc5, hm5, Hqv.out, Hv5.out, hqn, hn5, hext1.trans (hext3.trans hext5)⟩
theorem ref_divide (hn : xs.length = n) (hm : ys.length = m) (hx : Rd w A xs) (hy : Rd w B ys) (hc : n <= c) (hcm : c <= maxLen) (hnx : Nrm xs) (hny : Nrm ys) (h0 : 0 < m) (h1 : n <= 9000) (h2 : m <= 9000) :
  Calls Tryz.prog 95 #[.slice A n c, .slice B m d] w (RetQ (val xs) (val ys) w) := by
 rcases Nat.lt_or_ge (val xs) (val ys) with h | h
 ·exact ref_divide_lt hn hm hx hy hc hcm hnx hny h (by omega) (by omega)
 ·rcases Nat.lt_or_ge 2 n with h3 | h3
  ·rcases Nat.lt_or_ge 1 m with h4 | h4
   ·exact ref_divideL hn hm hx hy hnx hny h (by omega) h3 h1
   ·obtain rfl : m = 1 := by omega
    obtain ⟨y, rfl⟩ : ∃ y, ys = [y] := by
     match ys, hm with
     | [y], _ => exact ⟨y, rfl⟩
    have hy0 : y ≠ 0 := by
     rintro rfl;have := hny.last (by simp);simp at this
    rw [val_one];exact ref_divide_word hn hx hy hy0 h3 (by omega)
  ·exact ref_divide_two hn hm hx hy hnx hny h h0 h3
end
theorem look_rd' {w : World} {A : Option Addr} {c : Nat} {xs : List Nat} (h : Rd w A xs) : look w (.slice A xs.length c) = val xs := by
 cases A with
 | none =>
  by_cases h0 : xs = []
  ·subst h0; rfl
  ·obtain ⟨b, off, he, _⟩ := h.2 h0; cases he
 | some ad =>
  unfold look;refine congrArg val (List.ext_getElem (by simp) fun i h1 h2 => ?_);obtain ⟨b, off, he, _, hc⟩ := h.at_ h2
  injection he with he
  subst he;simp only [List.getElem_map, List.getElem_range, hc];simp
section
variable {A B : Option Addr} {c d n m : Nat} {xs ys : List Nat} {w : World} {s t : Bool}
theorem ref_GCD (hn : xs.length = n) (hm : ys.length = m) (hx : Rd w A xs) (hy : Rd w B ys) (hc : n <= c) (hcm : c <= maxLen) (hd : m <= d) (hdm : d <= maxLen) (h1 : n <= 9000) (h2 : m <= 9000) :
  Calls Tryz.prog 56 #[.agg #[.bool s, .slice A n c], .agg #[.bool t, .slice B m d]] w (RetI ((Nat.gcd (val xs) (val ys) : Nat) : Int) (max xs.length ys.length) w) := by
 have Hn := Lib.hid hn;have Hm := Lib.hid hm;clear hn hm;have lx := trimL_len xs;have ly := trimL_len ys;have hxt : Rd w A (trimL xs) := by rw [trimL_take]; exact hx.take _
 have hyt : Rd w B (trimL ys) := by rw [trimL_take]; exact hy.take _
 have hg0 := Lib.hid (show Nat.gcd (val (trimL xs)) (val (trimL ys)) = Nat.gcd (val xs) (val ys) by rw [val_trimL, val_trimL]);obtain ⟨L, hL⟩ : ∃ L, max xs.length ys.length = L := ⟨_, rfl⟩;obtain ⟨G, hG⟩ : ∃ G, Nat.gcd (val xs) (val ys) = G := ⟨_, rfl⟩;rw [hL, hG];have l1 : xs.length <= L := by omega
 have l2 : ys.length <= L := by omega
 have l3 : L <= 9000 := by have := Hn.out; have := Hm.out; omega
 have HG := Lib.hid hG;clear hL hG
 go_enter Tryz.func56, Tryz.ntmps56
 go_upto_region 1 with (fail)
 obtain ⟨W, hW, extW, bx, by_, bz, hz⟩ := box3 w 28 28 28 #[.bool s, .slice A n c] #[.bool t, .slice B m d] #[.bool false, .slice none 0 0];rw [<- hW];clear hW;have x1 := bx.cell 1 (.slice A n c) rfl;have y1 := by_.cell 1 (.slice B m d) rfl
 go_region_held3 (fun w' => w'.cell? ⟨w.heap.size, 1, none⟩ = some (.slice A n c) /\ w'.cell? ⟨w.heap.size + 1, 1, none⟩ = some (.slice B m d)) (first | (go_split_ands; refine ⟨?_, ?_⟩ <;> first | (exact Ext.cellv (by assumption) (by assumption)) | (refine (cell_far2 (by omega)).trans ?_; assumption)) | go_keep)
  (first | (go_at_call_of 93 A; refine (ref_trimN Hn.out (hx.ext (by first | exact extW | exact extW.drew | exact extW.drewN _ | exact (extW.drew).drew)) hc hcm).mono ?_; rintro e w1 ⟨rfl, rfl⟩) | (go_at_call_of 93 B; refine (ref_trimN Hm.out (hy.ext (by first | exact extW | exact extW.drew | exact extW.drewN _ | exact (extW.drew).drew)) hd hdm).mono ?_; rintro e w1 ⟨rfl, rfl⟩))
 clear x1 y1 bx by_ hx hy
 go_wp2_with fail
 go_loopw [5, 6] (fun a b V => ∃ A1 c1 us B1 d1 vs, a = .slice A1 (List.length us) c1 /\ b = .slice B1 (List.length vs) d1 /\ Rd V A1 us /\ Rd V B1 vs /\ us.length <= c1 /\ c1 <= maxLen /\ vs.length <= d1 /\ d1 <= maxLen /\ Nrm us /\ Nrm vs /\ us.length <= L /\ vs.length <= L /\ Nat.gcd (val us) (val vs) = G /\ Ext W V) (fun _ b V => look V b)
 case atStart => exact ⟨A, c, trimL xs, B, d, trimL ys, rfl, rfl, hxt.ext (by first | exact extW | exact extW.drew | exact extW.drewN _ | exact (extW.drew).drew), hyt.ext (by first | exact extW | exact extW.drew | exact extW.drewN _ | exact (extW.drew).drew), by have := Hn.out; omega, hcm, by have := Hm.out; omega, hdm, Nrm.trimL _, Nrm.trimL _, by omega, by omega, hg0.out.trans HG.out, by first | exact Ext.refl W | exact (Ext.refl W).drew | exact (Ext.refl W).drewN _⟩
 case round =>
  clear hxt hyt;obtain ⟨A1, c1, us, B1, d1, vs, rfl, rfl, hu, hv, hc1, hm1, hd1, hdm1, hnu, hnv, hlu, hlv, hgg0, hext⟩ := hrel;have hgg := Lib.hid hgg0;clear hgg0
  by_cases h0 : vs.length = 0
  ·have hgv : val us = G := by rw [<- hgg.out, List.length_eq_zero_iff.1 h0]; exact (Nat.gcd_zero_right _).symm
   have Hgv := Lib.hid hgv;have bzr := bz.ext hext;have z0 := bzr.cell 0 (.bool false) rfl;have z1 := bzr.cell 1 (.slice none 0 0) rfl;have f0 := bzr.frozen 0;have f1 := bzr.frozen 1;clear hgv
   go_wp2_with (go_at_call 96; refine (ref_signed rfl hu hc1 hm1).mono ?_; rintro e w3 ⟨b3, A3, c3, rs, rfl, hr3, hc3, hm3, hi3, hl3, hext3⟩; have ext3 := hext.trans hext3; have bz3 := bz.ext ext3; have z0 := bz3.cell 0 (.bool false) rfl; have z1 := bz3.cell 1 (.slice none 0 0) rfl; have f0 := bz3.frozen 0; have f1 := bz3.frozen 1)
   obtain ⟨r1, r2, r3, r4⟩ := fin_pair (b := b3) (n := rs.length) (c := c3) (extW.trans ext3) (by omega) bz3 hr3;have hiv : ival false us = (G : Int) := by rw [<- Hgv.out]; rfl
   exact bodyPost_ret (v := .agg #[.bool b3, .slice A3 rs.length c3]) (by simp [results, Tryz.results56, go_sem, r3, r4]) rfl ⟨b3, A3, c3, rs, rfl, r1, hc3, hm3, by rw [hiv] at hi3; exact hi3, by omega, r2⟩
  ·go_wp2_with fail
   refine (ref_divide rfl rfl hu hv hc1 hm1 hnu hnv (by omega) (by omega) (by omega)).mono ?_;rintro e w4 ⟨Aq, cq, qs, Ar, cr, rs, rfl, hq, hr, hcq, hmq, hcr, hmr, hvq, hvr, hnq, hnr, ext4⟩
   have hpos : 0 < val vs := by
    have := hnv.ge (by rintro rfl; simp at h0);have h5 : 0 < 4294967296 ^ (vs.length - 1) := Nat.pow_pos (by omega);omega
   have hlt : val rs < val vs := by rw [hvr]; exact Nat.mod_lt _ hpos
   have hrl := nrm_len hv.1 hnr (Nat.le_of_lt hlt);have hgn := Lib.hid (show Nat.gcd (val vs) (val rs) = G by rw [hvr, <- hgg.out, Nat.gcd_comm (val us), Nat.gcd_rec (val vs) (val us), Nat.gcd_comm]);have Hlt := Lib.hid hlt;clear hvq hvr hlt hpos hq
   go_wp2_with fail
   refine ⟨⟨B1, d1, vs, Ar, cr, rs, rfl, rfl, hv.ext ext4, hr, hd1, hdm1, hcr, hmr, hnv, hnr, hlv, by omega, hgn.out, hext.trans ext4⟩, ?_⟩;rw [look_rd' hr, look_rd' hv];exact Hlt.out
end
end
section
open Go.RowKit
theorem two_new (w : World) (t : TypeId) (a b : Array Value) : Ext w ((w.alloc (.cells a t)).alloc (.cells b t)) /\ Box ((w.alloc (.cells a t)).alloc (.cells b t)) w.heap.size t a /\ Box ((w.alloc (.cells a t)).alloc (.cells b t)) (w.heap.size + 1) t b := by
 obtain ⟨W, rfl, h1, h2, h3, _⟩ := box2 w t t a b;exact ⟨h1, h2, h3⟩
end
section
open Go.RowKit
attribute [local go_sem ↓] Go.wp_at_zero Go.wp_at_succ
theorem dm_rest {b1 b2 : Bool} {x y q r : Nat} (h : x = q * y + r) : (if b1 then -(x : Int) else (x : Int)) - (if (!(b1 == b2)) = true then -(q : Int) else (q : Int)) * (if b2 then -(y : Int) else (y : Int)) = if b1 then -(r : Int) else (r : Int) := by
 have e : (x : Int) = (q : Int) * (y : Int) + (r : Int) := by rw [h, Int.natCast_add, Int.natCast_mul]
 rw [e]
 cases b1 <;> cases b2 <;> simp <;> grind
theorem dm_abs {a b : Int} {b1 b2 bq : Bool} {ps qs us qq : List Nat} (h1 : IsInt a b1 ps) (h2 : IsInt b b2 qs) (hq : 0 < qs.length) (hu : val us = val ps / val qs) (h3 : IsInt (ival (!(b1 == b2)) us) bq qq) :
  b ≠ 0 /\ -(b.natAbs : Int) < a - ival bq qq * b /\ a - ival bq qq * b < (b.natAbs : Int) := by
 have hv : 0 < val qs := by
  rcases Nat.eq_zero_or_pos (val qs) with h | h
  ·rw [h2.nrm.zero.1 h] at hq; simp at hq
  ·exact h
 have e := dm_rest (b1 := b1) (b2 := b2) (x := val ps) (y := val qs) (q := val us) (r := val ps % val qs) (by rw [hu, Nat.mul_comm]; exact (Nat.div_add_mod _ _).symm);have hl := Nat.mod_lt (val ps) hv;have i1 : ival b1 ps = if b1 then -(val ps : Int) else (val ps : Int) := rfl;have i2 : ival b2 qs = if b2 then -(val qs : Int) else (val qs : Int) := rfl;have i3 : ival (!(b1 == b2)) us = if (!(b1 == b2)) = true then -(val us : Int) else (val us : Int) := rfl;rw [<- i1, <- i2, <- i3, h1.eq, h2.eq, <- h3.eq] at e;have hb := h2.eq;rw [i2] at hb;generalize val ps % val qs = r at *;refine ⟨?_, ?_, ?_⟩
 ·cases b2 <;> simp at hb <;> omega
 ·rw [e]; cases b1 <;> cases b2 <;> simp at hb ⊢ <;> omega
 ·rw [e]; cases b1 <;> cases b2 <;> simp at hb ⊢ <;> omega
def negB (r b : Int) : Bool := decide ((0 < b /\ r < 0) \/ (b < 0 /\ 0 < r))
theorem dm_fin {a b q : Int} (hb : b ≠ 0) (hr : -(b.natAbs : Int) < a - q * b /\ a - q * b < (b.natAbs : Int)) :
  b ≠ 0 /\ (negB (a - q * b) b = true -> IsDM a b (q - 1) (a - q * b + b)) /\ (negB (a - q * b) b = false -> IsDM a b q (a - q * b)) := by
 refine ⟨hb, fun h => ?_, fun h => ?_⟩
 ·have h := of_decide_eq_true h
  refine ⟨by grind, ?_⟩;omega
 ·have h := of_decide_eq_false h
  refine ⟨by grind, ?_⟩;omega
theorem dm_signs {b r : Int} (hb : b ≠ 0) : ∃ SR SB : Int, r.sign = SR /\ b.sign = SB /\ ((SR = 1 /\ SB = 1 /\ negB r b = false) \/ (SR = 0 /\ SB = 1 /\ negB r b = false) \/ (SR = -1 /\ SB = 1 /\ negB r b = true) \/ (SR = 1 /\ SB = -1 /\ negB r b = true) \/ (SR = 0 /\ SB = -1 /\ negB r b = false) \/ (SR = -1 /\ SB = -1 /\ negB r b = false)) := by
 refine ⟨_, _, rfl, rfl, ?_⟩;unfold negB
 rcases Int.lt_trichotomy b 0 with h | h | h
 ·rw [Int.sign_eq_neg_one_of_neg h]
  rcases Int.lt_trichotomy r 0 with k | k | k
  ·rw [Int.sign_eq_neg_one_of_neg k]; exact .inr (.inr (.inr (.inr (.inr ⟨rfl, rfl, decide_eq_false (by omega)⟩))))
  ·subst k; exact .inr (.inr (.inr (.inr (.inl ⟨rfl, rfl, decide_eq_false (by omega)⟩))))
  ·rw [Int.sign_eq_one_of_pos k]; exact .inr (.inr (.inr (.inl ⟨rfl, rfl, decide_eq_true (by omega)⟩)))
 ·exact absurd h hb
 ·rw [Int.sign_eq_one_of_pos h]
  rcases Int.lt_trichotomy r 0 with k | k | k
  ·rw [Int.sign_eq_neg_one_of_neg k]; exact .inr (.inr (.inl ⟨rfl, rfl, decide_eq_true (by omega)⟩))
  ·subst k; exact .inr (.inl ⟨rfl, rfl, decide_eq_false (by omega)⟩)
  ·rw [Int.sign_eq_one_of_pos k]; exact .inl ⟨rfl, rfl, decide_eq_false (by omega)⟩
section
variable {A B : Option Addr} {c d n m : Nat} {xs ys : List Nat} {w : World} {s t : Bool}
theorem ref_DivMod_nz (hn : xs.length = n) (hm : ys.length = m) (hx : Rd w A xs) (hy : Rd w B ys) (hc : n <= c) (hcm : c <= maxLen) (hd : m <= d) (hdm : d <= maxLen) (h1 : n <= 9000) (h2 : m <= 9000) (h0 : val ys ≠ 0) :
  Calls Tryz.prog 149 #[.agg #[.bool s, .slice A n c], .agg #[.bool t, .slice B m d]] w (RetDM (ival s xs) (ival t ys) 60000 60000 w) := by
 have Hn := Lib.hid hn;have Hm := Lib.hid hm;clear hn hm
 go_enter Tryz.func149, Tryz.ntmps149
 go_upto_region 1 with (fail)
 obtain ⟨W, hW, extW, bx, by_, bz, bu, hz⟩ := box4 w 28 28 28 28 #[.bool s, .slice A n c] #[.bool t, .slice B m d] #[.bool false, .slice none 0 0] #[.bool false, .slice none 0 0];rw [<- hW];clear hW;have x0 := bx.cell 0 (.bool s) rfl;have x1 := bx.cell 1 (.slice A n c) rfl;have y0 := by_.cell 0 (.bool t) rfl;have y1 := by_.cell 1 (.slice B m d) rfl;have hf0 := bx.frozen 0;have hf1 := bx.frozen 1;have hg0 := by_.frozen 0;have hg1 := by_.frozen 1
 go_cut [] (fun wx => TwoN w W (ival s xs) (ival t ys) xs.length ys.length (fun wx => Box wx (w.heap.size + 1 + 1) 28 #[.bool false, .slice none 0 0] /\ Box wx (w.heap.size + 1 + 1 + 1) 28 #[.bool false, .slice none 0 0] /\ w.heap.size + 4 <= wx.heap.size) wx)
 case first =>
  go_region_with (first | (go_at_call_of 94 A; refine (ref_Norm Hn.out (hx.ext (by first | exact extW | exact extW.drew | exact extW.drewN _ | exact (extW.drew).drew)) hc hcm (by omega)).mono ?_; rintro e w3 ⟨b3, A3, c3, rs, rfl, hr3, hc3, hm3, hi3, hl3, hext3⟩; have e3 := (by first | exact hext3 | exact (Ext.refl W).drew.trans hext3 : Ext W w3); have y30 := (by_.ext e3).cell 0 (.bool t) rfl; have y31 := (by_.ext e3).cell 1 (.slice B m d) rfl) | (go_at_call_of 94 B; refine (ref_Norm Hm.out (hy.ext (extW.trans e3)) hd hdm (by omega)).mono ?_; rintro e w4 ⟨b4, A4, c4, qs, rfl, hr4, hc4, hm4, hi4, hl4, hext4⟩; have e4 := e3.trans hext4; have x40 := (bx.ext e4).cell 0 (.bool s) rfl; have x41 := (bx.ext e4).cell 1 (.slice A n c) rfl; have y40 := (by_.ext e4).cell 0 (.bool t) rfl; have y41 := (by_.ext e4).cell 1 (.slice B m d) rfl; have f40 := (bx.ext e4).frozen 0; have f41 := (bx.ext e4).frozen 1; have g40 := (by_.ext e4).frozen 0; have g41 := (by_.ext e4).frozen 1))
  all_goals (go_wp2_with fail; go_meet; exact TwoN.mk' extW e4 bx by_ (hr3.ext hext4) hr4 hc3 hm3 hc4 hm4 hi3 hi4 hl3 hl4 (fun u v p q => ⟨(((((bz.ext e4).far (far_ne (by omega)) _).far (far_ne (by omega)) _).far (far_ne (by omega)) _).far (far_ne (by omega)) _), (((((bu.ext e4).far (far_ne (by omega)) _).far (far_ne (by omega)) _).far (far_ne (by omega)) _).far (far_ne (by omega)) _), by have := e4.size; simp [World.setCell]; omega⟩))
 case rest =>
  clear bx by_ bz bu hz x0 x1 y0 y1 hf0 hf1 hg0 hg1 extW;obtain ⟨b1, A1, c1, ps, b2, A2, c2, qs, extN, bx, by_, ⟨bz, bu, hz⟩, hp, hq, hc1, hm1, hc2, hm2, hi1, hi2, hl1, hl2⟩ := hcut;have hps : ps.length <= 9000 := by have := Hn.out; omega
  have hqs : qs.length <= 9000 := by have := Hm.out; omega
  have x0 := bx.cell 0 (.bool b1) rfl;have x1 := bx.cell 1 (.slice A1 ps.length c1) rfl;have y0 := by_.cell 0 (.bool b2) rfl;have y1 := by_.cell 1 (.slice A2 qs.length c2) rfl
  have hqpos : 0 < qs.length := by
   rcases Nat.eq_zero_or_pos qs.length with h | h
   ·exfalso
    apply h0
    have hz0 := hi2.zero.1 (List.length_eq_zero_iff.1 h);unfold ival at hz0
    cases t <;> simp at hz0 <;> omega
   ·exact h
  have hqne : ((qs.length : Int) == 0) = false := by rw [beq_eq_false_iff_ne]; omega
  go_wp2_with fail
  refine (ref_divide rfl rfl hp hq hc1 hm1 hi1.nrm hi2.nrm hqpos (by omega) (by omega)).mono ?_;rintro e w5 ⟨A5, c5, us, A6, c6, rs6, rfl, hr5, hr6, hc5, hm5, hc6, hm6, huv, hrv, hun, hrn, hxt5⟩;have hul : us.length <= ps.length := nrm_len_le hp.1 hun (by rw [huv]; exact Nat.div_le_self _ _);have Huv := Lib.hid huv;clear huv hrv hr6 x0 x1 y0 y1;have x0 := (bx.ext hxt5).cell 0 (.bool b1) rfl;have x1 := (bx.ext hxt5).cell 1 (.slice A1 ps.length c1) rfl;have y0 := (by_.ext hxt5).cell 0 (.bool b2) rfl;have y1 := (by_.ext hxt5).cell 1 (.slice A2 qs.length c2) rfl
  go_wp2_with fail
  refine (ref_signed rfl hr5 hc5 hm5).mono ?_;rintro e w6 ⟨bq, Aq, cq, qq, rfl, hrq, hcq, hmq, hiq, hlq, hxt6⟩;have E6 := hxt5.trans hxt6
  go_upto_region 6 with (fail)
  refine at_world (fun V => Ext wc V /\ Box V w6.heap.size 28 #[.bool bq, .slice Aq qq.length cq] /\ Rd V Aq qq) ⟨E6.alloc _, Box.new w6 _ _, hrq.ext ((Ext.refl w6).alloc _)⟩ ?_;have hgq := E6.size;generalize w6.heap.size = gq at *;clear hrq E6 hxt5 hxt6 hr5 x0 x1 y0 y1;rintro V ⟨EV, xq, hrq⟩;have xa := bx.ext EV;have xb := by_.ext EV;have xz := bz.ext EV;have xu := bu.ext EV;have hpV := hp.ext EV;have hqV := hq.ext EV;have EW := extN.trans EV;clear bx by_ bz bu hp hq EV;have x0 := xa.cell 0 (.bool b1) rfl;have x1 := xa.cell 1 (.slice A1 ps.length c1) rfl;have y0 := xb.cell 0 (.bool b2) rfl;have y1 := xb.cell 1 (.slice A2 qs.length c2) rfl;have q0 := xq.cell 0 (.bool bq) rfl;have q1 := xq.cell 1 (.slice Aq qq.length cq) rfl;have hql : qq.length <= 9000 := by omega
  go_cut [10] (fun p X => ∃ gr b7 A7 c7 rr, p = .pointer (some ⟨gr, 0, none⟩) /\ V.heap.size <= gr /\ Ext V X /\ Box X gr 28 #[.bool b7, .slice A7 (List.length rr) c7] /\ Rd X A7 rr /\ rr.length <= c7 /\ c7 <= maxLen /\ IsInt (ival s xs - ival bq qq * ival t ys) b7 rr /\ rr.length <= 30000)
  case first =>
   have ET := Ext.refl V;have hsz5 : V.heap.size <= V.heap.size := Nat.le_refl _
   go_region_held3 (fun w' => w'.cell? ⟨w.heap.size, 0, none⟩ = some (.bool b1) /\ w'.cell? ⟨w.heap.size, 1, none⟩ = some (.slice A1 ps.length c1) /\ w'.cell? ⟨(w.heap.size + 1), 0, none⟩ = some (.bool b2) /\ w'.cell? ⟨(w.heap.size + 1), 1, none⟩ = some (.slice A2 qs.length c2) /\ w'.cell? ⟨gq, 0, none⟩ = some (.bool bq) /\ w'.cell? ⟨gq, 1, none⟩ = some (.slice Aq qq.length cq)) (first | exact ⟨(xa.ext ET).cell 0 _ rfl, (xa.ext ET).cell 1 _ rfl, (xb.ext ET).cell 0 _ rfl, (xb.ext ET).cell 1 _ rfl, (xq.ext ET).cell 0 _ rfl, (xq.ext ET).cell 1 _ rfl⟩ | exact ⟨(xa.ext ET.drew).cell 0 _ rfl, (xa.ext ET.drew).cell 1 _ rfl, (xb.ext ET.drew).cell 0 _ rfl, (xb.ext ET.drew).cell 1 _ rfl, (xq.ext ET.drew).cell 0 _ rfl, (xq.ext ET.drew).cell 1 _ rfl⟩ | exact ⟨(xa.ext (ET.alloc _)).cell 0 _ rfl, (xa.ext (ET.alloc _)).cell 1 _ rfl, (xb.ext (ET.alloc _)).cell 0 _ rfl, (xb.ext (ET.alloc _)).cell 1 _ rfl, (xq.ext (ET.alloc _)).cell 0 _ rfl, (xq.ext (ET.alloc _)).cell 1 _ rfl⟩ | exact ⟨(xa.ext (ET.drew.alloc _)).cell 0 _ rfl, (xa.ext (ET.drew.alloc _)).cell 1 _ rfl, (xb.ext (ET.drew.alloc _)).cell 0 _ rfl, (xb.ext (ET.drew.alloc _)).cell 1 _ rfl, (xq.ext (ET.drew.alloc _)).cell 0 _ rfl, (xq.ext (ET.drew.alloc _)).cell 1 _ rfl⟩ | exact ⟨(xa.ext ((ET.setCell (p := ⟨wk.heap.size, 0, none⟩) hsz _).setCell (p := ⟨wk.heap.size, 1, none⟩) hsz _)).cell 0 _ rfl, (xa.ext ((ET.setCell (p := ⟨wk.heap.size, 0, none⟩) hsz _).setCell (p := ⟨wk.heap.size, 1, none⟩) hsz _)).cell 1 _ rfl, (xb.ext ((ET.setCell (p := ⟨wk.heap.size, 0, none⟩) hsz _).setCell (p := ⟨wk.heap.size, 1, none⟩) hsz _)).cell 0 _ rfl, (xb.ext ((ET.setCell (p := ⟨wk.heap.size, 0, none⟩) hsz _).setCell (p := ⟨wk.heap.size, 1, none⟩) hsz _)).cell 1 _ rfl, (xq.ext ((ET.setCell (p := ⟨wk.heap.size, 0, none⟩) hsz _).setCell (p := ⟨wk.heap.size, 1, none⟩) hsz _)).cell 0 _ rfl, (xq.ext ((ET.setCell (p := ⟨wk.heap.size, 0, none⟩) hsz _).setCell (p := ⟨wk.heap.size, 1, none⟩) hsz _)).cell 1 _ rfl⟩ | exact ⟨(xa.ext ((ET.setCell (p := ⟨V.heap.size, 0, none⟩) hsz5 _).setCell (p := ⟨V.heap.size, 1, none⟩) hsz5 _)).cell 0 _ rfl, (xa.ext ((ET.setCell (p := ⟨V.heap.size, 0, none⟩) hsz5 _).setCell (p := ⟨V.heap.size, 1, none⟩) hsz5 _)).cell 1 _ rfl, (xb.ext ((ET.setCell (p := ⟨V.heap.size, 0, none⟩) hsz5 _).setCell (p := ⟨V.heap.size, 1, none⟩) hsz5 _)).cell 0 _ rfl, (xb.ext ((ET.setCell (p := ⟨V.heap.size, 0, none⟩) hsz5 _).setCell (p := ⟨V.heap.size, 1, none⟩) hsz5 _)).cell 1 _ rfl, (xq.ext ((ET.setCell (p := ⟨V.heap.size, 0, none⟩) hsz5 _).setCell (p := ⟨V.heap.size, 1, none⟩) hsz5 _)).cell 0 _ rfl, (xq.ext ((ET.setCell (p := ⟨V.heap.size, 0, none⟩) hsz5 _).setCell (p := ⟨V.heap.size, 1, none⟩) hsz5 _)).cell 1 _ rfl⟩)
    (first | (go_at_call 123; refine (ref_Mul rfl rfl (hrq.ext (by first | exact ET | exact ET.drew | exact ET.alloc _ | exact ET.drew.alloc _ | exact (ET.alloc _).drew)) (hqV.ext (by first | exact ET | exact ET.drew | exact ET.alloc _ | exact ET.drew.alloc _ | exact (ET.alloc _).drew)) hcq hmq hc2 hm2 (by omega) (by omega)).mono ?_; rintro e wk ⟨b4, A4, c4, ms, rfl, hr4, hc4, hm4, hi4, hl4, hxt⟩; replace ET := (by first | exact ET.trans hxt | exact ET.drew.trans hxt | exact (ET.alloc _).trans hxt | exact (ET.drew.alloc _).trans hxt : Ext V _); have hsz := ET.size; first | (have xnb : Box wk V.heap.size 28 #[Value.bool false, Value.slice none 0 0] := Box.ext (Box.new V 28 #[Value.bool false, Value.slice none 0 0]) hxt; have n0 := xnb.cell 0 (Value.bool false) rfl; have n1 := xnb.cell 1 (Value.slice none 0 0) rfl; have nf0 := xnb.frozen 0; have nf1 := xnb.frozen 1) | (have xnb : Box wk V.heap.size 28 #[Value.bool false, Value.slice none 0 0] := Box.ext (Box.new V.drew 28 #[Value.bool false, Value.slice none 0 0]) hxt; have n0 := xnb.cell 0 (Value.bool false) rfl; have n1 := xnb.cell 1 (Value.slice none 0 0) rfl; have nf0 := xnb.frozen 0; have nf1 := xnb.frozen 1) | skip) | (go_at_call 164; refine (ref_Sub rfl rfl (hpV.ext (by first | exact ET | exact ET.drew | exact ET.alloc _ | exact ET.drew.alloc _ | exact (ET.alloc _).drew)) (by first | exact hr4 | exact hr4.ext ((Ext.refl _).alloc _)) hc1 hm1 hc4 hm4 (by omega) (by omega)).mono ?_; rintro e wk2 ⟨b5, A5, c5, ns, rfl, hr5, hc5, hm5, hi5, hl5, hxt⟩; replace ET := (by first | exact ET.trans hxt | exact ET.drew.trans hxt | exact (ET.alloc _).trans hxt | exact (ET.drew.alloc _).trans hxt : Ext V _); first | (replace xnb := Box.ext xnb hxt; have n0 := xnb.cell 0 (Value.bool false) rfl; have n1 := xnb.cell 1 (Value.slice none 0 0) rfl; have nf0 := xnb.frozen 0; have nf1 := xnb.frozen 1) | (have xnb : Box wk2 wk.heap.size 28 #[Value.bool false, Value.slice none 0 0] := Box.ext (Box.new wk 28 #[Value.bool false, Value.slice none 0 0]) hxt; have n0 := xnb.cell 0 (Value.bool false) rfl; have n1 := xnb.cell 1 (Value.slice none 0 0) rfl; have nf0 := xnb.frozen 0; have nf1 := xnb.frozen 1) | skip))
   all_goals (go_wp2_with fail; go_meet; rw [hi4.eq, hi1.eq, hi2.eq] at hi5; first | exact ⟨_, b5, A5, c5, ns, rfl, ET.size, ET.alloc _, Box.new _ _ _, hr5.ext ((Ext.refl _).alloc _), hc5, hm5, hi5, by omega⟩ | exact ⟨_, b5, A5, c5, ns, rfl, ET.size, ET.drew.alloc _, Box.new _ _ _, hr5.ext ((Ext.refl _).drew.alloc _), hc5, hm5, hi5, by omega⟩ | exact ⟨wk.heap.size, b5, A5, c5, ns, rfl, hsz, ((ET.setCell (p := ⟨wk.heap.size, 0, none⟩) hsz _).setCell (p := ⟨wk.heap.size, 1, none⟩) hsz _), (xnb.setA _).setB _, (fin_pair ET hsz xnb hr5).1, hc5, hm5, hi5, by omega⟩ | exact ⟨V.heap.size, b5, A5, c5, ns, rfl, hsz5, ((ET.setCell (p := ⟨V.heap.size, 0, none⟩) hsz5 _).setCell (p := ⟨V.heap.size, 1, none⟩) hsz5 _), (xnb.setA _).setB _, (fin_pair ET hsz5 xnb hr5).1, hc5, hm5, hi5, by omega⟩)
  case rest =>
   clear x0 x1 y0 y1 q0 q1;obtain ⟨gr, b7, A7, c7, rr, rfl, hgr, EX, xr, hrr, hc7, hm7, hi7, hl7⟩ := hcut;have EWX := EW.trans EX;have xqX := xq.ext EX;have xbX := xb.ext EX;have xzX := xz.ext EX;have xuX := xu.ext EX;have hqqX := hrq.ext EX;have hqsX := hqV.ext EX;have hgqV := xq.lt;have hgrX := xr.lt;have hsz4 : w.heap.size + 4 <= gq := by omega
   have hgqr : gq < gr := by omega
   clear xq xb xz xu hrq hqV xa hpV EW EX extN;have hdm := dm_abs hi1 hi2 hqpos Huv.out hiq;obtain ⟨db, hfin⟩ := dm_fin hdm.1 hdm.2;have Hfin := Lib.hid hfin;clear hdm hfin;have R0 := xr.cell 0 (.bool b7) rfl;have R1 := xr.cell 1 (.slice A7 rr.length c7) rfl;have y0 := xbX.cell 0 (.bool b2) rfl;have y1 := xbX.cell 1 (.slice A2 qs.length c2) rfl
   go_wp2_with fail
   go_cut [46] (fun p X => p = .bool (negB (ival s xs - ival bq qq * ival t ys) (ival t ys)) /\ Ext wc X)
   case first =>
    obtain ⟨SR, SB, hs1, hs2, hs3⟩ := dm_signs db (r := ival s xs - ival bq qq * ival t ys);rw [<- hi7.eq] at hs1;rw [<- hi2.eq] at hs2
    rcases hs3 with ⟨rfl, rfl, hs3⟩ | ⟨rfl, rfl, hs3⟩ | ⟨rfl, rfl, hs3⟩ | ⟨rfl, rfl, hs3⟩ | ⟨rfl, rfl, hs3⟩ | ⟨rfl, rfl, hs3⟩
    all_goals
     have Hs1 := Lib.hid hs1;have Hs2 := Lib.hid hs2;have Hs3 := Lib.hid hs3;clear hs1 hs2 hs3;have ET := Ext.refl wc
     go_region_held3 (fun w' => w'.cell? ⟨gr, 0, none⟩ = some (.bool b7) /\ w'.cell? ⟨gr, 1, none⟩ = some (.slice A7 rr.length c7) /\ w'.cell? ⟨(w.heap.size + 1), 0, none⟩ = some (.bool b2) /\ w'.cell? ⟨(w.heap.size + 1), 1, none⟩ = some (.slice A2 qs.length c2)) (first | exact ⟨(xr.ext ET).cell 0 _ rfl, (xr.ext ET).cell 1 _ rfl, (xbX.ext ET).cell 0 _ rfl, (xbX.ext ET).cell 1 _ rfl⟩ | exact ⟨(xr.ext ET.drew).cell 0 _ rfl, (xr.ext ET.drew).cell 1 _ rfl, (xbX.ext ET.drew).cell 0 _ rfl, (xbX.ext ET.drew).cell 1 _ rfl⟩ | exact ⟨(xr.ext (ET.alloc _)).cell 0 _ rfl, (xr.ext (ET.alloc _)).cell 1 _ rfl, (xbX.ext (ET.alloc _)).cell 0 _ rfl, (xbX.ext (ET.alloc _)).cell 1 _ rfl⟩ | exact ⟨(xr.ext (ET.drew.alloc _)).cell 0 _ rfl, (xr.ext (ET.drew.alloc _)).cell 1 _ rfl, (xbX.ext (ET.drew.alloc _)).cell 0 _ rfl, (xbX.ext (ET.drew.alloc _)).cell 1 _ rfl⟩)
      (first | (go_at_call_of 54 A7; refine (ref_Sign rfl (hrr.ext (by first | exact ET | exact ET.drew | exact ET.drewN _)) hc7 hm7 (by omega)).mono ?_; rintro e wk ⟨rfl, hxt⟩; rw [Hs1.out]; replace ET := (by first | exact ET.trans hxt | exact ET.drew.trans hxt : Ext wc _)) | (go_at_call_of 54 A2; refine (ref_Sign rfl (hqsX.ext (by first | exact ET | exact ET.drew | exact ET.drewN _)) hc2 hm2 (by omega)).mono ?_; rintro e wk ⟨rfl, hxt⟩; rw [Hs2.out]; replace ET := (by first | exact ET.trans hxt | exact ET.drew.trans hxt : Ext wc _)))
     go_wp2_with fail
     go_meet
     exact ⟨by rw [Hs3.out]; rfl, by first | exact ET | exact ET.drew | exact ET.drewN _⟩
   case rest =>
    clear R0 R1 y0 y1;obtain ⟨rfl, EX⟩ := hcut;have EWX := EWX.trans EX;have xqX := xqX.ext EX;have xr := xr.ext EX;have xbX := xbX.ext EX;have xzX := xzX.ext EX;have xuX := xuX.ext EX;have hqqX := hqqX.ext EX;have hqsX := hqsX.ext EX;have hrrX := hrr.ext EX;have hqq2 : qq.length <= 30000 := by omega
    go_upto_if 46 with fail
    go_cut [] (fun X => ∃ b9 A9 c9 q9 b0 A0 c0 r9 Q R, Ext w X /\ Box X gq 28 #[.bool b9, .slice A9 (List.length q9) c9] /\ Box X gr 28 #[.bool b0, .slice A0 (List.length r9) c0] /\ Box X (w.heap.size + 1 + 1) 28 #[.bool false, .slice none 0 0] /\ Box X (w.heap.size + 1 + 1 + 1) 28 #[.bool false, .slice none 0 0] /\ Rd X A9 q9 /\ Rd X A0 r9 /\ q9.length <= c9 /\ c9 <= maxLen /\ r9.length <= c0 /\ c0 <= maxLen /\ IsInt Q b9 q9 /\ IsInt R b0 r9 /\ IsDM (ival s xs) (ival t ys) Q R /\ q9.length <= 60000 /\ r9.length <= 60000)
    case first =>
     cases hng : negB (ival s xs - ival bq qq * ival t ys) (ival t ys) with
     | false =>
      have Hdm := Lib.hid (Hfin.out.2 hng);clear hng
      go_wp2_with fail
      go_meet
      exact ⟨bq, Aq, cq, qq, b7, A7, c7, rr, _, _, EWX, xqX, xr, xzX, xuX, hqqX, hrrX, hcq, hmq, hc7, hm7, ⟨hiq.w32, hiq.nrm, hiq.sgn, rfl⟩, hi7, Hdm.out, by omega, by omega⟩
     | true =>
      have Hdm := Lib.hid (Hfin.out.1 hng);clear hng;have q0 := xqX.cell 0 (.bool bq) rfl;have q1 := xqX.cell 1 (.slice Aq qq.length cq) rfl
      go_upto_region 8 with fail
      go_cut [] (fun X => ∃ b9 A9 c9 q9, Ext w X /\ Box X gq 28 #[.bool b9, .slice A9 (List.length q9) c9] /\ Box X gr 28 #[.bool b7, .slice A7 rr.length c7] /\ Box X (w.heap.size + 1) 28 #[.bool b2, .slice A2 qs.length c2] /\ Box X (w.heap.size + 1 + 1) 28 #[.bool false, .slice none 0 0] /\ Box X (w.heap.size + 1 + 1 + 1) 28 #[.bool false, .slice none 0 0] /\ Rd X A9 q9 /\ Rd X A7 rr /\ Rd X A2 qs /\ q9.length <= c9 /\ c9 <= maxLen /\ IsInt (ival bq qq - 1) b9 q9 /\ q9.length <= 40000)
      case first =>
       go_region_with (first | (go_at_call 82; refine (ref_FromInt 1 (by omega) (by omega)).mono ?_; rintro e wk ⟨b4, A4, c4, ms, rfl, hr4, hc4, hm4, hi4, hl4, hxt⟩; have ET := (by first | exact hxt | exact (Ext.refl wc).drew.trans hxt : Ext wc wk); have qk0 := (xqX.ext ET).cell 0 (.bool bq) rfl; have qk1 := (xqX.ext ET).cell 1 (.slice Aq qq.length cq) rfl) | (go_at_call 164; refine (ref_Sub rfl rfl (hqqX.ext ET) hr4 hcq hmq hc4 hm4 (by omega) (by omega)).mono ?_; rintro e wk2 ⟨b5, A5, c5, ns, rfl, hr5, hc5, hm5, hi5, hl5, hxt2⟩; have ET2 := ET.trans hxt2; have xq2 := xqX.ext ET2; have qq0 := xq2.cell 0 (.bool bq) rfl; have qq1 := xq2.cell 1 (.slice Aq qq.length cq) rfl; have qf0 := xq2.frozen 0; have qf1 := xq2.frozen 1))
       all_goals (go_wp2_with fail; go_meet; rw [hi4.eq] at hi5; exact ⟨b5, A5, c5, ns, ((EWX.trans ET2).setCell (p := ⟨gq, 0, none⟩) (by show w.heap.size <= gq; omega) _).setCell (p := ⟨gq, 1, none⟩) (by show w.heap.size <= gq; omega) _, (xq2.setA _).setB _, ((xr.ext ET2).far (far_ne (by omega)) _).far (far_ne (by omega)) _, ((xbX.ext ET2).far (far_ne (by omega)) _).far (far_ne (by omega)) _, ((xzX.ext ET2).far (far_ne (by omega)) _).far (far_ne (by omega)) _, ((xuX.ext ET2).far (far_ne (by omega)) _).far (far_ne (by omega)) _, (fin_pair (w := w) (EWX.trans ET2) (by omega) xq2 hr5).1, ((hrrX.ext ET2).setBox xq2 NoWord.two 0 _).setBox (xq2.setA _) NoWord.two 1 _, ((hqsX.ext ET2).setBox xq2 NoWord.two 0 _).setBox (xq2.setA _) NoWord.two 1 _, hc5, hm5, hi5, by omega⟩)
      case rest =>
       clear EWX xqX xr xbX xzX xuX hqqX hqsX hrrX q0 q1;obtain ⟨b9, A9, c9, q9, EWX, xqX, xr, xbX, xzX, xuX, hq9, hrrX, hqsX, hc9, hm9, hi9, hl9⟩ := hcut;have R0 := xr.cell 0 (.bool b7) rfl;have R1 := xr.cell 1 (.slice A7 rr.length c7) rfl;have y0 := xbX.cell 0 (.bool b2) rfl;have y1 := xbX.cell 1 (.slice A2 qs.length c2) rfl
       go_wp2_with fail
       refine (ref_Add rfl rfl hrrX hqsX hc7 hm7 hc2 hm2 (by omega) (by omega)).mono ?_;rintro e wk ⟨b0, A0, c0, r9, rfl, hr0, hc0, hm0, hi0, hl0, hxt⟩;have xr2 := xr.ext hxt;have R0 := xr2.cell 0 (.bool b7) rfl;have R1 := xr2.cell 1 (.slice A7 rr.length c7) rfl;have F0 := xr2.frozen 0;have F1 := xr2.frozen 1
       go_wp2_with fail
       go_meet
       rw [hi7.eq, hi2.eq] at hi0;exact ⟨b9, A9, c9, q9, b0, A0, c0, r9, _, _, ((EWX.trans hxt).setCell (p := ⟨gr, 0, none⟩) (by show w.heap.size <= gr; omega) _).setCell (p := ⟨gr, 1, none⟩) (by show w.heap.size <= gr; omega) _, ((xqX.ext hxt).far (far_ne (by omega)) _).far (far_ne (by omega)) _, (xr2.setA _).setB _, ((xzX.ext hxt).far (far_ne (by omega)) _).far (far_ne (by omega)) _, ((xuX.ext hxt).far (far_ne (by omega)) _).far (far_ne (by omega)) _, ((hq9.ext hxt).setBox xr2 NoWord.two 0 _).setBox (xr2.setA _) NoWord.two 1 _, (fin_pair (w := w) (EWX.trans hxt) (by omega) xr2 hr0).1, hc9, hm9, hc0, hm0, hi9, hi0, Hdm.out, by omega, by omega⟩
    case rest =>
     clear EWX xqX xr xbX xzX xuX hqqX hqsX hrrX;obtain ⟨b9, A9, c9, q9, b0, A0, c0, r9, Q, R, EWX, xqX, xr, xzX, xuX, hq9, hr9, hc9, hm9, hc0, hm0, hi9, hi0, hdm, hl9, hl0⟩ := hcut;have q0 := xqX.cell 0 (.bool b9) rfl;have q1 := xqX.cell 1 (.slice A9 q9.length c9) rfl;have R0 := xr.cell 0 (.bool b0) rfl;have R1 := xr.cell 1 (.slice A0 r9.length c0) rfl;have z0 := xzX.cell 0 (.bool false) rfl;have z1 := xzX.cell 1 (.slice none 0 0) rfl;have f0 := xzX.frozen 0;have f1 := xzX.frozen 1;have u0 := xuX.cell 0 (.bool false) rfl;have u1 := xuX.cell 1 (.slice none 0 0) rfl;have g0 := xuX.frozen 0;have g1 := xuX.frozen 1;have Hdm := Lib.hid hdm;clear hdm
     go_upto_region 10 with fail
     go_region
     all_goals
      go_wp2_with fail
      obtain ⟨W', hW', r1, r2, r3, r4, r5, r6, r7⟩ := fin_two (b := b9) (A := A9) (n := q9.length) (c := c9) (b' := b0) (A' := A0) (n' := r9.length) (c' := c0) (by first | exact EWX | exact EWX.drew | exact EWX.drewN _) (show w.heap.size <= w.heap.size + 1 + 1 by omega) (show w.heap.size <= w.heap.size + 1 + 1 + 1 by omega) (by omega) (by first | exact xzX | exact xzX.ext ((Ext.refl _).drew) | exact xzX.ext ((Ext.refl _).drewN _)) (by first | exact xuX | exact xuX.ext ((Ext.refl _).drew) | exact xuX.ext ((Ext.refl _).drewN _)) (by first | exact hq9 | exact hq9.ext ((Ext.refl _).drew) | exact hq9.ext ((Ext.refl _).drewN _)) (by first | exact hr9 | exact hr9.ext ((Ext.refl _).drew) | exact hr9.ext ((Ext.refl _).drewN _)) _ _ _ _ rfl rfl rfl rfl;rw [<- hW'];exact bodyPost_ret (v := .tuple #[.agg #[.bool b9, .slice A9 q9.length c9], .agg #[.bool b0, .slice A0 r9.length c0], .int .i64 0]) (by simp [results, Tryz.results149, go_sem, r4, r5, r6, r7]) rfl ⟨b9, A9, c9, q9, b0, A0, c0, r9, Q, R, rfl, r1, r2, hc9, hm9, hc0, hm0, hi9, hi0, Hdm.out, hl9, hl0, by first | exact r3 | exact r3.drew | exact r3.drewN _⟩
end
end
section
open Go.RowKit
structure NI (w : World) (z : Int) (L : Nat) (s : Bool) (A : Option Addr) (n c : Nat) : Prop where
 out : ∃ xs : List Nat, xs.length = n /\ Rd w A xs /\ n <= c /\ c <= maxLen /\ IsInt z s xs /\ n <= L
def RetNI (z : Int) (L : Nat) (w : World) (e : Ending) (w' : World) : Prop :=
 ∃ s A n c, e = .returned (.agg #[.bool s, .slice A n c]) /\ NI w' z L s A n c /\ Ext w w'
theorem ival_ab (s : Bool) (xs : List Nat) : (ival s xs).natAbs = val xs := by unfold ival; cases s <;> simp
theorem IsInt.abs {z : Int} {s : Bool} {xs : List Nat} (h : IsInt z s xs) : val xs = z.natAbs := by rw [<- h.eq, ival_ab]
theorem RetI.ni {z : Int} {L L' : Nat} {w w' : World} {e : Ending} (h : RetI z L w e w') (hl : L <= L') : RetNI z L' w e w' := by
 obtain ⟨b, A, c, ys, rfl, hr, hc, hm, hi, hy, hx⟩ := h;exact ⟨b, A, ys.length, c, rfl, ⟨ys, rfl, hr, hc, hm, hi, by omega⟩, hx⟩
section
variable {w w' : World} {z y : Int} {L L' M : Nat} {s t : Bool} {A B : Option Addr} {n c m d : Nat}
theorem NI.ext (h : NI w z L s A n c) (e : Ext w w') : NI w' z L s A n c := by
 obtain ⟨xs, h1, h2, h3⟩ := h.out;exact ⟨xs, h1, h2.ext e, h3⟩
theorem NI.le (h : NI w z L s A n c) (hl : L <= L') : NI w z L' s A n c := by
 obtain ⟨xs, h1, h2, h3, h4, h5, h6⟩ := h.out;exact ⟨xs, h1, h2, h3, h4, h5, by omega⟩
theorem NI.size (h : NI w z L s A n c) : n <= L := by
 obtain ⟨_, _, _, _, _, _, h6⟩ := h.out;exact h6
theorem NI.nil (w : World) (L : Nat) : NI w 0 L false none 0 0 := ⟨[], rfl, Rd.nil _ _, Nat.le_refl _, by unfold maxLen; omega, IsInt.nil false, by omega⟩
theorem NI.zero (h : NI w z L s A n c) : n = 0 ↔ z = 0 := by
 obtain ⟨xs, h1, _, _, _, h5, _⟩ := h.out;rw [<- h5.zero, <- h1];exact List.length_eq_zero_iff
theorem NI.tight (h : NI w z L s A n c) (h' : NI w' y M t B m d) (hz : z.natAbs <= y.natAbs) : NI w z M s A n c := by
 obtain ⟨xs, h1, h2, h3, h4, h5, h6⟩ := h.out;obtain ⟨ys, k1, k2, _, _, k5, k6⟩ := h'.out;refine ⟨xs, h1, h2, h3, h4, h5, ?_⟩;have := nrm_len_le k5.w32 h5.nrm (by rw [h5.abs, k5.abs]; exact hz);omega
theorem NI.tight' (h : NI w z L s A n c) (hz : z.natAbs < 4294967296 ^ M) : NI w z M s A n c := by
 obtain ⟨xs, h1, h2, h3, h4, h5, h6⟩ := h.out;refine ⟨xs, h1, h2, h3, h4, h5, ?_⟩;refine Decidable.byContradiction fun hc => ?_
 have h7 := h5.nrm.ge (by rintro rfl; simp at h1; omega);rw [h5.abs] at h7;have h8 : 4294967296 ^ M <= 4294967296 ^ (xs.length - 1) := Nat.pow_le_pow_right (by omega) (by omega);omega
theorem p_Sign (h : NI w z L s A n c) (hL : L <= 100000) : Calls Tryz.prog 72 #[.agg #[.bool s, .slice A n c]] w fun e w' => e = .returned (.int .i64 z.sign) /\ Ext w w' := by
 obtain ⟨xs, hn, hx, hc, hcm, hi, hl⟩ := h.out;refine (int_Sign hn hx hc hcm (by omega)).mono ?_;rintro e w' ⟨rfl, hxt⟩;rw [hi.eq];exact ⟨rfl, hxt⟩
theorem q_Sign (h : NI w z L s A n c) (hL : L <= 100000) : Calls Tryz.prog 54 #[.agg #[.bool s, .slice A n c]] w fun e w' => e = .returned (.int .i64 z.sign) /\ Ext w w' := by
 obtain ⟨xs, hn, hx, hc, hcm, hi, hl⟩ := h.out;refine (ref_Sign hn hx hc hcm (by omega)).mono ?_;rintro e w' ⟨rfl, hxt⟩;rw [hi.eq];exact ⟨rfl, hxt⟩
theorem p_Norm (h : NI w z L s A n c) (hL : L <= 100000) : Calls Tryz.prog 92 #[.agg #[.bool s, .slice A n c]] w (RetNI z L w) := by
 obtain ⟨xs, hn, hx, hc, hcm, hi, hl⟩ := h.out;refine (int_Norm hn hx hc hcm (by omega)).mono fun e w' hr => ?_
 rw [hi.eq] at hr;exact hr.ni (by omega)
theorem p_Neg (h : NI w z L s A n c) (hL : L <= 100000) : Calls Tryz.prog 119 #[.agg #[.bool s, .slice A n c]] w (RetNI (-z) L w) := by
 obtain ⟨xs, hn, hx, hc, hcm, hi, hl⟩ := h.out;refine (int_Neg hn hx hc hcm (by omega)).mono fun e w' hr => ?_
 rw [hi.eq] at hr;exact hr.ni (by omega)
theorem q_Neg (h : NI w z L s A n c) (hL : L <= 100000) : Calls Tryz.prog 120 #[.agg #[.bool s, .slice A n c]] w (RetNI (-z) L w) := by
 obtain ⟨xs, hn, hx, hc, hcm, hi, hl⟩ := h.out;refine (ref_Neg hn hx hc hcm (by omega)).mono fun e w' hr => ?_
 rw [hi.eq] at hr;exact hr.ni (by omega)
theorem p_Add (h : NI w z L s A n c) (k : NI w y M t B m d) (hL : L <= 50000) (hM : M <= 50000) : Calls Tryz.prog 99 #[.agg #[.bool s, .slice A n c], .agg #[.bool t, .slice B m d]] w (RetNI (z + y) (max L M + 1) w) := by
 obtain ⟨xs, hn, hx, hc, hcm, hi, hl⟩ := h.out;obtain ⟨ys, hm, hy, hd, hdm, hj, hk⟩ := k.out;refine (int_Add hn hm hx hy hc hcm hd hdm (by omega) (by omega)).mono fun e w' hr => ?_
 rw [hi.eq, hj.eq] at hr;exact hr.ni (by omega)
theorem q_Add (h : NI w z L s A n c) (k : NI w y M t B m d) (hL : L <= 50000) (hM : M <= 50000) : Calls Tryz.prog 122 #[.agg #[.bool s, .slice A n c], .agg #[.bool t, .slice B m d]] w (RetNI (z + y) (max L M + 1) w) := by
 obtain ⟨xs, hn, hx, hc, hcm, hi, hl⟩ := h.out;obtain ⟨ys, hm, hy, hd, hdm, hj, hk⟩ := k.out;refine (ref_Add hn hm hx hy hc hcm hd hdm (by omega) (by omega)).mono fun e w' hr => ?_
 rw [hi.eq, hj.eq] at hr;exact hr.ni (by omega)
theorem q_Mul (h : NI w z L s A n c) (k : NI w y M t B m d) (hL : L <= 50000) (hM : M <= 50000) : Calls Tryz.prog 123 #[.agg #[.bool s, .slice A n c], .agg #[.bool t, .slice B m d]] w (RetNI (z * y) (L + M) w) := by
 obtain ⟨xs, hn, hx, hc, hcm, hi, hl⟩ := h.out;obtain ⟨ys, hm, hy, hd, hdm, hj, hk⟩ := k.out;refine (ref_Mul hn hm hx hy hc hcm hd hdm (by omega) (by omega)).mono fun e w' hr => ?_
 rw [hi.eq, hj.eq] at hr;exact hr.ni (by omega)
theorem p_Cmp (h : NI w z L s A n c) (k : NI w y M t B m d) (hL : L <= 50000) (hM : M <= 50000) : Calls Tryz.prog 104 #[.agg #[.bool s, .slice A n c], .agg #[.bool t, .slice B m d]] w fun e w' => e = .returned (.int .i64 (z - y).sign) /\ Ext w w' := by
 obtain ⟨xs, hn, hx, hc, hcm, hi, hl⟩ := h.out;obtain ⟨ys, hm, hy, hd, hdm, hj, hk⟩ := k.out;refine (int_Cmp hn hm hx hy hc hcm hd hdm (by omega) (by omega)).mono ?_;rw [hi.eq, hj.eq];exact fun _ _ h => h
theorem gcd_le_max (a b : Nat) : Nat.gcd a b <= max a b := by
 rcases Nat.eq_zero_or_pos a with h | h
 ·subst h; simp
 ·have := Nat.le_of_dvd h (Nat.gcd_dvd_left a b); omega
theorem gcd_tight {g : Nat} (h : NI w z L s A n c) (k : NI w y M t B m d) {w1 : World} {K : Nat} {u : Bool} {C : Option Addr} {l e : Nat} (hg : NI w1 (g : Int) K u C l e) (hgg : g = Nat.gcd z.natAbs y.natAbs) : NI w1 (g : Int) (max L M) u C l e := by
 have := gcd_le_max z.natAbs y.natAbs
 rcases Nat.le_total z.natAbs y.natAbs with hle | hle
 ·exact (hg.tight k (by simp; omega)).le (by omega)
 ·exact (hg.tight h (by simp; omega)).le (by omega)
theorem p_GCD (h : NI w z L s A n c) (k : NI w y M t B m d) (hL : L <= 3000) (hM : M <= 3000) (hT : Tab w) : Calls Tryz.prog 88 #[.agg #[.bool s, .slice A n c], .agg #[.bool t, .slice B m d]] w (RetNI ((Nat.gcd z.natAbs y.natAbs : Nat) : Int) (max L M) w) := by
 obtain ⟨xs, hn, hx, hc, hcm, hi, hl⟩ := h.out;obtain ⟨ys, hm, hy, hd, hdm, hj, hk⟩ := k.out;refine (int_GCD hn hm hx hy hc hcm hd hdm (by omega) (by omega) hT).mono fun e w' hr => ?_
 rw [hi.abs, hj.abs] at hr;obtain ⟨u, C, l, e', he, hg, hx'⟩ := hr.ni (Nat.le_refl _);exact ⟨u, C, l, e', he, gcd_tight h k hg rfl, hx'⟩
theorem q_GCD (h : NI w z L s A n c) (k : NI w y M t B m d) (hL : L <= 3000) (hM : M <= 3000) : Calls Tryz.prog 56 #[.agg #[.bool s, .slice A n c], .agg #[.bool t, .slice B m d]] w (RetNI ((Nat.gcd z.natAbs y.natAbs : Nat) : Int) (max L M) w) := by
 obtain ⟨xs, hn, hx, hc, hcm, hi, hl⟩ := h.out;obtain ⟨ys, hm, hy, hd, hdm, hj, hk⟩ := k.out;refine (ref_GCD hn hm hx hy hc hcm hd hdm (by omega) (by omega)).mono fun e w' hr => ?_
 rw [hi.abs, hj.abs] at hr;exact hr.ni (by omega)
theorem p_FromInt (k : Int) (h0 : -9223372036854775808 <= k) (h1 : k < 9223372036854775808) : Calls Tryz.prog 90 #[.int .i64 k] w (RetNI k 2 w) :=
 (int_FromInt k h0 h1).mono fun _ _ h => h.ni (Nat.le_refl _)
theorem q_FromInt (k : Int) (h0 : -9223372036854775808 <= k) (h1 : k < 9223372036854775808) : Calls Tryz.prog 82 #[.int .i64 k] w (RetNI k 2 w) :=
 (ref_FromInt k h0 h1).mono fun _ _ h => h.ni (Nat.le_refl _)
def RetND (a b : Int) (L M : Nat) (w : World) (e : Ending) (w' : World) : Prop :=
 ∃ s A n c t B m d, ∃ q r : Int, e = .returned (.tuple #[.agg #[.bool s, .slice A n c], .agg #[.bool t, .slice B m d], .int .i64 0]) /\ NI w' q L s A n c /\ NI w' r M t B m d /\ IsDM a b q r /\ Ext w w'
theorem dm_q_le {a b q r : Int} (h : IsDM a b q r) (hb : b ≠ 0) : q.natAbs <= a.natAbs + 1 /\ r.natAbs <= b.natAbs /\ (b ∣ a -> r = 0 /\ q = a / b /\ q.natAbs <= a.natAbs) := by
 obtain ⟨h1, h2⟩ := h;have hm : ∀ q : Int, (q * b).natAbs = q.natAbs * b.natAbs := fun q => Int.natAbs_mul q b
 have hb1 : 1 <= b.natAbs := by omega
 have hq : q.natAbs <= (q * b).natAbs := by rw [hm]; exact Nat.le_mul_of_pos_right _ hb1
 refine ⟨?_, by omega, fun hd => ?_⟩
 ·-- the remainder has the sign of the divisor
  rcases Nat.lt_or_ge q.natAbs 2 with hs | hs
  ·rcases Nat.lt_or_ge 0 a.natAbs with h0 | h0
   ·omega
   ·omega
  ·have h3 : (q.natAbs - 1) * b.natAbs <= a.natAbs := by
    have h4 : (q * b).natAbs <= a.natAbs + b.natAbs := by omega
    rw [hm] at h4
    have h5 : q.natAbs * b.natAbs = (q.natAbs - 1) * b.natAbs + b.natAbs := by
     rw [show q.natAbs = (q.natAbs - 1) + 1 by omega, Nat.add_mul, Nat.one_mul]; simp
    omega
   have h6 : q.natAbs - 1 <= (q.natAbs - 1) * b.natAbs := Nat.le_mul_of_pos_right _ hb1;omega
 ·have hr : b ∣ r := by
   have : r = a - q * b := by omega
   rw [this];exact Int.dvd_sub hd (Int.dvd_mul_left _ _)
  have h0 : r = 0 := by
   refine Decidable.byContradiction fun hne => ?_
   have := Int.natAbs_dvd_natAbs.2 hr;have := Nat.le_of_dvd (by omega) this;omega
  subst h0;have e : a = q * b := by omega
  refine ⟨rfl, ?_, by rw [e]; exact hq⟩;rw [e, Int.mul_ediv_cancel _ hb]
theorem p_DivMod (h : NI w z L s A n c) (k : NI w y M t B m d) (hL : L <= 9000) (hM : M <= 9000) (h0 : y ≠ 0) : Calls Tryz.prog 141 #[.agg #[.bool s, .slice A n c], .agg #[.bool t, .slice B m d]] w (RetND z y (L + 1) M w) := by
 obtain ⟨xs, hn, hx, hc, hcm, hi, hl⟩ := h.out;obtain ⟨ys, hm, hy, hd, hdm, hj, hk⟩ := k.out;refine (int_DivMod_L divide_ok hn hm hx hy hc hcm hd hdm (by omega) (by omega) (by omega) (by rw [hj.abs]; omega)).mono ?_;rintro e w' ⟨b3, A3, c3, qs, b4, A4, c4, rs, q, r, rfl, hr3, hr4, hc3, hm3, hc4, hm4, hi3, hi4, hdm, hl3, hl4, hxt⟩;rw [hi.eq, hj.eq] at hdm;have hr : NI w' r (max xs.length ys.length) b4 A4 rs.length c4 := ⟨rs, rfl, hr4, hc4, hm4, hi4, hl4⟩;exact ⟨b3, A3, qs.length, c3, b4, A4, rs.length, c4, q, r, rfl, ⟨qs, rfl, hr3, hc3, hm3, hi3, by omega⟩, hr.tight k (dm_q_le hdm h0).2.1, hdm, hxt⟩
theorem q_DivMod (h : NI w z L s A n c) (k : NI w y M t B m d) (hL : L <= 9000) (hM : M <= 9000) (h0 : y ≠ 0) : Calls Tryz.prog 149 #[.agg #[.bool s, .slice A n c], .agg #[.bool t, .slice B m d]] w (RetND z y 60000 M w) := by
 obtain ⟨xs, hn, hx, hc, hcm, hi, hl⟩ := h.out;obtain ⟨ys, hm, hy, hd, hdm, hj, hk⟩ := k.out;refine (ref_DivMod_nz hn hm hx hy hc hcm hd hdm (by omega) (by omega) (by rw [hj.abs]; omega)).mono ?_;rintro e w' ⟨b3, A3, c3, qs, b4, A4, c4, rs, q, r, rfl, hr3, hr4, hc3, hm3, hc4, hm4, hi3, hi4, hdm, hl3, hl4, hxt⟩;rw [hi.eq, hj.eq] at hdm;have hr : NI w' r 60000 b4 A4 rs.length c4 := ⟨rs, rfl, hr4, hc4, hm4, hi4, hl4⟩;exact ⟨b3, A3, qs.length, c3, b4, A4, rs.length, c4, q, r, rfl, ⟨qs, rfl, hr3, hc3, hm3, hi3, hl3⟩, hr.tight k (dm_q_le hdm h0).2.1, hdm, hxt⟩
end
end
end Go.Proofs.YtijdljfnmdoffaaGreatDoor
