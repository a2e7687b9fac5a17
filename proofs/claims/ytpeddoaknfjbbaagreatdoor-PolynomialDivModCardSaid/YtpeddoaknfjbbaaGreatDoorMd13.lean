/- For every two lists of numbers the law PolynomialDivMod returns true: DivMod returns the specified quotient and remainder, from which the first list is made again, or ErrZero for the divisor zero, the arguments keep their values, and the examples of the chapter hold. Condition: the table math/bits.deBruijn64tab holds what its initialiser lays (tied by the given card). -/
import Derived.Test.YtpeddoaknfjbbaaGreatDoorMd12
import Derived.Test.YtpeddoaknfjbbaaGreatDoorMd8
import Derived.Test.YtpeddoaknfjbbaaGreatDoorMd11
import Derived.Test.YtpeddoaknfjbbaaGreatDoorMd0
import Derived.Test.YtpeddoaknfjbbaaGreatDoorMd5
import Derived.Test.YtpeddoaknfjbbaaGreatDoorMd6
import Derived.Test.YtpeddoaknfjbbaaGreatDoorMd10
import Derived.Test.YtpeddoaknfjbbaaGreatDoorMd3
import Derived.Test.YtpeddoaknfjbbaaGreatDoorRows
import Derived.ProofKit
import Derived.Lib.SmallJoins
import Derived.Test.YtpeddoaknfjbbaaGreatDoorCards
import Derived.Test.YtpeddoaknfjbbaaGreatDoorTie
import Derived.LaidMore
import Derived.OpenShut
import Derived.LaidLaws
import Derived.Deep.Slices
import Derived.Lib.LaidTab
import Derived.SevenTiedAt
import Derived.Stop.Joined
set_option linter.unusedSimpArgs false
set_option linter.unusedVariables false
set_option maxHeartbeats 64000000
namespace Go.Proofs.YtpeddoaknfjbbaaGreatDoor
section
theorem pow_le_w {a b : Nat} (h : a <= b) : 4294967296 ^ a <= 4294967296 ^ b := Nat.pow_le_pow_right (by omega) h
section
variable {xs ys : List Int} {d : Int} {X Y D : Nat}
end
section
variable {qs ps : List Rat} {X Y N : Nat}
theorem sizeP_map {zs : List Int} {D E : Nat} (hD : 0 < D) (hDE : D < 4294967296 ^ E) (hz : ∀ z ∈ zs, z.natAbs < 4294967296 ^ E) : SizeP (zs.map (fun z => mkQ z ((D : Nat) : Int))) E := by
 have hden : ∀ z : Int, (mkQ z ((D : Nat) : Int)).den ∣ D := fun z => by
  unfold mkQ;rw [if_neg (by omega), Int.natAbs_natCast];obtain ⟨m, _, _, e2⟩ := Rat.mkRat_num_den (n := z) (n' := (mkRat z D).num) (d' := (mkRat z D).den) (z' := (mkRat z D).den_nz) (c := (mkRat z D).reduced) (by omega : D ≠ 0) rfl;exact ⟨m, e2⟩
 have hall : ∀ (l : List Int) (d : Nat), d ∣ D -> (l.map (fun z => mkQ z ((D : Nat) : Int))).foldl (fun d q => Nat.lcm d q.den) d ∣ D := by
  intro l
  induction l with
  | nil => intro d hd; exact hd
  | cons z l ih => intro d hd; exact ih _ (Nat.lcm_dvd hd (hden z))
 have hdv : denP (zs.map (fun z => mkQ z ((D : Nat) : Int))) ∣ D := hall zs 1 (Nat.one_dvd _);refine ⟨Nat.lt_of_le_of_lt (Nat.le_of_dvd hD hdv) hDE, fun y hy => ?_⟩;unfold numsP at hy;obtain ⟨q, hq, rfl⟩ := List.mem_map.1 hy;have hqd := denP_dvd hq;generalize denP (zs.map (fun z => mkQ z ((D : Nat) : Int))) = d at hdv hqd;obtain ⟨z, hz1, rfl⟩ := List.mem_map.1 hq;refine Nat.lt_of_le_of_lt ?_ (hz z hz1);obtain ⟨e, he⟩ := hqd;obtain ⟨f, hf⟩ := hdv
 have e0 : mkQ z ((D : Nat) : Int) = mkRat z D := by
  unfold mkQ;rw [if_neg (by omega), Int.natAbs_natCast]
 rw [e0] at he ⊢;obtain ⟨m, hm, e1, e2⟩ := Rat.mkRat_num_den (n := z) (n' := (mkRat z D).num) (d' := (mkRat z D).den) (z' := (mkRat z D).den_nz) (c := (mkRat z D).reduced) (by omega : D ≠ 0) rfl;have hpos := (mkRat z D).den_pos;generalize (mkRat z D).num = u at e1;generalize (mkRat z D).den = v at he e2 hpos
 have hm2 : e * f = m := by
  have h5 : v * (e * f) = v * m := by rw [<- e2, hf, he, Nat.mul_assoc]
  exact Nat.eq_of_mul_eq_mul_left hpos h5
 rw [he, Int.natCast_mul, Int.mul_ediv_cancel_left _ (by omega), Int.natAbs_mul, Int.natAbs_natCast, e1, Int.natAbs_mul, Int.natAbs_natCast, <- hm2];refine Nat.mul_le_mul_left _ (Nat.le_mul_of_pos_right _ ?_)
 rcases Nat.eq_zero_or_pos f with h0 | h0
 ·rw [h0, Nat.mul_zero] at hm2; omega
 ·exact h0
end
structure IsPart (a b : List Rat) (q r : Nat -> Rat) (o L : Nat) : Prop where
 eq : ∀ s, atP a s = qsum (fun i => if i <= s then q i * atP b (s - i) else 0) (s + 1) + r s
 zero : ∀ s, L <= s -> r s = 0
 sup : ∀ i, i + o < L -> q i = 0
 fin : ∃ M, ∀ i, M <= i -> q i = 0
theorem IsPart.unique {a b : List Rat} {q r q' r' : Nat -> Rat} {o L : Nat} (h : IsPart a b q r o L) (h' : IsPart a b q' r' o L) (hb : b.length <= o + 1) (hl : atP b o ≠ 0) : (∀ i, q i = q' i) /\ ∀ s, r s = r' s := by
 obtain ⟨M1, hM1⟩ := h.fin;obtain ⟨M2, hM2⟩ := h'.fin
 have key : ∀ d t, max M1 M2 <= t + d -> q t = q' t := by
  intro d
  induction d with
  | zero =>
   intro t ht;rw [hM1 t (by omega), hM2 t (by omega)]
  | succ d ih =>
   intro t ht
   by_cases h0 : max M1 M2 <= t + d
   ·exact ih t h0
   by_cases hL : t + o < L
   ·rw [h.sup t hL, h'.sup t hL]
   have e1 := h.eq (t + o);have e2 := h'.eq (t + o);rw [h.zero (t + o) (by omega)] at e1;rw [h'.zero (t + o) (by omega)] at e2
   have e3 : qsum (fun i => (if i <= t + o then q i * atP b (t + o - i) else 0) - (if i <= t + o then q' i * atP b (t + o - i) else 0)) (t + o + 1) = (if t <= t + o then q t * atP b (t + o - t) else 0) - (if t <= t + o then q' t * atP b (t + o - t) else 0) := by
    refine qsum_one (f := fun i => (if i <= t + o then q i * atP b (t + o - i) else 0) - (if i <= t + o then q' i * atP b (t + o - i) else 0)) (by omega) (fun i hi hne => ?_)
    show (if i <= t + o then q i * atP b (t + o - i) else 0) - (if i <= t + o then q' i * atP b (t + o - i) else 0) = 0
    rw [if_pos (by omega), if_pos (by omega)]
    rcases Nat.lt_or_ge i t with hlt | hge
    ·rw [atP_ge (l := b) (by omega)]
     grind
    ·rw [ih i (by omega)]
     grind
   have e4 := qsum_add (fun i => (if i <= t + o then q i * atP b (t + o - i) else 0) - (if i <= t + o then q' i * atP b (t + o - i) else 0)) (fun i => if i <= t + o then q' i * atP b (t + o - i) else 0) (t + o + 1)
   rw [qsum_congr (g := fun i => if i <= t + o then q i * atP b (t + o - i) else 0) _ (fun i _ => by
    show (if i <= t + o then q i * atP b (t + o - i) else 0) - (if i <= t + o then q' i * atP b (t + o - i) else 0) + (if i <= t + o then q' i * atP b (t + o - i) else 0) = _
    grind), e3, if_pos (by omega), if_pos (by omega), show t + o - t = o by omega] at e4
   have e5 : (q t - q' t) * atP b o = 0 := by grind
   rcases Rat.mul_eq_zero.1 e5 with e6 | e6
   ·grind
   ·exact absurd e6 hl
 have hq : ∀ i, q i = q' i := fun i => key (max M1 M2) i (by omega)
 refine ⟨hq, fun s => ?_⟩;have e1 := h.eq s;have e2 := h'.eq s
 rw [qsum_congr (g := fun i => if i <= s then q' i * atP b (s - i) else 0) _ (fun i _ => by
  show (if i <= s then q i * atP b (s - i) else 0) = _
  rw [hq i])] at e1
 rw [e1] at e2
 grind
theorem prog_part {qs ps : List Rat} {xs ys os : List Int} {lead : Int} {o N : Nat} (hxs : trimI (numsP qs) = xs) (hys : trimI (numsP ps) = ys) (hol : os.length = o) (hyo : ys = os ++ [lead]) (hN : N + o = xs.length) (hl0 : lead ≠ 0) {k : Nat} (hk : k <= N) :
  IsPart qs ps (fun i => if N - k <= i /\ i < N then quoD xs os lead N (N - 1 - i) * ((((denP ps : Nat) : Int) : Rat) / (((denP qs : Nat) : Int) : Rat)) else 0) (fun s => rhoD xs os lead N k s / (((denP qs : Nat) : Int) : Rat)) o (N - k + o) := by
 have hA : ((denP qs : Nat) : Int) ≠ 0 := by have := denP_pos qs; omega
 have hB : ((denP ps : Nat) : Int) ≠ 0 := by have := denP_pos ps; omega
 have hA' := cast_ne hA;have hB' := cast_ne hB;have hx : ∀ s, ((cfI xs s : Int) : Rat) = atP qs s * (((denP qs : Nat) : Int) : Rat) := fun s => by rw [<- hxs, cfI_trim, nums_cast]
 have hy : ∀ j, ((cfI ys j : Int) : Rat) = atP ps j * (((denP ps : Nat) : Int) : Rat) := fun j => by rw [<- hys, cfI_trim, nums_cast]
 refine ⟨fun s => ?_, fun s hs => ?_, fun i hi => ?_, ⟨N, fun i hi => ?_⟩⟩
 ·have h1 := divS_sum (xs := xs) (N := N) hl0 hyo (by rw [hol]; omega) s k hk
  have h2 : sumD xs os ys lead N s k = qsum (fun i => if i <= s then (if N - k <= i /\ i < N then quoD xs os lead N (N - 1 - i) * ((((denP ps : Nat) : Int) : Rat) / (((denP qs : Nat) : Int) : Rat)) else 0) * atP ps (s - i) else 0) (s + 1) * (((denP qs : Nat) : Int) : Rat) := by
   have e1 : ∀ n, qsum (fun i => if i <= s then (if N - k <= i /\ i < N then quoD xs os lead N (N - 1 - i) * ((((denP ps : Nat) : Int) : Rat) / (((denP qs : Nat) : Int) : Rat)) else 0) * atP ps (s - i) else 0) n * (((denP qs : Nat) : Int) : Rat) = qsum (fun i => if N - k <= i /\ i < N then quoD xs os lead N (N - 1 - i) * (if i <= s then ((cfI ys (s - i) : Int) : Rat) else 0) else 0) n := fun n => by
    rw [<- qsum_mul];refine qsum_congr _ (fun i _ => ?_)
    by_cases g1 : i <= s
    ·rw [if_pos g1, if_pos g1, hy]
     by_cases g2 : N - k <= i /\ i < N
     ·rw [if_pos g2, if_pos g2]
      grind
     ·rw [if_neg g2, if_neg g2]
      grind
    ·rw [if_neg g1, if_neg g1]
     by_cases g2 : N - k <= i /\ i < N
     ·rw [if_pos g2]
      grind
     ·rw [if_neg g2]
      grind
   rw [e1]
   have e2 : qsum (fun i => if N - k <= i /\ i < N then quoD xs os lead N (N - 1 - i) * (if i <= s then ((cfI ys (s - i) : Int) : Rat) else 0) else 0) (s + 1) = qsum (fun i => if N - k <= i /\ i < N then quoD xs os lead N (N - 1 - i) * (if i <= s then ((cfI ys (s - i) : Int) : Rat) else 0) else 0) N := by
    rw [<- qsum_more (n := N) (m := N + (s + 1)) (by omega) (fun i h3 _ => by rw [if_neg (by omega)]), qsum_more (n := s + 1) (m := N + (s + 1)) (by omega) (fun i h3 _ => by
     by_cases g2 : N - k <= i /\ i < N
     ·rw [if_pos g2, if_neg (by omega), Rat.mul_zero]
     ·rw [if_neg g2])]
   rw [e2];unfold sumD
   have e3 : qsum (fun j => quoD xs os lead N j * (if N - 1 - j <= s then ((cfI ys (s - (N - 1 - j)) : Int) : Rat) else 0)) k = qsum (fun j => if j < k then quoD xs os lead N j * (if N - 1 - j <= s then ((cfI ys (s - (N - 1 - j)) : Int) : Rat) else 0) else 0) N := by
    rw [qsum_more (n := k) (m := N) hk (fun i h3 _ => by rw [if_neg (by omega)])];exact qsum_congr _ (fun j hj => by rw [if_pos hj])
   rw [e3]
   cases N with
   | zero => rfl
   | succ n =>
    rw [qsum_rev];refine qsum_congr _ (fun i hi => ?_)
    by_cases g : n - i < k
    ·have g2 : n + 1 - k <= i /\ i < n + 1 := by omega
     rw [if_pos g, if_pos g2, show n + 1 - 1 - (n - i) = i by omega, show n + 1 - 1 - i = n - i by omega]
    ·have g2 : ¬ (n + 1 - k <= i /\ i < n + 1) := by omega
     rw [if_neg g, if_neg g2]
  rw [h2, hx] at h1
  show _ = _ + rhoD xs os lead N k s / (((denP qs : Nat) : Int) : Rat)
  grind
 ·show rhoD xs os lead N k s / (((denP qs : Nat) : Int) : Rat) = 0
  unfold rhoD;rw [if_neg (by omega)]
  grind
 ·show (if N - k <= i /\ i < N then _ else 0) = (0 : Rat)
  rw [if_neg (by omega)]
 ·show (if N - k <= i /\ i < N then _ else 0) = (0 : Rat)
  rw [if_neg (by omega)]
theorem rho_int {xs os ys : List Int} {lead : Int} {N XB YB : Nat} (hl : lead ≠ 0) (hys : ys = os ++ [lead]) (hN : N + os.length = xs.length) (hX : ∀ z ∈ xs, z.natAbs <= XB) (hY : ∀ z ∈ ys, z.natAbs <= YB) : ∀ k, k <= N -> ∀ s, ∃ z : Int, rhoD xs os lead N k s * ((lead ^ k : Int) : Rat) = ((z : Int) : Rat) /\ z.natAbs <= XB * (2 * YB) ^ k
 | 0, _, s => by
  unfold rhoD
  show ∃ z : Int, (if s < N - 0 + os.length then ((cfI xs s : Int) : Rat) / (((1 : Int)) : Rat) else 0) * _ = _ /\ _
  by_cases h : s < N - 0 + os.length
  ·refine ⟨cfI xs s, ?_, ?_⟩
   ·rw [if_pos h, Int.pow_zero]
    show ((cfI xs s : Int) : Rat) / (1 : Rat) * (1 : Rat) = _
    grind
   ·rw [Nat.pow_zero, Nat.mul_one]
    exact cfI_abs hX s
  ·refine ⟨0, ?_, Nat.zero_le _⟩
   rw [if_neg h]
   show (0 : Rat) * _ = 0
   grind
 | k + 1, hk, s => by
  have hr := divS_round (N := N) (k := k) hl hys (by omega) hN s;have ht := divS_round (N := N) (k := k) hl hys (by omega) hN (N - 1 - k + os.length);obtain ⟨z1, e1, b1⟩ := rho_int hl hys hN hX hY k (by omega) s;obtain ⟨z2, e2, b2⟩ := rho_int hl hys hN hX hY k (by omega) (N - 1 - k + os.length)
  have hyl : cfI ys os.length = lead := by
   rw [hys];unfold cfI;simp
  have hz : rhoD xs os lead N (k + 1) (N - 1 - k + os.length) = 0 := by
   unfold rhoD;rw [if_neg (by omega)]
  rw [if_pos (by omega), Nat.add_sub_cancel_left, hyl, hz] at ht;have hl' := cast_ne hl;have hyn : lead.natAbs <= YB := hY lead (by rw [hys]; simp);have hp : 0 < (2 * YB) ^ k \/ True := .inr trivial;generalize mkQ (topD (divS xs os lead N k).1 (N - 1 - k) os.length) ((divS xs os lead N k).2.1 * lead) = κ at hr ht;generalize rhoD xs os lead N (k + 1) s = r' at hr ⊢;generalize rhoD xs os lead N k s = r at hr e1;generalize rhoD xs os lead N k (N - 1 - k + os.length) = rt at ht e2;generalize hpk : ((lead ^ k : Int) : Rat) = pk at e1 e2;have hpk1 : ((lead ^ (k + 1) : Int) : Rat) = pk * ((lead : Int) : Rat) := by rw [Int.pow_succ, Rat.intCast_mul, hpk]
  rw [hpk1]
  have hb : XB * (2 * YB) ^ (k + 1) = YB * (XB * (2 * YB) ^ k) + YB * (XB * (2 * YB) ^ k) := by
   rw [Nat.pow_succ];generalize (2 * YB) ^ k = P;rw [<- Nat.mul_assoc XB P, Nat.mul_comm (XB * P) (2 * YB), Nat.mul_assoc, <- Nat.two_mul]
  by_cases hi : N - 1 - k <= s
  ·rw [if_pos hi] at hr
   have hc := cfI_abs hY (s - (N - 1 - k));generalize cfI ys (s - (N - 1 - k)) = c at hr hc;refine ⟨lead * z1 - z2 * c, ?_, ?_⟩
   ·rw [Rat.intCast_sub, Rat.intCast_mul, Rat.intCast_mul]
    grind
   ·rw [hb, Int.sub_eq_add_neg]
    refine Nat.le_trans (Int.natAbs_add_le _ _) ?_;rw [Int.natAbs_neg, Int.natAbs_mul, Int.natAbs_mul, Nat.mul_comm z2.natAbs];exact Nat.add_le_add (Nat.mul_le_mul hyn b1) (Nat.mul_le_mul hc b2)
  ·rw [if_neg hi] at hr
   refine ⟨lead * z1, ?_, ?_⟩
   ·rw [Rat.intCast_mul]
    grind
   ·rw [hb, Int.natAbs_mul]
    exact Nat.le_trans (Nat.mul_le_mul hyn b1) (Nat.le_add_right _ _)
theorem nums_le {qs : List Rat} {N D : Nat} (h : Bnd qs N D) : ∀ z ∈ numsP qs, z.natAbs <= N * D ^ (qs.length - 1) := by
 intro z hz;unfold numsP at hz;obtain ⟨q, hq, rfl⟩ := List.mem_map.1 hz;obtain ⟨m, e1, e2⟩ := dprod_mem h hq;obtain ⟨e, he⟩ := denP_dvd hq
 have h3 : e ∣ m := by
  have := denP_dprod qs;rw [he, e1] at this;exact Nat.dvd_of_mul_dvd_mul_left q.den_pos this
 have hm : 0 < m := by
  rcases Nat.eq_zero_or_pos m with h0 | h0
  ·have := dprod_pos qs
   rw [e1, h0, Nat.mul_zero] at this;omega
  ·exact h0
 have h4 := Nat.le_of_dvd hm h3
 have h5 : (q.num * (((denP qs : Nat) : Int) / ((q.den : Nat) : Int))).natAbs = q.num.natAbs * e := by
  rw [he, Int.natCast_mul, Int.mul_ediv_cancel_left _ (by have := q.den_nz; omega), Int.natAbs_mul, Int.natAbs_natCast]
 rw [h5];exact Nat.mul_le_mul (h q hq).num (Nat.le_trans h4 e2)
theorem den_le {qs : List Rat} {N D : Nat} (h : Bnd qs N D) : denP qs <= D ^ qs.length := Nat.le_trans (Nat.le_of_dvd (dprod_pos qs) (denP_dprod qs)) (dprod_le h)
theorem pw_ok : ∀ α, α < 9 -> ∀ β, β < 9 -> 1 <= β -> β <= α + 1 -> B120 ^ α * (2 * B120 ^ β) ^ (α + 1 - β) < 4294967296 ^ 106 := by decide +kernel
theorem mkQ_bndI {z y : Int} (hy : y ≠ 0) : BndR (mkQ z y) z.natAbs y.natAbs := by
 unfold mkQ
 split
 ·have := bndR_mk (-z) (d := (-y).natAbs) (by omega)
  rw [Int.natAbs_neg, Int.natAbs_neg] at this;rw [Int.natAbs_neg];exact this
 ·exact bndR_mk z (by omega)
def Sml (q : Rat) : Prop := q.num.natAbs < 4294967296 ^ 106 /\ q.den < 4294967296 ^ 106
theorem Sml.of {z y : Int} {q : Rat} {B : Nat} (hB : B < 4294967296 ^ 106) (hy : y ≠ 0) (hq : q * ((y : Int) : Rat) = ((z : Int) : Rat)) (h1 : z.natAbs <= B) (h2 : y.natAbs <= B) : Sml q := by
 have e : q = mkQ z y := by
  rw [mkQ_quot hy];have := cast_ne hy
  grind
 have := mkQ_bndI (z := z) hy;rw [<- e] at this;exact ⟨Nat.lt_of_le_of_lt (Nat.le_trans this.num h1) hB, Nat.lt_of_le_of_lt (Nat.le_trans this.den h2) hB⟩
theorem Sml.zero : Sml 0 := by
 have hp : 4294967296 ^ 1 <= 4294967296 ^ 106 := pow_le_w (by omega);exact ⟨Nat.lt_of_lt_of_le (show (0 : Rat).num.natAbs < 4294967296 ^ 1 by decide) hp, Nat.lt_of_lt_of_le (show (0 : Rat).den < 4294967296 ^ 1 by decide) hp⟩
theorem frac_eq {u b z dB dA a : Rat} (hb : b ≠ 0) (ha : a ≠ 0) (hd : dA ≠ 0) (h : u * b = z) : u * (dB / dA) = z * dB * a / (b * a * dA) := by
 have : u = z / b := by grind
 rw [this]
 grind
structure DivIn (ts bs : List Rat) (o N : Nat) : Prop where
 nt : trimP ts = ts
 nb : trimP bs = bs
 ht : Bnd ts B120 B120
 hb : Bnd bs B120 B120
 lt : ts.length <= 8
 lb : bs.length = o + 1
 lb8 : o + 1 <= 8
 hN : N + o = ts.length
section
variable {ts bs : List Rat} {o N : Nat}
theorem last_ne (nb : trimP bs = bs) (lb : bs.length = o + 1) : atP bs o ≠ 0 := by
 have h1 := trimP_last (qs := bs) (by rw [nb]; intro e; rw [e] at lb; simp at lb);rw [nb, List.getLastD_eq_getLast?, List.getLast?_eq_getElem?, lb] at h1;unfold atP;rw [List.getD_eq_getElem?_getD];exact h1
theorem DivIn.last (h : DivIn ts bs o N) : atP bs o ≠ 0 := last_ne h.nb h.lb
theorem DivIn.bound (h : DivIn ts bs o N) {k : Nat} (hk : k <= N) : B120 ^ ts.length * (2 * B120 ^ bs.length) ^ k < 4294967296 ^ 106 := by
 have h1 := h.lb;have h2 := h.lb8;have h3 := h.lt;have h4 := h.hN;have hp := pw_ok ts.length (by omega) bs.length (by omega) (by omega) (by omega);refine Nat.lt_of_le_of_lt (Nat.mul_le_mul_left _ (Nat.pow_le_pow_right ?_ (by omega))) hp;exact Nat.mul_pos (by omega) (Nat.pow_pos (by decide +kernel))
theorem prog_small (h : DivIn ts bs o N) {q r : Nat -> Rat} {L : Nat} (hp : IsPart ts bs q r o L) (hoL : o <= L) (hLN : L <= N + o) :
  (∀ s, Sml (r s)) /\ (∀ i, Sml (q i)) /\ ∃ D : Nat, 0 < D /\ D < 4294967296 ^ 106 /\ ∀ i, ∃ z : Int, q i = mkQ z ((D : Nat) : Int) /\ z.natAbs < 4294967296 ^ 106 := by
 have hxs : trimI (numsP ts) = numsP ts := numsP_last h.nt;have hys : trimI (numsP bs) = numsP bs := numsP_last h.nb;have hyl : (numsP bs).length = o + 1 := by rw [numsP_len, h.lb]
 have hb0 : bs ≠ [] := fun e => by have := h.lb; rw [e] at this; simp at this
 have hl0 := numsP_getLast h.nb hb0;obtain ⟨ys, hye⟩ : ∃ ys, numsP bs = ys := ⟨_, rfl⟩;obtain ⟨xs, hxe⟩ : ∃ xs, numsP ts = xs := ⟨_, rfl⟩
 have hX : ∀ z ∈ xs, z.natAbs <= B120 ^ ts.length := by
  intro z hz;rw [<- hxe] at hz;have h1 := nums_le h.ht z hz;have h2 : 0 < ts.length := by rw [<- numsP_len]; exact List.length_pos_of_mem hz
  rwa [Nat.mul_comm, <- Nat.pow_succ, show (ts.length - 1).succ = ts.length by omega] at h1
 have hY : ∀ z ∈ ys, z.natAbs <= B120 ^ bs.length := by
  intro z hz;rw [<- hye] at hz;have h1 := nums_le h.hb z hz;have h2 : 0 < bs.length := by rw [<- numsP_len]; exact List.length_pos_of_mem hz
  rwa [Nat.mul_comm, <- Nat.pow_succ, show (bs.length - 1).succ = bs.length by omega] at h1
 rw [hye] at hys hyl hl0;rw [hxe] at hxs;have hxl : xs.length = ts.length := by rw [<- hxe, numsP_len]
 obtain ⟨lead, hle⟩ : ∃ l, ys.getLastD 0 = l := ⟨_, rfl⟩;rw [hle] at hl0;obtain ⟨os, hoe⟩ : ∃ os, ys.take o = os := ⟨_, rfl⟩;have hol : os.length = o := by rw [<- hoe, List.length_take]; omega
 have hyo : ys = os ++ [lead] := by
  rw [<- hoe, <- hle, lastD_getI hyl, <- List.take_succ_eq_append_getElem (by omega), List.take_of_length_le (by omega)]
 have hN : N + os.length = xs.length := by rw [hol, hxl]; exact h.hN
 have hA : ((denP ts : Nat) : Int) ≠ 0 := by have := denP_pos ts; omega
 have hB : ((denP bs : Nat) : Int) ≠ 0 := by have := denP_pos bs; omega
 have hA' := cast_ne hA;have hB' := cast_ne hB;have hl' := cast_ne hl0;have hdA := den_le h.ht;have hdB := den_le h.hb;have hlY : lead.natAbs <= B120 ^ bs.length := hY lead (by rw [hyo]; simp);have hint := rho_int (N := N) (XB := B120 ^ ts.length) (YB := B120 ^ bs.length) hl0 hyo hN hX hY;have hxs2 : trimI (numsP ts) = xs := by rw [hxe]; exact hxs
 have hys2 : trimI (numsP bs) = ys := by rw [hye]; exact hys
 have hpart := prog_part (k := N + o - L) (N := N) hxs2 hys2 hol hyo (by rw [<- hol]; exact hN) hl0 (by omega);rw [show N - (N + o - L) + o = L by omega] at hpart;obtain ⟨hq, hr⟩ := hp.unique hpart (by rw [h.lb]; exact Nat.le_refl _) h.last
 have hpow : ∀ j, j <= N -> ((lead ^ j * ((denP ts : Nat) : Int) : Int)).natAbs <= B120 ^ ts.length * (2 * B120 ^ bs.length) ^ j := fun j hj => by
  rw [Int.natAbs_mul, Int.natAbs_pow, Int.natAbs_natCast, Nat.mul_comm];exact Nat.mul_le_mul hdA (Nat.pow_le_pow_left (Nat.le_trans hlY (by omega)) j)
 have hnz : ∀ j, lead ^ j * ((denP ts : Nat) : Int) ≠ 0 := fun j => Int.mul_ne_zero (Int.pow_ne_zero hl0) hA
 have hquo : ∀ j, j < N -> ∃ z : Int, quoD xs os lead N j * ((lead ^ (j + 1) : Int) : Rat) = ((z : Int) : Rat) /\ z.natAbs <= B120 ^ ts.length * (2 * B120 ^ bs.length) ^ j := fun j hj => by
  have ht := divS_round (N := N) (k := j) hl0 hyo hj hN (N - 1 - j + os.length)
  have hyl2 : cfI ys os.length = lead := by
   rw [hyo];unfold cfI;simp
  have hz : rhoD xs os lead N (j + 1) (N - 1 - j + os.length) = 0 := by
   unfold rhoD;rw [if_neg (by omega)]
  rw [if_pos (by omega), Nat.add_sub_cancel_left, hyl2, hz] at ht;obtain ⟨z, e1, b1⟩ := hint j (by omega) (N - 1 - j + os.length);refine ⟨z, ?_, b1⟩;rw [ht] at e1;rw [Int.pow_succ, Rat.intCast_mul];unfold quoD
  grind
 refine ⟨fun s => ?_, fun i => ?_, (lead ^ N * ((denP ts : Nat) : Int)).natAbs, ?_, ?_, fun i => ?_⟩
 ·rw [hr s]
  obtain ⟨z, e1, b1⟩ := hint (N + o - L) (by omega) s;refine Sml.of (h.bound (k := N + o - L) (by omega)) (hnz (N + o - L)) (z := z) ?_ b1 (hpow _ (by omega));rw [Rat.intCast_mul]
  grind
 ·rw [hq i]
  by_cases g : N - (N + o - L) <= i /\ i < N
  ·rw [if_pos g]
   obtain ⟨z, e1, b1⟩ := hquo (N - 1 - i) (by omega);refine Sml.of (h.bound (k := N - 1 - i + 1) (by omega)) (hnz (N - 1 - i + 1)) (z := z * ((denP bs : Nat) : Int)) ?_ ?_ (hpow _ (by omega))
   ·rw [Rat.intCast_mul, Rat.intCast_mul]
    grind
   ·rw [Int.natAbs_mul, Int.natAbs_natCast, Nat.pow_succ, <- Nat.mul_assoc]
    exact Nat.mul_le_mul b1 (Nat.le_trans hdB (by omega))
  ·rw [if_neg g]
   exact Sml.zero
 ·have := hnz N
  omega
 ·exact Nat.lt_of_le_of_lt (hpow N (Nat.le_refl _)) (h.bound (Nat.le_refl _))
 ·have habs : ∀ z : Int, ∃ z' : Int, mkQ z' (((lead ^ N * ((denP ts : Nat) : Int)).natAbs : Nat) : Int) = ((z : Int) : Rat) / ((lead ^ N * ((denP ts : Nat) : Int) : Int) : Rat) /\ z'.natAbs = z.natAbs := fun z => by
   have hn := hnz N;generalize lead ^ N * ((denP ts : Nat) : Int) = y at hn
   rcases Int.lt_or_gt_of_ne hn with g | g
   ·refine ⟨-z, ?_, Int.natAbs_neg z⟩
    rw [show ((y.natAbs : Nat) : Int) = -y by omega, mkQ_quot (by omega), Rat.intCast_neg, Rat.intCast_neg];have := cast_ne hn
    grind
   ·refine ⟨z, ?_, rfl⟩
    rw [show ((y.natAbs : Nat) : Int) = y by omega, mkQ_quot hn]
  rw [hq i]
  by_cases g : N - (N + o - L) <= i /\ i < N
  ·rw [if_pos g]
   obtain ⟨z, e1, b1⟩ := hquo (N - 1 - i) (by omega);obtain ⟨z', e2, e3⟩ := habs (z * ((denP bs : Nat) : Int) * lead ^ i);refine ⟨z', ?_, ?_⟩
   ·rw [e2]
    have hp1 : lead ^ N = lead ^ (N - 1 - i + 1) * lead ^ i := by rw [<- Int.pow_add]; congr 1; omega
    have hpi : ((lead ^ i : Int) : Rat) ≠ 0 := cast_ne (Int.pow_ne_zero hl0);have hpj : ((lead ^ (N - 1 - i + 1) : Int) : Rat) ≠ 0 := cast_ne (Int.pow_ne_zero hl0);rw [hp1, Rat.intCast_mul, Rat.intCast_mul, Rat.intCast_mul, Rat.intCast_mul];exact frac_eq hpj hpi hA' e1
   ·rw [e3]
    refine Nat.lt_of_le_of_lt ?_ (h.bound (Nat.le_refl N));rw [Int.natAbs_mul, Int.natAbs_mul, Int.natAbs_natCast, Int.natAbs_pow, show (2 * B120 ^ bs.length) ^ N = (2 * B120 ^ bs.length) ^ (N - 1 - i) * (2 * B120 ^ bs.length) * (2 * B120 ^ bs.length) ^ i by rw [<- Nat.pow_succ, <- Nat.pow_add]; congr 1; omega, <- Nat.mul_assoc, <- Nat.mul_assoc];exact Nat.mul_le_mul (Nat.mul_le_mul b1 (Nat.le_trans hdB (by omega))) (Nat.pow_le_pow_left (Nat.le_trans hlY (by omega)) i)
  ·rw [if_neg g]
   refine ⟨0, ?_, by decide +kernel⟩;have hn : (((lead ^ N * ((denP ts : Nat) : Int)).natAbs : Nat) : Int) ≠ 0 := by have := hnz N; omega
   rw [mkQ_quot hn]
   show (0 : Rat) = (0 : Rat) / _
   grind
end
theorem ref_step {a b Q R : List Rat} {o L n : Nat} {t : Rat} (hp : IsPart a b (atP Q) (atP R) o L) (hb : b.length = o + 1) (hl : atP b o ≠ 0) (hL : o + 1 <= L) (hn : n + o + 1 = L) (ht : t = atP R (L - 1) / atP b o) :
  (trimP (sumP R (negP (prodQ (trimP (List.replicate n 0 ++ [t])) b)))).length <= L - 1 /\
  IsPart a b (atP (trimP (sumP Q (trimP (List.replicate n 0 ++ [t]))))) (atP (trimP (sumP R (negP (prodQ (trimP (List.replicate n 0 ++ [t])) b))))) o (max (trimP (sumP R (negP (prodQ (trimP (List.replicate n 0 ++ [t])) b)))).length o) := by
 have hterm : ∀ i, atP (trimP (List.replicate n 0 ++ [t])) i = if i = n then t else 0 := fun i => by
  rw [atP_trimP];unfold atP;rw [List.getD_eq_getElem?_getD]
  rcases Nat.lt_trichotomy i n with g | g | g
  ·rw [List.getElem?_append_left (by simpa using g), if_neg (by omega)]
   simp [List.getElem?_replicate, g]
  ·subst g
   rw [List.getElem?_append_right (by simp), if_pos rfl];simp
  ·rw [List.getElem?_append_right (by simp; omega), List.length_replicate, List.getElem?_eq_none (by simp; omega), if_neg (by omega)]
   rfl
 have hprod : ∀ s, atP (prodQ (trimP (List.replicate n 0 ++ [t])) b) s = if n <= s then t * atP b (s - n) else 0 := fun s => by
  rw [prodQ_at]
  by_cases g : n <= s
  ·rw [qsum_one (t := n) (by omega) (fun i hi hne => by
    unfold termQ;rw [if_pos (by omega), hterm, if_neg hne, Rat.zero_mul])]
   unfold termQ;rw [if_pos g, hterm, if_pos rfl, if_pos g]
  ·rw [if_neg g]
   exact qsum_none _ (fun i hi => by
    unfold termQ;rw [if_pos (by omega), hterm, if_neg (by omega), Rat.zero_mul])
 have hneg : ∀ (l : List Rat) s, atP (negP l) s = -atP l s := fun l s => by
  by_cases h : s < l.length
  ·rw [atP_lt (by unfold negP; simpa using h), atP_lt h]
   simp [negP]
  ·rw [atP_ge (by unfold negP; simp; omega), atP_ge (by omega)]
   grind
 have hR' : ∀ s, atP (trimP (sumP R (negP (prodQ (trimP (List.replicate n 0 ++ [t])) b)))) s = atP R s - (if n <= s then t * atP b (s - n) else 0) := fun s => by
  rw [atP_trimP, atP_sumP, hneg, hprod]
  grind
 have hlen : (trimP (sumP R (negP (prodQ (trimP (List.replicate n 0 ++ [t])) b)))).length <= L - 1 := trimP_len_le fun s hs => by
  rw [<- atP_trimP, hR', if_pos (by omega)]
  by_cases g : s = L - 1
  ·rw [g, show L - 1 - n = o by omega, ht]
   grind
  ·rw [hp.zero s (by omega), atP_ge (l := b) (by omega)]
   grind
 refine ⟨hlen, ⟨fun s => ?_, fun s hs => atP_ge (by omega), fun i hi => ?_, ?_⟩⟩
 ·have e1 := hp.eq s
  have e2 : qsum (fun i => if i <= s then atP (trimP (sumP Q (trimP (List.replicate n 0 ++ [t])))) i * atP b (s - i) else 0) (s + 1) = qsum (fun i => if i <= s then atP Q i * atP b (s - i) else 0) (s + 1) + (if n <= s then t * atP b (s - n) else 0) := by
   rw [qsum_congr (g := fun i => (fun i => if i <= s then atP Q i * atP b (s - i) else 0) i + (fun i => if i = n then t * atP b (s - i) else 0) i) _ (fun i hi => by
    show (if i <= s then atP (trimP (sumP Q (trimP (List.replicate n 0 ++ [t])))) i * atP b (s - i) else 0) = (if i <= s then atP Q i * atP b (s - i) else 0) + (if i = n then t * atP b (s - i) else 0)
    rw [if_pos (by omega), if_pos (by omega), atP_trimP, atP_sumP, hterm]
    by_cases g : i = n
    ·rw [if_pos g, if_pos g]
     grind
    ·rw [if_neg g, if_neg g]
     grind), qsum_add]
   congr 1
   by_cases g : n <= s
   ·rw [qsum_one (t := n) (by omega) (fun i hi hne => by rw [if_neg hne]), if_pos rfl, if_pos g]
   ·rw [if_neg g]
    exact qsum_none _ (fun i hi => by rw [if_neg (by omega)])
  rw [e2, hR', e1]
  grind
 ·rw [atP_trimP, atP_sumP, hterm, if_neg (by omega), hp.sup i (by omega)]
  grind
 ·exact ⟨(trimP (sumP Q (trimP (List.replicate n 0 ++ [t])))).length, fun i hi => atP_ge hi⟩
end
section
open Go.RowKit
attribute [local go_sem ↓] Go.wp_at_zero Go.wp_at_succ
theorem polOne {w : World} {g M : Nat} {x : Rat} {s : Bool} {A : Option Addr} {n c : Nat} {t : Bool} {B : Option Addr} {m d : Nat} (hb : Box w g 27 #[.bool s, .slice A n c, .bool t, .slice B m d]) (hx : NR w x M s A n c t B m d) : Pol w (some ⟨g, 0, none⟩) 1 1 [x] M := by
 refine ⟨rfl, Nat.le_refl _, by unfold maxLen; omega, fun _ => ⟨g, 0, rfl, ⟨fun i hi => ?_⟩⟩⟩;have h0 : i = 0 := by simpa using hi
 subst h0;exact ⟨s, A, n, c, t, B, m, d, hb.cell 0 _ rfl, hb.cell 1 _ rfl, hb.cell 2 _ rfl, hb.cell 3 _ rfl, hx⟩
theorem Pol.tightV {w : World} {A : Option Addr} {n c L M : Nat} {qs : List Rat} (h : Pol w A n c qs L) (hb : ∀ q ∈ qs, q.num.natAbs < 4294967296 ^ M /\ q.den < 4294967296 ^ M) : Pol w A n c qs M :=
 ⟨h.len, h.cap, h.top, fun hq => by
  obtain ⟨b, off, h1, h2⟩ := h.at_ hq;refine ⟨b, off, h1, ⟨fun i hi => ?_⟩⟩;obtain ⟨s, A, n, c, t, B, m, d, k1, k2, k3, k4, k5⟩ := h2.at_ i hi;have hm := hb _ (List.getElem_mem hi);exact ⟨s, A, n, c, t, B, m, d, k1, k2, k3, k4, ⟨k5.num.tight' hm.1, k5.den.tight' (by rw [Int.natAbs_natCast]; exact hm.2)⟩⟩⟩
section
variable {w w' : World} {L M : Nat} {s t : Bool} {A B : Option Addr} {n c m d : Nat} {qs ps ts : List Rat} {sx tx : Bool} {Ax Bx : Option Addr} {nx cx mx dx : Nat}
end
section
variable {w w' : World} {z y : Int} {q p x : Rat} {L M : Nat} {s t s' t' : Bool} {A B A' B' : Option Addr} {n c m d n' c' m' d' : Nat} {qs ts : List Rat} {sx tx : Bool} {Ax Bx : Option Addr} {nx cx mx dx : Nat}
theorem q_quoR (h : NR w q L s A n c t B m d) (k : NR w p M s' A' n' c' t' B' m' d') (hL : L <= 1000) (hM : M <= 1000) (hp : p ≠ 0) : Calls Tryz.prog 79 #[.agg #[.bool s, .slice A n c, .bool t, .slice B m d], .agg #[.bool s', .slice A' n' c', .bool t', .slice B' m' d']] w (RetNR (q / p) (L + M) w) := by
 go_enter Tryz.func79, Tryz.ntmps79
 go_upto_region 1 with (fail)
 obtain ⟨W, hW, extW, bx, by_, bz, hz⟩ := box3 w 27 27 27 #[.bool s, .slice A n c, .bool t, .slice B m d] #[.bool s', .slice A' n' c', .bool t', .slice B' m' d'] #[Value.bool false, Value.slice none 0 0, Value.bool false, Value.slice none 0 0];rw [<- hW];clear hW;have x0 := bx.cell 0 (.bool s) rfl;have x1 := bx.cell 1 (.slice A n c) rfl;have x2 := bx.cell 2 (.bool t) rfl;have x3 := bx.cell 3 (.slice B m d) rfl;have y0 := by_.cell 0 (.bool s') rfl;have y1 := by_.cell 1 (.slice A' n' c') rfl;have y2 := by_.cell 2 (.bool t') rfl;have y3 := by_.cell 3 (.slice B' m' d') rfl
 go_wp2_with fail
 refine (q_Div_nz (h.ext extW) (k.ext extW) hL hM hp).mono ?_;rintro e W1 ⟨s9, A9, n9, c9, t9, B9, m9, d9, rfl, h9, hx1⟩;clear x0 x1 x2 x3 y0 y1 y2 y3
 go_upto_region 2 with (fail)
 have ha := (Ext.refl W1).alloc (.cells #[.bool s9, .slice A9 n9 c9, .bool t9, .slice B9 m9 d9] 27);refine at_world (fun V => Ext W V /\ Box V W1.heap.size 27 #[.bool s9, .slice A9 n9 c9, .bool t9, .slice B9 m9 d9] /\ NR V (q / p) (L + M) s9 A9 n9 c9 t9 B9 m9 d9) ⟨hx1.trans ha, Box.new W1 _ _, h9.ext ha⟩ ?_;clear ha hx1 h9;generalize W1.heap.size = g5;rintro V ⟨EV, b5, h9⟩;have x0 := b5.cell 0 (.bool s9) rfl;have x1 := b5.cell 1 (.slice A9 n9 c9) rfl;have x2 := b5.cell 2 (.bool t9) rfl;have x3 := b5.cell 3 (.slice B9 m9 d9) rfl;have hxt := EV;have z0 := (bz.ext hxt).cell 0 _ rfl;have z1 := (bz.ext hxt).cell 1 _ rfl;have z2 := (bz.ext hxt).cell 2 _ rfl;have z3 := (bz.ext hxt).cell 3 _ rfl;have f0 := (bz.ext hxt).frozen 0;have f1 := (bz.ext hxt).frozen 1;have f2 := (bz.ext hxt).frozen 2;have f3 := (bz.ext hxt).frozen 3
 go_wp2_with fail
 obtain ⟨b1, b2, b3, b4⟩ := fin_quad (s := s9) (A := A9) (n := n9) (c := c9) (t := t9) (B := B9) (m := m9) (d := d9) (bz.ext hxt);have r0 := b1.cell 0 (.bool s9) rfl;have r1 := b1.cell 1 (.slice A9 n9 c9) rfl;have r2 := b1.cell 2 (.bool t9) rfl;have r3 := b1.cell 3 (.slice B9 m9 d9) rfl;unfold set4 at r0 r1 r2 r3;refine bodyPost_ret (v := .agg #[.bool s9, .slice A9 n9 c9, .bool t9, .slice B9 m9 d9]) (by simp [results, Tryz.results79, go_sem, r0, r1, r2, r3]) rfl ⟨s9, A9, n9, c9, t9, B9, m9, d9, rfl, ⟨?_, ?_⟩, b3 _ (extW.trans hxt) (by omega)⟩
 ·exact b2 _ _ _ _ _ _ h9.num
 ·exact b2 _ _ _ _ _ _ h9.den
end
def RetQR (a b : List Rat) (o : Nat) (w : World) (e : Ending) (w' : World) : Prop :=
 ∃ (Q R : List Rat) (A : Option Addr) (n c : Nat) (B : Option Addr) (m d : Nat), e = .returned (.tuple #[.slice A n c, .slice B m d]) /\ Pol w' A n c Q 106 /\ Pol w' B m d R 106 /\ IsDiv a b Q R o /\ (∀ q ∈ Q, Sml q) /\ (∀ r ∈ R, Sml r) /\ Q.length <= 8 /\ Ext w w'
def lenVal : Value -> Nat
 | .slice _ n _ => n
 | _ => 0
theorem mem_atP {l : List Rat} {q : Rat} (h : q ∈ l) : ∃ i, atP l i = q := by
 obtain ⟨i, hi, rfl⟩ := List.getElem_of_mem h;exact ⟨i, atP_lt hi⟩
theorem part_div {a b Q R : List Rat} {o : Nat} (h : IsPart a b (atP Q) (atP R) o o) (hl : R.length <= o) (hq : trimP Q = Q) (hr : trimP R = R) : IsDiv a b Q R o := ⟨h.eq, hl, hq, hr⟩
theorem part_start {a b R : List Rat} {o L : Nat} (hR : ∀ s, atP a s = atP R s) (hL : R.length <= L) : IsPart a b (atP []) (atP R) o L :=
 ⟨fun s => by
  rw [qsum_none (s + 1) (fun i hi => by rw [if_pos (by omega), atP_nil, Rat.zero_mul]), hR]
  grind, fun s hs => atP_ge (by omega), fun i _ => atP_nil i, ⟨0, fun i _ => atP_nil i⟩⟩
theorem part_len {a b Q R : List Rat} {o L N : Nat} (hp : IsPart a b (atP Q) (atP R) o L) (hb : b.length = o + 1) (hl : atP b o ≠ 0) (hN : a.length <= N + o) (hq : trimP Q = Q) (hLN : L <= N + o) : Q.length <= N := by
 rw [<- hq];refine trimP_len_le ?_;obtain ⟨M, hM⟩ := hp.fin
 have key : ∀ d t, N <= t -> M <= t + d -> atP Q t = 0 := by
  intro d
  induction d with
  | zero => intro t _ h; exact hM t (by omega)
  | succ d ih =>
   intro t ht h
   by_cases h0 : M <= t + d
   ·exact ih t ht h0
   have e1 := hp.eq (t + o)
   rw [atP_ge (l := a) (by omega), hp.zero (t + o) (by omega), qsum_one (t := t) (by omega) (fun i hi hne => by
    rw [if_pos (by omega)]
    rcases Nat.lt_or_ge i t with g | g
    ·rw [atP_ge (l := b) (by omega), Rat.mul_zero]
    ·rw [ih i (by omega) (by omega), Rat.zero_mul]), if_pos (by omega), show t + o - t = o by omega] at e1
   have e2 : atP Q t * atP b o = 0 := by grind
   rcases Rat.mul_eq_zero.1 e2 with e3 | e3
   ·exact e3
   ·exact absurd e3 hl
 exact fun i hi => key M i hi (by omega)
section
variable {w w' : World} {L M : Nat} {s t : Bool} {A B : Option Addr} {n c m d : Nat} {qs ps ts : List Rat}
set_option maxRecDepth 100000 in
theorem q_DivModR {o : Nat} (h : Pol w A n c qs 4) (h' : Pol w B m d ps 4) (hq : Bnd qs B120 B120) (hp : Bnd ps B120 B120) (hn : n <= 8) (hm : m <= 8) (ho : (trimP ps).length = o + 1) : Calls Tryz.prog 34 #[.slice A n c, .slice B m d] w (RetQR (trimP qs) (trimP ps) o w) := by
 have Hln := Lib.hid h.len;have Hlm := Lib.hid h'.len
 go_enter Tryz.func34, Tryz.ntmps34
 go_wp2_with fail
 refine (q_TrimP h' (by omega) (by omega)).mono ?_;rintro e V0 ⟨A1, m1, c1, rfl, hb, hx0⟩
 go_wp2_with fail
 refine (q_TrimP (h.ext hx0) (by omega) (by omega)).mono ?_;rintro e V ⟨A0, n0, c0, rfl, hr0, hx1⟩;replace hb := hb.ext hx1;have ext0 := hx0.trans hx1;clear hx0 hx1;have HT0 := Lib.hid (trimP_idem qs);have HB0 := Lib.hid (trimP_idem ps);have HBQ := Lib.hid hq.trim;have HBP := Lib.hid hp.trim;have hlq := trimP_len qs;have hlp := trimP_len ps;have h8q : (trimP qs).length <= 8 := by have := Hln.out; omega
 have h8p : (trimP ps).length <= 8 := by have := Hlm.out; omega
 clear hq hp hlq hlp h h' Hln Hlm;obtain ⟨ts, hts⟩ : ∃ ts, trimP qs = ts := ⟨_, rfl⟩;obtain ⟨bs, hbs⟩ : ∃ bs, trimP ps = bs := ⟨_, rfl⟩;rw [hts] at hr0 HT0 HBQ h8q;rw [hbs] at hb HB0 HBP h8p ho;have HTS := Lib.hid hts;have HBS := Lib.hid hbs;clear hts hbs;have HM1 := Lib.hid (show m1 = o + 1 by rw [<- hb.len]; exact ho);have HLB := Lib.hid (last_ne HB0.out ho);have HST := Lib.hid hr0.len
 go_wp2_with fail
 go_loopw [6, 7] (fun v u wr => ∃ (Q R : List Rat) (A7 : Option Addr) (n7 c7 : Nat) (A6 : Option Addr) (n6 c6 : Nat), v = .slice A6 n6 c6 /\ u = .slice A7 n7 c7 /\ Ext V wr /\ Pol wr A6 n6 c6 R 106 /\ Pol wr A7 n7 c7 Q 106 /\ n6 <= ts.length /\ trimP Q = Q /\ trimP R = R /\ IsPart ts bs (atP Q) (atP R) o (max R.length o) /\ (∀ q ∈ Q, Sml q) /\ (∀ r ∈ R, Sml r) /\ Q.length <= 8) (fun v _ _ => lenVal v)
 case atStart =>
  refine ⟨[], ts, none, 0, 0, A0, n0, c0, rfl, rfl, Ext.refl V, hr0.leL (by omega), Pol.none V 106, by rw [HST.out]; exact Nat.le_refl _, rfl, HT0.out, part_start (fun _ => rfl) (by omega), (fun q hq => by cases hq), (fun r hr => ?_), by simp⟩;have := HBQ.out r hr;exact ⟨Nat.lt_of_le_of_lt this.num (by decide +kernel), Nat.lt_of_le_of_lt this.den (by decide +kernel)⟩
 case round =>
  obtain ⟨Q, R, A7, n7, c7, A6, n6, c6, rfl, rfl, ext, hr, hq, hn6, hQ, hR, hP, hsQ, hsR, hQ8⟩ := hrel;have hrl := hr.len;have hm1 := HM1.out
  by_cases hlt : m1 <= n6
  ·have hge : (m1 : Int) <= (n6 : Int) := by omega
   have hDI : DivIn ts bs o (ts.length - o) := ⟨HT0.out, HB0.out, HBQ.out, HBP.out, h8q, ho, by omega, by omega⟩;obtain ⟨nn, hnn⟩ : ∃ nn, nn + o + 1 = R.length := ⟨R.length - (o + 1), by omega⟩;obtain ⟨t, ht⟩ : ∃ t, t = atP R (R.length - 1) / atP bs o := ⟨_, rfl⟩;rw [Nat.max_eq_left (by omega)] at hP;obtain ⟨hlen', hP'⟩ := ref_step hP ho HLB.out (by omega) hnn ht;have hsm := prog_small hDI hP' (Nat.le_max_right _ _) (by omega)
   have hter : ∀ i, atP (trimP (List.replicate nn 0 ++ [t])) i = if i = nn then t else 0 := fun i => by
    rw [atP_trimP];unfold atP;rw [List.getD_eq_getElem?_getD]
    rcases Nat.lt_trichotomy i nn with g | g | g
    ·rw [List.getElem?_append_left (by simpa using g), if_neg (by omega)]
     simp [List.getElem?_replicate, g]
    ·subst g
     rw [List.getElem?_append_right (by simp), if_pos rfl];simp
    ·rw [List.getElem?_append_right (by simp; omega), List.length_replicate, List.getElem?_eq_none (by simp; omega), if_neg (by omega)]
     rfl
   have hst : Sml t := by
    have h1 := hsm.2.1 nn;rw [atP_trimP, atP_sumP, hter, if_pos rfl, hP.sup nn (by omega), Rat.zero_add] at h1;exact h1
   have HtmS := Lib.hid (show ∀ q ∈ trimP (List.replicate nn 0 ++ [t]), Sml q from fun q hq => by
    obtain ⟨i, rfl⟩ := mem_atP hq;rw [hter]
    split
    ·exact hst
    ·exact Sml.zero)
   have HtmL := Lib.hid (show (trimP (List.replicate nn 0 ++ [t])).length <= 8 by have := trimP_len (List.replicate nn 0 ++ [t]); simp at this; omega)
   have HQS := Lib.hid (show ∀ q ∈ trimP (sumP Q (trimP (List.replicate nn 0 ++ [t]))), Sml q from fun q hq => by
    obtain ⟨i, rfl⟩ := mem_atP hq;exact hsm.2.1 i)
   have HRS := Lib.hid (show ∀ r ∈ trimP (sumP R (negP (prodQ (trimP (List.replicate nn 0 ++ [t])) bs))), Sml r from fun r hr => by
    obtain ⟨i, rfl⟩ := mem_atP hr;exact hsm.1 i)
   have HQL := Lib.hid (show (trimP (sumP Q (trimP (List.replicate nn 0 ++ [t])))).length <= 8 by
    have := part_len (N := ts.length - o) hP' ho HLB.out (by omega) (trimP_idem _) (by omega);omega)
   have HPL := Lib.hid (show (prodQ (trimP (List.replicate nn 0 ++ [t])) bs).length <= 16 by have := prodQ_len (trimP (List.replicate nn 0 ++ [t])) bs; have := HtmL.out; omega);have HP' := Lib.hid hP';have HL' := Lib.hid hlen';have HT := Lib.hid ht;clear hP' hlen' hsm hter hst hP ht;have hj6 : n6 - 1 < R.length := by omega
   have hj1 : m1 - 1 < bs.length := by omega
   have HNZ := Lib.hid (show bs[m1 - 1] ≠ 0 by
    have h1 := HLB.out;rw [atP_lt (by omega)] at h1;have h2 : bs[o] = bs[m1 - 1] := getElem_congr rfl (by omega) _
    rwa [h2] at h1)
   have HTV := Lib.hid (show t = R[n6 - 1] / bs[m1 - 1] by
    rw [HT.out, atP_lt (by omega), atP_lt (by omega)]
    congr 1
    ·exact getElem_congr rfl (by omega) _
    ·exact getElem_congr rfl (by omega) _)
   obtain ⟨b, off, rfl, hrr⟩ := hr.at_ (fun e => by rw [e] at hj6; exact absurd hj6 (Nat.not_lt_zero _));obtain ⟨b2, off2, rfl, hbb⟩ := hb.at_ (fun e => by rw [e] at hj1; exact absurd hj1 (Nat.not_lt_zero _));obtain ⟨sx, Ax, nx, cx, tx, Bx, mx, dx, e0, e1, e2, e3, hx⟩ := hrr.at_ (n6 - 1) hj6;obtain ⟨sy, Ay, ny, cy, ty, By, my, dy, d0, d1, d2, d3, hy⟩ := (hbb.ext ext).at_ (m1 - 1) hj1;have e0' : wr.cell? ⟨b, off + (n6 - 1) * 4, none⟩ = some (.bool sx) := by rw [Nat.mul_comm]; exact e0
   have e1' : wr.cell? ⟨b, off + (n6 - 1) * 4 + 1, none⟩ = some (.slice Ax nx cx) := by rw [Nat.mul_comm]; exact e1
   have e2' : wr.cell? ⟨b, off + (n6 - 1) * 4 + 2, none⟩ = some (.bool tx) := by rw [Nat.mul_comm]; exact e2
   have e3' : wr.cell? ⟨b, off + (n6 - 1) * 4 + 3, none⟩ = some (.slice Bx mx dx) := by rw [Nat.mul_comm]; exact e3
   have d0' : wr.cell? ⟨b2, off2 + (m1 - 1) * 4, none⟩ = some (.bool sy) := by rw [Nat.mul_comm]; exact d0
   have d1' : wr.cell? ⟨b2, off2 + (m1 - 1) * 4 + 1, none⟩ = some (.slice Ay ny cy) := by rw [Nat.mul_comm]; exact d1
   have d2' : wr.cell? ⟨b2, off2 + (m1 - 1) * 4 + 2, none⟩ = some (.bool ty) := by rw [Nat.mul_comm]; exact d2
   have d3' : wr.cell? ⟨b2, off2 + (m1 - 1) * 4 + 3, none⟩ = some (.slice By my dy) := by rw [Nat.mul_comm]; exact d3
   clear e0 e1 e2 e3 d0 d1 d2 d3;have hI : ((n6 - 1 : Nat) : Int) < (n6 : Int) := by omega
   have hJ : (n6 : Int) - 1 = ((n6 - 1 : Nat) : Int) := by omega
   have hW1 : IntKind.i64.wrap ((n6 - 1 : Nat) : Int) = ((n6 - 1 : Nat) : Int) := IntWalk.i64_in _ (by omega);have hI2 : ((m1 - 1 : Nat) : Int) < (m1 : Int) := by omega
   have hJ2 : (m1 : Int) - 1 = ((m1 - 1 : Nat) : Int) := by omega
   have hW2 : IntKind.i64.wrap ((m1 - 1 : Nat) : Int) = ((m1 - 1 : Nat) : Int) := IntWalk.i64_in _ (by omega);have hJ3 : (n6 : Int) - (m1 : Int) = (nn : Int) := by omega
   have hW3 : IntKind.i64.wrap (nn : Int) = (nn : Int) := IntWalk.i64_in _ (by omega);have hnn8 : nn <= 8 := by omega
   have hn68 : n6 <= 8 := by omega
   have hn78 : n7 <= 8 := by rw [<- hq.len]; exact hQ8
   have hm8 : m1 <= 8 := by omega
   generalize R[n6 - 1] = rl at hx HTV;generalize bs[m1 - 1] = bl at hy HTV HNZ;obtain ⟨j6, hj6e⟩ : ∃ j, n6 - 1 = j := ⟨_, rfl⟩;obtain ⟨j1, hj1e⟩ : ∃ j, m1 - 1 = j := ⟨_, rfl⟩;rw [hj6e] at hI hJ hW1 e0' e1' e2' e3';rw [hj1e] at hI2 hJ2 hW2 d0' d1' d2' d3';have HN6 := Lib.hid (show n6 = R.length /\ n6 <= ts.length /\ 0 < n6 from ⟨by omega, hn6, by omega⟩);clear hj6e hj1e hj6 hj1 hm1 hnn hrl hlt hDI hn6
   go_upto_region 6 with (fail)
   have ES0 := Ext.refl wr;refine wp_region_held_drew (S := Ext wr) (by kernel_rfl) ES0.drew (fun ES => ?_);clear ES0;refine Late.s0 ES (fun hAl hQ => ?_);refine Late.t 0 24 ?v_0 hQ ?y_0 ?_
   case y_0 => intro w' hSw;have q0 := hSw.cellv e0';have q1 := hSw.cellv e1';have q2 := hSw.cellv e2';have q3 := hSw.cellv e3';have p0 := hSw.cellv d0';have p1 := hSw.cellv d1';have p2 := hSw.cellv d2';have p3 := hSw.cellv d3';go_simp;try rfl
   try simp only [zP]
   refine Late.t 1 25 ?v_1 hQ ?y_1 ?_
   case y_1 => intro w' hSw;have q0 := hSw.cellv e0';have q1 := hSw.cellv e1';have q2 := hSw.cellv e2';have q3 := hSw.cellv e3';have p0 := hSw.cellv d0';have p1 := hSw.cellv d1';have p2 := hSw.cellv d2';have p3 := hSw.cellv d3';go_simp;try rfl
   try simp only [zP]
   refine Late.t 2 26 ?v_2 hQ ?y_2 ?_
   case y_2 => intro w' hSw;have q0 := hSw.cellv e0';have q1 := hSw.cellv e1';have q2 := hSw.cellv e2';have q3 := hSw.cellv e3';have p0 := hSw.cellv d0';have p1 := hSw.cellv d1';have p2 := hSw.cellv d2';have p3 := hSw.cellv d3';go_simp;try rfl
   try simp only [zP]
   refine Late.t 3 27 ?v_3 hQ ?y_3 ?_
   case y_3 => intro w' hSw;have q0 := hSw.cellv e0';have q1 := hSw.cellv e1';have q2 := hSw.cellv e2';have q3 := hSw.cellv e3';have p0 := hSw.cellv d0';have p1 := hSw.cellv d1';have p2 := hSw.cellv d2';have p3 := hSw.cellv d3';go_simp;try rfl
   try simp only [zP]
   refine Late.t 4 28 ?v_4 hQ ?y_4 ?_
   case y_4 => intro w' hSw;have q0 := hSw.cellv e0';have q1 := hSw.cellv e1';have q2 := hSw.cellv e2';have q3 := hSw.cellv e3';have p0 := hSw.cellv d0';have p1 := hSw.cellv d1';have p2 := hSw.cellv d2';have p3 := hSw.cellv d3';go_simp;try rfl
   try simp only [zP]
   refine Late.t 5 29 ?v_5 hQ ?y_5 ?_
   case y_5 => intro w' hSw;have q0 := hSw.cellv e0';have q1 := hSw.cellv e1';have q2 := hSw.cellv e2';have q3 := hSw.cellv e3';have p0 := hSw.cellv d0';have p1 := hSw.cellv d1';have p2 := hSw.cellv d2';have p3 := hSw.cellv d3';go_simp;try rfl
   try simp only [zP]
   refine Late.t 6 30 ?v_6 hQ ?y_6 ?_
   case y_6 => intro w' hSw;have q0 := hSw.cellv e0';have q1 := hSw.cellv e1';have q2 := hSw.cellv e2';have q3 := hSw.cellv e3';have p0 := hSw.cellv d0';have p1 := hSw.cellv d1';have p2 := hSw.cellv d2';have p3 := hSw.cellv d3';go_simp;try rfl
   try simp only [zP]
   refine Late.t 7 31 ?v_7 hQ ?y_7 ?_
   case y_7 => intro w' hSw;have q0 := hSw.cellv e0';have q1 := hSw.cellv e1';have q2 := hSw.cellv e2';have q3 := hSw.cellv e3';have p0 := hSw.cellv d0';have p1 := hSw.cellv d1';have p2 := hSw.cellv d2';have p3 := hSw.cellv d3';go_simp;try rfl
   try simp only [zP]
   refine Late.t 8 32 ?v_8 hQ ?y_8 ?_
   case y_8 => intro w' hSw;have q0 := hSw.cellv e0';have q1 := hSw.cellv e1';have q2 := hSw.cellv e2';have q3 := hSw.cellv e3';have p0 := hSw.cellv d0';have p1 := hSw.cellv d1';have p2 := hSw.cellv d2';have p3 := hSw.cellv d3';go_simp;try rfl
   try simp only [zP]
   refine Late.t 9 33 ?v_9 hQ ?y_9 ?_
   case y_9 => intro w' hSw;have q0 := hSw.cellv e0';have q1 := hSw.cellv e1';have q2 := hSw.cellv e2';have q3 := hSw.cellv e3';have p0 := hSw.cellv d0';have p1 := hSw.cellv d1';have p2 := hSw.cellv d2';have p3 := hSw.cellv d3';go_simp;try rfl
   try simp only [zP]
   refine Late.t 10 34 ?v_a hQ ?y_a ?_
   case y_a => intro w' hSw;have q0 := hSw.cellv e0';have q1 := hSw.cellv e1';have q2 := hSw.cellv e2';have q3 := hSw.cellv e3';have p0 := hSw.cellv d0';have p1 := hSw.cellv d1';have p2 := hSw.cellv d2';have p3 := hSw.cellv d3';go_simp;try rfl
   try simp only [zP]
   refine Late.t 11 35 ?v_b hQ ?y_b ?_
   case y_b => intro w' hSw;have q0 := hSw.cellv e0';have q1 := hSw.cellv e1';have q2 := hSw.cellv e2';have q3 := hSw.cellv e3';have p0 := hSw.cellv d0';have p1 := hSw.cellv d1';have p2 := hSw.cellv d2';have p3 := hSw.cellv d3';go_simp;try rfl
   try simp only [zP]
   refine Late.t 14 38 ?v_c hQ ?y_c ?_
   case y_c => intro w' hSw;have q0 := hSw.cellv e0';have q1 := hSw.cellv e1';have q2 := hSw.cellv e2';have q3 := hSw.cellv e3';have p0 := hSw.cellv d0';have p1 := hSw.cellv d1';have p2 := hSw.cellv d2';have p3 := hSw.cellv d3';go_simp;try rfl
   try simp only [zP]
   refine Late.cl (i := 12) rfl hAl hQ (fun w12 e12 E12 K hK => ?_);go_simp
   (go_at_call 79; refine (q_quoR (hx.ext E12) (hy.ext E12) (by omega) (by omega) HNZ.out).mono ?_; rintro e wa ⟨s9, A9, n9, c9, t9, B9, m9, d9, rfl, h9, hxa⟩)
   refine hK.out _ _ hxa ?_;clear hK K
   try simp only [zP]
   refine Late.cl (i := 13) rfl hAl hQ (fun w13 e13 E13 K hK => ?_);have hx13 := (Ext.refl w13).alloc (.cells #[.bool s9, .slice A9 n9 c9, .bool t9, .slice B9 m9 d9] 27);have bY := Box.new w13 27 #[.bool s9, .slice A9 n9 c9, .bool t9, .slice B9 m9 d9];have hY := polOne bY ((h9.ext e13).ext hx13);go_simp;refine hK.out _ _ hx13 ?_;clear hK K
   try simp only [zP]
   generalize w13.heap.size = g7 at bY hY ⊢;refine Late.cl (i := 15) rfl hAl hQ (fun w15 e15 E15 K hK => ?_);go_simp
   (go_at_call 65; refine (q_ShiftP (k := nn) (hY.ext e15) (by omega) (by omega) (by omega) (by omega)).mono ?_; rintro e wb ⟨A3, n3, c3, rfl, h3, hxb⟩)
   refine hK.out _ _ hxb ?_;clear hK K
   try simp only [zP]
   refine Late.t 16 9 ?v_d hQ ?y_d ?_
   case y_d => intro w' hSw;go_simp;try rfl
   try simp only [zP]
   refine Late.d0 (fun wz ez Ez => ?_);clear hAl hQ ES;rw [<- HTV.out] at h3;replace h3 := (h3.ext ez).tightV HtmS.out;have hn3 : n3 <= 8 := by rw [<- h3.len]; exact HtmL.out
   replace ext := ext.trans Ez;replace hr := hr.ext Ez;replace hq := hq.ext Ez
   go_wp2_with fail
   refine (q_AddPW hq h3 (by omega) (by omega) (by omega) (by omega) (by omega)).mono ?_;rintro e W3 ⟨A4, n4, c4, rfl, h4, hx4⟩;replace h4 := h4.tightV HQS.out;replace h3 := h3.ext hx4;replace hr := hr.ext hx4;replace ext := ext.trans hx4
   go_wp2_with fail
   refine (q_MulQW h3 ((hb.ext ext)) (by omega) (by omega) (by omega) (by omega) (by omega)).mono ?_;rintro e W4 ⟨A5, n5, c5, rfl, h5, hx5⟩;have hn5 : n5 <= 16 := by rw [<- h5.len]; exact HPL.out
   replace h4 := h4.ext hx5;replace hr := hr.ext hx5;replace ext := ext.trans hx5
   go_wp2_with fail
   refine (q_SubPW hr h5 (by omega) (by omega) (by omega) (by omega)).mono ?_;rintro e W5 ⟨A8, n8, c8, rfl, h8, hx8⟩;replace h8 := h8.tightV HRS.out;replace h4 := h4.ext hx8;replace ext := ext.trans hx8;have hl8 := h8.len
   go_wp2_with fail
   go_roundw
   case rel => exact ⟨_, _, _, _, _, _, _, _, rfl, rfl, ext, h8, h4, by have := HL'.out; have := HN6.out; omega, trimP_idem _, trimP_idem _, HP'.out, HQS.out, HRS.out, HQL.out⟩
   case measure => have h1 := HL'.out; have h2 := HN6.out; simp only [lenVal]; omega
  ·have hgl : (n6 : Int) < (m1 : Int) := by omega
   rw [Nat.max_eq_right (by omega)] at hP;have hDv := part_div hP (by omega) hQ hR;clear hm1 hrl
   go_wp2_with fail
   refine bodyPost_ret (v := .tuple #[.slice A7 n7 c7, .slice A6 n6 c6]) (by simp [results, Tryz.results34, go_sem]) rfl ⟨Q, R, A7, n7, c7, A6, n6, c6, rfl, hq, hr, by rw [HTS.out, HBS.out]; exact hDv, hsQ, hsR, hQ8, ext0.trans ext⟩
end
end
section
theorem midD_abs {R os : List Int} {f m : Int} {i a b M F : Nat} (hR : ∀ z ∈ R, z.natAbs <= M) (hf : f.natAbs <= F) (hF : 1 <= F) (hm : m.natAbs <= M) (ho : ∀ z ∈ os, z.natAbs <= F) : ∀ z ∈ midD R f m os i a b, z.natAbs <= M * (2 * F) := by
 intro z hz;obtain ⟨j, hj, rfl⟩ := List.getElem_of_mem hz;rw [midD_at]
 have h1 : (if j < a then cfI R j * f else cfI R j).natAbs <= M * F := by
  split
  ·rw [Int.natAbs_mul]; exact Nat.mul_le_mul (cfI_abs hR j) hf
  ·exact Nat.le_trans (cfI_abs hR j) (Nat.le_mul_of_pos_right _ hF)
 have h2 : (if i <= j /\ j < i + b then cfI os (j - i) * m else 0).natAbs <= M * F := by
  split
  ·rw [Int.natAbs_mul, Nat.mul_comm]; exact Nat.mul_le_mul hm (cfI_abs ho _)
  ·exact Nat.zero_le _
 have h3 : M * (2 * F) = M * F + M * F := by rw [Nat.mul_left_comm, Nat.two_mul]
 rw [h3];exact Nat.le_trans (Int.natAbs_sub_le _ _) (Nat.add_le_add h1 h2)
theorem div_abs (z y : Int) : (z / y).natAbs <= z.natAbs := Int.natAbs_ediv_le_natAbs z y
theorem divS_abs {xs os : List Int} {lead : Int} {N M F : Nat} (hx : ∀ z ∈ xs, z.natAbs <= M) (ho : ∀ z ∈ os, z.natAbs <= F) (hl : lead.natAbs <= F) (hF : 1 <= F) : ∀ k, (∀ z ∈ (divS xs os lead N k).1, z.natAbs <= M * (2 * F) ^ k) /\ (divS xs os lead N k).2.1.natAbs <= F ^ k
 | 0 => ⟨by rw [Nat.pow_zero, Nat.mul_one]; exact hx, Nat.le_refl 1⟩
 | k + 1 => by
  obtain ⟨h1, h2⟩ := divS_abs (N := N) hx ho hl hF k;refine ⟨?_, ?_⟩
  ·simp only [divS]
   rw [Nat.pow_succ, <- Nat.mul_assoc];exact midD_abs h1 (Nat.le_trans (div_abs _ _) hl) hF (Nat.le_trans (div_abs _ _) (cfI_abs h1 _)) ho
  ·simp only [divS]
   rw [Int.natAbs_mul, Nat.pow_succ];exact Nat.mul_le_mul h2 (Nat.le_trans (div_abs _ _) hl)
theorem divB_few {qs ps : List Rat} {xs ys os : List Int} {lead : Int} {o N : Nat} (hX : SizeP qs 30) (hY : SizeP ps 30) (hxs : trimI (numsP qs) = xs) (hys : trimI (numsP ps) = ys) (hy0 : ys.length = o + 1) (hN : N <= 8) (hos : os = ys.take o) (hlead : lead = ys.getLastD 0) : DivB xs os lead N 279 241 := by
 have hx : ∀ z ∈ xs, z.natAbs <= 4294967296 ^ 30 := fun z hz => Nat.le_of_lt (hX.num z (trimI_mem (by rw [hxs]; exact hz)))
 have hy : ∀ z ∈ ys, z.natAbs <= 4294967296 ^ 30 := fun z hz => Nat.le_of_lt (hY.num z (trimI_mem (by rw [hys]; exact hz)))
 have ho : ∀ z ∈ os, z.natAbs <= 4294967296 ^ 30 := fun z hz => hy z (by rw [hos] at hz; exact List.mem_of_mem_take hz)
 have hl : lead.natAbs <= 4294967296 ^ 30 := by
  rw [hlead, lastD_getI hy0];exact hy _ (List.getElem_mem _)
 have hF : 1 <= 4294967296 ^ 30 := Nat.pow_pos (by omega);have key := divS_abs (N := N) hx ho hl hF;refine ⟨fun k hk a b _ _ z hz => ?_, fun k hk => ?_⟩
 ·obtain ⟨h1, _⟩ := key k
  have h2 := midD_abs h1 (Nat.le_trans (div_abs _ _) hl) hF (Nat.le_trans (div_abs _ _) (cfI_abs h1 _)) ho z hz;rw [Nat.mul_assoc, <- Nat.pow_succ] at h2;refine Nat.lt_of_le_of_lt (Nat.le_trans h2 (Nat.mul_le_mul_left _ (Nat.pow_le_pow_right (Nat.mul_pos (by omega) hF) (show k.succ <= 8 by omega)))) ?_
  decide +kernel
 ·refine Nat.lt_of_le_of_lt (Nat.le_trans (key k).2 (Nat.pow_le_pow_right hF (show k <= 8 by omega))) ?_
  decide +kernel
theorem IsDiv.part {a b Q R : List Rat} {o : Nat} (h : IsDiv a b Q R o) : IsPart a b (atP Q) (atP R) o o := ⟨h.eq, fun s hs => atP_ge (Nat.le_trans h.len hs), fun i hi => absurd hi (by omega), ⟨Q.length, fun i hi => atP_ge hi⟩⟩
theorem list_of {D B : Nat} : ∀ {Q : List Rat}, (∀ q ∈ Q, ∃ z : Int, q = mkQ z ((D : Nat) : Int) /\ z.natAbs < B) -> ∃ zs : List Int, Q = zs.map (fun z => mkQ z ((D : Nat) : Int)) /\ ∀ z ∈ zs, z.natAbs < B
 | [], _ => ⟨[], rfl, fun _ h => by cases h⟩
 | q :: Q, h => by
  obtain ⟨z, hz1, hz2⟩ := h q (List.mem_cons_self ..);obtain ⟨zs, h1, h2⟩ := list_of (fun p hp => h p (List.mem_cons_of_mem _ hp));refine ⟨z :: zs, by rw [List.map_cons, <- h1, <- hz1], fun y hy => ?_⟩
  rcases List.mem_cons.1 hy with rfl | hy
  ·exact hz2
  ·exact h2 y hy
theorem sml_mem {l : List Rat} (h : ∀ i, Sml (atP l i)) : ∀ q ∈ l, Sml q := fun q hq => by
 obtain ⟨i, rfl⟩ := mem_atP hq;exact h i
theorem bnd_sml {q : Rat} (h : BndR q B120 B120) : Sml q := ⟨Nat.lt_of_le_of_lt h.num (by decide +kernel), Nat.lt_of_le_of_lt h.den (by decide +kernel)⟩
theorem div_small {ts bs Q R : List Rat} {o : Nat} (h : IsDiv ts bs Q R o) (nt : trimP ts = ts) (nb : trimP bs = bs) (ht : Bnd ts B120 B120) (hb : Bnd bs B120 B120) (lt : ts.length <= 8) (lb : bs.length = o + 1) (lb8 : o + 1 <= 8) : (∀ q ∈ Q, Sml q) /\ (∀ r ∈ R, Sml r) /\ SizeP Q 106 /\ Q.length <= 8 := by
 have hl := last_ne nb lb
 by_cases ho : o <= ts.length
 ·have hI : DivIn ts bs o (ts.length - o) := ⟨nt, nb, ht, hb, lt, lb, lb8, by omega⟩
  obtain ⟨h1, h2, D, hD, hD2, h3⟩ := prog_small hI h.part (Nat.le_refl _) (by omega);refine ⟨sml_mem h2, sml_mem h1, ?_, ?_⟩
  ·obtain ⟨zs, e1, e2⟩ := list_of (Q := Q) (D := D) (B := 4294967296 ^ 106) (fun q hq => by
    obtain ⟨i, rfl⟩ := mem_atP hq;exact h3 i)
   rw [e1];exact sizeP_map hD hD2 e2
  ·exact Nat.le_trans (part_len h.part lb hl (N := ts.length - o) (by omega) h.nq (by omega)) (by omega)
 ·have hd : IsDiv ts bs [] ts o := ⟨fun s => by
   rw [qsum_none (s + 1) (fun i hi => by unfold termQ; rw [if_pos (by omega), atP_nil, Rat.zero_mul])]
   grind, by omega, rfl, nt⟩
  obtain ⟨e1, e2⟩ := h.unique hd lb hl;subst e1 e2;refine ⟨(fun q hq => by cases hq), fun r hr => bnd_sml (ht r hr), ⟨?_, fun z hz => by cases hz⟩, Nat.zero_le _⟩
  show 1 < 4294967296 ^ 106
  decide +kernel
theorem add_ok {x r : Rat} (hs : BndR (x + r) B120 B120) (hr : Sml r) : AddOK x r := by
 have hx : BndR x (B120 * 4294967296 ^ 106 + 4294967296 ^ 106 * B120) (B120 * 4294967296 ^ 106) := by
  have h1 : BndR (-r) (4294967296 ^ 106) (4294967296 ^ 106) := ⟨by show (-r.num).natAbs <= _; rw [Int.natAbs_neg]; exact Nat.le_of_lt hr.1, Nat.le_of_lt hr.2⟩;have h2 := hs.add h1
  rwa [show x + r + -r = x by grind] at h2
 obtain ⟨g, hg⟩ : ∃ g, Nat.gcd x.den r.den = g := ⟨_, rfl⟩;obtain ⟨_, e2, e3, e4⟩ := rat_add x r (g := g) (D1 := x.den / g) (D2 := r.den / g) hg.symm rfl rfl rfl rfl;generalize hρ : (x.num * ((r.den / g : Nat) : Int) + r.num * ((x.den / g : Nat) : Int)).natAbs.gcd g = ρ at e2 e3 e4;have hρg : ρ ∣ g := by rw [<- hρ]; exact Nat.gcd_dvd_right _ _
 have hgr : g ∣ r.den := by rw [<- hg]; exact Nat.gcd_dvd_right _ _
 have d1 : x.den / g ∣ (x + r).den := by rw [e2]; exact Nat.dvd_mul_right _ _
 have d2 : r.den / g ∣ (x + r).den := by
  rw [e2];refine Nat.dvd_trans ?_ (Nat.dvd_mul_left _ _);obtain ⟨v, hv⟩ := hρg;obtain ⟨u, hu⟩ := hgr;have hg0 : 0 < g := by rw [<- hg]; exact Nat.gcd_pos_of_pos_left _ x.den_pos
  rw [hu, Nat.mul_div_cancel_left _ hg0, hv, Nat.mul_assoc, Nat.mul_div_cancel_left _ (Nat.pos_of_ne_zero e4)];exact Nat.dvd_mul_left _ _
 have l1 := Nat.le_trans (Nat.le_of_dvd (x + r).den_pos d1) hs.den;have l2 := Nat.le_trans (Nat.le_of_dvd (x + r).den_pos d2) hs.den;refine ⟨?_, ?_, Nat.lt_of_le_of_lt hs.den (by decide +kernel)⟩
 ·rw [hg, <- Int.natCast_ediv, Int.natAbs_mul, Int.natAbs_natCast]
  exact Nat.lt_of_le_of_lt (Nat.mul_le_mul hx.num l2) (by decide +kernel)
 ·rw [hg, <- Int.natCast_ediv, Int.natAbs_mul, Int.natAbs_natCast]
  exact Nat.lt_of_le_of_lt (Nat.mul_le_mul (Nat.le_of_lt hr.1) l1) (by decide +kernel)
theorem div_parts {a b Q R : List Rat} {o : Nat} (h : IsDiv a b Q R o) (ha : Bnd a B120 B120) (hR : ∀ r ∈ R, Sml r) : ∀ i, AddOK (atP (prodQ Q b) i) (atP R i) := fun i => by
 refine add_ok ?_ ?_
 ·rw [prodQ_at, <- h.eq]
  exact ha.at_ (by decide +kernel) i
 ·by_cases hi : i < R.length
  ·rw [atP_lt hi]; exact hR _ (List.getElem_mem hi)
  ·rw [atP_ge (by omega)]; exact Sml.zero
theorem div_back {a b Q R : List Rat} {o : Nat} (h : IsDiv a b Q R o) : trimP (sumP (prodQ Q b) R) = trimP a := trimP_ext fun s => by rw [atP_sumP, prodQ_at, <- h.eq]
theorem IsDiv.trim {a b Q R : List Rat} {o : Nat} (h : IsDiv a b Q R o) : IsDiv (trimP a) (trimP b) Q R o := by
 refine ⟨fun s => ?_, h.len, h.nq, h.nr⟩;rw [atP_trimP, h.eq s]
 congr 1
 refine qsum_congr _ (fun i _ => ?_);unfold termQ;rw [atP_trimP]
end
section
open Go.RowKit
def RetDMQ (a b : List Rat) (o : Nat) (w : World) (e : Ending) (w' : World) : Prop :=
 ∃ (Q R : List Rat) (A : Option Addr) (n c : Nat) (B : Option Addr) (m d : Nat), e = .returned (.tuple #[.slice A n c, .slice B m d, .int .i64 0]) /\ Pol w' A n c Q 106 /\ Pol w' B m d R 106 /\ IsDiv a b Q R o /\ (∀ r ∈ R, Sml r) /\ SizeP Q 106 /\ Q.length <= 8 /\ Ext w w'
theorem p_DivModQ {w : World} {A B : Option Addr} {n c m d o : Nat} {qs ps : List Rat} (h : Pol w A n c qs 4) (h' : Pol w B m d ps 4) (hq : Bnd qs B120 B120) (hp : Bnd ps B120 B120) (hn : n <= 8) (hm : m <= 8) (ho : (trimP ps).length = o + 1) (hT : Tab w) :
  Calls Tryz.prog 33 #[.slice A n c, .slice B m d] w (RetDMQ (trimP qs) (trimP ps) o w) := by
 have lq : qs.length <= 8 := by rw [h.len]; exact hn
 have lp : ps.length <= 8 := by rw [h'.len]; exact hm
 have lq' := trimP_len qs;have lp' := trimP_len ps;have hxl : (trimI (numsP qs)).length <= 8 := by rw [numsP_trim, numsP_len]; omega
 have hyl : (trimI (numsP ps)).length = o + 1 := by rw [numsP_trim, numsP_len]; exact ho
 have hl0 : (trimI (numsP ps)).getLastD 0 ≠ 0 := by
  rw [numsP_trim];exact numsP_getLast (trimP_idem ps) (fun e => by rw [e] at ho; simp at ho)
 have hD := divB_few (N := (trimI (numsP qs)).length - o) (hq.few lq) (hp.few lp) rfl rfl hyl (by omega) rfl rfl;have hdv := (prog_div (qs := qs) (ps := ps) (N := (trimI (numsP qs)).length - o) rfl rfl hyl rfl rfl rfl hl0).trim;refine (p_DivModP h h' (by omega) (by omega) (by omega) (by omega) (hq.few lq) (hp.few lp) (by omega) (by omega) rfl rfl hyl rfl rfl rfl hl0 hD (by omega) (by omega) (by omega) hT).mono ?_;obtain ⟨h1, h2, h3, h4⟩ := div_small hdv (trimP_idem qs) (trimP_idem ps) hq.trim hp.trim (by omega) ho (by omega);rintro e V ⟨A1, n1, c1, B1, m1, d1, rfl, k1, k2, ext⟩;exact ⟨_, _, A1, n1, c1, B1, m1, d1, rfl, k1.tightV h1, k2.tightV h2, hdv, h2, h3, h4, ext⟩
end
section
open Go.RowKit
attribute [local go_sem ↓] Go.wp_at_zero Go.wp_at_succ
theorem prodQ_trimR (qs ps : List Rat) : prodQ qs ps = prodQ qs (trimP ps) := by
 rw [<- prodQ_trim qs ps, <- prodQ_trim qs (trimP ps)];refine trimP_ext (fun s => ?_);rw [prodQ_at, prodQ_at];refine qsum_congr _ (fun i _ => ?_);unfold termQ;rw [atP_trimP]
set_option maxRecDepth 100000 in
theorem dm4_no0 {w : World} {Aa : Option Addr} {na ca : Nat} {rs : List RawR} {Ab : Option Addr} {nb cb : Nat} {ss : List RawR} (hA : Awake4) (hT : Tab w) (h0 : RawP w Aa na ca rs) (h1 : RawP w Ab nb cb ss) (hf0 : (smallB rs 8 && smallB ss 8) = false) :
  Calls Tryz.prog 6 #[.slice Aa na ca, .slice Ab nb cb] w fun e w' => e = .returned (.bool true) /\ Ext w w' := by
 have HF0 := Lib.hid hf0;clear hf0;have HA := Lib.hid hA;clear hA
 go_enter Tryz.func6, Tryz.ntmps6
 have extW := Ext.refl w
 go_wp2_with fail
 refine (HA.out _ (hT.ext extW)).mono ?_;rintro e W ⟨rfl, hxt⟩;replace extW := extW.trans hxt;clear hxt;have e1 := (Ext.refl W).alloc (.cells #[.slice Aa na ca, .slice Ab nb cb] 22)
 go_wp2_with fail
 refine (few2_P (Box.new _ _ _) (h0.ext (extW.trans e1)) (h1.ext (extW.trans e1))).mono ?_;rintro e W1 ⟨rfl, hxt⟩;rw [HF0.out];replace extW := extW.trans (e1.trans hxt);clear e1 hxt
 go_wp2_with fail
 go_ret
 exact ⟨rfl, extW⟩
set_option maxRecDepth 100000 in
theorem dm4_zero {w : World} {Aa : Option Addr} {na ca : Nat} {rs : List RawR} {Ab : Option Addr} {nb cb : Nat} {ss : List RawR} (hA : Awake4) (hT : Tab w) (h0 : RawP w Aa na ca rs) (h1 : RawP w Ab nb cb ss) (hf0 : (smallB rs 8 && smallB ss 8) = true) (hb : trimP (ss.map RawR.q) = []) :
  Calls Tryz.prog 6 #[.slice Aa na ca, .slice Ab nb cb] w fun e w' => e = .returned (.bool true) /\ Ext w w' := by
 have hf' := hf0;simp only [smallB, Bool.and_eq_true, decide_eq_true_eq] at hf';obtain ⟨⟨l0, f0⟩, l1, f1⟩ := hf';have p0 := h0.pol f0;have m0 : (rs.map RawR.q).length <= 8 := by rw [List.length_map]; exact l0
 have b0 := h0.bnd f0;generalize rs.map RawR.q = qa at p0 m0 b0;have n0 : na <= 8 := by rw [<- p0.len]; exact m0
 clear l0 f0;have p1 := h1.pol f1;have m1 : (ss.map RawR.q).length <= 8 := by rw [List.length_map]; exact l1
 have b1 := h1.bnd f1;generalize ss.map RawR.q = qb at p1 m1 b1 hb;have HB0 := Lib.hid hb;clear hb;have n1 : nb <= 8 := by rw [<- p1.len]; exact m1
 clear l1 f1;have HF0 := Lib.hid hf0;have HA := Lib.hid hA;clear hA
 go_enter Tryz.func6, Tryz.ntmps6
 have extW := Ext.refl w
 go_wp2_with fail
 refine (HA.out _ (hT.ext extW)).mono ?_;rintro e W ⟨rfl, hxt⟩;replace extW := extW.trans hxt;clear hxt;have e1 := (Ext.refl W).alloc (.cells #[.slice Aa na ca, .slice Ab nb cb] 22)
 go_wp2_with fail
 refine (few2_P (Box.new _ _ _) (h0.ext (extW.trans e1)) (h1.ext (extW.trans e1))).mono ?_;rintro e W1 ⟨rfl, hxt⟩;rw [HF0.out];replace extW := extW.trans (e1.trans hxt);clear e1 hxt;replace p0 := p0.ext extW;replace p1 := p1.ext extW;have HZ := Lib.hid (show trimI (numsP qb) = [] by rw [numsP_trim, HB0.out]; rfl);have HB := Lib.hid (show ((trimP qb).length : Int) - 1 = -1 by rw [HB0.out]; rfl);have E0 := Ext.refl W1
 go_wp2_with fail
 refine (own_P (p0.ext E0) (by omega)).mono ?_;rintro e wk0 ⟨A46_, n46_, c46_, rfl, o1, hx0⟩;have E1 := E0.trans hx0;clear E0 hx0;have u46 : n46_ <= 8 := by rw [<- o1.len]; exact m0
 go_wp2_with fail
 refine (own_P (p1.ext E1) (by omega)).mono ?_;rintro e wk1 ⟨A47_, n47_, c47_, rfl, o2, hx1⟩;replace o1 := o1.ext hx1;have E2 := E1.trans hx1;clear E1 hx1;have u47 : n47_ <= 8 := by rw [<- o2.len]; exact m1
 go_wp2_with fail
 refine (p_DivModZ o1 o2 (by omega) (by omega) (by omega) (by omega) HZ.out (hT.ext (extW.trans E2))).mono ?_;rintro e wk2 ⟨A1, n1, c1, B1, m1, d1, rfl, k1, k2, hx2⟩;clear o1 o2;have E3 := E2.trans hx2;clear E2 hx2;have z1 : n1 = 0 := k1.len.symm;have z2 : m1 = 0 := k2.len.symm;subst z1 z2;clear k1 k2
 go_wp2_with fail
 refine (q_DegreeP (p1.ext E3) (by omega) (by omega)).mono ?_;rintro e wk3 ⟨rfl, hx3⟩;have E4 := E3.trans hx3;clear E3 hx3;rw [HB.out]
 go_wp2_with fail
 go_ret
 exact ⟨rfl, extW.trans E4⟩
set_option maxRecDepth 100000 in
theorem dm4_nz {w : World} {o : Nat} {Aa : Option Addr} {na ca : Nat} {rs : List RawR} {Ab : Option Addr} {nb cb : Nat} {ss : List RawR} (hA : Awake4) (hT : Tab w) (h0 : RawP w Aa na ca rs) (h1 : RawP w Ab nb cb ss) (hf0 : (smallB rs 8 && smallB ss 8) = true) (hb : (trimP (ss.map RawR.q)).length = o + 1) :
  Calls Tryz.prog 6 #[.slice Aa na ca, .slice Ab nb cb] w fun e w' => e = .returned (.bool true) /\ Ext w w' := by
 have hf' := hf0;simp only [smallB, Bool.and_eq_true, decide_eq_true_eq] at hf';obtain ⟨⟨l0, f0⟩, l1, f1⟩ := hf';have p0 := h0.pol f0;have m0 : (rs.map RawR.q).length <= 8 := by rw [List.length_map]; exact l0
 have b0 := h0.bnd f0;generalize rs.map RawR.q = qa at p0 m0 b0;have n0 : na <= 8 := by rw [<- p0.len]; exact m0
 clear l0 f0;have p1 := h1.pol f1;have m1 : (ss.map RawR.q).length <= 8 := by rw [List.length_map]; exact l1
 have b1 := h1.bnd f1;generalize ss.map RawR.q = qb at p1 m1 b1 hb;have HB0 := Lib.hid hb;clear hb;have n1 : nb <= 8 := by rw [<- p1.len]; exact m1
 clear l1 f1;have HF0 := Lib.hid hf0;have HA := Lib.hid hA;clear hA
 go_enter Tryz.func6, Tryz.ntmps6
 have extW := Ext.refl w
 go_wp2_with fail
 refine (HA.out _ (hT.ext extW)).mono ?_;rintro e W ⟨rfl, hxt⟩;replace extW := extW.trans hxt;clear hxt;have e1 := (Ext.refl W).alloc (.cells #[.slice Aa na ca, .slice Ab nb cb] 22)
 go_wp2_with fail
 refine (few2_P (Box.new _ _ _) (h0.ext (extW.trans e1)) (h1.ext (extW.trans e1))).mono ?_;rintro e W1 ⟨rfl, hxt⟩;rw [HF0.out];replace extW := extW.trans (e1.trans hxt);clear e1 hxt;replace p0 := p0.ext extW;replace p1 := p1.ext extW;have HO := HB0;have ho8 : o < 8 := by have := trimP_len qb; have := HB0.out; omega
 have HB := Lib.hid (show ((trimP qb).length : Int) - 1 = (o : Int) by have := HB0.out; omega);have ho0 : ¬ (o : Int) < 0 := by omega
 have S1 : SizeP qb 30 := b1.few m1;have E0 := Ext.refl W1
 go_wp2_with fail
 refine (own_P (p0.ext E0) (by omega)).mono ?_;rintro e wk0 ⟨A48_, n48_, c48_, rfl, o1, hx0⟩;have E1 := E0.trans hx0;clear E0 hx0;have u48 : n48_ <= 8 := by rw [<- o1.len]; exact m0
 go_wp2_with fail
 refine (own_P (p1.ext E1) (by omega)).mono ?_;rintro e wk1 ⟨A49_, n49_, c49_, rfl, o2, hx1⟩;replace o1 := o1.ext hx1;have E2 := E1.trans hx1;clear E1 hx1;have u49 : n49_ <= 8 := by rw [<- o2.len]; exact m1
 go_wp2_with fail
 refine (p_DivModQ o1 o2 b0 b1 (by omega) (by omega) HO.out (hT.ext (extW.trans E2))).mono ?_;rintro e wk2 ⟨Q, R, Aq, nq, cq, Ar, nr, cr, rfl, xq, xr, hdv, hsm, hsz, hql, hx2⟩;clear o1 o2;have E3 := E2.trans hx2;clear E2 hx2;have uq : nq <= 8 := by rw [<- xq.len]; exact hql
 have ur : nr <= 8 := by rw [<- xr.len]; have := hdv.len; omega
 have tq : (prodQ Q qb).length <= 16 := by have := prodQ_len Q qb; omega
 have ts : (trimP (sumP (prodQ Q qb) R)).length <= 16 := by have := trimP_len (sumP (prodQ Q qb) R); have := hdv.len; rw [sumP_len] at *; omega
 obtain ⟨D, hDD⟩ : ∃ D, ((trimP R).length : Int) - 1 = D := ⟨_, rfl⟩;have hDo : D < (o : Int) := by rw [hdv.nr] at hDD; have := hdv.len; omega
 have HDR := Lib.hid hDD;have HP := Lib.hid (show prodQ Q qb = prodQ Q (trimP qb) from prodQ_trimR Q qb);have HAD := Lib.hid (show ∀ i, AddOK (atP (prodQ Q qb) i) (atP R i) by rw [HP.out]; exact div_parts hdv b0.trim hsm);have HBK := Lib.hid (show trimP (sumP (prodQ Q qb) R) = trimP qa by rw [HP.out, div_back hdv, trimP_idem]);have HC := Lib.hid (show denP Q < 4294967296 ^ 126 /\ ∀ z ∈ numsP Q, z.natAbs < 4294967296 ^ 126 from ⟨Nat.lt_of_lt_of_le hsz.den (pow_le_w (by omega)), fun z hz => Nat.lt_of_lt_of_le (hsz.num z hz) (pow_le_w (by omega))⟩);have HDV := Lib.hid hdv;clear hdv hDD hsm hql
 go_wp2_with fail
 refine (q_DegreeP (p1.ext E3) (by omega) (by omega)).mono ?_;rintro e wk3 ⟨rfl, hx3⟩;replace xq := xq.ext hx3;replace xr := xr.ext hx3;have E4 := E3.trans hx3;clear E3 hx3;rw [HB.out]
 go_wp2_with fail
 refine (q_DivModR (p0.ext E4) (p1.ext E4) b0 b1 (by omega) (by omega) HO.out).mono ?_;rintro e wk4 ⟨Q2, R2, Ay, ny, cy, Az, nz, cz, rfl, yq, yr, hdv2, _, _, hyl, hx4⟩;replace xq := xq.ext hx4;replace xr := xr.ext hx4;have E5 := E4.trans hx4;clear E4 hx4;obtain ⟨eQ, eR⟩ := hdv2.unique HDV.out HO.out (last_ne (trimP_idem qb) HO.out);rw [eQ] at yq;rw [eR] at yr;have uy : ny <= 8 := by rw [<- yq.len, <- eQ]; exact hyl
 have uz : nz <= 8 := by rw [<- yr.len, xr.len]; exact ur
 clear eQ eR hdv2 hyl
 go_wp2_with fail
 refine (good_same xq yq rfl (by omega) (by omega) (by omega) (by omega) (by omega)).mono ?_;rintro e wk5 ⟨rfl, hx5⟩;clear yq;replace xq := xq.ext hx5;replace xr := xr.ext hx5;replace yr := yr.ext hx5;have E6 := E5.trans hx5;clear E5 hx5
 go_wp2_with fail
 refine (good_same xr yr rfl (by omega) (by omega) (by omega) (by omega) (by omega)).mono ?_;rintro e wk6 ⟨rfl, hx6⟩;clear yr;replace xq := xq.ext hx6;replace xr := xr.ext hx6;have E7 := E6.trans hx6;clear E6 hx6
 go_wp2_with fail
 refine (own_P (p1.ext E7) (by omega)).mono ?_;rintro e wk7 ⟨A50_, n50_, c50_, rfl, o3, hx7⟩;replace xq := xq.ext hx7;replace xr := xr.ext hx7;have E8 := E7.trans hx7;clear E7 hx7;have u50 : n50_ <= 8 := by rw [<- o3.len]; exact m1
 go_wp2_with fail
 refine (p_MulQV xq o3 (by omega) (by omega) (by omega) (by omega) (by omega) (Lib.hid (.inr HC.out)) hsz S1 (by omega) (by omega) (by omega) (hT.ext (extW.trans E8))).mono ?_;rintro e wk8 ⟨A51_, n51_, c51_, rfl, z1, hx8⟩;clear xq o3;replace xr := xr.ext hx8;have E9 := E8.trans hx8;clear E8 hx8;have u51 : n51_ <= 16 := by rw [<- z1.len]; exact tq
 go_wp2_with fail
 refine (p_AddPV z1 xr (by omega) (by omega) (Lib.hid (.inr (.inr HAD.out))) (by omega) (by omega) (hT.ext (extW.trans E9))).mono ?_;rintro e wk9 ⟨A52_, n52_, c52_, rfl, s1, hx9⟩;clear z1;replace xr := xr.ext hx9;have E10 := E9.trans hx9;clear E9 hx9;have u52 : n52_ <= 16 := by rw [<- s1.len]; exact ts
 go_wp2_with fail
 refine (q_TrimP (p0.ext E10) (by omega) (by omega)).mono ?_;rintro e wk10 ⟨A53_, n53_, c53_, rfl, t1, hx10⟩;replace xr := xr.ext hx10;replace s1 := s1.ext hx10;have E11 := E10.trans hx10;clear E10 hx10;have u53 : n53_ <= 8 := by rw [<- t1.len]; exact Nat.le_trans (trimP_len qa) m0
 go_wp2_with fail
 refine (good_same s1 t1 HBK.out (by omega) (by omega) (by omega) (by omega) (by omega)).mono ?_;rintro e wk11 ⟨rfl, hx11⟩;clear s1 t1;replace xr := xr.ext hx11;have E12 := E11.trans hx11;clear E11 hx11
 go_wp2_with fail
 refine (q_DegreeP xr (by omega) (by omega)).mono ?_;rintro e wk12 ⟨rfl, hx12⟩;clear xr;have E13 := E12.trans hx12;clear E12 hx12;rw [HDR.out]
 go_wp2_with fail
 refine (q_DegreeP (p1.ext E13) (by omega) (by omega)).mono ?_;rintro e wk13 ⟨rfl, hx13⟩;have E14 := E13.trans hx13;clear E13 hx13;rw [HB.out]
 go_wp2_with fail
 go_ret
 exact ⟨rfl, extW.trans E14⟩
theorem dm4_any {w : World} {Aa : Option Addr} {na ca : Nat} {rs : List RawR} {Ab : Option Addr} {nb cb : Nat} {ss : List RawR} (hA : Awake4) (hT : Tab w) (h0 : RawP w Aa na ca rs) (h1 : RawP w Ab nb cb ss) :
  Calls Tryz.prog 6 #[.slice Aa na ca, .slice Ab nb cb] w fun e w' => e = .returned (.bool true) /\ Ext w w' := by
 by_cases hf : (smallB rs 8 && smallB ss 8) = true
 ·rcases hb : trimP (ss.map RawR.q) with _ | ⟨q, l⟩
  ·exact dm4_zero hA hT h0 h1 hf hb
  ·exact dm4_nz (o := l.length) hA hT h0 h1 hf (by rw [hb]; rfl)
 ·exact dm4_no0 hA hT h0 h1 (Bool.eq_false_iff.2 hf)
set_option maxRecDepth 100000 in
theorem awake4 : Awake4 := by
 intro w hT
 go_enter Tryz.func9, Tryz.ntmps9
 have ext := Ext.refl w
 go_wp2_with fail
 refine (rats0 (Box.new _ _ _)).mono ?_;rintro e W1 ⟨Aa0, na0, ca0, rfl, a0, x1⟩;have y1 := ((Ext.refl w).alloc _).trans x1;replace hT := hT.ext y1;replace ext := ext.trans y1;have hna0 : na0 = 3 := a0.len.symm;subst hna0;clear y1;clear x1
 go_wp2_with fail
 refine (rats1 (Box.new _ _ _)).mono ?_;rintro e W2 ⟨Aa1, na1, ca1, rfl, a1, x2⟩;have y2 := ((Ext.refl W1).alloc _).trans x2;replace a0 := a0.ext y2;replace hT := hT.ext y2;replace ext := ext.trans y2;have hna1 : na1 = 2 := a1.len.symm;subst hna1;clear y2;clear x2
 go_wp2_with fail
 refine (dm_call a0 a1 hT).mono ?_;rintro e W3 ⟨Aq, nq, cq, Ar, nr, cr, rfl, hq, hr, x3⟩;replace a0 := a0.ext x3;replace a1 := a1.ext x3;replace hT := hT.ext x3;replace ext := ext.trans x3;have hnq : nq = 2 := hq.len.symm;subst hnq;have hnr : nr = 0 := hr.len.symm;subst hnr;clear hr;clear x3;clear a0;clear a1
 go_wp2_with fail
 refine (rats2 (Box.new _ _ _)).mono ?_;rintro e W4 ⟨Aa2, na2, ca2, rfl, a2, x4⟩;have y4 := ((Ext.refl W3).alloc _).trans x4;replace hq := hq.ext y4;replace hT := hT.ext y4;replace ext := ext.trans y4;have hna2 : na2 = 4 := a2.len.symm;subst hna2;clear y4;clear x4
 go_wp2_with fail
 refine (p_Squarefree_ex a2 (by omega) hT).mono ?_;rintro e W5 ⟨As, ns, cs, rfl, hs, x5⟩;replace hq := hq.ext x5;replace a2 := a2.ext x5;replace hT := hT.ext x5;replace ext := ext.trans x5;have hns : ns = 3 := hs.len.symm;subst hns;clear x5;clear a2
 go_wp2_with fail
 refine (rats3 (Box.new _ _ _)).mono ?_;rintro e W6 ⟨Aa3, na3, ca3, rfl, a3, x6⟩;have y6 := ((Ext.refl W5).alloc _).trans x6;replace hq := hq.ext y6;replace hs := hs.ext y6;replace hT := hT.ext y6;replace ext := ext.trans y6;have hna3 : na3 = 2 := a3.len.symm;subst hna3;clear y6;clear x6
 go_wp2_with fail
 refine (pr_call1 a3 hT).mono ?_;rintro e W7 ⟨Ap, np, cp, rfl, hp, x7⟩;replace hq := hq.ext x7;replace hs := hs.ext x7;replace a3 := a3.ext x7;replace hT := hT.ext x7;replace ext := ext.trans x7;have hnp : np = 2 := hp.len.symm;subst hnp;clear x7;clear a3
 go_wp2_with fail
 refine (rats4 (Box.new _ _ _)).mono ?_;rintro e W8 ⟨Aa4, na4, ca4, rfl, a4, x8⟩;have y8 := ((Ext.refl W7).alloc _).trans x8;replace hq := hq.ext y8;replace hs := hs.ext y8;replace hp := hp.ext y8;replace hT := hT.ext y8;replace ext := ext.trans y8;have hna4 : na4 = 2 := a4.len.symm;subst hna4;clear y8;clear x8
 go_wp2_with fail
 refine (pr_call2 a4 hT).mono ?_;rintro e W9 ⟨Ai, ni, ci, rfl, hi, x9⟩;replace hq := hq.ext x9;replace hs := hs.ext x9;replace hp := hp.ext x9;replace a4 := a4.ext x9;replace hT := hT.ext x9;replace ext := ext.trans x9;have hni : ni = 2 := hi.len.symm;subst hni;clear x9;clear a4
 go_wp2_with fail
 refine (rats5 (Box.new _ _ _)).mono ?_;rintro e W10 ⟨Aa5, na5, ca5, rfl, a5, x10⟩;have y10 := ((Ext.refl W9).alloc _).trans x10;replace hq := hq.ext y10;replace hs := hs.ext y10;replace hp := hp.ext y10;replace hi := hi.ext y10;replace hT := hT.ext y10;replace ext := ext.trans y10;have hna5 : na5 = 3 := a5.len.symm;subst hna5;clear y10;clear x10
 go_wp2_with fail
 refine (bo_call a5 hT).mono ?_;rintro e W11 ⟨sb, Ab, nb, cb, tb, Bb, mb, db, rfl, hb, x11⟩;replace hq := hq.ext x11;replace hs := hs.ext x11;replace hp := hp.ext x11;replace hi := hi.ext x11;replace a5 := a5.ext x11;replace hT := hT.ext x11;replace ext := ext.trans x11;clear x11;clear a5
 go_upto_region 6 with (fail)
 obtain ⟨W12, hW12, xb, b7, hzb⟩ := box1 W11 27 #[.bool sb, .slice Ab nb cb, .bool tb, .slice Bb mb db];rw [<- hW12];clear hW12 hzb;replace hq := hq.ext xb;replace hs := hs.ext xb;replace hp := hp.ext xb;replace hi := hi.ext xb;replace hb := hb.ext xb;replace hT := hT.ext xb;replace ext := ext.trans xb;clear xb;generalize W11.heap.size = g7 at b7 ⊢
 go_wp2_with fail
 refine (rats6 (Box.new _ _ _)).mono ?_;rintro e W13 ⟨Aa6, na6, ca6, rfl, a6, x13⟩;have y13 := ((Ext.refl W12).alloc _).trans x13;replace hq := hq.ext y13;replace hs := hs.ext y13;replace hp := hp.ext y13;replace hi := hi.ext y13;replace hb := hb.ext y13;replace b7 := b7.ext y13;replace hT := hT.ext y13;replace ext := ext.trans y13;have hna6 : na6 = 3 := a6.len.symm;subst hna6;clear y13;clear x13
 go_wp2_with fail
 refine (rats7 (Box.new _ _ _)).mono ?_;rintro e W14 ⟨Aa7, na7, ca7, rfl, a7, x14⟩;have y14 := ((Ext.refl W13).alloc _).trans x14;replace hq := hq.ext y14;replace hs := hs.ext y14;replace hp := hp.ext y14;replace hi := hi.ext y14;replace hb := hb.ext y14;replace b7 := b7.ext y14;replace a6 := a6.ext y14;replace hT := hT.ext y14;replace ext := ext.trans y14;have hna7 : na7 = 2 := a7.len.symm;subst hna7;clear y14;clear x14
 go_wp2_with fail
 refine (co_call a6 a7 hT).mono ?_;rintro e W15 ⟨Ac, nc, cc, rfl, hc, x15⟩;replace hq := hq.ext x15;replace hs := hs.ext x15;replace hp := hp.ext x15;replace hi := hi.ext x15;replace hb := hb.ext x15;replace b7 := b7.ext x15;replace a6 := a6.ext x15;replace a7 := a7.ext x15;replace hT := hT.ext x15;replace ext := ext.trans x15;have hnc : nc = 3 := hc.len.symm;subst hnc;clear x15;clear a6;clear a7
 go_upto_region 7 with (fail)
 have ES0 := Ext.refl W15;refine wp_region_held_drew (S := Ext W15) (by kernel_rfl) ES0.drew (fun ES => ?_);clear ES0;refine Late.s0 ES (fun hAl hQ => ?_);replace hq := hq.ext ES;replace hs := hs.ext ES;replace hp := hp.ext ES;replace hi := hi.ext ES;replace hb := hb.ext ES;replace hc := hc.ext ES;refine Late.t 0 56 ?v_0 hQ ?y_0 ?_
 case y_0 => intro w' hSw;go_simp;try rfl
 try simp only [zP]
 refine Late.t 1 57 ?v_1 hQ ?y_1 ?_
 case y_1 => intro w' hSw;go_simp;try rfl
 try simp only [zP]
 refine Late.t 2 58 ?v_2 hQ ?y_2 ?_
 case y_2 => intro w' hSw;go_simp;try rfl
 try simp only [zP]
 refine Late.t 3 59 ?v_3 hQ ?y_3 ?_
 case y_3 => intro w' hSw;go_simp;try rfl
 try simp only [zP]
 refine Late.t 4 60 ?v_4 hQ ?y_4 ?_
 case y_4 => intro w' hSw;go_simp;try rfl
 try simp only [zP]
 refine Late.t 5 61 ?v_5 hQ ?y_5 ?_
 case y_5 => intro w' hSw;go_simp;try rfl
 try simp only [zP]
 refine Late.cl (i := 6) rfl hAl hQ (fun w6 e6 E6 K hK => ?_);go_simp;replace hq := hq.ext e6;replace hs := hs.ext e6;replace hp := hp.ext e6;replace hi := hi.ext e6;replace hb := hb.ext e6;replace hc := hc.ext e6;have y6 := (Ext.refl w6).alloc (.cells #[.int .i64 (-1), .int .i64 (2), .int .i64 (1), .int .i64 (2)] 53);have bx := Box.new w6 53 #[.int .i64 (-1), .int .i64 (2), .int .i64 (1), .int .i64 (2)];replace hq := hq.ext y6;replace hs := hs.ext y6;replace hp := hp.ext y6;replace hi := hi.ext y6;replace hb := hb.ext y6;replace hc := hc.ext y6;obtain ⟨g6, hg6⟩ : ∃ g, w6.heap.size = g := ⟨_, rfl⟩;rw [hg6] at bx ⊢;clear hg6;refine hK.out _ _ y6 ?_;clear hK K
 try simp only [zP]
 refine Late.cl (i := 7) rfl hAl hQ (fun w7 e7 E7 K hK => ?_);go_simp
 (replace hq := hq.ext e7; replace hs := hs.ext e7; replace hp := hp.ext e7; replace hi := hi.ext e7; replace hb := hb.ext e7; replace hc := hc.ext e7; replace bx := bx.ext e7; go_at_call 43; refine (rats8 bx).mono ?_; rintro e wk7 ⟨Aq8, nq8, cq8, rfl, q8, hx7⟩; replace hq := hq.ext hx7; replace hs := hs.ext hx7; replace hp := hp.ext hx7; replace hi := hi.ext hx7; replace hb := hb.ext hx7; replace hc := hc.ext hx7; have hnq8 : nq8 = 2 := q8.len.symm; subst hnq8)
 refine hK.out _ _ hx7 ?_;clear hK K
 try simp only [zP]
 refine Late.cl (i := 8) rfl hAl hQ (fun w8 e8 E8 K hK => ?_);go_simp
 (replace hq := hq.ext e8; replace hs := hs.ext e8; replace hp := hp.ext e8; replace hi := hi.ext e8; replace hb := hb.ext e8; replace hc := hc.ext e8; replace q8 := q8.ext e8; go_at_call 45; refine (eq_call hq q8 rfl (by omega) (by omega) (by omega) (by omega) (by omega)).mono ?_; rintro e wk8 ⟨rfl, hx8⟩; replace hq := hq.ext hx8; replace hs := hs.ext hx8; replace hp := hp.ext hx8; replace hi := hi.ext hx8; replace hb := hb.ext hx8; replace hc := hc.ext hx8; replace q8 := q8.ext hx8)
 refine hK.out _ _ hx8 ?_;clear hK K
 try simp only [zP]
 refine Late.t 9 65 ?v_6 hQ ?y_6 ?_
 case y_6 => intro w' hSw;go_simp;try rfl
 try simp only [zP]
 refine Late.t 10 66 ?v_7 hQ ?y_7 ?_
 case y_7 => intro w' hSw;go_simp;try rfl
 try simp only [zP]
 refine Late.t 11 67 ?v_8 hQ ?y_8 ?_
 case y_8 => intro w' hSw;go_simp;try rfl
 try simp only [zP]
 refine Late.t 12 68 ?v_9 hQ ?y_9 ?_
 case y_9 => intro w' hSw;go_simp;try rfl
 try simp only [zP]
 refine Late.t 13 69 ?v_a hQ ?y_a ?_
 case y_a => intro w' hSw;go_simp;try rfl
 try simp only [zP]
 refine Late.t 14 70 ?v_b hQ ?y_b ?_
 case y_b => intro w' hSw;go_simp;try rfl
 try simp only [zP]
 refine Late.t 15 71 ?v_c hQ ?y_c ?_
 case y_c => intro w' hSw;go_simp;try rfl
 try simp only [zP]
 refine Late.t 16 72 ?v_d hQ ?y_d ?_
 case y_d => intro w' hSw;go_simp;try rfl
 try simp only [zP]
 refine Late.t 17 73 ?v_e hQ ?y_e ?_
 case y_e => intro w' hSw;go_simp;try rfl
 try simp only [zP]
 refine Late.t 18 74 ?v_f hQ ?y_f ?_
 case y_f => intro w' hSw;go_simp;try rfl
 try simp only [zP]
 refine Late.t 19 75 ?v_g hQ ?y_g ?_
 case y_g => intro w' hSw;go_simp;try rfl
 try simp only [zP]
 refine Late.cl (i := 20) rfl hAl hQ (fun w20 e20 E20 K hK => ?_);go_simp;replace hq := hq.ext e20;replace hs := hs.ext e20;replace hp := hp.ext e20;replace hi := hi.ext e20;replace hb := hb.ext e20;replace hc := hc.ext e20;have y20 := (Ext.refl w20).alloc (.cells #[.int .i64 (0), .int .i64 (1), .int .i64 (-1), .int .i64 (1), .int .i64 (1), .int .i64 (1)] 53);have bx := Box.new w20 53 #[.int .i64 (0), .int .i64 (1), .int .i64 (-1), .int .i64 (1), .int .i64 (1), .int .i64 (1)];replace hq := hq.ext y20;replace hs := hs.ext y20;replace hp := hp.ext y20;replace hi := hi.ext y20;replace hb := hb.ext y20;replace hc := hc.ext y20;obtain ⟨g20, hg20⟩ : ∃ g, w20.heap.size = g := ⟨_, rfl⟩;rw [hg20] at bx ⊢;clear hg20;refine hK.out _ _ y20 ?_;clear hK K
 try simp only [zP]
 refine Late.cl (i := 21) rfl hAl hQ (fun w21 e21 E21 K hK => ?_);go_simp
 (replace hq := hq.ext e21; replace hs := hs.ext e21; replace hp := hp.ext e21; replace hi := hi.ext e21; replace hb := hb.ext e21; replace hc := hc.ext e21; replace bx := bx.ext e21; go_at_call 43; refine (rats9 bx).mono ?_; rintro e wk21 ⟨Aq9, nq9, cq9, rfl, q9, hx21⟩; replace hq := hq.ext hx21; replace hs := hs.ext hx21; replace hp := hp.ext hx21; replace hi := hi.ext hx21; replace hb := hb.ext hx21; replace hc := hc.ext hx21; have hnq9 : nq9 = 3 := q9.len.symm; subst hnq9)
 refine hK.out _ _ hx21 ?_;clear hK K
 try simp only [zP]
 refine Late.cl (i := 22) rfl hAl hQ (fun w22 e22 E22 K hK => ?_);go_simp
 (replace hq := hq.ext e22; replace hs := hs.ext e22; replace hp := hp.ext e22; replace hi := hi.ext e22; replace hb := hb.ext e22; replace hc := hc.ext e22; replace q9 := q9.ext e22; go_at_call 45; refine (eq_call hs q9 rfl (by omega) (by omega) (by omega) (by omega) (by omega)).mono ?_; rintro e wk22 ⟨rfl, hx22⟩; replace hq := hq.ext hx22; replace hs := hs.ext hx22; replace hp := hp.ext hx22; replace hi := hi.ext hx22; replace hb := hb.ext hx22; replace hc := hc.ext hx22; replace q9 := q9.ext hx22)
 refine hK.out _ _ hx22 ?_;clear hK K
 try simp only [zP]
 refine Late.t 23 79 ?v_h hQ ?y_h ?_
 case y_h => intro w' hSw;go_simp;try rfl
 try simp only [zP]
 refine Late.t 24 80 ?v_i hQ ?y_i ?_
 case y_i => intro w' hSw;go_simp;try rfl
 try simp only [zP]
 refine Late.t 25 81 ?v_j hQ ?y_j ?_
 case y_j => intro w' hSw;go_simp;try rfl
 try simp only [zP]
 refine Late.cl (i := 26) rfl hAl hQ (fun w26 e26 E26 K hK => ?_);go_simp;replace hq := hq.ext e26;replace hs := hs.ext e26;replace hp := hp.ext e26;replace hi := hi.ext e26;replace hb := hb.ext e26;replace hc := hc.ext e26;have y26 := (Ext.refl w26).alloc (.cells #[.int .i64 (-2), .int .i64 3] 2);have bx := Box.new w26 2 #[.int .i64 (-2), .int .i64 3];replace hq := hq.ext y26;replace hs := hs.ext y26;replace hp := hp.ext y26;replace hi := hi.ext y26;replace hb := hb.ext y26;replace hc := hc.ext y26;obtain ⟨g26, hg26⟩ : ∃ g, w26.heap.size = g := ⟨_, rfl⟩;rw [hg26] at bx ⊢;clear hg26;refine hK.out _ _ y26 ?_;clear hK K
 try simp only [zP]
 refine Late.cl (i := 27) rfl hAl hQ (fun w27 e27 E27 K hK => ?_);go_simp
 (replace hq := hq.ext e27; replace hs := hs.ext e27; replace hp := hp.ext e27; replace hi := hi.ext e27; replace hb := hb.ext e27; replace hc := hc.ext e27; replace bx := bx.ext e27; go_at_call 46; refine (ints_call1 hp bx).mono ?_; rintro e wk27 ⟨rfl, hx27⟩; replace hq := hq.ext hx27; replace hs := hs.ext hx27; replace hp := hp.ext hx27; replace hi := hi.ext hx27; replace hb := hb.ext hx27; replace hc := hc.ext hx27)
 refine hK.out _ _ hx27 ?_;clear hK K
 try simp only [zP]
 refine Late.t 28 84 ?v_k hQ ?y_k ?_
 case y_k => intro w' hSw;go_simp;try rfl
 try simp only [zP]
 refine Late.t 29 85 ?v_l hQ ?y_l ?_
 case y_l => intro w' hSw;go_simp;try rfl
 try simp only [zP]
 refine Late.t 30 86 ?v_m hQ ?y_m ?_
 case y_m => intro w' hSw;go_simp;try rfl
 try simp only [zP]
 refine Late.cl (i := 31) rfl hAl hQ (fun w31 e31 E31 K hK => ?_);go_simp;replace hq := hq.ext e31;replace hs := hs.ext e31;replace hp := hp.ext e31;replace hi := hi.ext e31;replace hb := hb.ext e31;replace hc := hc.ext e31;have y31 := (Ext.refl w31).alloc (.cells #[.int .i64 0, .int .i64 1] 2);have bx := Box.new w31 2 #[.int .i64 0, .int .i64 1];replace hq := hq.ext y31;replace hs := hs.ext y31;replace hp := hp.ext y31;replace hi := hi.ext y31;replace hb := hb.ext y31;replace hc := hc.ext y31;obtain ⟨g31, hg31⟩ : ∃ g, w31.heap.size = g := ⟨_, rfl⟩;rw [hg31] at bx ⊢;clear hg31;refine hK.out _ _ y31 ?_;clear hK K
 try simp only [zP]
 refine Late.cl (i := 32) rfl hAl hQ (fun w32 e32 E32 K hK => ?_);go_simp
 (replace hq := hq.ext e32; replace hs := hs.ext e32; replace hp := hp.ext e32; replace hi := hi.ext e32; replace hb := hb.ext e32; replace hc := hc.ext e32; replace bx := bx.ext e32; go_at_call 46; refine (ints_call2 hi bx).mono ?_; rintro e wk32 ⟨rfl, hx32⟩; replace hq := hq.ext hx32; replace hs := hs.ext hx32; replace hp := hp.ext hx32; replace hi := hi.ext hx32; replace hb := hb.ext hx32; replace hc := hc.ext hx32)
 refine hK.out _ _ hx32 ?_;clear hK K
 try simp only [zP]
 refine Late.t 33 89 ?v_n hQ ?y_n ?_
 case y_n => intro w' hSw;go_simp;try rfl
 try simp only [zP]
 refine Late.t 34 90 ?v_o hQ ?y_o ?_
 case y_o => intro w' hSw;go_simp;try rfl
 try simp only [zP]
 refine Late.t 35 91 ?v_p hQ ?y_p ?_
 case y_p => intro w' hSw;have k0 := (b7.ext hSw).c4;go_simp;try rfl
 try simp only [zP]
 refine Late.cl (i := 36) rfl hAl hQ (fun w36 e36 E36 K hK => ?_);go_simp
 (replace hq := hq.ext e36; replace hs := hs.ext e36; replace hp := hp.ext e36; replace hi := hi.ext e36; replace hb := hb.ext e36; replace hc := hc.ext e36; go_at_call 30; refine (q_ValidN hb (by omega)).mono ?_; rintro e wk36 ⟨rfl, hx36⟩; replace hq := hq.ext hx36; replace hs := hs.ext hx36; replace hp := hp.ext hx36; replace hi := hi.ext hx36; replace hb := hb.ext hx36; replace hc := hc.ext hx36)
 refine hK.out _ _ hx36 ?_;clear hK K
 try simp only [zP]
 refine Late.t 37 93 ?v_q hQ ?y_q ?_
 case y_q => intro w' hSw;go_simp;try rfl
 try simp only [zP]
 refine Late.t 38 94 ?v_r hQ ?y_r ?_
 case y_r => intro w' hSw;go_simp;try rfl
 try simp only [zP]
 refine Late.t 39 95 ?v_s hQ ?y_s ?_
 case y_s => intro w' hSw;have k0 := (b7.ext hSw).c4;go_simp;try rfl
 try simp only [zP]
 refine Late.cl (i := 40) rfl hAl hQ (fun w40 e40 E40 K hK => ?_);go_simp
 (replace hq := hq.ext e40; replace hs := hs.ext e40; replace hp := hp.ext e40; replace hi := hi.ext e40; replace hb := hb.ext e40; replace hc := hc.ext e40; go_at_call 47; refine (q_Frac 5 2 (by omega) (by omega) (by omega) (by omega)).mono ?_; rintro e wk40 ⟨s5, A5, n5, c5, t5, B5, m5, d5, rfl, h5, hx40⟩; replace hq := hq.ext hx40; replace hs := hs.ext hx40; replace hp := hp.ext hx40; replace hi := hi.ext hx40; replace hb := hb.ext hx40; replace hc := hc.ext hx40)
 refine hK.out _ _ hx40 ?_;clear hK K
 try simp only [zP]
 refine Late.cl (i := 41) rfl hAl hQ (fun w41 e41 E41 K hK => ?_);go_simp
 (replace hq := hq.ext e41; replace hs := hs.ext e41; replace hp := hp.ext e41; replace hi := hi.ext e41; replace hb := hb.ext e41; replace hc := hc.ext e41; replace h5 := h5.ext e41; go_at_call 31; refine (cm_call hb h5).mono ?_; rintro e wk41 ⟨rfl, hx41⟩; replace hq := hq.ext hx41; replace hs := hs.ext hx41; replace hp := hp.ext hx41; replace hi := hi.ext hx41; replace hb := hb.ext hx41; replace hc := hc.ext hx41; replace h5 := h5.ext hx41)
 refine hK.out _ _ hx41 ?_;clear hK K
 try simp only [zP]
 refine Late.t 42 98 ?v_t hQ ?y_t ?_
 case y_t => intro w' hSw;go_simp;try rfl
 try simp only [zP]
 refine Late.t 43 99 ?v_u hQ ?y_u ?_
 case y_u => intro w' hSw;go_simp;try rfl
 try simp only [zP]
 refine Late.t 44 100 ?v_v hQ ?y_v ?_
 case y_v => intro w' hSw;go_simp;try rfl
 try simp only [zP]
 refine Late.t 45 101 ?v_w hQ ?y_w ?_
 case y_w => intro w' hSw;go_simp;try rfl
 try simp only [zP]
 refine Late.t 46 102 ?v_x hQ ?y_x ?_
 case y_x => intro w' hSw;go_simp;try rfl
 try simp only [zP]
 refine Late.t 47 103 ?v_y hQ ?y_y ?_
 case y_y => intro w' hSw;go_simp;try rfl
 try simp only [zP]
 refine Late.t 48 104 ?v_z hQ ?y_z ?_
 case y_z => intro w' hSw;go_simp;try rfl
 try simp only [zP]
 refine Late.cl (i := 49) rfl hAl hQ (fun w49 e49 E49 K hK => ?_);go_simp;replace hq := hq.ext e49;replace hs := hs.ext e49;replace hp := hp.ext e49;replace hi := hi.ext e49;replace hb := hb.ext e49;replace hc := hc.ext e49;have y49 := (Ext.refl w49).alloc (.cells #[.int .i64 (1), .int .i64 (1), .int .i64 (2), .int .i64 (1), .int .i64 (1), .int .i64 (1)] 53);have bx := Box.new w49 53 #[.int .i64 (1), .int .i64 (1), .int .i64 (2), .int .i64 (1), .int .i64 (1), .int .i64 (1)];replace hq := hq.ext y49;replace hs := hs.ext y49;replace hp := hp.ext y49;replace hi := hi.ext y49;replace hb := hb.ext y49;replace hc := hc.ext y49;obtain ⟨g49, hg49⟩ : ∃ g, w49.heap.size = g := ⟨_, rfl⟩;rw [hg49] at bx ⊢;clear hg49;refine hK.out _ _ y49 ?_;clear hK K
 try simp only [zP]
 refine Late.cl (i := 50) rfl hAl hQ (fun w50 e50 E50 K hK => ?_);go_simp
 (replace hq := hq.ext e50; replace hs := hs.ext e50; replace hp := hp.ext e50; replace hi := hi.ext e50; replace hb := hb.ext e50; replace hc := hc.ext e50; replace bx := bx.ext e50; go_at_call 43; refine (rats10 bx).mono ?_; rintro e wk50 ⟨Aq10, nq10, cq10, rfl, q10, hx50⟩; replace hq := hq.ext hx50; replace hs := hs.ext hx50; replace hp := hp.ext hx50; replace hi := hi.ext hx50; replace hb := hb.ext hx50; replace hc := hc.ext hx50; have hnq10 : nq10 = 3 := q10.len.symm; subst hnq10)
 refine hK.out _ _ hx50 ?_;clear hK K
 try simp only [zP]
 refine Late.cl (i := 51) rfl hAl hQ (fun w51 e51 E51 K hK => ?_);go_simp
 (replace hq := hq.ext e51; replace hs := hs.ext e51; replace hp := hp.ext e51; replace hi := hi.ext e51; replace hb := hb.ext e51; replace hc := hc.ext e51; replace q10 := q10.ext e51; go_at_call 45; refine (eq_call hc q10 rfl (by omega) (by omega) (by omega) (by omega) (by omega)).mono ?_; rintro e wk51 ⟨rfl, hx51⟩; replace hq := hq.ext hx51; replace hs := hs.ext hx51; replace hp := hp.ext hx51; replace hi := hi.ext hx51; replace hb := hb.ext hx51; replace hc := hc.ext hx51; replace q10 := q10.ext hx51)
 refine hK.out _ _ hx51 ?_;clear hK K
 try simp only [zP]
 refine Late.t 52 108 ?v_10 hQ ?y_10 ?_
 case y_10 => intro w' hSw;go_simp;try rfl
 try simp only [zP]
 refine Late.t 53 0 ?v_11 hQ ?y_11 ?_
 case y_11 => intro w' hSw;go_simp;try rfl
 try simp only [zP]
 refine Late.d0 (fun wz ez Ez => ?_);clear hAl hQ ES
 go_wp2_with fail
 go_ret
 exact ⟨rfl, ext.trans Ez⟩
end
section
open Go.ChangeShapes Go.WideShapes Go.ChangeAt Go.RowKit Go.Joins
theorem Tryz.own : ownKnob Tryz.prog.godebug = none := by kernel_rfl
theorem Tryz.laidOut : laidOutB Tryz.prog = true := by kernel_rfl
theorem Tryz.cellsI : Tryz.prog.cellsOf 25 = 2 := by kernel_rfl
theorem Tryz.cellsW : Tryz.prog.cellsOf 106 = 1 := by kernel_rfl
section
variable {H : Type} {enc : TypeId × Value -> H} {W : World} {base : Nat} {held : Bool}
theorem open_words {m : Nat} {v : Value} {y : DataW H × List MemPlace} (h : DataW.trod enc Tryz.prog W base (fun _ => true) held m 23 [v] = some y) :
  ∃ A n c xs, v = .slice A n c /\ List.length xs = n /\ Rd W A xs /\ n <= c /\ c <= maxLen := by
 rcases open_ints Tryz.underlying23 Tryz.underlying106 Tryz.cellsW h with ⟨hcs, _⟩ | ⟨a, len, cap, zs, hcs, _, hl, hm, hz, _, hcell, hwf⟩
 ·injection hcs with hcs _
  subst hcs;exact ⟨none, 0, 0, [], rfl, rfl, Rd.nil _ _, Nat.le_refl _, Nat.zero_le _⟩
 ·injection hcs with hcs _
  subst hcs;simp only [if_true] at hz
  have hb : ∀ n ∈ zs, 0 <= n /\ n <= 4294967295 := by
   intro n hn;have := hwf n hn;simp [Lit.wf, IntKind.min, IntKind.max, IntKind.bits, IntKind.signed] at this;omega
  refine ⟨some a, len, cap, (zs.take len).map Int.toNat, rfl, by simp; omega, ⟨?_, ?_⟩, hl, hm⟩
  ·intro x hx
   obtain ⟨n, hn, rfl⟩ := List.mem_map.1 hx;have := hb n (List.mem_of_mem_take hn);omega
  ·intro hne
   have hpos : 0 < zs.length := by
    rcases Nat.eq_zero_or_pos zs.length with h0 | h0
    ·exfalso
     apply hne
     have : zs = [] := List.eq_nil_of_length_eq_zero h0;rw [this]; simp
    ·exact h0
   obtain ⟨b, off, spot⟩ := a;have hc0 := hcell 0 hpos
   have hspot : spot = none := by
    cases spot with
    | none => rfl
    | some q => simp [Addr.add, World.cell?] at hc0; split at hc0 <;> simp at hc0
   subst hspot;refine ⟨b, off, rfl, cell_lt (p := ⟨b, off, none⟩) (by simpa [Addr.add] using hc0), fun i hi => ?_⟩;simp only [List.length_map, List.length_take] at hi;have hc := hcell i (by omega);have e1 : (⟨b, off, none⟩ : Addr).add i = ⟨b, off + i, none⟩ := by unfold Addr.add; split <;> simp_all
   rw [e1] at hc;rw [hc];simp only [List.getElem_map, List.getElem_take];have hi2 : i < zs.length := by omega
   have e2 : zs.getD i 0 = zs[i] := by simp [List.getD, hi2]
   rw [e2];have := hb zs[i] (List.getElem_mem hi2)
   congr 2
   omega
end
theorem cellsR : Tryz.prog.cellsOf 27 = 4 := by kernel_rfl
theorem cellsB : Tryz.prog.cellsOf 4 = 1 := by kernel_rfl
theorem cellsS : Tryz.prog.cellsOf 23 = 1 := by kernel_rfl
section
variable {H : Type} {enc : TypeId × Value -> H} {W : World} {base : Nat} {held : Bool}
theorem open_intc {m : Nat} {c0 c1 : Value} {y : DataW H × List MemPlace} (h : DataW.trod enc Tryz.prog W base (fun _ => true) held m 25 [c0, c1] = some y) :
  ∃ s A n c xs, c0 = .bool s /\ c1 = .slice A n c /\ RI W A n c xs := by
 obtain ⟨y0, y1, k, _, _, h0, h1⟩ := trod_struct2 Tryz.underlying25 h;rw [cellsB] at h0;rw [cellsS] at h1;simp only [List.drop_zero, List.drop_succ_cons, List.take_succ_cons, List.take_zero] at h0 h1;obtain ⟨s, e0, _⟩ := DataW.trod_bool Tryz.underlying4 h0
 injection e0 with e0 _
 obtain ⟨A, n, c, xs, rfl, g1, g2, g3, g4⟩ := open_words h1;exact ⟨s, A, n, c, xs, e0, rfl, g1, g2, g3, g4⟩
set_option maxRecDepth 100000 in
theorem open_ratc {m : Nat} {c0 c1 c2 c3 : Value} {y : DataW H × List MemPlace} (h : DataW.trod enc Tryz.prog W base (fun _ => true) held m 27 [c0, c1, c2, c3] = some y) :
  ∃ s A n c t B m d xs ys, c0 = .bool s /\ c1 = .slice A n c /\ c2 = .bool t /\ c3 = .slice B m d /\ RI W A n c xs /\ RI W B m d ys := by
 obtain ⟨y0, y1, k, _, _, h0, h1⟩ := trod_struct2 Tryz.underlying27 h;rw [Tryz.cellsI] at h0 h1;simp only [List.drop_zero, List.drop_succ_cons, List.take_succ_cons, List.take_zero] at h0 h1;obtain ⟨s, A, n, c, xs, rfl, rfl, r1⟩ := open_intc h0;obtain ⟨t, B, m, d, ys, rfl, rfl, r2⟩ := open_intc h1;exact ⟨s, A, n, c, t, B, m, d, xs, ys, rfl, rfl, rfl, rfl, r1, r2⟩
set_option maxRecDepth 100000 in
theorem open_rats {r : Reach} {b0 : Nat} {v : Value} {d : DataW H} {p : List MemPlace} (hv : Value.okWide Tryz.prog W r b0 22 v) (h : DataW.Trod enc Tryz.prog W base (fun _ => true) held 22 v d p) :
  ∃ A n c rs, v = .slice A n c /\ RawP W A n c rs := by
 obtain ⟨A, n, c, rfl⟩ := okWide_slice Tryz.underlying22 hv;obtain ⟨fuel, hf⟩ := h
 rcases Deep.open_slice Tryz.underlying22 hf with ⟨hcs, _⟩ | ⟨a, len, cap, m, k, D, Pl, hcs, _, hl, hm, hmm, _, hx⟩
 ·simp only [Value.cells, List.cons.injEq, Value.slice.injEq, and_true] at hcs
  obtain ⟨rfl, rfl, rfl⟩ := hcs;exact ⟨none, 0, 0, [], rfl, rfl, Nat.le_refl _, Nat.zero_le _, fun h => absurd rfl h⟩
 ·simp only [Value.cells, List.cons.injEq, Value.slice.injEq, and_true] at hcs
  obtain ⟨rfl, rfl, rfl⟩ := hcs;simp only [if_true] at hmm
  have key : ∀ i, i < n -> ∃ r : RawR, RawAt W a.block (a.off + 4 * i) r := by
   intro i hi;obtain ⟨cs', h1, h2⟩ := hx i (by omega);rw [cellsR] at h1;obtain ⟨_, hlen, hc⟩ := World.cells?_some h1
   obtain ⟨c0, c1, c2, c3, rfl⟩ : ∃ c0 c1 c2 c3, cs' = [c0, c1, c2, c3] := by
    rcases cs' with _ | ⟨c0, _ | ⟨c1, _ | ⟨c2, _ | ⟨c3, _ | ⟨c4, l⟩⟩⟩⟩⟩ <;> simp at hlen
    exact ⟨c0, c1, c2, c3, rfl⟩
   obtain ⟨s, A', n', c', t, B', m', d', xs, ys, rfl, rfl, rfl, rfl, r1, r2⟩ := open_ratc h2
   have hs : a.spot = none := by
    cases e : a.spot with
    | none => rfl
    | some q =>
     exfalso
     obtain ⟨cs0, g1, _⟩ := hx 0 (by omega);rw [cellsR] at g1;obtain ⟨_, hlen0, hc0⟩ := World.cells?_some g1;have := hc0 0 (by omega);rw [Nat.zero_mul, Deep.add_add] at this;simp only [Addr.add, Nat.add_zero, if_true] at this;rw [List.getElem?_eq_getElem (by omega)] at this;unfold World.cell? at this;rw [e] at this
     split at this <;> simp at this
   have hadd : ∀ j, j < 4 -> (a.add (i * 4)).add j = ⟨a.block, a.off + 4 * i + j, none⟩ := by
    intro j _;rw [Deep.add_add];unfold Addr.add;obtain ⟨ab, ao, asp⟩ := a;simp only at hs;subst hs
    split
    ·rename_i h0
     have : i * 4 + j = 0 := h0;simp only [Addr.mk.injEq, and_true, true_and];omega
    ·simp only [Addr.mk.injEq, and_true, true_and]
     omega
   have q0 := hc 0 (by omega);have q1 := hc 1 (by omega);have q2 := hc 2 (by omega);have q3 := hc 3 (by omega);rw [hadd _ (by omega)] at q0 q1 q2 q3;exact ⟨⟨s, xs, t, ys⟩, A', n', c', B', m', d', q0, q1, q2, q3, r1, r2⟩
  haveI : Inhabited RawR := ⟨⟨false, [], false, []⟩⟩
  obtain ⟨F, hF⟩ := Deep.choose_lt (n := n) (α := RawR) (p := fun i r => RawAt W a.block (a.off + 4 * i) r) key;refine ⟨some a, n, c, (List.range n).map F, rfl, by simp, hl, hm, fun hne => ?_⟩
  have hpos : 0 < n := by
   rcases Nat.eq_zero_or_pos n with h0 | h0
   ·exact absurd (by rw [h0]; rfl) hne
   ·exact h0
  have hs : a.spot = none := by
   cases e : a.spot with
   | none => rfl
   | some q =>
    exfalso
    obtain ⟨cs0, g1, _⟩ := hx 0 (by omega);rw [cellsR] at g1;obtain ⟨_, hlen0, hc0⟩ := World.cells?_some g1;have := hc0 0 (by omega);rw [Nat.zero_mul, Deep.add_add] at this;simp only [Addr.add, Nat.add_zero, if_true] at this;rw [List.getElem?_eq_getElem (by omega)] at this;unfold World.cell? at this;rw [e] at this
    split at this <;> simp at this
  refine ⟨a.block, a.off, ?_, fun i hi => ?_⟩
  ·obtain ⟨ab, ao, asp⟩ := a
   simp only at hs;subst hs
   rfl
  ·have hi2 : i < n := by simpa using hi
   have := hF i hi2
   simpa using this
end
def laidI : List (String × DataW Unit) := [("math/bits.deBruijn64tab", Rows.laid_math_bits_deBruijn64tab)]
def tabY : List Int := Lib.deBruijn64tab.map fun n : Nat => (n : Int)
theorem tabY_at : ∀ j : Fin 64, tabY.getD j.val 0 = ((Lib.deBruijn64tab.getD j.val 0 : Nat) : Int) := by decide +kernel
theorem laidI_tab : laidI = [("math/bits.deBruijn64tab", Lib.tabData .u8 tabY)] := by kernel_rfl
theorem gTab : Tryz.prog.globalNamed "math/bits.deBruijn64tab" = some 0 := by kernel_rfl
theorem tTab : (Tryz.prog.globals[0]?).map (·.type) = some 177 := by kernel_rfl
theorem tab_of_laid {W : World} (h : laidMet Tryz.prog laidI W) : Tab W := by
 rw [laidI_tab] at h;have hT := Lib.tabIs_of_head gTab tTab Tryz.underlying177 Tryz.underlying5 (by kernel_rfl) (by kernel_rfl) h;intro j hj;have := hT.cell gTab j (by rw [show tabY.length = 64 from by decide +kernel]; exact hj);rw [tabY_at ⟨j, hj⟩] at this;exact this
theorem doorI_met (os : Os) (args : Array Value) : laidMetH Tryz.prog laidI ((World.doorLaid Tryz.prog 400 os).forCall (fun _ _ => 0) ⟨#[], args, []⟩).memory :=
 laidMetH_of_parts3 (fuel := 8) (laidMet_of_run' 8 (by kernel_rfl) (by kernel_rfl)) (by kernel_rfl) (by kernel_rfl)
theorem tab_of_laidH {W : World} (h : laidMetH Tryz.prog laidI W) : Tab W := by
 rw [MakeChecks.laidMetH_plain _ _ _ (by kernel_rfl)] at h;exact tab_of_laid h
set_option maxRecDepth 100000
theorem dm4_lifted (os : Os) (started : os.Started) (H : Type) (enc : TypeId × Value -> H) :
  ReturnsInHanded {} Tryz.checked os 6 .any (fun w args => (Rows.polynomialDivModSpec.pre enc Tryz.prog Tryz.f6 [] false w args /\ laidMetH Tryz.prog laidI w) /\ sizedMet enc Tryz.prog Tryz.f6 (OpenSpec.ofChange Rows.polynomialDivModSpec) false w args)
   (Rows.polynomialDivModSpec.post enc Tryz.prog Tryz.f6 false true false false) := by
 refine returnsInHanded_of_change_and (C := Tryz.checked) (X := fun w _ => laidMetH Tryz.prog laidI w) (fun _ _ _ hh h => h.of_heap hh) Tryz.own started (by kernel_rfl) Tryz.func6
  (ChangeSpec.witness_shaped (enc := enc) (C := Tryz.checked) (os := os) (X := fun w _ => laidMetH Tryz.prog laidI w) false (World.doorLaid Tryz.prog 400 os) #[.slice none 0 0, .slice none 0 0] 8 rfl (World.shaped_of_RefB (by kernel_rfl) (by kernel_rfl)) (by kernel_rfl) (by kernel_rfl) (by kernel_rfl) (doorI_met os _)) ?_
 intro W base args ds gs before hval0 hW _ _ hL _;have hval : ∀ (j : Nat) t v, Tryz.f6.params[j]? = some t -> args[j]? = some v -> Value.okWide Tryz.prog W .any base t v := hval0;have hW' := hW;have hlt : ∀ p ∈ before, p.block < W.heap.size := fun p hp => hW.lt p hp
 obtain ⟨p, q, hA0, hV, rfl, _, _⟩ := hW;have hA : DataW.TrodAll enc Tryz.prog W 0 (fun _ => true) true Tryz.f6.params.toList args.toList ds p := hA0;rw [Tryz.params6] at hA hval;obtain ⟨v0, v1, d0, d1, p0, p1, rfl, rfl, rfl, h0, h1⟩ := trodAll_two hA;obtain ⟨rfl, rfl⟩ := trodVars_none hV;simp only [List.append_nil] at hW' hlt;obtain ⟨A0, n0, c0, rs0, rfl, hr0⟩ := open_rats (hval 0 22 v0 rfl rfl) h0;obtain ⟨A1, n1, c1, rs1, rfl, hr1⟩ := open_rats (hval 1 22 v1 rfl rfl) h1;clear hA0 hval0;have hT := tab_of_laidH hL;refine (dm4_any awake4 hT hr0 hr1).mono fun e W' ⟨he, hext⟩ => ?_
 subst he;have hb : Below W.heap.size W W' := hext;have g0 := Below.trod Tryz.laidOut (by kernel_rfl) (of_decide_eq_true (by kernel_rfl)) h0 hb (fun p hp => hlt p (List.mem_append.2 (.inl hp)));have g1 := Below.trod Tryz.laidOut (by kernel_rfl) (of_decide_eq_true (by kernel_rfl)) h1 hb (fun p hp => hlt p (List.mem_append.2 (.inr hp)));exact ⟨_, rfl, _, _, _, [], (p0 ++ p1), [], hW', trodAll_mk1 (shut_bool Tryz.underlying4 true), trodAll_mk2 g0 g1, rfl, Below.frame hb _, fun h => by cases h⟩
theorem dm4_row_holds : Rows.PolynomialDivModSaid :=
 OpenClaim.holds_of_wide 6 Tryz.f6 rfl rfl rfl rfl rfl rfl rfl ⟨rfl, rfl, rfl, rfl, rfl⟩ rfl rfl rfl rfl rfl (by kernel_rfl) Tryz.func6 (by kernel_rfl)
  (of_decide_eq_true (by kernel_rfl)) (by unfold Func.isWrapper; first | (rw [if_neg (of_decide_eq_false (by kernel_rfl))]; exact ⟨rfl, rfl⟩) | (rw [if_pos (by decide +kernel)]; kernel_rfl))
  (fun os started H enc _ => dm4_lifted os started H enc)
theorem dm4_holds : Rows.PolynomialDivModCardSaid :=
 Claim7.holds_tied_plain_at .later [] [.data] true Rows.polynomialDivModCard.stood.harness false
  dm4_row_holds (fun _ h => by cases h) (by kernel_rfl) (fun _ h => by cases h) polynomialDivMod_row_tie rfl ⟨rfl, rfl⟩ (by kernel_rfl) rfl
  (fun f fn hf hfn => by
   obtain rfl : f = 6 := Option.some.inj ((show Tryz.prog.funcNamed "setsquare/setsquarelaw04.PolynomialDivMod" = some 6 by kernel_rfl).symm.trans hf) |>.symm;obtain rfl : fn = Tryz.f6 := (Option.some.inj (Tryz.func6.symm.trans hfn)).symm
   exact ⟨by kernel_rfl, fun j t ht => by
    rw [Tryz.params6] at ht;have hm : t ∈ [22, 22] := by simpa using Array.mem_of_getElem? ht
    have hall : ([22, 22].all fun u => !Tryz.prog.wantsStandIn u) = true := by kernel_rfl
    exact (show Tryz.prog.wantsStandIn t = false by simpa using List.all_eq_true.1 hall t hm)⟩)
  (by kernel_rfl)
end
end Go.Proofs.YtpeddoaknfjbbaaGreatDoor
