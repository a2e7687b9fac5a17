/- Walks and laws, a part. -/
import Derived.Test.YtldeolipllejcaaGreatDoorR0
import Derived.Test.YtldeolipllejcaaGreatDoorR3
import Derived.Test.YtldeolipllejcaaGreatDoorR2
import Derived.Lib.MinMax
set_option linter.unusedSimpArgs false
set_option linter.unusedVariables false
set_option maxHeartbeats 64000000
namespace Go.Proofs.YtldeolipllejcaaGreatDoor
section
open Go.RowKit
structure NI (w : World) (z : Int) (L : Nat) (s : Bool) (A : Option Addr) (n c : Nat) : Prop where
 out : ∃ xs : List Nat, xs.length = n /\ Rd w A xs /\ n <= c /\ c <= maxLen /\ IsInt z s xs /\ n <= L
def RetNI (z : Int) (L : Nat) (w : World) (e : Ending) (w' : World) : Prop :=
 ∃ s A n c, e = .returned (.agg #[.bool s, .slice A n c]) /\ NI w' z L s A n c /\ Ext w w'
theorem ival_ab (s : Bool) (xs : List Nat) : (ival s xs).natAbs = val xs := by unfold ival; cases s <;> simp
theorem IsInt.abs {z : Int} {s : Bool} {xs : List Nat} (h : IsInt z s xs) : val xs = z.natAbs := by rw [<- h.eq, ival_ab]
theorem RetI.ni {z : Int} {L L' : Nat} {w w' : World} {e : Ending} (h : RetI z L w e w') (hl : L <= L') : RetNI z L' w e w' := by
 obtain ⟨b, A, c, ys, rfl, hr, hc, hm, hi, hy, hx⟩ := h;exact ⟨b, A, ys.length, c, rfl, ⟨ys, rfl, hr, hc, hm, hi, by omega⟩, hx⟩
section
variable {w w' : World} {z y : Int} {L L' M : Nat} {s t : Bool} {A B : Option Addr} {n c m d : Nat}
theorem NI.ext (h : NI w z L s A n c) (e : Ext w w') : NI w' z L s A n c := by
 obtain ⟨xs, h1, h2, h3⟩ := h.out;exact ⟨xs, h1, h2.ext e, h3⟩
theorem NI.le (h : NI w z L s A n c) (hl : L <= L') : NI w z L' s A n c := by
 obtain ⟨xs, h1, h2, h3, h4, h5, h6⟩ := h.out;exact ⟨xs, h1, h2, h3, h4, h5, by omega⟩
theorem NI.size (h : NI w z L s A n c) : n <= L := by
 obtain ⟨_, _, _, _, _, _, h6⟩ := h.out;exact h6
theorem NI.nil (w : World) (L : Nat) : NI w 0 L false none 0 0 := ⟨[], rfl, Rd.nil _ _, Nat.le_refl _, by unfold maxLen; omega, IsInt.nil false, by omega⟩
theorem NI.zero (h : NI w z L s A n c) : n = 0 ↔ z = 0 := by
 obtain ⟨xs, h1, _, _, _, h5, _⟩ := h.out;rw [<- h5.zero, <- h1];exact List.length_eq_zero_iff
theorem NI.tight (h : NI w z L s A n c) (h' : NI w' y M t B m d) (hz : z.natAbs <= y.natAbs) : NI w z M s A n c := by
 obtain ⟨xs, h1, h2, h3, h4, h5, h6⟩ := h.out;obtain ⟨ys, k1, k2, _, _, k5, k6⟩ := h'.out;refine ⟨xs, h1, h2, h3, h4, h5, ?_⟩;have := nrm_len_le k5.w32 h5.nrm (by rw [h5.abs, k5.abs]; exact hz);omega
theorem NI.tight' (h : NI w z L s A n c) (hz : z.natAbs < 4294967296 ^ M) : NI w z M s A n c := by
 obtain ⟨xs, h1, h2, h3, h4, h5, h6⟩ := h.out;refine ⟨xs, h1, h2, h3, h4, h5, ?_⟩;refine Decidable.byContradiction fun hc => ?_
 have h7 := h5.nrm.ge (by rintro rfl; simp at h1; omega);rw [h5.abs] at h7;have h8 : 4294967296 ^ M <= 4294967296 ^ (xs.length - 1) := Nat.pow_le_pow_right (by omega) (by omega);omega
theorem p_Sign (h : NI w z L s A n c) (hL : L <= 100000) : Calls Tryz.prog 72 #[.agg #[.bool s, .slice A n c]] w fun e w' => e = .returned (.int .i64 z.sign) /\ Ext w w' := by
 obtain ⟨xs, hn, hx, hc, hcm, hi, hl⟩ := h.out;refine (int_Sign hn hx hc hcm (by omega)).mono ?_;rintro e w' ⟨rfl, hxt⟩;rw [hi.eq];exact ⟨rfl, hxt⟩
theorem q_Sign (h : NI w z L s A n c) (hL : L <= 100000) : Calls Tryz.prog 54 #[.agg #[.bool s, .slice A n c]] w fun e w' => e = .returned (.int .i64 z.sign) /\ Ext w w' := by
 obtain ⟨xs, hn, hx, hc, hcm, hi, hl⟩ := h.out;refine (ref_Sign hn hx hc hcm (by omega)).mono ?_;rintro e w' ⟨rfl, hxt⟩;rw [hi.eq];exact ⟨rfl, hxt⟩
theorem p_Norm (h : NI w z L s A n c) (hL : L <= 100000) : Calls Tryz.prog 92 #[.agg #[.bool s, .slice A n c]] w (RetNI z L w) := by
 obtain ⟨xs, hn, hx, hc, hcm, hi, hl⟩ := h.out;refine (int_Norm hn hx hc hcm (by omega)).mono fun e w' hr => ?_
 rw [hi.eq] at hr;exact hr.ni (by omega)
theorem p_Neg (h : NI w z L s A n c) (hL : L <= 100000) : Calls Tryz.prog 119 #[.agg #[.bool s, .slice A n c]] w (RetNI (-z) L w) := by
 obtain ⟨xs, hn, hx, hc, hcm, hi, hl⟩ := h.out;refine (int_Neg hn hx hc hcm (by omega)).mono fun e w' hr => ?_
 rw [hi.eq] at hr;exact hr.ni (by omega)
theorem p_Add (h : NI w z L s A n c) (k : NI w y M t B m d) (hL : L <= 50000) (hM : M <= 50000) : Calls Tryz.prog 99 #[.agg #[.bool s, .slice A n c], .agg #[.bool t, .slice B m d]] w (RetNI (z + y) (max L M + 1) w) := by
 obtain ⟨xs, hn, hx, hc, hcm, hi, hl⟩ := h.out;obtain ⟨ys, hm, hy, hd, hdm, hj, hk⟩ := k.out;refine (int_Add hn hm hx hy hc hcm hd hdm (by omega) (by omega)).mono fun e w' hr => ?_
 rw [hi.eq, hj.eq] at hr;exact hr.ni (by omega)
theorem q_Add (h : NI w z L s A n c) (k : NI w y M t B m d) (hL : L <= 50000) (hM : M <= 50000) : Calls Tryz.prog 122 #[.agg #[.bool s, .slice A n c], .agg #[.bool t, .slice B m d]] w (RetNI (z + y) (max L M + 1) w) := by
 obtain ⟨xs, hn, hx, hc, hcm, hi, hl⟩ := h.out;obtain ⟨ys, hm, hy, hd, hdm, hj, hk⟩ := k.out;refine (ref_Add hn hm hx hy hc hcm hd hdm (by omega) (by omega)).mono fun e w' hr => ?_
 rw [hi.eq, hj.eq] at hr;exact hr.ni (by omega)
theorem p_Mul (h : NI w z L s A n c) (k : NI w y M t B m d) (hL : L <= 50000) (hM : M <= 50000) (h64 : min L M < 64) : Calls Tryz.prog 70 #[.agg #[.bool s, .slice A n c], .agg #[.bool t, .slice B m d]] w (RetNI (z * y) (L + M) w) := by
 obtain ⟨xs, hn, hx, hc, hcm, hi, hl⟩ := h.out;obtain ⟨ys, hm, hy, hd, hdm, hj, hk⟩ := k.out;refine (int_Mul_s hn hm hx hy hc hcm hd hdm (by omega) (by omega) (by omega)).mono fun e w' hr => ?_
 rw [hi.eq, hj.eq] at hr;exact hr.ni (by omega)
theorem q_Mul (h : NI w z L s A n c) (k : NI w y M t B m d) (hL : L <= 50000) (hM : M <= 50000) : Calls Tryz.prog 123 #[.agg #[.bool s, .slice A n c], .agg #[.bool t, .slice B m d]] w (RetNI (z * y) (L + M) w) := by
 obtain ⟨xs, hn, hx, hc, hcm, hi, hl⟩ := h.out;obtain ⟨ys, hm, hy, hd, hdm, hj, hk⟩ := k.out;refine (ref_Mul hn hm hx hy hc hcm hd hdm (by omega) (by omega)).mono fun e w' hr => ?_
 rw [hi.eq, hj.eq] at hr;exact hr.ni (by omega)
theorem p_Cmp (h : NI w z L s A n c) (k : NI w y M t B m d) (hL : L <= 50000) (hM : M <= 50000) : Calls Tryz.prog 104 #[.agg #[.bool s, .slice A n c], .agg #[.bool t, .slice B m d]] w fun e w' => e = .returned (.int .i64 (z - y).sign) /\ Ext w w' := by
 obtain ⟨xs, hn, hx, hc, hcm, hi, hl⟩ := h.out;obtain ⟨ys, hm, hy, hd, hdm, hj, hk⟩ := k.out;refine (int_Cmp hn hm hx hy hc hcm hd hdm (by omega) (by omega)).mono ?_;rw [hi.eq, hj.eq];exact fun _ _ h => h
theorem gcd_le_max (a b : Nat) : Nat.gcd a b <= max a b := by
 rcases Nat.eq_zero_or_pos a with h | h
 ·subst h; simp
 ·have := Nat.le_of_dvd h (Nat.gcd_dvd_left a b); omega
theorem gcd_tight {g : Nat} (h : NI w z L s A n c) (k : NI w y M t B m d) {w1 : World} {K : Nat} {u : Bool} {C : Option Addr} {l e : Nat} (hg : NI w1 (g : Int) K u C l e) (hgg : g = Nat.gcd z.natAbs y.natAbs) : NI w1 (g : Int) (max L M) u C l e := by
 have := gcd_le_max z.natAbs y.natAbs
 rcases Nat.le_total z.natAbs y.natAbs with hle | hle
 ·exact (hg.tight k (by simp; omega)).le (by omega)
 ·exact (hg.tight h (by simp; omega)).le (by omega)
theorem p_GCD (h : NI w z L s A n c) (k : NI w y M t B m d) (hL : L <= 3000) (hM : M <= 3000) (hT : Tab w) : Calls Tryz.prog 88 #[.agg #[.bool s, .slice A n c], .agg #[.bool t, .slice B m d]] w (RetNI ((Nat.gcd z.natAbs y.natAbs : Nat) : Int) (max L M) w) := by
 obtain ⟨xs, hn, hx, hc, hcm, hi, hl⟩ := h.out;obtain ⟨ys, hm, hy, hd, hdm, hj, hk⟩ := k.out;refine (int_GCD hn hm hx hy hc hcm hd hdm (by omega) (by omega) hT).mono fun e w' hr => ?_
 rw [hi.abs, hj.abs] at hr;obtain ⟨u, C, l, e', he, hg, hx'⟩ := hr.ni (Nat.le_refl _);exact ⟨u, C, l, e', he, gcd_tight h k hg rfl, hx'⟩
theorem q_GCD (h : NI w z L s A n c) (k : NI w y M t B m d) (hL : L <= 3000) (hM : M <= 3000) : Calls Tryz.prog 56 #[.agg #[.bool s, .slice A n c], .agg #[.bool t, .slice B m d]] w (RetNI ((Nat.gcd z.natAbs y.natAbs : Nat) : Int) (max L M) w) := by
 obtain ⟨xs, hn, hx, hc, hcm, hi, hl⟩ := h.out;obtain ⟨ys, hm, hy, hd, hdm, hj, hk⟩ := k.out;refine (ref_GCD hn hm hx hy hc hcm hd hdm (by omega) (by omega)).mono fun e w' hr => ?_
 rw [hi.abs, hj.abs] at hr;exact hr.ni (by omega)
theorem p_FromInt (k : Int) (h0 : -9223372036854775808 <= k) (h1 : k < 9223372036854775808) : Calls Tryz.prog 90 #[.int .i64 k] w (RetNI k 2 w) :=
 (int_FromInt k h0 h1).mono fun _ _ h => h.ni (Nat.le_refl _)
theorem q_FromInt (k : Int) (h0 : -9223372036854775808 <= k) (h1 : k < 9223372036854775808) : Calls Tryz.prog 82 #[.int .i64 k] w (RetNI k 2 w) :=
 (ref_FromInt k h0 h1).mono fun _ _ h => h.ni (Nat.le_refl _)
def RetND (a b : Int) (L M : Nat) (w : World) (e : Ending) (w' : World) : Prop :=
 ∃ s A n c t B m d, ∃ q r : Int, e = .returned (.tuple #[.agg #[.bool s, .slice A n c], .agg #[.bool t, .slice B m d], .int .i64 0]) /\ NI w' q L s A n c /\ NI w' r M t B m d /\ IsDM a b q r /\ Ext w w'
theorem dm_q_le {a b q r : Int} (h : IsDM a b q r) (hb : b ≠ 0) : q.natAbs <= a.natAbs + 1 /\ r.natAbs <= b.natAbs /\ (b ∣ a -> r = 0 /\ q = a / b /\ q.natAbs <= a.natAbs) := by
 obtain ⟨h1, h2⟩ := h;have hm : ∀ q : Int, (q * b).natAbs = q.natAbs * b.natAbs := fun q => Int.natAbs_mul q b
 have hb1 : 1 <= b.natAbs := by omega
 have hq : q.natAbs <= (q * b).natAbs := by rw [hm]; exact Nat.le_mul_of_pos_right _ hb1
 refine ⟨?_, by omega, fun hd => ?_⟩
 ·-- the remainder has the sign of the divisor
  rcases Nat.lt_or_ge q.natAbs 2 with hs | hs
  ·rcases Nat.lt_or_ge 0 a.natAbs with h0 | h0
   ·omega
   ·omega
  ·have h3 : (q.natAbs - 1) * b.natAbs <= a.natAbs := by
    have h4 : (q * b).natAbs <= a.natAbs + b.natAbs := by omega
    rw [hm] at h4
    have h5 : q.natAbs * b.natAbs = (q.natAbs - 1) * b.natAbs + b.natAbs := by
     rw [show q.natAbs = (q.natAbs - 1) + 1 by omega, Nat.add_mul, Nat.one_mul]; simp
    omega
   have h6 : q.natAbs - 1 <= (q.natAbs - 1) * b.natAbs := Nat.le_mul_of_pos_right _ hb1;omega
 ·have hr : b ∣ r := by
   have : r = a - q * b := by omega
   rw [this];exact Int.dvd_sub hd (Int.dvd_mul_left _ _)
  have h0 : r = 0 := by
   refine Decidable.byContradiction fun hne => ?_
   have := Int.natAbs_dvd_natAbs.2 hr;have := Nat.le_of_dvd (by omega) this;omega
  subst h0;have e : a = q * b := by omega
  refine ⟨rfl, ?_, by rw [e]; exact hq⟩;rw [e, Int.mul_ediv_cancel _ hb]
theorem p_DivMod (h : NI w z L s A n c) (k : NI w y M t B m d) (hL : L <= 9000) (hM : M <= 9000) (h0 : y ≠ 0) : Calls Tryz.prog 141 #[.agg #[.bool s, .slice A n c], .agg #[.bool t, .slice B m d]] w (RetND z y (L + 1) M w) := by
 obtain ⟨xs, hn, hx, hc, hcm, hi, hl⟩ := h.out;obtain ⟨ys, hm, hy, hd, hdm, hj, hk⟩ := k.out;refine (int_DivMod_L divide_ok hn hm hx hy hc hcm hd hdm (by omega) (by omega) (by omega) (by rw [hj.abs]; omega)).mono ?_;rintro e w' ⟨b3, A3, c3, qs, b4, A4, c4, rs, q, r, rfl, hr3, hr4, hc3, hm3, hc4, hm4, hi3, hi4, hdm, hl3, hl4, hxt⟩;rw [hi.eq, hj.eq] at hdm;have hr : NI w' r (max xs.length ys.length) b4 A4 rs.length c4 := ⟨rs, rfl, hr4, hc4, hm4, hi4, hl4⟩;exact ⟨b3, A3, qs.length, c3, b4, A4, rs.length, c4, q, r, rfl, ⟨qs, rfl, hr3, hc3, hm3, hi3, by omega⟩, hr.tight k (dm_q_le hdm h0).2.1, hdm, hxt⟩
theorem q_DivMod (h : NI w z L s A n c) (k : NI w y M t B m d) (hL : L <= 9000) (hM : M <= 9000) (h0 : y ≠ 0) : Calls Tryz.prog 149 #[.agg #[.bool s, .slice A n c], .agg #[.bool t, .slice B m d]] w (RetND z y 60000 M w) := by
 obtain ⟨xs, hn, hx, hc, hcm, hi, hl⟩ := h.out;obtain ⟨ys, hm, hy, hd, hdm, hj, hk⟩ := k.out;refine (ref_DivMod_nz hn hm hx hy hc hcm hd hdm (by omega) (by omega) (by rw [hj.abs]; omega)).mono ?_;rintro e w' ⟨b3, A3, c3, qs, b4, A4, c4, rs, q, r, rfl, hr3, hr4, hc3, hm3, hc4, hm4, hi3, hi4, hdm, hl3, hl4, hxt⟩;rw [hi.eq, hj.eq] at hdm;have hr : NI w' r 60000 b4 A4 rs.length c4 := ⟨rs, rfl, hr4, hc4, hm4, hi4, hl4⟩;exact ⟨b3, A3, qs.length, c3, b4, A4, rs.length, c4, q, r, rfl, ⟨qs, rfl, hr3, hc3, hm3, hi3, hl3⟩, hr.tight k (dm_q_le hdm h0).2.1, hdm, hxt⟩
end
end
section
open Go.RowKit
attribute [local go_sem ↓] Go.wp_at_zero Go.wp_at_succ
structure NR (w : World) (q : Rat) (L : Nat) (s : Bool) (A : Option Addr) (n c : Nat) (t : Bool) (B : Option Addr) (m d : Nat) : Prop where
 num : NI w q.num L s A n c
 den : NI w (q.den : Int) L t B m d
def RetNR (q : Rat) (L : Nat) (w : World) (e : Ending) (w' : World) : Prop :=
 ∃ s A n c t B m d, e = .returned (.agg #[.bool s, .slice A n c, .bool t, .slice B m d]) /\ NR w' q L s A n c t B m d /\ Ext w w'
section
variable {w w' : World} {q p : Rat} {z y : Int} {L L' M : Nat} {s t s' t' : Bool} {A B A' B' : Option Addr} {n c m d n' c' m' d' : Nat}
theorem NR.ext (h : NR w q L s A n c t B m d) (e : Ext w w') : NR w' q L s A n c t B m d := ⟨h.num.ext e, h.den.ext e⟩
theorem NR.le (h : NR w q L s A n c t B m d) (hl : L <= L') : NR w q L' s A n c t B m d := ⟨h.num.le hl, h.den.le hl⟩
theorem NI.one_iff (h : NI w z L s A n c) : z = 1 ↔ s = false /\ n = 1 /\ ∃ b off, A = some ⟨b, off, none⟩ /\ w.cell? ⟨b, off, none⟩ = some (.int .u32 1) := by
 obtain ⟨xs, h1, h2, h3, h4, h5, h6⟩ := h.out;have hv := h5.eq
 constructor
 ·intro hz
  have hi1 : IsInt 1 false [1] := ⟨W32.one (by omega), Nrm.snoc [] (by omega), fun _ => rfl, by simp [ival, val]⟩;rw [hz] at h5;obtain ⟨rfl, rfl⟩ := h5.unique hi1;obtain ⟨b, off, hA, hb, hc⟩ := h2.at_ (i := 0) (by simp);exact ⟨rfl, by simpa using h1.symm, b, off, hA, by simpa using hc⟩
 ·rintro ⟨rfl, rfl, b, off, rfl, hc⟩
  match xs, h1 with
  | [x], _ =>
   obtain ⟨b', off', hA, hb, hc'⟩ := h2.at_ (i := 0) (by simp)
   injection hA with hA
   injection hA with e1 e2
   subst e1; subst e2;simp only [Nat.add_zero, List.getElem_cons_zero] at hc';rw [hc] at hc'
   injection hc' with hc'
   injection hc' with _ hc'
   rw [<- hv];simp [ival, val];omega
end
theorem NoWord.four {a b : Bool} {A B : Option Addr} {n c m d : Nat} : NoWord #[.bool a, .slice A n c, .bool b, .slice B m d] := by
 intro i k h
 match i with
 | 0 => simp at h
 | 1 => simp at h
 | 2 => simp at h
 | 3 => simp at h
 | i + 4 => simp at h
def set4 (w : World) (g : Nat) (a b c d : Value) : World := (((w.setCell ⟨g, 0, none⟩ a).setCell ⟨g, 1, none⟩ b).setCell ⟨g, 2, none⟩ c).setCell ⟨g, 3, none⟩ d
def set2 (w : World) (g : Nat) (a b : Value) : World := (w.setCell ⟨g, 0, none⟩ a).setCell ⟨g, 1, none⟩ b
section
variable {w W w' w2 : World} {z : Int} {q : Rat} {L : Nat} {s t x y : Bool} {A B P Q : Option Addr} {n c m d k l i j g : Nat} {T : TypeId}
theorem NI.set (h : NI w z L s A n c) {cs : Array Value} (hb : Box w g T cs) (hn : NoWord cs) (i : Nat) (u : Value) : NI (w.setCell ⟨g, i, none⟩ u) z L s A n c := by
 obtain ⟨xs, h1, h2, h3⟩ := h.out;exact ⟨xs, h1, h2.setBox hb hn i u, h3⟩
theorem fin_quad (hb : Box w2 g T #[.bool x, .slice P k l, .bool y, .slice Q i j]) :
  Box (set4 w2 g (.bool s) (.slice A n c) (.bool t) (.slice B m d)) g T #[.bool s, .slice A n c, .bool t, .slice B m d] /\
  (∀ z L s' A' n' c', NI w2 z L s' A' n' c' -> NI (set4 w2 g (.bool s) (.slice A n c) (.bool t) (.slice B m d)) z L s' A' n' c') /\
  (∀ W, Ext W w2 -> W.heap.size <= g -> Ext W (set4 w2 g (.bool s) (.slice A n c) (.bool t) (.slice B m d))) /\
  (∀ g' T' cs', g' ≠ g -> Box w2 g' T' cs' -> Box (set4 w2 g (.bool s) (.slice A n c) (.bool t) (.slice B m d)) g' T' cs') := by
 unfold set4;have h1 : Box (w2.setCell ⟨g, 0, none⟩ (.bool s)) g T #[.bool s, .slice P k l, .bool y, .slice Q i j] := hb.set 0 (.bool s);have h2 : Box ((w2.setCell ⟨g, 0, none⟩ (.bool s)).setCell ⟨g, 1, none⟩ (.slice A n c)) g T #[.bool s, .slice A n c, .bool y, .slice Q i j] := h1.set 1 (.slice A n c);have h3 : Box (((w2.setCell ⟨g, 0, none⟩ (.bool s)).setCell ⟨g, 1, none⟩ (.slice A n c)).setCell ⟨g, 2, none⟩ (.bool t)) g T #[.bool s, .slice A n c, .bool t, .slice Q i j] := h2.set 2 (.bool t);refine ⟨h3.set 3 (.slice B m d), fun z L s' A' n' c' h => ?_, fun W e hg => ?_, fun g' T' cs' hg h => ?_⟩
 ·exact (((h.set hb NoWord.four 0 _).set h1 NoWord.four 1 _).set h2 NoWord.four 2 _).set h3 NoWord.four 3 _
 ·exact (((e.setCell hg _).setCell hg _).setCell hg _).setCell hg _
 ·exact (((h.far hg _).far hg _).far hg _).far hg _
theorem fin_dual (hb : Box w2 g T #[.bool x, .slice P k l]) :
  Box (set2 w2 g (.bool s) (.slice A n c)) g T #[.bool s, .slice A n c] /\
  (∀ z L s' A' n' c', NI w2 z L s' A' n' c' -> NI (set2 w2 g (.bool s) (.slice A n c)) z L s' A' n' c') /\
  (∀ W, Ext W w2 -> W.heap.size <= g -> Ext W (set2 w2 g (.bool s) (.slice A n c))) /\
  (∀ g' T' cs', g' ≠ g -> Box w2 g' T' cs' -> Box (set2 w2 g (.bool s) (.slice A n c)) g' T' cs') := by
 unfold set2;have h1 : Box (w2.setCell ⟨g, 0, none⟩ (.bool s)) g T #[.bool s, .slice P k l] := hb.set 0 (.bool s);refine ⟨h1.set 1 (.slice A n c), fun z L s' A' n' c' h => ?_, fun W e hg => ?_, fun g' T' cs' hg h => ?_⟩
 ·exact (h.set hb NoWord.two 0 _).set h1 NoWord.two 1 _
 ·exact (e.setCell hg _).setCell hg _
 ·exact (h.far hg _).far hg _
theorem p_isOne (h : NI w z L s A n c) : Calls Tryz.prog 87 #[.agg #[.bool s, .slice A n c]] w fun e w' => e = .returned (.bool (decide (z = 1))) /\ Ext w w' := by
 have h1 := h.one_iff
 cases s with
 | true =>
  have hd : decide (z = 1) = false := decide_eq_false fun hz => by have := (h1.1 hz).1; cases this
  rw [hd]
  go_enter Tryz.func87, Tryz.ntmps87
  go_wp2
  go_ret
  exact ⟨rfl, (Ext.refl w).alloc _⟩
 | false =>
  by_cases hn : n = 1
  ·subst hn
   obtain ⟨xs, hl, hx, _⟩ := h.out;obtain ⟨b, off, rfl, hb, hc⟩ := hx.at_ (i := 0) (by omega);simp only [Nat.add_zero] at hc
   have hv : (decide (z = 1)) = (((xs[0]'(by omega) : Nat) : Int) == 1) := by
    by_cases hz : z = 1
    ·obtain ⟨_, _, b', off', hA, hc'⟩ := h1.1 hz
     injection hA with hA
     injection hA with e1 e2
     subst e1; subst e2;rw [hc] at hc'
     injection hc' with hc'
     injection hc' with _ hc'
     rw [hc'];simp [hz]
    ·have : ¬ ((xs[0]'(by omega) : Nat) : Int) = 1 := fun h2 => hz (h1.2 ⟨rfl, rfl, b, off, rfl, by rw [hc, h2]⟩)
     rw [decide_eq_false hz];exact (beq_eq_false_iff_ne.2 this).symm
   rw [hv];generalize (xs[0]'(by omega) : Nat) = k at hc;have hc2 := ((Ext.refl w).alloc (.cells #[.bool false, .slice (some ⟨b, off, none⟩) 1 c] 28)).cellv hc;clear h1 h hv hx hl
   go_enter Tryz.func87, Tryz.ntmps87
   go_wp2
   go_ret
   exact ⟨rfl, (Ext.refl w).alloc _⟩
  ·have hd : decide (z = 1) = false := decide_eq_false fun hz => hn (h1.1 hz).2.1
   have hn2 : ((n : Int) == 1) = false := by rw [beq_eq_false_iff_ne]; omega
   rw [hd]
   go_enter Tryz.func87, Tryz.ntmps87
   go_wp2
   go_ret
   exact ⟨rfl, (Ext.refl w).alloc _⟩
end
end
section
open Go.RowKit
section
variable {P : Program} {ops : Array Oper} {Q : Exit -> Act -> World -> Prop} {md : Region.Mode} {W0 : World} {z : Nat}
def wpL (P : Program) (md : Region.Mode) (ops : Array Oper) (Q : Exit -> Act -> World -> Prop) (W0 : World) (z : Nat) : Nat -> Array Bool -> Act -> World -> Prop
 | 0, L, a, w => Region.ready md ops L = [] /\ Q .normal a w
 | f + 1, L, a, w =>
  (Region.ready md ops L = [] -> Q .normal a w) /\
  ∀ i ∈ Region.ready md ops L, wpOp P ops Q i (fun a' w' => ((L.setIfInBounds i true).getD z false = true \/ Ext W0 w') /\ wpL P md ops Q W0 z f (L.setIfInBounds i true) a' w') a w
theorem wpL.any : ∀ (f : Nat) (L : Array Bool) (a : Act) (w : World), wpL P md ops Q W0 z f L a w -> wpAny P md ops Q f L a w
 | 0, _, _, _, h => h
 | f + 1, _, _, _, h => ⟨h.1, fun i hi => wpOp_mono (fun a' w' h' => wpL.any f _ a' w' h'.2) (h.2 i hi)⟩
theorem wpL.start {id : Nat} {a : Act} {w : World} (z : Nat) (hm : P.follows .mixedOrders = true) (hQ : QStill Q) (h : QStill Q -> Ext w w.drew -> wpL P .any ops Q w z ops.size (Array.replicate ops.size false) a w.drew) : (Code.region id ops true).wp P Q a w :=
 wp_region_any hm (wpL.any _ _ _ _ (h hQ (Ext.refl w).drew))
theorem wpL.st {id : Nat} {a : Act} {w : World} (z : Nat) (h : QStill Q -> Ext w w.drew -> wpL P .any ops Q w z ops.size (Array.replicate ops.size false) a w.drew) (hm : P.follows .mixedOrders = true := by kernel_rfl) (hQ : QStill Q := by exact (fun _ _ _ _ _ => ⟨fun h => h, fun h => h⟩)) : (Code.region id ops true).wp P Q a w := wpL.start z hm hQ h
def allBut (n i z : Nat) : Array Bool := ((Array.replicate n true).setIfInBounds i false).setIfInBounds z false
theorem allBut_on {n i z k : Nat} (h1 : k ≠ i) (h2 : k ≠ z) (hk : k < n) : (allBut n i z).getD k false = true := by
 unfold allBut;simp [Ne.symm h1, Ne.symm h2, hk]
def Waits (md : Region.Mode) (ops : Array Oper) (i z : Nat) : Prop := ∃ o, ops[z]? = some o /\ ∃ e ∈ o.after, Region.binds md e = true /\ (allBut ops.size i z).getD e.on false = false
theorem waits_not {i : Nat} {L : Array Bool} (h : Waits md ops i z) (hi : L.getD i true = false) (hz : L.getD z false = false) (hsz : L.size = ops.size) : z ∉ Region.ready md ops L := by
 intro hr;obtain ⟨_, o, ho, hall⟩ := mem_ready.1 hr;obtain ⟨o', ho', e, he, hb, hf⟩ := h;rw [ho] at ho'
 injection ho' with ho'
 subst ho';have h1 := hall e he hb
 have hlt : e.on < L.size := by
  rcases Nat.lt_or_ge e.on L.size with h | h
  ·exact h
  ·simp [h] at h1
 have hne1 : e.on ≠ i := by
  intro hh;rw [<- hh] at hi;simp [hlt] at h1 hi;rw [h1] at hi
  cases hi
 have hne2 : e.on ≠ z := by
  intro hh;rw [hh, hz] at h1
  cases h1
 rw [allBut_on hne1 hne2 (by omega)] at hf
 cases hf
theorem wpL.first {i : Nat} {oi : Oper} {v : Value} (hi : ops[i]? = some oi) (hs : Region.noSelect ops = true) (hiz : i ≠ z) (hw : Waits md ops i z) (hQ : QStill Q) :
  ∀ (f : Nat) (L : Array Bool) (a : Act) (w : World), L.size = ops.size -> L.getD z false = false ->
   (∀ j oj, ops[j]? = some oj -> j ≠ i -> L.getD j true = false -> (∀ e ∈ oj.after, Region.binds md e = true -> e.on ≠ i) -> oi.apart ops oj = true) ->
   i ∈ Region.ready md ops L -> YieldsIf P ops (Ext W0) oi v a -> Ext W0 w ->
   wpL P md ops Q W0 z f (L.setIfInBounds i true) (a.put oi.dst v) w -> wpL P md ops Q W0 z (f + 1) L a w := by
 have hsel := Region.noSelect_spec hs;intro f
 induction f with
 | zero =>
  intro L a w _ _ _ hr hy hS H;refine ⟨(fun h0 => by rw [h0] at hr; cases hr), fun j hj => ?_⟩
  by_cases hji : j = i
  ·subst hji; exact hy.wpOp hi hS ⟨.inr hS, H⟩
  ·have := ready_mono hj hji
   rw [H.1] at this
   cases this
 | succ f ih =>
  intro L a w hsz hzL hfree hr hy hS H;refine ⟨(fun h0 => by rw [h0] at hr; cases hr), fun j hj => ?_⟩
  by_cases hji : j = i
  ·subst hji; exact hy.wpOp hi hS ⟨.inr hS, H⟩
  ·have hiL := (mem_ready.1 hr).1
   have hjz : j ≠ z := fun e => waits_not hw hiL hzL hsz (e ▸ hj)
   obtain ⟨hjun, oj, hoj, hall⟩ := mem_ready.1 hj
   have hnot : ∀ e ∈ oj.after, Region.binds md e = true -> e.on ≠ i := fun e he hb hh => by
    have h1 := hall e he hb;rw [hh] at h1
    have hlt : i < L.size := by
     rcases Nat.lt_or_ge i L.size with h | h
     ·exact h
     ·simp [h] at h1
    simp [hlt] at h1 hiL;rw [h1] at hiL
    cases hiL
   have h1 := H.2 j (ready_mono hj hji);have h2 := wpOp_putIf hoj (hfree j oj hoj hji hjun hnot) (fun cs b => hsel i oi cs b hi) (fun cs b => hsel j oj cs b hoj) (fun c a w => (hQ.put c a _ _ w).1) hy h1;refine wpOp_mono (fun a' w' h3 => ?_) h2;obtain ⟨hy', hS', H'⟩ := h3
   have hzz : ((L.setIfInBounds i true).setIfInBounds j true).getD z false = false := by
    rw [getD_set_ne false hjz, getD_set_ne false hiz]; exact hzL
   have hE : Ext W0 w' := by
    rcases hS' with h | h
    ·rw [hzz] at h; cases h
    ·exact h
   refine ⟨.inr hE, ih (L.setIfInBounds j true) a' w' (by simpa using hsz) (by rw [getD_set_ne false hjz]; exact hzL) ?_ (ready_mono hr (Ne.symm hji)) hy' hE ?_⟩
   ·intro k ok hk hki hun hno
    refine hfree k ok hk hki ?_ hno
    by_cases hjk : j = k
    ·subst hjk; exact hjun
    ·rwa [getD_set_ne true hjk] at hun
   ·rw [Array.setIfInBounds_comm _ _ hji]
    exact H'
def waitsB (md : Region.Mode) (ops : Array Oper) (i z : Nat) : Bool := match ops[z]? with
 | some o => o.after.toList.any fun e => Region.binds md e && !(allBut ops.size i z).getD e.on false
 | none => false
theorem waitsB_spec {i : Nat} (h : waitsB md ops i z = true) : Waits md ops i z := by
 unfold waitsB at h
 cases ho : ops[z]? with
 | none => rw [ho] at h; cases h
 | some o =>
  rw [ho] at h;obtain ⟨e, he, hb⟩ := List.any_eq_true.1 h;rw [Bool.and_eq_true, Bool.not_eq_true'] at hb;exact ⟨o, ho, e, Array.mem_toList_iff.1 he, hb.1, hb.2⟩
theorem wpL.take {f i : Nat} {oi : Oper} {d : Option Tmp} {v : Value} {L : Array Bool} {a : Act} {w : World} (hi : ops[i]? = some oi) (hd : oi.dst = d) (hs : Region.noSelect ops = true) (hf : Region.free md ops L i = true)
  (hr : (Region.ready md ops L).contains i = true) (hz : (i != z && waitsB md ops i z && !L.getD z false && L.size == ops.size) = true) (hQ : QStill Q) (hy : YieldsIf P ops (Ext W0) oi v a) (hS : Ext W0 w)
  (h : wpL P md ops Q W0 z f (L.setIfInBounds i true) (a.put d v) w) : wpL P md ops Q W0 z (f + 1) L a w := by
 subst hd;simp only [Bool.and_eq_true, bne_iff_ne, Bool.not_eq_true', beq_iff_eq] at hz;obtain ⟨⟨⟨h1, h2⟩, h3⟩, h4⟩ := hz;exact wpL.first hi hs h1 (waitsB_spec h2) hQ f L a w h4 h3 (fun j oj hj hne hun hno => Region.free_spec hi hf j oj hj hne hun hno) (by simpa using hr) hy hS h
theorem wpL.tk {f i : Nat} {oi : Oper} {d : Option Tmp} {v : Value} {L : Array Bool} {a : Act} {w : World} (hi : ops[i]? = some oi) (hd : oi.dst = d) (hQ : QStill Q) (hy : YieldsIf P ops (Ext W0) oi v a) (hS : Ext W0 w) (h : wpL P md ops Q W0 z f (L.setIfInBounds i true) (a.put d v) w) (hs : Region.noSelect ops = true := by kernel_rfl) (hf : Region.free md ops L i = true := by kernel_rfl) (hr : (Region.ready md ops L).contains i = true := by kernel_rfl) (hz : (i != z && waitsB md ops i z && !L.getD z false && L.size == ops.size) = true := by kernel_rfl) : wpL P md ops Q W0 z (f + 1) L a w := wpL.take hi hd hs hf hr hz hQ hy hS h
theorem wpL.t {f : Nat} {oi : Oper} {L : Array Bool} {a : Act} {w : World} (i : Nat) (d : Tmp) (v : Value) (hQ : QStill Q) (hy : ∀ w, Ext W0 w -> (execOp a.eval oi).run P w = .ok (.value v) w) (hS : Ext W0 w) (h : wpL P md ops Q W0 z f (L.setIfInBounds i true) (a.put (some d) v) w) (hi : ops[i]? = some oi := by exact rfl) (hd : oi.dst = some d := by exact rfl) (hw : Region.wanted oi (yielded ops a.tmps) = true := by exact rfl) (hs : Region.noSelect ops = true := by kernel_rfl) (hf : Region.free md ops L i = true := by kernel_rfl) (hr : (Region.ready md ops L).contains i = true := by kernel_rfl) (hz : (i != z && waitsB md ops i z && !L.getD z false && L.size == ops.size) = true := by kernel_rfl) : wpL P md ops Q W0 z (f + 1) L a w := wpL.take hi hd hs hf hr hz hQ (Or.inl ⟨hw, hy⟩) hS h
theorem wpL.call {f i : Nat} {o : Oper} {L : Array Bool} {a : Act} {w : World} (ho : ops[i]? = some o) (hr : Region.ready md ops L = [i])
  (h : ∀ K : Act -> World -> Prop, Shut (∀ a' w', Ext W0 w' -> wpL P md ops Q W0 z f (L.setIfInBounds i true) a' w' -> K a' w') -> if Region.wanted o (yielded ops a.tmps) = true then Oper.wp P o a w K Q else K (a.put o.dst undef) w) : wpL P md ops Q W0 z (f + 1) L a w := by
 refine ⟨(fun h0 => by rw [hr] at h0; cases h0), fun j hj => ?_⟩;rw [hr, List.mem_singleton] at hj;subst hj;exact wpOp_step ho fun K hK => h K (fun a' w' e hL => hK a' w' ⟨.inr e, hL⟩)
theorem wpL.cl {f i : Nat} {o : Oper} {L : Array Bool} {a : Act} {w : World} (ho : ops[i]? = some o) (h : ∀ K : Act -> World -> Prop, Shut (∀ a' w', Ext W0 w' -> wpL P md ops Q W0 z f (L.setIfInBounds i true) a' w' -> K a' w') -> if Region.wanted o (yielded ops a.tmps) = true then Oper.wp P o a w K Q else K (a.put o.dst undef) w) (hr : Region.ready md ops L = [i] := by kernel_rfl) : wpL P md ops Q W0 z (f + 1) L a w := wpL.call ho hr h
theorem wpL.tail {f i : Nat} {o : Oper} {L : Array Bool} {a : Act} {w : World} (ho : ops[i]? = some o) (hr : Region.ready md ops L = [i]) (hz : (L.setIfInBounds i true).getD z false = true)
  (h : ∀ K : Act -> World -> Prop, Shut (∀ a' w', wpL P md ops Q W0 z f (L.setIfInBounds i true) a' w' -> K a' w') -> if Region.wanted o (yielded ops a.tmps) = true then Oper.wp P o a w K Q else K (a.put o.dst undef) w) : wpL P md ops Q W0 z (f + 1) L a w := by
 refine ⟨(fun h0 => by rw [hr] at h0; cases h0), fun j hj => ?_⟩;rw [hr, List.mem_singleton] at hj;subst hj;exact wpOp_step ho fun K hK => h K (fun a' w' hL => hK a' w' ⟨.inl hz, hL⟩)
theorem wpL.tl {f i : Nat} {o : Oper} {L : Array Bool} {a : Act} {w : World} (ho : ops[i]? = some o) (h : ∀ K : Act -> World -> Prop, Shut (∀ a' w', wpL P md ops Q W0 z f (L.setIfInBounds i true) a' w' -> K a' w') -> if Region.wanted o (yielded ops a.tmps) = true then Oper.wp P o a w K Q else K (a.put o.dst undef) w) (hr : Region.ready md ops L = [i] := by kernel_rfl) (hz : (L.setIfInBounds i true).getD z false = true := by kernel_rfl) : wpL P md ops Q W0 z (f + 1) L a w := wpL.tail ho hr hz h
theorem wpL.done {L : Array Bool} {a : Act} {w : World} (hr : Region.ready md ops L = []) (h : Q .normal a w) : ∀ f, wpL P md ops Q W0 z f L a w
 | 0 => ⟨hr, h⟩
 | _ + 1 => ⟨fun _ => h, by rw [hr]; simp⟩
end
end
section
open Go.RowKit
attribute [local go_sem ↓] Go.wp_at_zero Go.wp_at_succ
section
variable {w w' : World} {z y : Int} {q : Rat} {L M : Nat} {s t : Bool} {A B : Option Addr} {n c m d : Nat}
theorem p_whole (h : NI w z L s A n c) : Calls Tryz.prog 89 #[.agg #[.bool s, .slice A n c]] w (RetNR (z : Rat) (max L 2) w) := by
 go_enter Tryz.func89, Tryz.ntmps89
 go_upto_region 1 with (fail)
 obtain ⟨W, hW, extW, bx, bz, hz⟩ := box2 w 28 30 #[.bool s, .slice A n c] #[Value.bool false, Value.slice none 0 0, Value.bool false, Value.slice none 0 0];rw [<- hW];clear hW;refine wpL.st 3 (fun hQ ES => ?_);refine wpL.t 0 3 ?v_0 hQ ?y_0 ES ?_
 case y_0 => intro w' hSw;have k00 := (bx.ext hSw).c2;go_simp;try rfl
 try simp only [zP]
 refine wpL.cl (i := 1) rfl (fun K hK => ?_);go_simp
 (go_at_call 90; refine (p_FromInt 1 (by omega) (by omega)).mono ?_; rintro e wa ⟨s1, A1, n1, c1, rfl, h1, hx0⟩; have E0_1 := Ext.trans ES hx0)
 refine hK.out _ _ E0_1 ?_;clear hK K
 try simp only [zP]
 refine wpL.t 2 5 ?v_1 hQ ?y_1 E0_1 ?_
 case y_1 => intro w' hSw;go_simp;try rfl
 try simp only [zP]
 have z0 := (bz.ext E0_1).cell 0 _ rfl;have z1 := (bz.ext E0_1).cell 1 _ rfl;have z2 := (bz.ext E0_1).cell 2 _ rfl;have z3 := (bz.ext E0_1).cell 3 _ rfl;have f0 := (bz.ext E0_1).frozen 0;have f1 := (bz.ext E0_1).frozen 1;have f2 := (bz.ext E0_1).frozen 2;have f3 := (bz.ext E0_1).frozen 3;refine wpL.tl (i := 3) rfl (fun K hK => ?_);go_simp;refine hK.out _ _ ?_;clear hK K
 try simp only [zP]
 refine wpL.done (by kernel_rfl) ?_ _;clear hQ
 go_wp2_with fail
 obtain ⟨b1, b2, b3, _⟩ := fin_quad (s := s) (A := A) (n := n) (c := c) (t := s1) (B := A1) (m := n1) (d := c1) (bz.ext E0_1);have r0 := b1.cell 0 (.bool s) rfl;have r1 := b1.cell 1 (.slice A n c) rfl;have r2 := b1.cell 2 (.bool s1) rfl;have r3 := b1.cell 3 (.slice A1 n1 c1) rfl;unfold set4 at r0 r1 r2 r3;refine bodyPost_ret (v := .agg #[.bool s, .slice A n c, .bool s1, .slice A1 n1 c1]) (by simp [results, Tryz.results89, go_sem, r0, r1, r2, r3]) rfl ⟨s, A, n, c, s1, A1, n1, c1, rfl, ⟨?_, ?_⟩, b3 _ (extW.trans E0_1) (by omega)⟩
 ·exact (b2 _ _ _ _ _ _ (h.ext (extW.trans E0_1))).le (by omega)
 ·exact (b2 _ _ _ _ _ _ h1).le (by omega)
theorem p_FromIntR (k : Int) (h0 : -9223372036854775808 <= k) (h1 : k < 9223372036854775808) : Calls Tryz.prog 47 #[.int .i64 k] w (RetNR (k : Rat) 2 w) := by
 go_enter Tryz.func47, Tryz.ntmps47
 go_upto_region 1 with (fail)
 obtain ⟨W, hW, extW, bz, hz⟩ := box1 w 30 #[Value.bool false, Value.slice none 0 0, Value.bool false, Value.slice none 0 0];rw [<- hW];clear hW
 go_wp2_with fail
 refine (p_FromInt k h0 h1).mono ?_;rintro e wa ⟨s1, A1, n1, c1, rfl, hk, hx0⟩
 go_wp2_with fail
 refine (p_whole hk).mono ?_;rintro e wb ⟨s, A, n, c, t, B, m, d, rfl, hr, hx1⟩;have hE := hx0.trans hx1;have z0 := (bz.ext hE).cell 0 _ rfl;have z1 := (bz.ext hE).cell 1 _ rfl;have z2 := (bz.ext hE).cell 2 _ rfl;have z3 := (bz.ext hE).cell 3 _ rfl;have f0 := (bz.ext hE).frozen 0;have f1 := (bz.ext hE).frozen 1;have f2 := (bz.ext hE).frozen 2;have f3 := (bz.ext hE).frozen 3
 go_wp2_with fail
 obtain ⟨b1, b2, b3, b4⟩ := fin_quad (s := s) (A := A) (n := n) (c := c) (t := t) (B := B) (m := m) (d := d) (bz.ext hE);have r0 := b1.cell 0 (.bool s) rfl;have r1 := b1.cell 1 (.slice A n c) rfl;have r2 := b1.cell 2 (.bool t) rfl;have r3 := b1.cell 3 (.slice B m d) rfl;unfold set4 at r0 r1 r2 r3;refine bodyPost_ret (v := .agg #[.bool s, .slice A n c, .bool t, .slice B m d]) (by simp [results, Tryz.results47, go_sem, r0, r1, r2, r3]) rfl ⟨s, A, n, c, t, B, m, d, rfl, ⟨?_, ?_⟩, b3 _ (extW.trans hE) (by omega)⟩
 ·exact b2 _ _ _ _ _ _ hr.num
 ·exact b2 _ _ _ _ _ _ hr.den
theorem p_SignR (h : NR w q L s A n c t B m d) (hL : L <= 50000) : Calls Tryz.prog 80 #[.agg #[.bool s, .slice A n c, .bool t, .slice B m d]] w fun e w' => e = .returned (.int .i64 q.num.sign) /\ Ext w w' := by
 go_enter Tryz.func80, Tryz.ntmps80
 go_upto_region 1 with (fail)
 obtain ⟨W, hW, extW, bx, hz⟩ := box1 w 30 #[.bool s, .slice A n c, .bool t, .slice B m d];rw [<- hW];clear hW;have x0 := bx.cell 0 (.bool s) rfl;have x1 := bx.cell 1 (.slice A n c) rfl
 go_wp2_with fail
 refine (p_Sign (h.num.ext extW) (by omega)).mono ?_;rintro e wa ⟨rfl, hx0⟩
 go_wp2_with fail
 go_ret
 exact ⟨rfl, extW.trans hx0⟩
theorem p_NegR (h : NR w q L s A n c t B m d) (hL : L <= 100000) : Calls Tryz.prog 76 #[.agg #[.bool s, .slice A n c, .bool t, .slice B m d]] w (RetNR (-q) L w) := by
 go_enter Tryz.func76, Tryz.ntmps76
 go_upto_region 1 with (fail)
 obtain ⟨W, hW, extW, bx, bz, hz⟩ := box2 w 30 30 #[.bool s, .slice A n c, .bool t, .slice B m d] #[Value.bool false, Value.slice none 0 0, Value.bool false, Value.slice none 0 0];rw [<- hW];clear hW;refine wpL.st 7 (fun hQ ES => ?_);refine wpL.t 0 3 ?v_0 hQ ?y_0 ES ?_
 case y_0 => intro w' hSw;go_simp;try rfl
 try simp only [zP]
 refine wpL.t 3 6 ?v_1 hQ ?y_1 ES ?_
 case y_1 => intro w' hSw;go_simp;try rfl
 try simp only [zP]
 refine wpL.t 1 4 ?v_2 hQ ?y_2 ES ?_
 case y_2 => intro w' hSw;have k00 := (bx.ext hSw).c4;go_simp;try rfl
 try simp only [zP]
 refine wpL.t 4 7 ?v_3 hQ ?y_3 ES ?_
 case y_3 => intro w' hSw;have k00 := (bx.ext hSw).c4;go_simp;try rfl
 try simp only [zP]
 refine wpL.cl (i := 2) rfl (fun K hK => ?_);go_simp
 (go_at_call 119; refine (p_Neg (h.num.ext (extW.trans ES)) hL).mono ?_; rintro e wa ⟨s1, A1, n1, c1, rfl, h1, hx0⟩; have E0_1 := Ext.trans ES hx0)
 refine hK.out _ _ E0_1 ?_;clear hK K
 try simp only [zP]
 refine wpL.cl (i := 5) rfl (fun K hK => ?_);go_simp
 (go_at_call 92; refine (p_Norm (h.den.ext (extW.trans E0_1)) hL).mono ?_; rintro e wb ⟨s2, A2, n2, c2, rfl, h2, hx1⟩; have E1_1 := Ext.trans E0_1 hx1)
 refine hK.out _ _ E1_1 ?_;clear hK K
 try simp only [zP]
 refine wpL.t 6 9 ?v_4 hQ ?y_4 E1_1 ?_
 case y_4 => intro w' hSw;go_simp;try rfl
 try simp only [zP]
 have z0 := (bz.ext E1_1).cell 0 _ rfl;have z1 := (bz.ext E1_1).cell 1 _ rfl;have z2 := (bz.ext E1_1).cell 2 _ rfl;have z3 := (bz.ext E1_1).cell 3 _ rfl;have f0 := (bz.ext E1_1).frozen 0;have f1 := (bz.ext E1_1).frozen 1;have f2 := (bz.ext E1_1).frozen 2;have f3 := (bz.ext E1_1).frozen 3;refine wpL.tl (i := 7) rfl (fun K hK => ?_);go_simp;refine hK.out _ _ ?_;clear hK K
 try simp only [zP]
 refine wpL.done (by kernel_rfl) ?_ _;clear hQ
 go_wp2_with fail
 obtain ⟨b1, b2, b3, b4⟩ := fin_quad (s := s1) (A := A1) (n := n1) (c := c1) (t := s2) (B := A2) (m := n2) (d := c2) (bz.ext E1_1);have r0 := b1.cell 0 (.bool s1) rfl;have r1 := b1.cell 1 (.slice A1 n1 c1) rfl;have r2 := b1.cell 2 (.bool s2) rfl;have r3 := b1.cell 3 (.slice A2 n2 c2) rfl;unfold set4 at r0 r1 r2 r3;refine bodyPost_ret (v := .agg #[.bool s1, .slice A1 n1 c1, .bool s2, .slice A2 n2 c2]) (by simp [results, Tryz.results76, go_sem, r0, r1, r2, r3]) rfl ⟨s1, A1, n1, c1, s2, A2, n2, c2, rfl, ⟨?_, ?_⟩, b3 _ (extW.trans E1_1) (by omega)⟩
 ·exact b2 _ _ _ _ _ _ (h1.ext hx1)
 ·exact b2 _ _ _ _ _ _ h2
theorem p_divide (h : NI w z L s A n c) (k : NI w y M t B m d) (hL : L <= 8000) (hM : M <= 8000) (h0 : y ≠ 0) (hd : y ∣ z) : Calls Tryz.prog 100 #[.agg #[.bool s, .slice A n c], .agg #[.bool t, .slice B m d]] w (RetNI (z / y) L w) := by
 go_enter Tryz.func100, Tryz.ntmps100
 go_upto_region 1 with (fail)
 obtain ⟨W, hW, extW, bx, by_, bz, hz⟩ := box3 w 28 28 28 #[.bool s, .slice A n c] #[.bool t, .slice B m d] #[Value.bool false, Value.slice none 0 0];rw [<- hW];clear hW;have y0 := by_.cell 0 (.bool t) rfl;have y1 := by_.cell 1 (.slice B m d) rfl
 go_wp2_with fail
 refine (p_isOne (k.ext extW)).mono ?_;rintro e wa ⟨rfl, hx0⟩;have x0 := (bx.ext hx0).cell 0 (.bool s) rfl;have x1 := (bx.ext hx0).cell 1 (.slice A n c) rfl;have y2 := (by_.ext hx0).cell 0 (.bool t) rfl;have y3 := (by_.ext hx0).cell 1 (.slice B m d) rfl;have z0 := (bz.ext hx0).cell 0 _ rfl;have z1 := (bz.ext hx0).cell 1 _ rfl;have f0 := (bz.ext hx0).frozen 0;have f1 := (bz.ext hx0).frozen 1;clear y0 y1
 by_cases h1 : y = 1
 ·have hd1 : decide (y = 1) = true := decide_eq_true h1
  rw [hd1]
  go_wp2_with fail
  obtain ⟨b1, b2, b3, b4⟩ := fin_dual (s := s) (A := A) (n := n) (c := c) (bz.ext hx0);have r0 := b1.cell 0 (.bool s) rfl;have r1 := b1.cell 1 (.slice A n c) rfl;unfold set2 at r0 r1;refine bodyPost_ret (v := .agg #[.bool s, .slice A n c]) (by simp [results, Tryz.results100, go_sem, r0, r1]) rfl ⟨s, A, n, c, rfl, ?_, b3 _ (extW.trans hx0) (by omega)⟩;rw [h1, Int.ediv_one];exact b2 _ _ _ _ _ _ (h.ext (extW.trans hx0))
 ·have hd1 : decide (y = 1) = false := decide_eq_false h1
  rw [hd1]
  go_wp2_with fail
  refine (p_DivMod (h.ext (extW.trans hx0)) (k.ext (extW.trans hx0)) (by omega) (by omega) h0).mono ?_;rintro e wb ⟨s1, A1, n1, c1, s2, A2, n2, c2, q, r, rfl, hq, hr, hdm, hx1⟩;obtain ⟨_, hqe, hql⟩ := (dm_q_le hdm h0).2.2 hd;rw [hqe] at hq hql;have hq' := hq.tight h (by simpa using hql);clear x0 x1 y2 y3 z0 z1 f0 f1
  go_upto_region 4 with (fail)
  refine at_world (fun V => Ext W V /\ Box V wb.heap.size 28 #[.bool s1, .slice A1 n1 c1] /\ NI V (z / y) L s1 A1 n1 c1) ?_ ?_
  ·obtain ⟨e1, e2, e3⟩ := two_new wb 28 #[.bool s1, .slice A1 n1 c1] #[.bool s2, .slice A2 n2 c2]
   exact ⟨(hx0.trans hx1).trans e1, e2, hq'.ext e1⟩
  generalize wb.heap.size = g5;rintro V ⟨EV, b5, hqV⟩;have x0 := b5.cell 0 _ rfl;have x1 := b5.cell 1 _ rfl;have z0 := (bz.ext EV).cell 0 _ rfl;have z1 := (bz.ext EV).cell 1 _ rfl;have f0 := (bz.ext EV).frozen 0;have f1 := (bz.ext EV).frozen 1
  go_wp2_with fail
  obtain ⟨b1, b2, b3, b4⟩ := fin_dual (s := s1) (A := A1) (n := n1) (c := c1) (bz.ext EV);have r0 := b1.cell 0 (.bool s1) rfl;have r1 := b1.cell 1 (.slice A1 n1 c1) rfl;unfold set2 at r0 r1;refine bodyPost_ret (v := .agg #[.bool s1, .slice A1 n1 c1]) (by simp [results, Tryz.results100, go_sem, r0, r1]) rfl ⟨s1, A1, n1, c1, rfl, ?_, b3 _ (extW.trans EV) (by omega)⟩;exact b2 _ _ _ _ _ _ hqV
end
theorem gcd_tmod (a b : Int) : Nat.gcd b.natAbs (Int.tmod a b).natAbs = Nat.gcd a.natAbs b.natAbs := by
 rw [Int.natAbs_tmod, Nat.gcd_comm a.natAbs, Nat.gcd_rec b.natAbs a.natAbs, Nat.gcd_comm]
theorem tmod_lt (a b : Int) (h : b ≠ 0) : (Int.tmod a b).natAbs < b.natAbs := by
 rw [Int.natAbs_tmod];exact Nat.mod_lt _ (by omega)
section
variable {w : World}
theorem small_gcd (a b : Int) (ha : a ≠ 0) (h1 : a.natAbs < 9223372036854775808) (h2 : b.natAbs < 9223372036854775808) :
  Calls Tryz.prog 155 #[.int .i64 a, .int .i64 b] w fun e w' => e = .returned (.int .i64 ((Nat.gcd a.natAbs b.natAbs : Nat) : Int)) /\ Ext w w' := by
 obtain ⟨G, hG⟩ : ∃ G, Nat.gcd a.natAbs b.natAbs = G := ⟨_, rfl⟩;rw [hG]
 go_enter Tryz.func155, Tryz.ntmps155
 go_wp2
 go_loopw [0, 1] (fun x y V => ∃ c d : Int, x = .int .i64 c /\ y = .int .i64 d /\ Nat.gcd c.natAbs d.natAbs = G /\ c ≠ 0 /\ c.natAbs < 9223372036854775808 /\ d.natAbs < 9223372036854775808 /\ Ext w V) (fun _ y _ => (intOf y).natAbs)
 case atStart => exact ⟨a, b, rfl, rfl, hG, ha, h1, h2, Ext.refl _⟩
 case round =>
  obtain ⟨c, d, rfl, rfl, hg, hc0, hc, hd, hext⟩ := hrel;have Hg := Lib.hid hg;clear hg
  by_cases h0 : d = 0
  ·subst h0
   have hG2 : c.natAbs = G := by have := Hg.out; rwa [Int.natAbs_zero, Nat.gcd_zero_right] at this
   have hmx : max c (-c) = (G : Int) := by omega
   go_wp2
   go_ret
   exact ⟨rfl, hext⟩
  ·have hne : (d == 0) = false := by rw [beq_eq_false_iff_ne]; exact h0
   have hlt := tmod_lt c d h0;have hgt := gcd_tmod c d;obtain ⟨m, hm⟩ : ∃ m, Int.tmod c d = m := ⟨_, rfl⟩;rw [hm] at hlt hgt;have hw : wrap64 (Int.tmod c d) = m := by rw [hm]; exact IntWalk.wrap64_in _ (by omega)
   have hw2 : IntKind.i64.wrap (Int.tmod c d) = m := by rw [hm]; exact IntWalk.i64_in _ (by omega)
   have Hgt := Lib.hid hgt;clear hgt
   go_wp2_with fail
   have ES0 := Ext.refl wr;refine wp_region_held_drew (S := Ext wr) (by kernel_rfl) ES0.drew (fun ES => ?_);clear ES0;refine Late.s0 ES (fun hAl hQ => ?_);refine Late.t 0 7 ?v_0 hQ ?y_0 ?_
   case y_0 => intro w' hSw;go_simp;try rfl
   try simp only [zP]
   refine Late.t 1 8 ?v_1 hQ ?y_1 ?_
   case y_1 => intro w' hSw;go_simp;try rfl
   try simp only [zP]
   refine Late.t 2 9 ?v_2 hQ ?y_2 ?_
   case y_2 => intro w' hSw;go_simp;try rfl
   try simp only [zP]
   refine Late.t 3 10 ?v_3 hQ ?y_3 ?_
   case y_3 => intro w' hSw;go_simp;try rfl
   try simp only [zP]
   refine Late.t 4 0 ?v_4 hQ ?y_4 ?_
   case y_4 => intro w' hSw;go_simp;try rfl
   try simp only [zP]
   refine Late.t 5 1 ?v_5 hQ ?y_5 ?_
   case y_5 => intro w' hSw;go_simp;try rfl
   try simp only [zP]
   refine Late.d0 (fun wz ez Ez => ?_);clear hAl hQ ES
   go_wp2_with fail
   refine ⟨⟨d, m, rfl, rfl, by rw [Hgt.out, Hg.out], h0, hd, by omega, hext.trans Ez⟩, ?_⟩;simp only [intOf];exact hlt
theorem tdiv_abs_le (a b : Int) : (Int.tdiv a b).natAbs <= a.natAbs := by
 rw [Int.natAbs_tdiv]; exact Nat.div_le_self _ _
theorem p_lowest (N D : Int) (hD : 0 < D) (hN1 : N.natAbs < 9223372036854775808) (hD1 : D.natAbs < 9223372036854775808) : Calls Tryz.prog 137 #[.int .i64 N, .int .i64 D] w (RetNR (mkRat N D.natAbs) 2 w) := by
 obtain ⟨e1, e2⟩ := mkRat_parts N (D := D.natAbs) (by omega);obtain ⟨g, hg⟩ : ∃ g, Nat.gcd D.natAbs N.natAbs = g := ⟨_, rfl⟩;have hg' : N.natAbs.gcd D.natAbs = g := by rw [<- hg, Nat.gcd_comm]
 rw [hg'] at e1 e2;have hgD : g ∣ D.natAbs := by rw [<- hg']; exact Nat.gcd_dvd_right _ _
 have hgN : g ∣ N.natAbs := by rw [<- hg']; exact Nat.gcd_dvd_left _ _
 have hg0 : 0 < g := Nat.pos_of_dvd_of_pos hgD (by omega);have hdN : (g : Int) ∣ N := Int.ofNat_dvd_left.2 hgN;have hdD : (g : Int) ∣ D := Int.ofNat_dvd_left.2 hgD;have hne : ((g : Int) == 0) = false := by rw [beq_eq_false_iff_ne]; omega
 have b1 := tdiv_abs_le N g;have b2 := tdiv_abs_le D g;obtain ⟨Q1, hQ1⟩ : ∃ Q, Int.tdiv N g = Q := ⟨_, rfl⟩;obtain ⟨Q2, hQ2⟩ : ∃ Q, Int.tdiv D g = Q := ⟨_, rfl⟩;rw [hQ1] at b1;rw [hQ2] at b2;have w1 : wrap64 (Int.tdiv N g) = Q1 := by rw [hQ1]; exact IntWalk.wrap64_in _ (by omega)
 have w2 : IntKind.i64.wrap (Int.tdiv N g) = Q1 := by rw [hQ1]; exact IntWalk.i64_in _ (by omega)
 have w3 : wrap64 (Int.tdiv D g) = Q2 := by rw [hQ2]; exact IntWalk.wrap64_in _ (by omega)
 have w4 : IntKind.i64.wrap (Int.tdiv D g) = Q2 := by rw [hQ2]; exact IntWalk.i64_in _ (by omega)
 have hgn : ¬ g = 0 := by omega
 have w5 : IntKind.i64.wrap Q1 = Q1 := IntWalk.i64_in _ (by omega);have w6 : IntKind.i64.wrap Q2 = Q2 := IntWalk.i64_in _ (by omega);have w7 : wrap64 Q1 = Q1 := IntWalk.wrap64_in _ (by omega);have w8 : wrap64 Q2 = Q2 := IntWalk.wrap64_in _ (by omega);have hN : (mkRat N D.natAbs).num = Q1 := by rw [e1, <- hQ1, Int.tdiv_eq_ediv_of_dvd hdN]
 have hDD : ((mkRat N D.natAbs).den : Int) = Q2 := by rw [e2, <- hQ2, Int.tdiv_eq_ediv_of_dvd hdD, Int.natCast_ediv, Int.natAbs_of_nonneg (Int.le_of_lt hD)]
 have HN := Lib.hid hN;have HDD := Lib.hid hDD;have Hg := Lib.hid hg;clear hg hg' e1 e2 hgD hgN hdN hdD hN hDD
 go_enter Tryz.func137, Tryz.ntmps137
 go_upto_region 1 with (fail)
 obtain ⟨W, hW, extW, bz, hz⟩ := box1 w 30 #[Value.bool false, Value.slice none 0 0, Value.bool false, Value.slice none 0 0];rw [<- hW];clear hW
 go_wp2_with fail
 refine (small_gcd D N (by omega) hD1 hN1).mono ?_;rintro e wa ⟨rfl, hxa⟩;rw [Hg.out];replace bz := bz.ext hxa;replace extW := extW.trans hxa
 go_wp2_with fail
 refine wpL.st 9 (fun hQ ES => ?_);refine wpL.t 0 9 ?v_0 hQ ?y_0 ES ?_
 case y_0 => intro w' hSw;go_simp;try rfl
 try simp only [zP]
 refine wpL.t 1 10 ?v_1 hQ ?y_1 ES ?_
 case y_1 => intro w' hSw;go_simp;try rfl
 try simp only [zP]
 refine wpL.t 4 13 ?v_2 hQ ?y_2 ES ?_
 case y_2 => intro w' hSw;go_simp;try rfl
 try simp only [zP]
 refine wpL.t 5 14 ?v_3 hQ ?y_3 ES ?_
 case y_3 => intro w' hSw;go_simp;try rfl
 try simp only [zP]
 refine wpL.t 2 11 ?v_4 hQ ?y_4 ES ?_
 case y_4 => intro w' hSw;go_simp;try rfl
 try simp only [zP]
 refine wpL.t 6 15 ?v_5 hQ ?y_5 ES ?_
 case y_5 => intro w' hSw;go_simp;try rfl
 try simp only [zP]
 refine wpL.cl (i := 3) rfl (fun K hK => ?_);go_simp
 (go_at_call 90; refine (p_FromInt Q1 (by omega) (by omega)).mono ?_; rintro e wb ⟨s1, A1, n1, c1, rfl, h1, hx0⟩; have E0_2 := Ext.trans ES hx0)
 refine hK.out _ _ E0_2 ?_;clear hK K
 try simp only [zP]
 refine wpL.cl (i := 7) rfl (fun K hK => ?_);go_simp
 (go_at_call 90; refine (p_FromInt Q2 (by omega) (by omega)).mono ?_; rintro e wc ⟨s2, A2, n2, c2, rfl, h2, hx1⟩; have E1_2 := Ext.trans E0_2 hx1)
 refine hK.out _ _ E1_2 ?_;clear hK K
 try simp only [zP]
 refine wpL.t 8 17 ?v_6 hQ ?y_6 E1_2 ?_
 case y_6 => intro w' hSw;go_simp;try rfl
 try simp only [zP]
 have z0 := (bz.ext E1_2).cell 0 _ rfl;have z1 := (bz.ext E1_2).cell 1 _ rfl;have z2 := (bz.ext E1_2).cell 2 _ rfl;have z3 := (bz.ext E1_2).cell 3 _ rfl;have f0 := (bz.ext E1_2).frozen 0;have f1 := (bz.ext E1_2).frozen 1;have f2 := (bz.ext E1_2).frozen 2;have f3 := (bz.ext E1_2).frozen 3;refine wpL.tl (i := 9) rfl (fun K hK => ?_);go_simp;refine hK.out _ _ ?_;clear hK K
 try simp only [zP]
 refine wpL.done (by kernel_rfl) ?_ _;clear hQ
 go_wp2_with fail
 clear b1 b2;obtain ⟨b1, b2, b3, b4⟩ := fin_quad (s := s1) (A := A1) (n := n1) (c := c1) (t := s2) (B := A2) (m := n2) (d := c2) (bz.ext E1_2);have r0 := b1.cell 0 (.bool s1) rfl;have r1 := b1.cell 1 (.slice A1 n1 c1) rfl;have r2 := b1.cell 2 (.bool s2) rfl;have r3 := b1.cell 3 (.slice A2 n2 c2) rfl;unfold set4 at r0 r1 r2 r3;refine bodyPost_ret (v := .agg #[.bool s1, .slice A1 n1 c1, .bool s2, .slice A2 n2 c2]) (by simp [results, Tryz.results137, go_sem, r0, r1, r2, r3]) rfl ⟨s1, A1, n1, c1, s2, A2, n2, c2, rfl, ⟨?_, ?_⟩, b3 _ (extW.trans E1_2) (by omega)⟩
 ·rw [HN.out]
  exact b2 _ _ _ _ _ _ (h1.ext hx1)
 ·rw [HDD.out]
  exact b2 _ _ _ _ _ _ h2
end
def Sm (q : Rat) (a b : Int) : Prop := a = q.num /\ b = (q.den : Int) /\ a.natAbs < 2147483648 /\ b.natAbs < 2147483648
theorem NoWord.ints {a b : Int} : NoWord #[.int .i64 a, .int .i64 b] := by
 intro i k h
 match i with
 | 0 => simp at h
 | 1 => simp at h
 | i + 2 => simp at h
theorem fin_ints {w2 : World} {g : Nat} {T : TypeId} {x y a b : Int} (hb : Box w2 g T #[.int .i64 x, .int .i64 y]) :
  Box (set2 w2 g (.int .i64 a) (.int .i64 b)) g T #[.int .i64 a, .int .i64 b] /\
  (∀ z L s' A' n' c', NI w2 z L s' A' n' c' -> NI (set2 w2 g (.int .i64 a) (.int .i64 b)) z L s' A' n' c') /\
  (∀ W, Ext W w2 -> W.heap.size <= g -> Ext W (set2 w2 g (.int .i64 a) (.int .i64 b))) /\
  (∀ g' T' cs', g' ≠ g -> Box w2 g' T' cs' -> Box (set2 w2 g (.int .i64 a) (.int .i64 b)) g' T' cs') := by
 unfold set2;have h1 : Box (w2.setCell ⟨g, 0, none⟩ (.int .i64 a)) g T #[.int .i64 a, .int .i64 y] := hb.set 0 (.int .i64 a);refine ⟨h1.set 1 (.int .i64 b), fun z L s' A' n' c' h => ?_, fun W e hg => ?_, fun g' T' cs' hg h => ?_⟩
 ·exact (h.set hb NoWord.ints 0 _).set h1 NoWord.ints 1 _
 ·exact (e.setCell hg _).setCell hg _
 ·exact (h.far hg _).far hg _
section
variable {w w' : World} {z y : Int} {q p : Rat} {L M : Nat} {s t s' t' : Bool} {A B A' B' : Option Addr} {n c m d n' c' m' d' : Nat}
theorem p_Int64 (h : NI w z L s A n c) (hL : L <= 100000) : Calls Tryz.prog 154 #[.agg #[.bool s, .slice A n c]] w (RetV z w) := by
 obtain ⟨xs, hn, hx, hc, hcm, hi, hl⟩ := h.out;rw [<- hi.eq];exact int_Int64 hn hx hc hcm (by omega)
theorem NI.one_word (h : NI w z L s A n c) (h1 : n <= 1) : z.natAbs < 4294967296 := by
 obtain ⟨xs, hn, hx, hc, hcm, hi, hl⟩ := h.out;have h2 := val_lt hx.1;have h3 : 4294967296 ^ xs.length <= 4294967296 ^ 1 := Nat.pow_le_pow_right (by omega) (by omega);rw [hi.abs] at h2;omega
def RetSm (q : Rat) (w : World) (e : Ending) (w' : World) : Prop := ∃ a b ok, e = .returned (.tuple #[.agg #[.int .i64 a, .int .i64 b], .bool ok]) /\ (ok = true -> Sm q a b) /\ Ext w w'
theorem p_toSmall (h : NR w q L s A n c t B m d) (hL : L <= 20000) : Calls Tryz.prog 136 #[.agg #[.bool s, .slice A n c, .bool t, .slice B m d]] w (RetSm q w) := by
 have hnm : n <= 20000 /\ m <= 20000 := by have := h.num.size; have := h.den.size; omega
 go_enter Tryz.func136, Tryz.ntmps136
 go_upto_region 1 with (fail)
 obtain ⟨W, hW, extW, bx, bz, hz⟩ := box2 w 30 94 #[.bool s, .slice A n c, .bool t, .slice B m d] #[Value.int .i64 0, Value.int .i64 0];rw [<- hW];clear hW;have x0 := bx.cell 0 (.bool s) rfl;have x1 := bx.cell 1 (.slice A n c) rfl;have x2 := bx.cell 2 (.bool t) rfl;have x3 := bx.cell 3 (.slice B m d) rfl;have hE := Ext.refl W
 by_cases hn : n <= 1
 ·have d1 : decide ((1 : Int) < (n : Int)) = false := decide_eq_false (by omega)
  have d1' : decide (1 < n) = false := decide_eq_false (by omega)
  by_cases hm : m = 1
  ·have d2 : ((m : Int) != 1) = false := by simp [hm]
   have hq1 := h.num.one_word hn;have hq2 := h.den.one_word (by omega);have hv1 := (fit_yes (z := q.num) (by omega)).2;have hv2 := (fit_yes (z := (q.den : Int)) (by omega)).2;have Hv1 := Lib.hid hv1;have Hv2 := Lib.hid hv2;clear hv1 hv2;subst hm
   go_wp2_with fail
   refine (p_Int64 (h.num.ext extW) (by omega)).mono ?_;rintro e wa ⟨rfl, hxa⟩;rw [Hv1.out];have x2 := (bx.ext hxa).cell 2 (.bool t) rfl;have x3 := (bx.ext hxa).cell 3 (.slice B 1 d) rfl
   go_wp2_with fail
   refine (p_Int64 (h.den.ext (extW.trans hxa)) (by omega)).mono ?_;rintro e wb ⟨rfl, hxb⟩;rw [Hv2.out];clear x0 x1 x2 x3 hE;have hE := hxa.trans hxb;have z0 := (bz.ext hE).cell 0 _ rfl;have z1 := (bz.ext hE).cell 1 _ rfl;have f0 := (bz.ext hE).frozen 0;have f1 := (bz.ext hE).frozen 1;obtain ⟨a, ha⟩ : ∃ a, q.num = a := ⟨_, rfl⟩;obtain ⟨b, hb⟩ : ∃ b, (q.den : Int) = b := ⟨_, rfl⟩;have Ha := Lib.hid ha;have Hb := Lib.hid hb;rw [ha, hb];rw [ha] at hq1;rw [hb] at hq2;clear ha hb
   by_cases k1 : -2147483648 < a
   ·have g1 : decide (-2147483648 < a) = true := decide_eq_true k1
    by_cases k2 : a < 2147483648
    ·have g2 : decide (a < 2147483648) = true := decide_eq_true k2
     by_cases k3 : 0 < b
     ·have g3 : decide (0 < b) = true := decide_eq_true k3
      by_cases k4 : b < 2147483648
      ·have g4 : decide (b < 2147483648) = true := decide_eq_true k4
       go_wp2_with fail
       obtain ⟨b1, b2, b3, b4⟩ := fin_ints (a := a) (b := b) (bz.ext hE);have r0 := b1.cell 0 (.int .i64 (a)) rfl;have r1 := b1.cell 1 (.int .i64 (b)) rfl;unfold set2 at r0 r1;exact bodyPost_ret (v := .tuple #[.agg #[.int .i64 (a), .int .i64 (b)], .bool true]) (by simp [results, Tryz.results136, go_sem, r0, r1]) rfl ⟨a, b, true, rfl, (fun _ => ⟨Ha.out.symm, Hb.out.symm, by omega, by omega⟩), b3 _ (extW.trans hE) (by omega)⟩
      ·have g4 : decide (b < 2147483648) = false := decide_eq_false k4
       go_wp2_with fail
       obtain ⟨b1, b2, b3, b4⟩ := fin_ints (a := a) (b := b) (bz.ext hE);have r0 := b1.cell 0 (.int .i64 (a)) rfl;have r1 := b1.cell 1 (.int .i64 (b)) rfl;unfold set2 at r0 r1;exact bodyPost_ret (v := .tuple #[.agg #[.int .i64 (a), .int .i64 (b)], .bool false]) (by simp [results, Tryz.results136, go_sem, r0, r1]) rfl ⟨a, b, false, rfl, (fun h => by cases h), b3 _ (extW.trans hE) (by omega)⟩
     ·have g3 : decide (0 < b) = false := decide_eq_false k3
      go_wp2_with fail
      obtain ⟨b1, b2, b3, b4⟩ := fin_ints (a := a) (b := b) (bz.ext hE);have r0 := b1.cell 0 (.int .i64 (a)) rfl;have r1 := b1.cell 1 (.int .i64 (b)) rfl;unfold set2 at r0 r1;exact bodyPost_ret (v := .tuple #[.agg #[.int .i64 (a), .int .i64 (b)], .bool false]) (by simp [results, Tryz.results136, go_sem, r0, r1]) rfl ⟨a, b, false, rfl, (fun h => by cases h), b3 _ (extW.trans hE) (by omega)⟩
    ·have g2 : decide (a < 2147483648) = false := decide_eq_false k2
     go_wp2_with fail
     obtain ⟨b1, b2, b3, b4⟩ := fin_ints (a := a) (b := b) (bz.ext hE);have r0 := b1.cell 0 (.int .i64 (a)) rfl;have r1 := b1.cell 1 (.int .i64 (b)) rfl;unfold set2 at r0 r1;exact bodyPost_ret (v := .tuple #[.agg #[.int .i64 (a), .int .i64 (b)], .bool false]) (by simp [results, Tryz.results136, go_sem, r0, r1]) rfl ⟨a, b, false, rfl, (fun h => by cases h), b3 _ (extW.trans hE) (by omega)⟩
   ·have g1 : decide (-2147483648 < a) = false := decide_eq_false k1
    go_wp2_with fail
    obtain ⟨b1, b2, b3, b4⟩ := fin_ints (a := a) (b := b) (bz.ext hE);have r0 := b1.cell 0 (.int .i64 (a)) rfl;have r1 := b1.cell 1 (.int .i64 (b)) rfl;unfold set2 at r0 r1;exact bodyPost_ret (v := .tuple #[.agg #[.int .i64 (a), .int .i64 (b)], .bool false]) (by simp [results, Tryz.results136, go_sem, r0, r1]) rfl ⟨a, b, false, rfl, (fun h => by cases h), b3 _ (extW.trans hE) (by omega)⟩
  ·have d2 : ((m : Int) != 1) = true := by rw [bne_iff_ne]; omega
   have z0 := (bz.ext hE).cell 0 _ rfl;have z1 := (bz.ext hE).cell 1 _ rfl;have f0 := (bz.ext hE).frozen 0;have f1 := (bz.ext hE).frozen 1
   go_wp2_with fail
   obtain ⟨b1, b2, b3, b4⟩ := fin_ints (a := 0) (b := 0) (bz.ext hE);have r0 := b1.cell 0 (.int .i64 (0)) rfl;have r1 := b1.cell 1 (.int .i64 (0)) rfl;unfold set2 at r0 r1;exact bodyPost_ret (v := .tuple #[.agg #[.int .i64 (0), .int .i64 (0)], .bool false]) (by simp [results, Tryz.results136, go_sem, r0, r1]) rfl ⟨0, 0, false, rfl, (fun h => by cases h), b3 _ (extW.trans hE) (by omega)⟩
 ·have d1 : decide ((1 : Int) < (n : Int)) = true := decide_eq_true (by omega)
  have d1' : decide (1 < n) = true := decide_eq_true (by omega);have z0 := (bz.ext hE).cell 0 _ rfl;have z1 := (bz.ext hE).cell 1 _ rfl;have f0 := (bz.ext hE).frozen 0;have f1 := (bz.ext hE).frozen 1
  go_wp2_with fail
  obtain ⟨b1, b2, b3, b4⟩ := fin_ints (a := 0) (b := 0) (bz.ext hE);have r0 := b1.cell 0 (.int .i64 (0)) rfl;have r1 := b1.cell 1 (.int .i64 (0)) rfl;unfold set2 at r0 r1;exact bodyPost_ret (v := .tuple #[.agg #[.int .i64 (0), .int .i64 (0)], .bool false]) (by simp [results, Tryz.results136, go_sem, r0, r1]) rfl ⟨0, 0, false, rfl, (fun h => by cases h), b3 _ (extW.trans hE) (by omega)⟩
theorem mul31 {a b : Int} (ha : a.natAbs < 2147483648) (hb : b.natAbs < 2147483648) : (a * b).natAbs < 4611686018427387904 := by
 rw [Int.natAbs_mul];have := Nat.mul_le_mul (Nat.le_of_lt_succ ha) (Nat.le_of_lt_succ hb);omega
theorem p_times {a b a' b' : Int} (h : Sm q a b) (k : Sm p a' b') : Calls Tryz.prog 101 #[.agg #[.int .i64 a, .int .i64 b], .agg #[.int .i64 a', .int .i64 b']] w (RetNR (q * p) 2 w) := by
 obtain ⟨h1, h2, h3, h4⟩ := h;obtain ⟨k1, k2, k3, k4⟩ := k;have hb0 : 0 < b := by have := q.den_pos; omega
 have hb0' : 0 < b' := by have := p.den_pos; omega
 have m1 := mul31 h3 k4;have m2 := mul31 k3 h4;have m3 := mul31 h4 k4;have m4 := mul31 h3 k3;have hpos : 0 < b * b' := Int.mul_pos hb0 hb0'
 have hval : mkRat (a * a') (b * b').natAbs = q * p := by
  rw [Rat.mul_def', Int.natAbs_mul, h1, h2, k1, k2, Int.natAbs_natCast, Int.natAbs_natCast]
 have Hval := Lib.hid hval;clear hval h1 h2 k1 k2;obtain ⟨u1, hu1⟩ : ∃ u, a * b' = u := ⟨_, rfl⟩;obtain ⟨u2, hu2⟩ : ∃ u, a' * b = u := ⟨_, rfl⟩;obtain ⟨u3, hu3⟩ : ∃ u, b * b' = u := ⟨_, rfl⟩;obtain ⟨u4, hu4⟩ : ∃ u, a * a' = u := ⟨_, rfl⟩;rw [hu1] at m1;rw [hu2] at m2;rw [hu3] at m3 hpos;rw [hu4] at m4;have Hu1 := Lib.hid hu1;have Hu2 := Lib.hid hu2;have Hu3 := Lib.hid hu3;have Hu4 := Lib.hid hu4;have w1 : IntKind.i64.wrap u1 = u1 := IntWalk.i64_in _ (by omega);have w2 : IntKind.i64.wrap u2 = u2 := IntWalk.i64_in _ (by omega);have w3 : IntKind.i64.wrap u3 = u3 := IntWalk.i64_in _ (by omega);have w4 : IntKind.i64.wrap u4 = u4 := IntWalk.i64_in _ (by omega);have v1 : wrap64 u1 = u1 := IntWalk.wrap64_in _ (by omega);have v2 : wrap64 u2 = u2 := IntWalk.wrap64_in _ (by omega);have v3 : wrap64 u3 = u3 := IntWalk.wrap64_in _ (by omega);have v4 : wrap64 u4 = u4 := IntWalk.wrap64_in _ (by omega);have w5 : IntKind.i64.wrap (u1 + u2) = u1 + u2 := IntWalk.i64_in _ (by omega);have v5 : wrap64 (u1 + u2) = u1 + u2 := IntWalk.wrap64_in _ (by omega)
 go_enter Tryz.func101, Tryz.ntmps101
 go_upto_region 1 with (fail)
 obtain ⟨W, hW, extW, bx, by_, bz, hz⟩ := box3 w 94 94 30 #[.int .i64 a, .int .i64 b] #[.int .i64 a', .int .i64 b'] #[Value.bool false, Value.slice none 0 0, Value.bool false, Value.slice none 0 0];rw [<- hW];clear hW;have x0 := bx.cell 0 (.int .i64 a) rfl;have x1 := bx.cell 1 (.int .i64 b) rfl;have y0 := by_.cell 0 (.int .i64 a') rfl;have y1 := by_.cell 1 (.int .i64 b') rfl
 go_wp2_with fail
 refine (p_lowest _ _ hpos (by omega) (by omega)).mono ?_;rintro e wa ⟨s, A, n, c, t, B, m, d, rfl, hr, hxa⟩;rw [<- Hu3.out] at hr;have z0 := (bz.ext hxa).cell 0 _ rfl;have z1 := (bz.ext hxa).cell 1 _ rfl;have z2 := (bz.ext hxa).cell 2 _ rfl;have z3 := (bz.ext hxa).cell 3 _ rfl;have f0 := (bz.ext hxa).frozen 0;have f1 := (bz.ext hxa).frozen 1;have f2 := (bz.ext hxa).frozen 2;have f3 := (bz.ext hxa).frozen 3
 go_wp2_with fail
 rw [<- Hu4.out, Hval.out] at hr;obtain ⟨b1, b2, b3, b4⟩ := fin_quad (s := s) (A := A) (n := n) (c := c) (t := t) (B := B) (m := m) (d := d) (bz.ext hxa);have r0 := b1.cell 0 (.bool s) rfl;have r1 := b1.cell 1 (.slice A n c) rfl;have r2 := b1.cell 2 (.bool t) rfl;have r3 := b1.cell 3 (.slice B m d) rfl;unfold set4 at r0 r1 r2 r3;refine bodyPost_ret (v := .agg #[.bool s, .slice A n c, .bool t, .slice B m d]) (by simp [results, Tryz.results101, go_sem, r0, r1, r2, r3]) rfl ⟨s, A, n, c, t, B, m, d, rfl, ⟨?_, ?_⟩, b3 _ (extW.trans hxa) (by omega)⟩
 ·exact b2 _ _ _ _ _ _ hr.num
 ·exact b2 _ _ _ _ _ _ hr.den
end
theorem Hd.take {P : Program} {ops : Array Oper} {Q : Exit -> Act -> World -> Prop} {md : Region.Mode} {S : World -> Prop} {n i : Nat} {oi : Oper} {d : Option Tmp} {v : Value} {L : Array Bool} {a : Act} {w : World} (hi : ops[i]? = some oi) (hd : oi.dst = d) (hs : Region.noSelect ops = true)
  (hf : Region.free md ops L i = true) (hr : (Region.ready md ops L).contains i = true) (hQ : QStill Q) (hy : YieldsIf P ops S oi v a) (hS : S w) (h : wpAnyH P md ops Q S n (L.setIfInBounds i true) (a.put d v) w) : wpAnyH P md ops Q S (n + 1) L a w := by
 subst hd;exact wpAnyH_first hi (Region.noSelect_spec hs) (fun c a w => (hQ.put c a _ _ w).1) n L a w (fun j oj hj hne hun hno => Region.free_spec hi hf j oj hj hne hun hno) (by simpa using hr) hy hS h
section
variable {w w' : World} {z y : Int} {q p : Rat} {L M : Nat} {s t s' t' : Bool} {A B A' B' : Option Addr} {n c m d n' c' m' d' : Nat}
theorem fin_pairs {w2 : World} {g k : Nat} {T : TypeId} {x y u v a b c d : Int} (hb : Box w2 g T #[.int .i64 x, .int .i64 y]) (hc : Box w2 k T #[.int .i64 u, .int .i64 v]) (hne : g ≠ k) :
  Box (set2 (set2 w2 g (.int .i64 a) (.int .i64 b)) k (.int .i64 c) (.int .i64 d)) g T #[.int .i64 a, .int .i64 b] /\
  Box (set2 (set2 w2 g (.int .i64 a) (.int .i64 b)) k (.int .i64 c) (.int .i64 d)) k T #[.int .i64 c, .int .i64 d] /\
  (∀ W, Ext W w2 -> W.heap.size <= g -> W.heap.size <= k -> Ext W (set2 (set2 w2 g (.int .i64 a) (.int .i64 b)) k (.int .i64 c) (.int .i64 d))) /\ True := by
 obtain ⟨h1, _, h3, h4⟩ := fin_ints (a := a) (b := b) hb;obtain ⟨j1, _, j3, j4⟩ := fin_ints (a := c) (b := d) (h4 k _ _ (Ne.symm hne) hc);exact ⟨j4 g _ _ hne h1, j1, fun W e hg hk => j3 W (h3 W e hg) hk, trivial⟩
def RetPair (q p : Rat) (w : World) (e : Ending) (w' : World) : Prop := ∃ a b c d ok, e = .returned (.tuple #[.agg #[.int .i64 a, .int .i64 b], .agg #[.int .i64 c, .int .i64 d], .bool ok]) /\ (ok = true -> Sm q a b /\ Sm p c d) /\ Ext w w'
theorem p_smallPair (h : NR w q L s A n c t B m d) (k : NR w p M s' A' n' c' t' B' m' d') (hL : L <= 20000) (hM : M <= 20000) : Calls Tryz.prog 97 #[.agg #[.bool s, .slice A n c, .bool t, .slice B m d], .agg #[.bool s', .slice A' n' c', .bool t', .slice B' m' d']] w (RetPair q p w) := by
 go_enter Tryz.func97, Tryz.ntmps97
 go_upto_region 1 with (fail)
 obtain ⟨W, hW, extW, bx, by_, b4, b5, hz⟩ := box4 w 30 30 94 94 #[.bool s, .slice A n c, .bool t, .slice B m d] #[.bool s', .slice A' n' c', .bool t', .slice B' m' d'] #[Value.int .i64 0, Value.int .i64 0] #[Value.int .i64 0, Value.int .i64 0];rw [<- hW];clear hW;have x0 := bx.cell 0 (.bool s) rfl;have x1 := bx.cell 1 (.slice A n c) rfl;have x2 := bx.cell 2 (.bool t) rfl;have x3 := bx.cell 3 (.slice B m d) rfl
 go_wp2_with fail
 refine (p_toSmall (h.ext extW) hL).mono ?_;rintro e wa ⟨a1, a2, ok1, rfl, hok1, hxa⟩;clear x0 x1 x2 x3
 go_upto_region 2 with (fail)
 refine at_world (fun V => Ext W V /\ Box V wa.heap.size 94 #[.int .i64 a1, .int .i64 a2]) ⟨hxa.alloc _, Box.new wa _ _⟩ ?_;have hg7 : w.heap.size + 4 <= wa.heap.size := Nat.le_trans hz hxa.size;generalize wa.heap.size = g7 at hg7 ⊢;rintro V ⟨EV, x7⟩;replace bx := bx.ext EV;replace by_ := by_.ext EV;replace b4 := b4.ext EV;replace b5 := b5.ext EV;replace extW := extW.trans EV;have Hok1 := Lib.hid hok1;clear hok1 EV hxa
 cases ok1 with
 | false =>
  have hE := Ext.refl V;have z0 := (b4.ext hE).cell 0 _ rfl;have z1 := (b4.ext hE).cell 1 _ rfl;have f0 := (b4.ext hE).frozen 0;have f1 := (b4.ext hE).frozen 1;have z2 := (b5.ext hE).cell 0 _ rfl;have z3 := (b5.ext hE).cell 1 _ rfl;have f2 := (b5.ext hE).frozen 0;have f3 := (b5.ext hE).frozen 1
  go_wp2_with fail
  obtain ⟨k1, k2, k3, _⟩ := fin_pairs (a := 0) (b := 0) (c := 0) (d := 0) (b4.ext hE) (b5.ext hE) (by omega);have r0 := k1.cell 0 (.int .i64 (0)) rfl;have r1 := k1.cell 1 (.int .i64 (0)) rfl;have r2 := k2.cell 0 (.int .i64 (0)) rfl;have r3 := k2.cell 1 (.int .i64 (0)) rfl;unfold set2 at r0 r1 r2 r3;exact bodyPost_ret (v := .tuple #[.agg #[.int .i64 (0), .int .i64 (0)], .agg #[.int .i64 (0), .int .i64 (0)], .bool false]) (by simp [results, Tryz.results97, go_sem, r0, r1, r2, r3]) rfl ⟨0, 0, 0, 0, false, rfl, (fun h => by cases h), k3 _ (extW.trans hE) (by omega) (by omega)⟩
 | true =>
  have y0 := by_.cell 0 (.bool s') rfl;have y1 := by_.cell 1 (.slice A' n' c') rfl;have y2 := by_.cell 2 (.bool t') rfl;have y3 := by_.cell 3 (.slice B' m' d') rfl
  go_wp2_with fail
  refine (p_toSmall (k.ext extW) hM).mono ?_;rintro e wb ⟨c1, c2, ok2, rfl, hok2, hxb⟩;clear y0 y1 y2 y3;have Hok2 := Lib.hid hok2;clear hok2
  go_upto_region 5 with (fail)
  refine at_world (fun V9 => Ext V V9 /\ Box V9 wb.heap.size 94 #[.int .i64 c1, .int .i64 c2]) ⟨hxb.alloc _, Box.new wb _ _⟩ ?_;have hg9 : w.heap.size + 4 <= wb.heap.size := by have := hxb.size; have := x7.lt; omega
  generalize wb.heap.size = g9 at hg9 ⊢;rintro V9 ⟨EV, x9⟩;replace x7 := x7.ext EV;replace b4 := b4.ext EV;replace b5 := b5.ext EV;replace extW := extW.trans EV;clear EV hxb;have hE := Ext.refl V9;have x70 := x7.cell 0 (.int .i64 a1) rfl;have x71 := x7.cell 1 (.int .i64 a2) rfl;have x90 := x9.cell 0 (.int .i64 c1) rfl;have x91 := x9.cell 1 (.int .i64 c2) rfl;have l7 : w.heap.size + 4 <= g7 := hg7;have l9 : w.heap.size + 4 <= g9 := hg9;have z0 := (b4.ext hE).cell 0 _ rfl;have z1 := (b4.ext hE).cell 1 _ rfl;have f0 := (b4.ext hE).frozen 0;have f1 := (b4.ext hE).frozen 1;have z2 := (b5.ext hE).cell 0 _ rfl;have z3 := (b5.ext hE).cell 1 _ rfl;have f2 := (b5.ext hE).frozen 0;have f3 := (b5.ext hE).frozen 1;refine wp_region_held_drew (S := (fun U => Box U g7 94 #[.int .i64 a1, .int .i64 a2] /\ Box U g9 94 #[.int .i64 c1, .int .i64 c2])) (by kernel_rfl) ⟨x7.ext hE.drew, x9.ext hE.drew⟩ (fun HS => ?_);refine Hd.take (i := 0) (d := some 24) (v := ?v_0) rfl rfl (by kernel_rfl) (by kernel_rfl) (by kernel_rfl) (fun _ _ _ _ _ => ⟨fun h => h, fun h => h⟩) (Or.inl ⟨by rfl, ?y_0⟩) HS ?r_0
  case y_0 => intro w' hSw;have k0 := hSw.1.cell 0 _ rfl;have k1 := hSw.1.cell 1 _ rfl;have k2 := hSw.2.cell 0 _ rfl;have k3 := hSw.2.cell 1 _ rfl;go_simp;try rfl
  try simp only [zP]
  refine Hd.take (i := 1) (d := some 25) (v := ?v_1) rfl rfl (by kernel_rfl) (by kernel_rfl) (by kernel_rfl) (fun _ _ _ _ _ => ⟨fun h => h, fun h => h⟩) (Or.inl ⟨by rfl, ?y_1⟩) HS ?r_1
  case y_1 => intro w' hSw;have k0 := hSw.1.cell 0 _ rfl;have k1 := hSw.1.cell 1 _ rfl;have k2 := hSw.2.cell 0 _ rfl;have k3 := hSw.2.cell 1 _ rfl;go_simp;try rfl
  try simp only [zP]
  refine Hd.take (i := 2) (d := some 26) (v := ?v_2) rfl rfl (by kernel_rfl) (by kernel_rfl) (by kernel_rfl) (fun _ _ _ _ _ => ⟨fun h => h, fun h => h⟩) (Or.inl ⟨by rfl, ?y_2⟩) HS ?r_2
  case y_2 => intro w' hSw;have k0 := hSw.1.cell 0 _ rfl;have k1 := hSw.1.cell 1 _ rfl;have k2 := hSw.2.cell 0 _ rfl;have k3 := hSw.2.cell 1 _ rfl;go_simp;try rfl
  try simp only [zP]
  have e4 := fin_ints (a := a1) (b := a2) b4;refine wpAnyH_ready (rs := [3]) (by kernel_rfl) (by simp) (AllReadyH.cons rfl (fun K hK => ?_) AllReadyH.nil);go_simp;refine hK.out _ _ ⟨(e4.2.2.2 _ _ _ (by omega) x7).ext (Ext.refl _).drew, (e4.2.2.2 _ _ _ (by omega) x9).ext (Ext.refl _).drew⟩ (fun _ => ?_);clear hK K
  try simp only [zP]
  have e5 := e4.2.2.2 _ _ _ (by omega) b5;have z40 := e5.cell 0 _ rfl;have z41 := e5.cell 1 _ rfl;have z42 := e5.frozen 0;have z43 := e5.frozen 1;have e6 := fin_ints (a := c1) (b := c2) e5;unfold set2 at z40 z41 z42 z43;refine wpAnyH_ready (rs := [4]) (by kernel_rfl) (by simp) (AllReadyH.cons rfl (fun K hK => ?_) AllReadyH.nil);go_simp;refine hK.out _ _ ⟨(e6.2.2.2 _ _ _ (by omega) (e4.2.2.2 _ _ _ (by omega) x7)).ext (Ext.refl _).drew, (e6.2.2.2 _ _ _ (by omega) (e4.2.2.2 _ _ _ (by omega) x9)).ext (Ext.refl _).drew⟩ (fun _ => ?_);clear hK K
  try simp only [zP]
  refine wpAnyH_ready (rs := [5]) (by kernel_rfl) (by simp) (AllReadyH.cons rfl (fun K hK => ?_) AllReadyH.nil);go_simp;refine hK.out _ _ ⟨(e6.2.2.2 _ _ _ (by omega) (e4.2.2.2 _ _ _ (by omega) x7)).ext (Ext.refl _).drew, (e6.2.2.2 _ _ _ (by omega) (e4.2.2.2 _ _ _ (by omega) x9)).ext (Ext.refl _).drew⟩ (fun _ => ?_);clear hK K
  try simp only [zP]
  refine wpAnyH_done (by kernel_rfl) ?_ _
  go_wp2_with fail
  obtain ⟨k1, k2, k3, _⟩ := fin_pairs (a := a1) (b := a2) (c := c1) (d := c2) (b4.ext hE) (b5.ext hE) (by omega);have r0 := k1.cell 0 (.int .i64 (a1)) rfl;have r1 := k1.cell 1 (.int .i64 (a2)) rfl;have r2 := k2.cell 0 (.int .i64 (c1)) rfl;have r3 := k2.cell 1 (.int .i64 (c2)) rfl;unfold set2 at r0 r1 r2 r3;exact bodyPost_ret (v := .tuple #[.agg #[.int .i64 (a1), .int .i64 (a2)], .agg #[.int .i64 (c1), .int .i64 (c2)], .bool ok2]) (by simp [results, Tryz.results97, go_sem, r0, r1, r2, r3]) rfl ⟨a1, a2, c1, c2, ok2, rfl, (fun h => ⟨Hok1.out (by first | rfl | trivial), Hok2.out h⟩), (k3 _ (extW.trans hE) (by omega) (by omega)).drew⟩
end
section
variable {w w' : World} {z y : Int} {q p : Rat} {L M : Nat} {s t s' t' : Bool} {A B A' B' : Option Addr} {n c m d n' c' m' d' : Nat}
theorem rat_add_one {q p : Rat} (h1 : (q.den : Int) = 1) (h2 : (p.den : Int) = 1) : ((q.num + p.num : Int) : Rat) = q + p := by
 have e1 : q.den = 1 := by omega
 have e2 : p.den = 1 := by omega
 rw [Rat.add_def', e1, e2];simp [Rat.mkRat_one]
theorem NR.pos (h : NR w q L s A n c t B m d) : 1 <= L := by
 have h1 := h.den.zero;have h2 := h.den.size;have h3 := q.den_nz;omega
end
section
variable {w w' : World} {z y : Int} {q p : Rat} {L M : Nat} {s t s' t' : Bool} {A B A' B' : Option Addr} {n c m d n' c' m' d' : Nat}
set_option maxRecDepth 100000 in
theorem p_MulR (h : NR w q L s A n c t B m d) (k : NR w p M s' A' n' c' t' B' m' d') (hL : L <= 1000) (hM : M <= 1000) (h64 : min L M < 64) (hT : Tab w) : Calls Tryz.prog 63 #[.agg #[.bool s, .slice A n c, .bool t, .slice B m d], .agg #[.bool s', .slice A' n' c', .bool t', .slice B' m' d']] w (RetNR (q * p) (L + M) w) := by
 have hL1 := h.pos;have hM1 := k.pos
 go_enter Tryz.func63, Tryz.ntmps63
 go_upto_region 1 with (fail)
 obtain ⟨W, hW, extW, bx, by_, bz, hz⟩ := box3 w 30 30 30 #[.bool s, .slice A n c, .bool t, .slice B m d] #[.bool s', .slice A' n' c', .bool t', .slice B' m' d'] #[Value.bool false, Value.slice none 0 0, Value.bool false, Value.slice none 0 0];rw [<- hW];clear hW;replace h := h.ext extW;replace k := k.ext extW;have x0 := bx.cell 0 (.bool s) rfl;have x1 := bx.cell 1 (.slice A n c) rfl;have x2 := bx.cell 2 (.bool t) rfl;have x3 := bx.cell 3 (.slice B m d) rfl;have y0 := by_.cell 0 (.bool s') rfl;have y1 := by_.cell 1 (.slice A' n' c') rfl;have y2 := by_.cell 2 (.bool t') rfl;have y3 := by_.cell 3 (.slice B' m' d') rfl
 go_wp2_with fail
 refine (p_smallPair h k (by omega) (by omega)).mono ?_;rintro e wa ⟨a1, a2, c1, c2, ok, rfl, hok, hxa⟩;have Hok := Lib.hid hok;clear hok;clear x0 x1 x2 x3;clear y0 y1 y2 y3
 go_upto_region 2 with (fail)
 refine at_world (fun V => Ext W V /\ Box V wa.heap.size 94 #[.int .i64 a1, .int .i64 a2] /\ Box V (wa.heap.size + 1) 94 #[.int .i64 c1, .int .i64 c2]) ?_ ?_
 ·obtain ⟨e1, e2, e3⟩ := two_new wa 94 #[.int .i64 a1, .int .i64 a2] #[.int .i64 c1, .int .i64 c2]
  exact ⟨hxa.trans e1, e2, e3⟩
 generalize wa.heap.size = g5;clear hxa;rintro V ⟨EV, b5, b6⟩;replace bx := bx.ext EV;replace by_ := by_.ext EV;replace bz := bz.ext EV;replace h := h.ext EV;replace k := k.ext EV;replace extW := extW.trans EV;clear EV
 cases ok with
 | true =>
  obtain ⟨sm1, sm2⟩ := Hok.out (by first | rfl | trivial);have j0 := b5.cell 0 (.int .i64 a1) rfl;have j1 := b5.cell 1 (.int .i64 a2) rfl;have j2 := b6.cell 0 (.int .i64 c1) rfl;have j3 := b6.cell 1 (.int .i64 c2) rfl
  go_wp2_with fail
  refine (p_times sm1 sm2).mono ?_;rintro e wb ⟨s1, A1, n1, c1', t1, B1, m1, d1, rfl, hr, hxb⟩;have z0 := (bz.ext hxb).cell 0 _ rfl;have z1 := (bz.ext hxb).cell 1 _ rfl;have z2 := (bz.ext hxb).cell 2 _ rfl;have z3 := (bz.ext hxb).cell 3 _ rfl;have f0 := (bz.ext hxb).frozen 0;have f1 := (bz.ext hxb).frozen 1;have f2 := (bz.ext hxb).frozen 2;have f3 := (bz.ext hxb).frozen 3
  go_wp2_with fail
  obtain ⟨b1, b2, b3, b4⟩ := fin_quad (s := s1) (A := A1) (n := n1) (c := c1') (t := t1) (B := B1) (m := m1) (d := d1) (bz.ext hxb);have r0 := b1.cell 0 (.bool s1) rfl;have r1 := b1.cell 1 (.slice A1 n1 c1') rfl;have r2 := b1.cell 2 (.bool t1) rfl;have r3 := b1.cell 3 (.slice B1 m1 d1) rfl;unfold set4 at r0 r1 r2 r3;refine bodyPost_ret (v := .agg #[.bool s1, .slice A1 n1 c1', .bool t1, .slice B1 m1 d1]) (by simp [results, Tryz.results63, go_sem, r0, r1, r2, r3]) rfl ⟨s1, A1, n1, c1', t1, B1, m1, d1, rfl, ⟨?_, ?_⟩, b3 _ (extW.trans hxb) (by omega)⟩
  ·exact (b2 _ _ _ _ _ _ hr.num).le (by omega)
  ·exact (b2 _ _ _ _ _ _ hr.den).le (by omega)
 | false =>
  go_wp2_with fail
  have ES0 := Ext.refl V;refine wp_region_held_drew (S := Ext V) (by kernel_rfl) ES0.drew (fun ES => ?_);clear ES0;refine Late.start2 (x := ⟨10, 8, 28, #[Value.bool false, Value.slice none 0 0]⟩) (y := ⟨11, 9, 28, #[Value.bool false, Value.slice none 0 0]⟩) (n := 12) ⟨_, rfl, rfl, rfl, fun a w => by go_simp⟩ ⟨_, rfl, rfl, rfl, fun a w => by go_simp⟩ (fun _ _ _ _ _ => ⟨fun h => h, fun h => h⟩) ES rfl (fun hAl hQ => ?_);refine Late.t 0 21 ?v_0 hQ ?y_0 ?_
  case y_0 => intro w' hSw;go_simp;try rfl
  try simp only [zP]
  refine Late.t 2 23 ?v_1 hQ ?y_1 ?_
  case y_1 => intro w' hSw;go_simp;try rfl
  try simp only [zP]
  refine Late.t 5 26 ?v_2 hQ ?y_2 ?_
  case y_2 => intro w' hSw;go_simp;try rfl
  try simp only [zP]
  refine Late.t 7 28 ?v_3 hQ ?y_3 ?_
  case y_3 => intro w' hSw;go_simp;try rfl
  try simp only [zP]
  refine Late.t 1 22 ?v_4 hQ ?y_4 ?_
  case y_4 => intro w' hSw;have k00 := (bx.ext hSw).c4;have k10 := (by_.ext hSw).c4;go_simp;try rfl
  try simp only [zP]
  refine Late.t 3 24 ?v_5 hQ ?y_5 ?_
  case y_5 => intro w' hSw;have k00 := (bx.ext hSw).c4;have k10 := (by_.ext hSw).c4;go_simp;try rfl
  try simp only [zP]
  refine Late.t 6 27 ?v_6 hQ ?y_6 ?_
  case y_6 => intro w' hSw;have k00 := (bx.ext hSw).c4;have k10 := (by_.ext hSw).c4;go_simp;try rfl
  try simp only [zP]
  refine Late.t 8 29 ?v_7 hQ ?y_7 ?_
  case y_7 => intro w' hSw;have k00 := (bx.ext hSw).c4;have k10 := (by_.ext hSw).c4;go_simp;try rfl
  try simp only [zP]
  refine Late.cl (i := 4) rfl hAl hQ (fun w4 e4 E4 K hK => ?_);go_simp
  (go_at_call 88; refine (p_GCD (h.num.ext E4) (k.den.ext E4) (by omega) (by omega) (hT.ext (extW.trans E4))).mono ?_; rintro e wk1 ⟨s1, A1, n1, c1', rfl, h1, hx4⟩; rw [Int.natAbs_natCast] at h1)
  refine hK.out _ _ hx4 ?_;clear hK K
  try simp only [zP]
  refine Late.cl (i := 9) rfl hAl hQ (fun w9 e9 E9 K hK => ?_);go_simp
  (go_at_call 88; refine (p_GCD (k.num.ext E9) (h.den.ext E9) (by omega) (by omega) (hT.ext (extW.trans E9))).mono ?_; rintro e wk2 ⟨s2, A2, n2, c2', rfl, h2, hx9⟩; rw [Int.natAbs_natCast] at h2)
  refine hK.out _ _ hx9 ?_;clear hK K
  try simp only [zP]
  refine Late.finish2 (hAl _ (by simp)) (hAl _ (by simp)) (by decide) (by decide) (by kernel_rfl) (by kernel_rfl) (by kernel_rfl) (fun wz g5 g6 ez Ez lg5 lg6 hne xb1 xb2 => ?_);clear hAl hQ ES;have p10 := xb1.cell 0 (Value.bool false) rfl;have p11 := xb1.cell 1 (Value.slice none 0 0) rfl;have f10 := xb1.frozen 0;have f11 := xb1.frozen 1;have e4 := fin_dual (s := s1) (A := A1) (n := n1) (c := c1') xb1
  try simp only [zP]
  refine wpAnyH_ready (rs := [12]) (by kernel_rfl) (by simp) (AllReadyH.cons rfl (fun K hK => ?_) AllReadyH.nil);go_simp;refine hK.out _ _ (e4.2.2.1 _ Ez lg5) (fun _ => ?_);clear hK K
  try simp only [zP]
  have e5 := e4.2.2.2 _ _ _ (Ne.symm hne) xb2;refine any_world (fun U => Ext V U /\ Box U g5 28 #[.bool s1, .slice A1 n1 c1'] /\ Box U g6 28 #[Value.bool false, Value.slice none 0 0] /\ NI U ((q.num.natAbs.gcd p.den : Nat) : Int) (max L M) s1 A1 n1 c1' /\ NI U ((p.num.natAbs.gcd q.den : Nat) : Int) (max M L) s2 A2 n2 c2') ⟨e4.2.2.1 _ Ez lg5, e4.1, e5, e4.2.1 _ _ _ _ _ _ (h1.ext (e9.trans (hx9.trans ez))), e4.2.1 _ _ _ _ _ _ (h2.ext ez)⟩ ?_;clear e4 e5 p10 p11 f10 f11 xb1 xb2;rintro U ⟨EU, b8, xb2, h1, h2⟩;have p10 := xb2.cell 0 (Value.bool false) rfl;have p11 := xb2.cell 1 (Value.slice none 0 0) rfl;have f10 := xb2.frozen 0;have f11 := xb2.frozen 1;have e4 := fin_dual (s := s2) (A := A2) (n := n2) (c := c2') xb2;refine wpAnyH_ready (rs := [13]) (by kernel_rfl) (by simp) (AllReadyH.cons rfl (fun K hK => ?_) AllReadyH.nil);go_simp;refine hK.out _ _ (e4.2.2.1 _ EU lg6) (fun _ => ?_);clear hK K
  try simp only [zP]
  refine any_world (fun U2 => Ext V U2 /\ Box U2 g5 28 #[.bool s1, .slice A1 n1 c1'] /\ Box U2 g6 28 #[.bool s2, .slice A2 n2 c2'] /\ NI U2 ((q.num.natAbs.gcd p.den : Nat) : Int) (max L M) s1 A1 n1 c1' /\ NI U2 ((p.num.natAbs.gcd q.den : Nat) : Int) (max M L) s2 A2 n2 c2') ⟨e4.2.2.1 _ EU lg6, e4.2.2.2 _ _ _ hne b8, e4.1, e4.2.1 _ _ _ _ _ _ h1, e4.2.1 _ _ _ _ _ _ h2⟩ ?_;clear e4 p10 p11 f10 f11 xb2 b8 h1 h2 lg5 lg6;rintro U2 ⟨EU2, b8, b9, h1, h2⟩;refine wpAnyH_done (by kernel_rfl) ?_ _;replace bx := bx.ext EU2;replace by_ := by_.ext EU2;replace bz := bz.ext EU2;replace h := h.ext EU2;replace k := k.ext EU2;replace extW := extW.trans EU2;clear EU EU2 Ez ez;obtain ⟨g, hge⟩ : ∃ g, q.num.natAbs.gcd p.den = g := ⟨_, rfl⟩;obtain ⟨hq, hhe⟩ : ∃ g, p.num.natAbs.gcd q.den = g := ⟨_, rfl⟩;rw [hge] at h1;rw [hhe] at h2;obtain ⟨q1, q2⟩ := rat_mul q p hge.symm hhe.symm;have Hq1 := Lib.hid q1;have Hq2 := Lib.hid q2;have hgq : g ∣ q.num.natAbs := by rw [<- hge]; exact Nat.gcd_dvd_left _ _
  have hgp : g ∣ p.den := by rw [<- hge]; exact Nat.gcd_dvd_right _ _
  have hhp : hq ∣ p.num.natAbs := by rw [<- hhe]; exact Nat.gcd_dvd_left _ _
  have hhq : hq ∣ q.den := by rw [<- hhe]; exact Nat.gcd_dvd_right _ _
  have hg0 : (g : Int) ≠ 0 := by
   intro h0;have : g = 0 := by omega
   rw [this] at hgp;exact p.den_nz (Nat.eq_zero_of_zero_dvd hgp)
  have hh0 : (hq : Int) ≠ 0 := by
   intro h0;have : hq = 0 := by omega
   rw [this] at hhq;exact q.den_nz (Nat.eq_zero_of_zero_dvd hhq)
  have Hg0 := Lib.hid hg0;have Hh0 := Lib.hid hh0;have Hgq := Lib.hid (Int.ofNat_dvd_left.2 hgq);have Hgp := Lib.hid (Int.ofNat_dvd.2 hgp);have Hhp := Lib.hid (Int.ofNat_dvd_left.2 hhp);have Hhq := Lib.hid (Int.ofNat_dvd.2 hhq);have hg := h1;have hh := h2;clear hge hhe q1 q2 hgq hgp hhp hhq hg0 hh0 h1 h2
  go_wp2_with fail
  refine wpL.st 19 (fun hQ ES => ?_);refine wpL.t 0 31 ?v_8 hQ ?y_8 ES ?_
  case y_8 => intro w' hSw;go_simp;try rfl
  try simp only [zP]
  refine wpL.t 2 33 ?v_9 hQ ?y_9 ES ?_
  case y_9 => intro w' hSw;have k00 := (bx.ext hSw).c4;have k10 := (by_.ext hSw).c4;have k20 := (b8.ext hSw).c2;have k30 := (b9.ext hSw).c2;go_simp;try rfl
  try simp only [zP]
  refine wpL.t 4 35 ?v_a hQ ?y_a ES ?_
  case y_a => intro w' hSw;go_simp;try rfl
  try simp only [zP]
  refine wpL.t 6 37 ?v_b hQ ?y_b ES ?_
  case y_b => intro w' hSw;have k00 := (bx.ext hSw).c4;have k10 := (by_.ext hSw).c4;have k20 := (b8.ext hSw).c2;have k30 := (b9.ext hSw).c2;go_simp;try rfl
  try simp only [zP]
  refine wpL.t 9 40 ?v_c hQ ?y_c ES ?_
  case y_c => intro w' hSw;go_simp;try rfl
  try simp only [zP]
  refine wpL.t 11 42 ?v_d hQ ?y_d ES ?_
  case y_d => intro w' hSw;have k00 := (bx.ext hSw).c4;have k10 := (by_.ext hSw).c4;have k20 := (b8.ext hSw).c2;have k30 := (b9.ext hSw).c2;go_simp;try rfl
  try simp only [zP]
  refine wpL.t 13 44 ?v_e hQ ?y_e ES ?_
  case y_e => intro w' hSw;go_simp;try rfl
  try simp only [zP]
  refine wpL.t 15 46 ?v_f hQ ?y_f ES ?_
  case y_f => intro w' hSw;have k00 := (bx.ext hSw).c4;have k10 := (by_.ext hSw).c4;have k20 := (b8.ext hSw).c2;have k30 := (b9.ext hSw).c2;go_simp;try rfl
  try simp only [zP]
  refine wpL.t 1 32 ?v_g hQ ?y_g ES ?_
  case y_g => intro w' hSw;have k00 := (bx.ext hSw).c4;have k10 := (by_.ext hSw).c4;have k20 := (b8.ext hSw).c2;have k30 := (b9.ext hSw).c2;go_simp;try rfl
  try simp only [zP]
  refine wpL.t 5 36 ?v_h hQ ?y_h ES ?_
  case y_h => intro w' hSw;have k00 := (bx.ext hSw).c4;have k10 := (by_.ext hSw).c4;have k20 := (b8.ext hSw).c2;have k30 := (b9.ext hSw).c2;go_simp;try rfl
  try simp only [zP]
  refine wpL.t 10 41 ?v_i hQ ?y_i ES ?_
  case y_i => intro w' hSw;have k00 := (bx.ext hSw).c4;have k10 := (by_.ext hSw).c4;have k20 := (b8.ext hSw).c2;have k30 := (b9.ext hSw).c2;go_simp;try rfl
  try simp only [zP]
  refine wpL.t 14 45 ?v_j hQ ?y_j ES ?_
  case y_j => intro w' hSw;have k00 := (bx.ext hSw).c4;have k10 := (by_.ext hSw).c4;have k20 := (b8.ext hSw).c2;have k30 := (b9.ext hSw).c2;go_simp;try rfl
  try simp only [zP]
  refine wpL.cl (i := 3) rfl (fun K hK => ?_);go_simp
  (go_at_call 100; refine (p_divide (h.num.ext ES) (hg.ext ES) (by omega) (by omega) Hg0.out Hgq.out).mono ?_; rintro e wk1 ⟨s3, A3, n3, c3, rfl, h3, hx0⟩; have E0_5 := Ext.trans ES hx0)
  refine hK.out _ _ E0_5 ?_;clear hK K
  try simp only [zP]
  refine wpL.cl (i := 7) rfl (fun K hK => ?_);go_simp
  (go_at_call 100; refine (p_divide (k.num.ext E0_5) (hh.ext E0_5) (by omega) (by omega) Hh0.out Hhp.out).mono ?_; rintro e wk2 ⟨s4, A4, n4, c4, rfl, h4, hx1⟩; have E1_5 := Ext.trans E0_5 hx1)
  refine hK.out _ _ E1_5 ?_;clear hK K
  try simp only [zP]
  refine wpL.cl (i := 8) rfl (fun K hK => ?_);go_simp
  (go_at_call 70; refine (p_Mul (h3.ext hx1) h4 (by omega) (by omega) h64).mono ?_; rintro e wk3 ⟨s5, A5, n5, c5, rfl, h5, hx2⟩; have E2_5 := Ext.trans E1_5 hx2)
  refine hK.out _ _ E2_5 ?_;clear hK K
  try simp only [zP]
  refine wpL.cl (i := 12) rfl (fun K hK => ?_);go_simp
  (go_at_call 100; refine (p_divide (h.den.ext E2_5) (hh.ext E2_5) (by omega) (by omega) Hh0.out Hhq.out).mono ?_; rintro e wk4 ⟨s6, A6, n6, c6, rfl, h6, hx3⟩; have E3_5 := Ext.trans E2_5 hx3)
  refine hK.out _ _ E3_5 ?_;clear hK K
  try simp only [zP]
  refine wpL.cl (i := 16) rfl (fun K hK => ?_);go_simp
  (go_at_call 100; refine (p_divide (k.den.ext E3_5) (hg.ext E3_5) (by omega) (by omega) Hg0.out Hgp.out).mono ?_; rintro e wk5 ⟨s7, A7, n7, c7, rfl, h7, hx4⟩; have E4_5 := Ext.trans E3_5 hx4)
  refine hK.out _ _ E4_5 ?_;clear hK K
  try simp only [zP]
  refine wpL.cl (i := 17) rfl (fun K hK => ?_);go_simp
  (go_at_call 70; refine (p_Mul (h6.ext hx4) h7 (by omega) (by omega) h64).mono ?_; rintro e wk6 ⟨s8, A8, n8, c8, rfl, h8, hx5⟩; have E5_5 := Ext.trans E4_5 hx5)
  refine hK.out _ _ E5_5 ?_;clear hK K
  try simp only [zP]
  refine wpL.t 18 49 ?v_k hQ ?y_k E5_5 ?_
  case y_k => intro w' hSw;go_simp;try rfl
  try simp only [zP]
  have z0 := (bz.ext E5_5).cell 0 _ rfl;have z1 := (bz.ext E5_5).cell 1 _ rfl;have z2 := (bz.ext E5_5).cell 2 _ rfl;have z3 := (bz.ext E5_5).cell 3 _ rfl;have f0 := (bz.ext E5_5).frozen 0;have f1 := (bz.ext E5_5).frozen 1;have f2 := (bz.ext E5_5).frozen 2;have f3 := (bz.ext E5_5).frozen 3;refine wpL.tl (i := 19) rfl (fun K hK => ?_);go_simp;refine hK.out _ _ ?_;clear hK K
  try simp only [zP]
  refine wpL.done (by kernel_rfl) ?_ _;clear hQ
  go_wp2_with fail
  have hk1 : ((q.den : Int) / (hq : Int)) * ((p.den : Int) / (g : Int)) = ((q * p).den : Int) := by rw [Hq2.out]; simp
  rw [hk1] at h8;rw [<- Hq1.out] at h5;obtain ⟨b1, b2, b3, b4⟩ := fin_quad (s := s5) (A := A5) (n := n5) (c := c5) (t := s8) (B := A8) (m := n8) (d := c8) (bz.ext E5_5);have r0 := b1.cell 0 (.bool s5) rfl;have r1 := b1.cell 1 (.slice A5 n5 c5) rfl;have r2 := b1.cell 2 (.bool s8) rfl;have r3 := b1.cell 3 (.slice A8 n8 c8) rfl;unfold set4 at r0 r1 r2 r3;refine bodyPost_ret (v := .agg #[.bool s5, .slice A5 n5 c5, .bool s8, .slice A8 n8 c8]) (by simp [results, Tryz.results63, go_sem, r0, r1, r2, r3]) rfl ⟨s5, A5, n5, c5, s8, A8, n8, c8, rfl, ⟨?_, ?_⟩, b3 _ (extW.trans E5_5) (by omega)⟩
  ·exact b2 _ _ _ _ _ _ (h5.ext (hx3.trans (hx4.trans hx5)))
  ·exact b2 _ _ _ _ _ _ h8
end
end
section
open Go.RowKit
section
variable {P : Program} {ops : Array Oper} {Q : Exit -> Act -> World -> Prop} {md : Region.Mode} {W0 : World} {z : Nat}
theorem wpL.first2 {i m : Nat} {oi : Oper} {v : Value} (hi : ops[i]? = some oi) (hs : Region.noSelect ops = true) (hiz : i ≠ z) (him : i ≠ m) (hw1 : Waits md ops i m) (hw2 : Waits md ops m z) (hQ : QStill Q) :
  ∀ (f : Nat) (L : Array Bool) (a : Act) (w : World), L.size = ops.size -> L.getD z false = false -> L.getD m false = false -> L.getD m true = false ->
   (∀ j oj, ops[j]? = some oj -> j ≠ i -> L.getD j true = false -> (∀ e ∈ oj.after, Region.binds md e = true -> e.on ≠ i) -> oi.apart ops oj = true) ->
   i ∈ Region.ready md ops L -> YieldsIf P ops (Ext W0) oi v a -> Ext W0 w ->
   wpL P md ops Q W0 z f (L.setIfInBounds i true) (a.put oi.dst v) w -> wpL P md ops Q W0 z (f + 1) L a w := by
 have hsel := Region.noSelect_spec hs;intro f
 induction f with
 | zero =>
  intro L a w _ _ _ _ _ hr hy hS H;refine ⟨(fun h0 => by rw [h0] at hr; cases hr), fun j hj => ?_⟩
  by_cases hji : j = i
  ·subst hji; exact hy.wpOp hi hS ⟨.inr hS, H⟩
  ·have := ready_mono hj hji
   rw [H.1] at this
   cases this
 | succ f ih =>
  intro L a w hsz hzL hmL hmT hfree hr hy hS H;refine ⟨(fun h0 => by rw [h0] at hr; cases hr), fun j hj => ?_⟩
  by_cases hji : j = i
  ·subst hji; exact hy.wpOp hi hS ⟨.inr hS, H⟩
  ·have hiL := (mem_ready.1 hr).1
   have hjz : j ≠ z := fun e => waits_not hw2 hmT hzL hsz (e ▸ hj)
   have hjm : j ≠ m := fun e => waits_not hw1 hiL hmL hsz (e ▸ hj)
   obtain ⟨hjun, oj, hoj, hall⟩ := mem_ready.1 hj
   have hnot : ∀ e ∈ oj.after, Region.binds md e = true -> e.on ≠ i := fun e he hb hh => by
    have h1 := hall e he hb;rw [hh] at h1
    have hlt : i < L.size := by
     rcases Nat.lt_or_ge i L.size with h | h
     ·exact h
     ·simp [h] at h1
    simp [hlt] at h1 hiL;rw [h1] at hiL
    cases hiL
   have h1 := H.2 j (ready_mono hj hji);have h2 := wpOp_putIf hoj (hfree j oj hoj hji hjun hnot) (fun cs b => hsel i oi cs b hi) (fun cs b => hsel j oj cs b hoj) (fun c a w => (hQ.put c a _ _ w).1) hy h1;refine wpOp_mono (fun a' w' h3 => ?_) h2;obtain ⟨hy', hS', H'⟩ := h3
   have hzz : ((L.setIfInBounds i true).setIfInBounds j true).getD z false = false := by
    rw [getD_set_ne false hjz, getD_set_ne false hiz]; exact hzL
   have hE : Ext W0 w' := by
    rcases hS' with h | h
    ·rw [hzz] at h; cases h
    ·exact h
   refine ⟨.inr hE, ih (L.setIfInBounds j true) a' w' (by simpa using hsz) (by rw [getD_set_ne false hjz]; exact hzL) (by rw [getD_set_ne false hjm]; exact hmL) (by rw [getD_set_ne true hjm]; exact hmT) ?_ (ready_mono hr (Ne.symm hji)) hy' hE ?_⟩
   ·intro k ok hk hki hun hno
    refine hfree k ok hk hki ?_ hno
    by_cases hjk : j = k
    ·subst hjk; exact hjun
    ·rwa [getD_set_ne true hjk] at hun
   ·rw [Array.setIfInBounds_comm _ _ hji]
    exact H'
theorem wpL.take2 {f i : Nat} {oi : Oper} {d : Option Tmp} {v : Value} {L : Array Bool} {a : Act} {w : World} (m : Nat) (hi : ops[i]? = some oi) (hd : oi.dst = d) (hs : Region.noSelect ops = true) (hf : Region.free md ops L i = true)
  (hr : (Region.ready md ops L).contains i = true) (hz : (i != z && i != m && waitsB md ops i m && waitsB md ops m z && !L.getD z false && !L.getD m false && !L.getD m true && L.size == ops.size) = true) (hQ : QStill Q) (hy : YieldsIf P ops (Ext W0) oi v a) (hS : Ext W0 w)
  (h : wpL P md ops Q W0 z f (L.setIfInBounds i true) (a.put d v) w) : wpL P md ops Q W0 z (f + 1) L a w := by
 subst hd;simp only [Bool.and_eq_true, bne_iff_ne, Bool.not_eq_true', beq_iff_eq] at hz;obtain ⟨⟨⟨⟨⟨⟨⟨h1, h2⟩, h3⟩, h4⟩, h5⟩, h6⟩, h7⟩, h8⟩ := hz;exact wpL.first2 hi hs h1 h2 (waitsB_spec h3) (waitsB_spec h4) hQ f L a w h8 h5 h6 h7 (fun j oj hj hne hun hno => Region.free_spec hi hf j oj hj hne hun hno) (by simpa using hr) hy hS h
theorem wpL.firstB {i : Nat} {oi : Oper} {v : Value} (B : List Nat) (hi : ops[i]? = some oi) (hs : Region.noSelect ops = true) (hB : ∀ k ∈ B, ∃ k' ∈ i :: B, Waits md ops k' k) (hzB : z ∈ B) (hiB : i ∉ B) (hQ : QStill Q) :
  ∀ (f : Nat) (L : Array Bool) (a : Act) (w : World), L.size = ops.size -> (∀ k ∈ B, L.getD k false = false /\ L.getD k true = false) ->
   (∀ j oj, ops[j]? = some oj -> j ≠ i -> L.getD j true = false -> (∀ e ∈ oj.after, Region.binds md e = true -> e.on ≠ i) -> oi.apart ops oj = true) ->
   i ∈ Region.ready md ops L -> YieldsIf P ops (Ext W0) oi v a -> Ext W0 w ->
   wpL P md ops Q W0 z f (L.setIfInBounds i true) (a.put oi.dst v) w -> wpL P md ops Q W0 z (f + 1) L a w := by
 have hsel := Region.noSelect_spec hs;have hiz : i ≠ z := fun e => hiB (e ▸ hzB)
 intro f
 induction f with
 | zero =>
  intro L a w _ _ _ hr hy hS H;refine ⟨(fun h0 => by rw [h0] at hr; cases hr), fun j hj => ?_⟩
  by_cases hji : j = i
  ·subst hji; exact hy.wpOp hi hS ⟨.inr hS, H⟩
  ·have := ready_mono hj hji
   rw [H.1] at this
   cases this
 | succ f ih =>
  intro L a w hsz hBL hfree hr hy hS H;refine ⟨(fun h0 => by rw [h0] at hr; cases hr), fun j hj => ?_⟩
  by_cases hji : j = i
  ·subst hji; exact hy.wpOp hi hS ⟨.inr hS, H⟩
  ·have hiL := (mem_ready.1 hr).1
   have hjB : j ∉ B := fun hb => by
    obtain ⟨k', hk', hw⟩ := hB j hb
    have hk1 : L.getD k' true = false := by
     rcases List.mem_cons.1 hk' with rfl | hk'
     ·exact hiL
     ·exact (hBL k' hk').2
    exact waits_not hw hk1 (hBL j hb).1 hsz hj
   have hjz : j ≠ z := fun e => hjB (e ▸ hzB)
   obtain ⟨hjun, oj, hoj, hall⟩ := mem_ready.1 hj
   have hnot : ∀ e ∈ oj.after, Region.binds md e = true -> e.on ≠ i := fun e he hb hh => by
    have h1 := hall e he hb;rw [hh] at h1
    have hlt : i < L.size := by
     rcases Nat.lt_or_ge i L.size with h | h
     ·exact h
     ·simp [h] at h1
    simp [hlt] at h1 hiL;rw [h1] at hiL
    cases hiL
   have h1 := H.2 j (ready_mono hj hji);have h2 := wpOp_putIf hoj (hfree j oj hoj hji hjun hnot) (fun cs b => hsel i oi cs b hi) (fun cs b => hsel j oj cs b hoj) (fun c a w => (hQ.put c a _ _ w).1) hy h1;refine wpOp_mono (fun a' w' h3 => ?_) h2;obtain ⟨hy', hS', H'⟩ := h3
   have hzz : ((L.setIfInBounds i true).setIfInBounds j true).getD z false = false := by
    rw [getD_set_ne false hjz, getD_set_ne false hiz]; exact (hBL z hzB).1
   have hE : Ext W0 w' := by
    rcases hS' with h | h
    ·rw [hzz] at h; cases h
    ·exact h
   refine ⟨.inr hE, ih (L.setIfInBounds j true) a' w' (by simpa using hsz) (fun k hk => ?_) ?_ (ready_mono hr (Ne.symm hji)) hy' hE ?_⟩
   ·have hjk : j ≠ k := fun e => hjB (e ▸ hk)
    rw [getD_set_ne false hjk, getD_set_ne true hjk];exact hBL k hk
   ·intro k ok hk hki hun hno
    refine hfree k ok hk hki ?_ hno
    by_cases hjk : j = k
    ·subst hjk; exact hjun
    ·rwa [getD_set_ne true hjk] at hun
   ·rw [Array.setIfInBounds_comm _ _ hji]
    exact H'
theorem wpL.takeB {f i : Nat} {oi : Oper} {d : Option Tmp} {v : Value} {L : Array Bool} {a : Act} {w : World} (B : List Nat) (hi : ops[i]? = some oi) (hd : oi.dst = d) (hs : Region.noSelect ops = true) (hf : Region.free md ops L i = true)
  (hr : (Region.ready md ops L).contains i = true) (hz : (B.all (fun k => (i :: B).any (fun k' => waitsB md ops k' k)) && B.contains z && !B.contains i && B.all (fun k => !L.getD k false && !L.getD k true) && L.size == ops.size) = true) (hQ : QStill Q) (hy : YieldsIf P ops (Ext W0) oi v a) (hS : Ext W0 w)
  (h : wpL P md ops Q W0 z f (L.setIfInBounds i true) (a.put d v) w) : wpL P md ops Q W0 z (f + 1) L a w := by
 subst hd;simp only [Bool.and_eq_true, Bool.not_eq_true', beq_iff_eq, List.all_eq_true, List.any_eq_true] at hz;obtain ⟨⟨⟨⟨h1, h2⟩, h3⟩, h4⟩, h5⟩ := hz;refine wpL.firstB B hi hs (fun k hk => ?_) (by simpa using h2) (by simpa using h3) hQ f L a w h5 (fun k hk => ?_) (fun j oj hj hne hun hno => Region.free_spec hi hf j oj hj hne hun hno) (by simpa using hr) hy hS h
 ·obtain ⟨k', hk', hw⟩ := h1 k hk
  exact ⟨k', hk', waitsB_spec hw⟩
 ·exact h4 k hk
theorem wpL.tkB {f i : Nat} {oi : Oper} {d : Option Tmp} {v : Value} {L : Array Bool} {a : Act} {w : World} (B : List Nat) (hi : ops[i]? = some oi) (hd : oi.dst = d) (hQ : QStill Q) (hy : YieldsIf P ops (Ext W0) oi v a) (hS : Ext W0 w) (h : wpL P md ops Q W0 z f (L.setIfInBounds i true) (a.put d v) w) (hs : Region.noSelect ops = true := by kernel_rfl) (hf : Region.free md ops L i = true := by kernel_rfl) (hr : (Region.ready md ops L).contains i = true := by kernel_rfl) (hz : (B.all (fun k => (i :: B).any (fun k' => waitsB md ops k' k)) && B.contains z && !B.contains i && B.all (fun k => !L.getD k false && !L.getD k true) && L.size == ops.size) = true := by kernel_rfl) : wpL P md ops Q W0 z (f + 1) L a w := wpL.takeB B hi hd hs hf hr hz hQ hy hS h
theorem wpL.tB {f : Nat} {oi : Oper} {L : Array Bool} {a : Act} {w : World} (B : List Nat) (i : Nat) (d : Tmp) (v : Value) (hQ : QStill Q) (hy : ∀ w, Ext W0 w -> (execOp a.eval oi).run P w = .ok (.value v) w) (hS : Ext W0 w) (h : wpL P md ops Q W0 z f (L.setIfInBounds i true) (a.put (some d) v) w) (hi : ops[i]? = some oi := by exact rfl) (hd : oi.dst = some d := by exact rfl) (hw : Region.wanted oi (yielded ops a.tmps) = true := by exact rfl) (hs : Region.noSelect ops = true := by kernel_rfl) (hf : Region.free md ops L i = true := by kernel_rfl) (hr : (Region.ready md ops L).contains i = true := by kernel_rfl) (hz : (B.all (fun k => (i :: B).any (fun k' => waitsB md ops k' k)) && B.contains z && !B.contains i && B.all (fun k => !L.getD k false && !L.getD k true) && L.size == ops.size) = true := by kernel_rfl) : wpL P md ops Q W0 z (f + 1) L a w := wpL.takeB B hi hd hs hf hr hz hQ (Or.inl ⟨hw, hy⟩) hS h
theorem wpL.firstT {i : Nat} {oi : Oper} {v : Value} (hi : ops[i]? = some oi) (hs : Region.noSelect ops = true) (hiz : i ≠ z) (hQ : QStill Q) :
  ∀ (f : Nat) (L : Array Bool) (a : Act) (w : World),
   (∀ j oj, ops[j]? = some oj -> j ≠ i -> L.getD j true = false -> (∀ e ∈ oj.after, Region.binds md e = true -> e.on ≠ i) -> oi.apart ops oj = true) ->
   i ∈ Region.ready md ops L -> YieldsIf P ops (fun _ => True) oi v a -> (L.getD z false = true \/ Ext W0 w) ->
   wpL P md ops Q W0 z f (L.setIfInBounds i true) (a.put oi.dst v) w -> wpL P md ops Q W0 z (f + 1) L a w := by
 have hsel := Region.noSelect_spec hs;intro f
 induction f with
 | zero =>
  intro L a w _ hr hy hS H;refine ⟨(fun h0 => by rw [h0] at hr; cases hr), fun j hj => ?_⟩
  by_cases hji : j = i
  ·subst hji; exact hy.wpOp hi trivial ⟨by rw [getD_set_ne false hiz]; exact hS, H⟩
  ·have := ready_mono hj hji
   rw [H.1] at this
   cases this
 | succ f ih =>
  intro L a w hfree hr hy hS H;refine ⟨(fun h0 => by rw [h0] at hr; cases hr), fun j hj => ?_⟩
  by_cases hji : j = i
  ·subst hji; exact hy.wpOp hi trivial ⟨by rw [getD_set_ne false hiz]; exact hS, H⟩
  ·have hiL := (mem_ready.1 hr).1
   obtain ⟨hjun, oj, hoj, hall⟩ := mem_ready.1 hj
   have hnot : ∀ e ∈ oj.after, Region.binds md e = true -> e.on ≠ i := fun e he hb hh => by
    have h1 := hall e he hb;rw [hh] at h1
    have hlt : i < L.size := by
     rcases Nat.lt_or_ge i L.size with h | h
     ·exact h
     ·simp [h] at h1
    simp [hlt] at h1 hiL;rw [h1] at hiL
    cases hiL
   have h1 := H.2 j (ready_mono hj hji);have h2 := wpOp_putIf hoj (hfree j oj hoj hji hjun hnot) (fun cs b => hsel i oi cs b hi) (fun cs b => hsel j oj cs b hoj) (fun c a w => (hQ.put c a _ _ w).1) hy h1;refine wpOp_mono (fun a' w' h3 => ?_) h2;obtain ⟨hy', hS', H'⟩ := h3;have hcm : (L.setIfInBounds i true).setIfInBounds j true = (L.setIfInBounds j true).setIfInBounds i true := Array.setIfInBounds_comm _ _ (Ne.symm hji)
   have hS2 : (L.setIfInBounds j true).getD z false = true \/ Ext W0 w' := by
    rcases hS' with h | h
    ·rw [hcm, getD_set_ne false hiz] at h; exact .inl h
    ·exact .inr h
   refine ⟨hS2, ih (L.setIfInBounds j true) a' w' ?_ (ready_mono hr (Ne.symm hji)) hy' hS2 ?_⟩
   ·intro k ok hk hki hun hno
    refine hfree k ok hk hki ?_ hno
    by_cases hjk : j = k
    ·subst hjk; exact hjun
    ·rwa [getD_set_ne true hjk] at hun
   ·rw [Array.setIfInBounds_comm _ _ hji]
    exact H'
theorem wpL.takeT {f i : Nat} {oi : Oper} {d : Option Tmp} {v : Value} {L : Array Bool} {a : Act} {w : World} (hi : ops[i]? = some oi) (hd : oi.dst = d) (hs : Region.noSelect ops = true) (hf : Region.free md ops L i = true)
  (hr : (Region.ready md ops L).contains i = true) (hz : (i != z) = true) (hQ : QStill Q) (hy : YieldsIf P ops (fun _ => True) oi v a) (hS : L.getD z false = true \/ Ext W0 w)
  (h : wpL P md ops Q W0 z f (L.setIfInBounds i true) (a.put d v) w) : wpL P md ops Q W0 z (f + 1) L a w := by
 subst hd;exact wpL.firstT hi hs (by simpa using hz) hQ f L a w (fun j oj hj hne hun hno => Region.free_spec hi hf j oj hj hne hun hno) (by simpa using hr) hy hS h
end
end
end Go.Proofs.YtldeolipllejcaaGreatDoor
