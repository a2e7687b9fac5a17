/- Walks and laws, a part. -/
import Derived.Test.YtoabhnofppledaaGreatDoorM0
import Derived.Test.YtoabhnofppledaaGreatDoorM1
import Derived.Test.YtoabhnofppledaaGreatDoorM2
import Derived.Test.YtoabhnofppledaaGreatDoorM3
import Derived.Test.YtoabhnofppledaaGreatDoorM4
import Derived.Test.YtoabhnofppledaaGreatDoorM5
import Derived.Test.YtoabhnofppledaaGreatDoorM6
import Derived.Test.YtoabhnofppledaaGreatDoorM7
import Derived.Test.YtoabhnofppledaaGreatDoorM8
import Derived.Test.YtoabhnofppledaaGreatDoorM9
import Derived.Deep.RegionHeld
import Derived.Laws.BytesArg
import Derived.Laws.BitsAllLaws
namespace Go.Proofs.YtoabhnofppledaaGreatDoor
open Go.RowKit
section
variable {P : Program} {ops : Array Oper} {Q : Exit → Act → World → Prop} {md : Region.Mode} {S : World → Prop} {W0 : World}
end
/-- what a store of an integer (a sign and a slice of words) into a box does. -/
theorem put_box {w : World} {g p q n c : Nat} {t : TypeId} {x b : Bool} {y A : Option Addr} (hb : Box w g t #[.bool x, .slice y p q]) :
    Box ((w.setCell ⟨g, 0, none⟩ (.bool b)).setCell ⟨g, 1, none⟩ (.slice A n c)) g t #[.bool b, .slice A n c] ∧
    (∀ g' t' cs', g' ≠ g → Box w g' t' cs' → Box ((w.setCell ⟨g, 0, none⟩ (.bool b)).setCell ⟨g, 1, none⟩ (.slice A n c)) g' t' cs') ∧
    (∀ A' xs, Rd w A' xs → Rd ((w.setCell ⟨g, 0, none⟩ (.bool b)).setCell ⟨g, 1, none⟩ (.slice A n c)) A' xs) ∧
    ∀ W0, Ext W0 w → W0.heap.size ≤ g → Ext W0 ((w.setCell ⟨g, 0, none⟩ (.bool b)).setCell ⟨g, 1, none⟩ (.slice A n c)) :=
  ⟨(hb.setA _).setB _, fun _ _ _ hne h => (h.far (p := ⟨g, 0, none⟩) hne _).far (p := ⟨g, 1, none⟩) hne _, fun _ _ h => (h.setBox hb NoWord.two 0 _).setBox (hb.setA _) NoWord.two 1 _, fun _ e hg => (e.setCell hg _).setCell hg _⟩
end Go.Proofs.YtoabhnofppledaaGreatDoor
namespace Go.Proofs.YtoabhnofppledaaGreatDoor
open Go.RowKit
section
variable {A B : Option Addr} {c d n m : Nat} {xs ys : List Nat} {w : World} {s t : Bool}
set_option maxHeartbeats 1000000 in
theorem ref_Bits (hn : xs.length = n) (hx : Rd w A xs) (hc : n ≤ c) (hcm : c ≤ maxLen) (h1 : n ≤ 100000) :
    Calls Tryz.prog 114 #[.agg #[.bool s, .slice A n c]] w fun e w' => e = .returned (.int .i64 (bitsN (trimL xs) : Nat)) ∧ Ext w w' := by
  have Hn := Lib.hid hn
  clear hn
  have lx := trimL_len xs
  have hxt : Rd w A (trimL xs) := by rw [trimL_take]; exact hx.take _
  go_enter Tryz.func114, Tryz.ntmps114
  go_upto_region 1 with (fail)
  obtain ⟨W, hW, extW, bx, hz⟩ := box1 w 24 #[.bool s, .slice A n c]
  rw [← hW]
  clear hW
  have x0 := bx.cell 0 (.bool s) rfl
  have x1 := bx.cell 1 (.slice A n c) rfl
  go_wp2_with fail
  refine (ref_trimN Hn.out (hx.ext extW) hc hcm).mono ?_
  rintro e w1 ⟨rfl, rfl⟩
  go_wp2_with fail
  refine (ref_length rfl (hxt.ext extW) (by have := Hn.out; omega)).mono ?_
  rintro e w1 ⟨rfl, rfl⟩
  go_wp2_with fail
  go_ret
  exact ⟨rfl, extW⟩
end
end Go.Proofs.YtoabhnofppledaaGreatDoor
namespace Go.Proofs.YtoabhnofppledaaGreatDoor
open Go.RowKit
section
variable {w w' : World} {z y : Int} {L L' M : Nat} {s t : Bool} {A B : Option Addr} {n c m d : Nat}
theorem NI.neg (h : NI w z L s A n c) : s = decide (z < 0) := by
  obtain ⟨_, _, _, _, _, h5, _⟩ := h.out
  exact h5.neg
theorem q_Add (h : NI w z L s A n c) (k : NI w y M t B m d) (hL : L ≤ 50000) (hM : M ≤ 50000) : Calls Tryz.prog 79 #[.agg #[.bool s, .slice A n c], .agg #[.bool t, .slice B m d]] w (RetNI (z + y) (max L M + 1) w) := by
  obtain ⟨xs, hn, hx, hc, hcm, hi, hl⟩ := h.out
  obtain ⟨ys, hm, hy, hd, hdm, hj, hk⟩ := k.out
  refine (ref_Add hn hm hx hy hc hcm hd hdm (by omega) (by omega)).mono fun e w' hr => ?_
  rw [hi.eq, hj.eq] at hr
  exact hr.ni (by omega)
end
end Go.Proofs.YtoabhnofppledaaGreatDoor
namespace Go.Proofs.YtoabhnofppledaaGreatDoor
theorem mul_lt_in {a b d : Int} (hd : 0 < d) (h : a < b) : a * d < b * d := Int.mul_lt_mul_of_pos_right h hd
theorem dm_natAbs {a b z r : Int} (hb : 0 < b) (h : IsDM a b z r) : z.natAbs ≤ a.natAbs := by
  obtain ⟨h1, h2⟩ := h
  have h3 : (z + 1) * b = z * b + b := by rw [Int.add_mul, Int.one_mul]
  by_cases hz : 0 ≤ z
  · have := Int.mul_le_mul_of_nonneg_left (show (1 : Int) ≤ b by omega) hz
    omega
  · have := Int.mul_le_mul_of_nonpos_left (show z + 1 ≤ 0 by omega) (show (1 : Int) ≤ b by omega)
    omega
theorem cross {q p : Rat} {S : Int} (hp : p = q * (S : Rat)) : p.num * (q.den : Int) = q.num * S * (p.den : Int) := by
  have h1 : q * (S : Rat) = mkRat (q.num * S) q.den := by
    rw [Rat.mul_def, Rat.normalize_eq_mkRat]
    simp
  rw [h1] at hp
  have h2 : mkRat p.num p.den = mkRat (q.num * S) q.den := by rw [Rat.mkRat_self]; exact hp
  exact (Rat.mkRat_eq_iff p.den_nz q.den_nz).1 h2
theorem IsFl.of_mul {q p : Rat} {S z r : Int} (hp : p = q * (S : Rat)) (h : IsDM p.num (p.den : Int) z r) : IsFl q S z := by
  have hq := denI q
  have hd := denI p
  have hc := cross hp
  obtain ⟨h1, h2⟩ := h
  have e : (z + 1) * (p.den : Int) = z * (p.den : Int) + p.den := by rw [Int.add_mul, Int.one_mul]
  have a : z * (p.den : Int) ≤ p.num := by omega
  have b : p.num < (z + 1) * (p.den : Int) := by omega
  have a' := mul_le_in hq a
  have b' := mul_lt_in hq b
  rw [hc] at a' b'
  exact ⟨mul_le_out hd (by rw [Int.mul_right_comm]; exact a'), mul_lt_out hd (by rw [Int.mul_right_comm (z + 1)]; exact b')⟩
theorem lt_cross {q p : Rat} {S n : Int} (hp : p = q * (S : Rat)) : (n : Rat) < p ↔ n * (q.den : Int) < q.num * S := by
  have hq := denI q
  have hd := denI p
  have hc := cross hp
  rw [Rat.lt_iff]
  simp only [Rat.num_intCast, Rat.den_intCast]
  constructor
  · intro h
    have h' := mul_lt_in hq h
    have e : p.num * ((1 : Nat) : Int) * (q.den : Int) = q.num * S * p.den := by rw [← hc]; simp
    rw [e, Int.mul_right_comm] at h'
    exact mul_lt_out hd h'
  · intro h
    have h' := mul_lt_in hd h
    rw [← hc, Int.mul_right_comm] at h'
    have := mul_lt_out hq h'
    simpa using this
theorem IsRh.ref_yes {q : Rat} {S z h : Int} (k : IsFl q S z) (h0 : 0 ≤ h) (h2 : z < (h + 1) * (h + 1)) (hc : h * h * (q.den : Int) < q.num * S) : IsRh q S (h + 1) := by
  have hd := denI q
  refine ⟨by omega, Int.le_of_lt (Int.lt_of_lt_of_le k.lt (mul_le_in hd h2)), .inr ?_⟩
  rw [Int.add_sub_cancel]; exact hc
theorem IsRh.ref_no {q : Rat} {S z h : Int} (k : IsFl q S z) (h0 : 0 ≤ h) (h1 : h * h ≤ z) (hc : ¬ h * h * (q.den : Int) < q.num * S) : IsRh q S h := by
  have hd := denI q
  refine ⟨h0, by omega, ?_⟩
  by_cases h3 : h = 0
  · exact .inl h3
  · right
    have e : (h - 1) * (h - 1) < h * h := by
      have : (h - 1) * (h - 1) = h * h - 2 * h + 1 := by
        rw [Int.sub_mul, Int.mul_sub, Int.mul_one, Int.one_mul]; omega
      omega
    exact Int.lt_of_lt_of_le (mul_lt_in hd e) (Int.le_trans (mul_le_in hd h1) k.le)
end Go.Proofs.YtoabhnofppledaaGreatDoor
namespace Go.Proofs.YtoabhnofppledaaGreatDoor
open Go.RowKit
attribute [local go_sem ↓] Go.wp_at_zero Go.wp_at_succ
section
variable {w w' : World} {z y : Int} {q p : Rat} {L M : Nat} {s t s' t' : Bool} {A B A' B' : Option Addr} {n c m d n' c' m' d' : Nat}
set_option maxHeartbeats 1000000 in
theorem q_SignR (h : NR w q L s A n c t B m d) (hL : L ≤ 1000) : Calls Tryz.prog 46 #[.agg #[.bool s, .slice A n c, .bool t, .slice B m d]] w fun e w' => e = .returned (.int .i64 q.num.sign) ∧ Ext w w' := by
  go_enter Tryz.func46, Tryz.ntmps46
  go_upto_region 1 with (fail)
  obtain ⟨W, hW, extW, bx, hz⟩ := box1 w 26 #[.bool s, .slice A n c, .bool t, .slice B m d]
  rw [← hW]
  clear hW
  have x0 := bx.cell 0 (.bool s) rfl
  have x1 := bx.cell 1 (.slice A n c) rfl
  go_wp2_with fail
  refine (q_Sign (h.num.ext extW) (by omega)).mono ?_
  rintro e wa ⟨rfl, hx0⟩
  go_wp2_with fail
  go_ret
  exact ⟨rfl, extW.trans hx0⟩
end
end Go.Proofs.YtoabhnofppledaaGreatDoor
namespace Go.Proofs.YtoabhnofppledaaGreatDoor
open Go.RowKit
attribute [local go_sem ↓] Go.wp_at_zero Go.wp_at_succ
section
variable {w w' : World} {z y : Int} {q p : Rat} {L M : Nat} {s t s' t' : Bool} {A B A' B' : Option Addr} {n c m d n' c' m' d' : Nat}
theorem rat_mul_one {q p : Rat} (h1 : (q.den : Int) = 1) (h2 : (p.den : Int) = 1) : (q * p).num = q.num * p.num ∧ ((q * p).den : Int) = (q.den : Int) := by
  have e1 : q.den = 1 := by omega
  have e2 : p.den = 1 := by omega
  obtain ⟨a, b⟩ := rat_mul q p (g := 1) (h := 1) (by rw [e2]; simp) (by rw [e1]; simp)
  rw [a, b, e1, e2]
  simp
set_option maxHeartbeats 16000000 in
set_option maxRecDepth 100000 in
theorem q_MulR (h : NR w q L s A n c t B m d) (k : NR w p M s' A' n' c' t' B' m' d') (hL : L ≤ 1000) (hM : M ≤ 1000) : Calls Tryz.prog 44 #[.agg #[.bool s, .slice A n c, .bool t, .slice B m d], .agg #[.bool s', .slice A' n' c', .bool t', .slice B' m' d']] w (RetNR (q * p) (L + M) w) := by
  have hL1 := h.pos
  have hM1 := k.pos
  go_enter Tryz.func44, Tryz.ntmps44
  go_upto_region 1 with (fail)
  obtain ⟨W, hW, extW, bx, by_, bz, hz⟩ := box3 w 26 26 26 #[.bool s, .slice A n c, .bool t, .slice B m d] #[.bool s', .slice A' n' c', .bool t', .slice B' m' d'] #[Value.bool false, Value.slice none 0 0, Value.bool false, Value.slice none 0 0]
  rw [← hW]
  clear hW
  replace h := h.ext extW
  replace k := k.ext extW
  have hz1 := h.num.zero
  have hz2 := k.num.zero
  by_cases hq0 : q.num = 0
  · have hn2 : ((n : Int) == 0) = true := by rw [beq_iff_eq]; have := hz1.2 hq0; omega
    have hqp : q * p = ((0 : Int) : Rat) := by rw [Rat.num_eq_zero.1 hq0, Rat.zero_mul]; rfl
    clear hz1 hz2 hq0
    have x1 := bx.cell 1 (.slice A n c) rfl
    have y1 := by_.cell 1 (.slice A' n' c') rfl
    go_wp2_with fail
    refine (q_FromIntR 0 (by omega) (by omega)).mono ?_
    rintro e wb ⟨s1, A1, n1, c1', t1, B1, m1, d1, rfl, hr, hxb⟩
    have z0 := (bz.ext hxb).cell 0 _ rfl
    have z1 := (bz.ext hxb).cell 1 _ rfl
    have z2 := (bz.ext hxb).cell 2 _ rfl
    have z3 := (bz.ext hxb).cell 3 _ rfl
    have f0 := (bz.ext hxb).frozen 0
    have f1 := (bz.ext hxb).frozen 1
    have f2 := (bz.ext hxb).frozen 2
    have f3 := (bz.ext hxb).frozen 3
    go_wp2_with fail
    obtain ⟨b1, b2, b3, b4⟩ := fin_quad (s := s1) (A := A1) (n := n1) (c := c1') (t := t1) (B := B1) (m := m1) (d := d1) (bz.ext hxb)
    have r0 := b1.cell 0 (.bool s1) rfl
    have r1 := b1.cell 1 (.slice A1 n1 c1') rfl
    have r2 := b1.cell 2 (.bool t1) rfl
    have r3 := b1.cell 3 (.slice B1 m1 d1) rfl
    unfold set4 at r0 r1 r2 r3
    refine bodyPost_ret (v := .agg #[.bool s1, .slice A1 n1 c1', .bool t1, .slice B1 m1 d1]) (by simp [results, Tryz.results44, go_sem, r0, r1, r2, r3]) rfl ⟨s1, A1, n1, c1', t1, B1, m1, d1, rfl, ⟨?_, ?_⟩, b3 _ (extW.trans hxb) (by omega)⟩
    · rw [hqp]; exact (b2 _ _ _ _ _ _ hr.num).le (by omega)
    · rw [hqp]; exact (b2 _ _ _ _ _ _ hr.den).le (by omega)
  · have hn2 : ((n : Int) == 0) = false := by rw [beq_eq_false_iff_ne]; intro h0; exact hq0 (hz1.1 (by omega))
    by_cases hp0 : p.num = 0
    · have hm2 : ((n' : Int) == 0) = true := by rw [beq_iff_eq]; have := hz2.2 hp0; omega
      have hqp : q * p = ((0 : Int) : Rat) := by rw [Rat.num_eq_zero.1 hp0, Rat.mul_zero]; rfl
      clear hz1 hz2 hq0 hp0
      have x1 := bx.cell 1 (.slice A n c) rfl
      have y1 := by_.cell 1 (.slice A' n' c') rfl
      go_wp2_with fail
      refine (q_FromIntR 0 (by omega) (by omega)).mono ?_
      rintro e wb ⟨s1, A1, n1, c1', t1, B1, m1, d1, rfl, hr, hxb⟩
      have z0 := (bz.ext hxb).cell 0 _ rfl
      have z1 := (bz.ext hxb).cell 1 _ rfl
      have z2 := (bz.ext hxb).cell 2 _ rfl
      have z3 := (bz.ext hxb).cell 3 _ rfl
      have f0 := (bz.ext hxb).frozen 0
      have f1 := (bz.ext hxb).frozen 1
      have f2 := (bz.ext hxb).frozen 2
      have f3 := (bz.ext hxb).frozen 3
      go_wp2_with fail
      obtain ⟨b1, b2, b3, b4⟩ := fin_quad (s := s1) (A := A1) (n := n1) (c := c1') (t := t1) (B := B1) (m := m1) (d := d1) (bz.ext hxb)
      have r0 := b1.cell 0 (.bool s1) rfl
      have r1 := b1.cell 1 (.slice A1 n1 c1') rfl
      have r2 := b1.cell 2 (.bool t1) rfl
      have r3 := b1.cell 3 (.slice B1 m1 d1) rfl
      unfold set4 at r0 r1 r2 r3
      refine bodyPost_ret (v := .agg #[.bool s1, .slice A1 n1 c1', .bool t1, .slice B1 m1 d1]) (by simp [results, Tryz.results44, go_sem, r0, r1, r2, r3]) rfl ⟨s1, A1, n1, c1', t1, B1, m1, d1, rfl, ⟨?_, ?_⟩, b3 _ (extW.trans hxb) (by omega)⟩
      · rw [hqp]; exact (b2 _ _ _ _ _ _ hr.num).le (by omega)
      · rw [hqp]; exact (b2 _ _ _ _ _ _ hr.den).le (by omega)
    · have hm2 : ((n' : Int) == 0) = false := by rw [beq_eq_false_iff_ne]; intro h0; exact hp0 (hz2.1 (by omega))
      clear hz1 hz2 hq0 hp0
      have x1 := bx.cell 1 (.slice A n c) rfl
      have y1 := by_.cell 1 (.slice A' n' c') rfl
      go_upto_region 3 with (fail)
      clear x1 y1
      have x0 := bx.cell 0 (.bool s) rfl
      have x1 := bx.cell 1 (.slice A n c) rfl
      have x2 := bx.cell 2 (.bool t) rfl
      have x3 := bx.cell 3 (.slice B m d) rfl
      go_wp2_with fail
      refine (q_one h.den).mono ?_
      rintro e wb ⟨rfl, hxb⟩
      replace bx := bx.ext hxb
      replace by_ := by_.ext hxb
      replace bz := bz.ext hxb
      replace h := h.ext hxb
      replace k := k.ext hxb
      replace extW := extW.trans hxb
      clear hxb
      clear x0 x1 x2 x3
      by_cases h1 : (q.den : Int) = 1
      · rw [decide_eq_true h1]
        have H1 := Lib.hid h1
        clear h1
        have y2 := by_.cell 2 (.bool t') rfl
        have y3 := by_.cell 3 (.slice B' m' d') rfl
        go_wp2_with fail
        refine (q_one k.den).mono ?_
        rintro e V ⟨rfl, hxc⟩
        replace bx := bx.ext hxc
        replace by_ := by_.ext hxc
        replace bz := bz.ext hxc
        replace h := h.ext hxc
        replace k := k.ext hxc
        replace extW := extW.trans hxc
        clear hxc y2 y3
        by_cases h2 : (p.den : Int) = 1
        · rw [decide_eq_true h2]
          have H2 := Lib.hid h2
          clear h2
          go_wp2_with fail
          refine wpL.start 8 (by kernel_rfl) (fun _ _ _ _ _ => ⟨fun h => h, fun h => h⟩) (fun hQ ES => ?_)
          refine wpL.take (i := 0) (d := some 28) (v := ?v0_48) rfl rfl (by kernel_rfl) (by kernel_rfl) (by kernel_rfl) (by kernel_rfl) hQ (Or.inl ⟨by rfl, ?y0_48⟩) ES ?r0_48
          case y0_48 =>
            intro w' hSw
            have k00 := (bx.ext hSw).c4
            have k10 := (by_.ext hSw).c4
            go_simp
            try with_reducible rfl
          try simp only [Act.put]
          try simp only [List.setIfInBounds_toArray]
          try simp only [List.set_cons_succ]
          try simp only [List.set_cons_zero]
          refine wpL.take (i := 2) (d := some 30) (v := ?v2_49) rfl rfl (by kernel_rfl) (by kernel_rfl) (by kernel_rfl) (by kernel_rfl) hQ (Or.inl ⟨by rfl, ?y2_49⟩) ES ?r2_49
          case y2_49 =>
            intro w' hSw
            have k00 := (bx.ext hSw).c4
            have k10 := (by_.ext hSw).c4
            go_simp
            try with_reducible rfl
          try simp only [Act.put]
          try simp only [List.setIfInBounds_toArray]
          try simp only [List.set_cons_succ]
          try simp only [List.set_cons_zero]
          refine wpL.take (i := 5) (d := some 33) (v := ?v5_50) rfl rfl (by kernel_rfl) (by kernel_rfl) (by kernel_rfl) (by kernel_rfl) hQ (Or.inl ⟨by rfl, ?y5_50⟩) ES ?r5_50
          case y5_50 =>
            intro w' hSw
            have k00 := (bx.ext hSw).c4
            have k10 := (by_.ext hSw).c4
            go_simp
            try with_reducible rfl
          try simp only [Act.put]
          try simp only [List.setIfInBounds_toArray]
          try simp only [List.set_cons_succ]
          try simp only [List.set_cons_zero]
          refine wpL.take (i := 1) (d := some 29) (v := ?v1_51) rfl rfl (by kernel_rfl) (by kernel_rfl) (by kernel_rfl) (by kernel_rfl) hQ (Or.inl ⟨by rfl, ?y1_51⟩) ES ?r1_51
          case y1_51 =>
            intro w' hSw
            have k00 := (bx.ext hSw).c4
            have k10 := (by_.ext hSw).c4
            go_simp
            try with_reducible rfl
          try simp only [Act.put]
          try simp only [List.setIfInBounds_toArray]
          try simp only [List.set_cons_succ]
          try simp only [List.set_cons_zero]
          refine wpL.take (i := 3) (d := some 31) (v := ?v3_52) rfl rfl (by kernel_rfl) (by kernel_rfl) (by kernel_rfl) (by kernel_rfl) hQ (Or.inl ⟨by rfl, ?y3_52⟩) ES ?r3_52
          case y3_52 =>
            intro w' hSw
            have k00 := (bx.ext hSw).c4
            have k10 := (by_.ext hSw).c4
            go_simp
            try with_reducible rfl
          try simp only [Act.put]
          try simp only [List.setIfInBounds_toArray]
          try simp only [List.set_cons_succ]
          try simp only [List.set_cons_zero]
          refine wpL.take (i := 6) (d := some 34) (v := ?v6_53) rfl rfl (by kernel_rfl) (by kernel_rfl) (by kernel_rfl) (by kernel_rfl) hQ (Or.inl ⟨by rfl, ?y6_53⟩) ES ?r6_53
          case y6_53 =>
            intro w' hSw
            have k00 := (bx.ext hSw).c4
            have k10 := (by_.ext hSw).c4
            go_simp
            try with_reducible rfl
          try simp only [Act.put]
          try simp only [List.setIfInBounds_toArray]
          try simp only [List.set_cons_succ]
          try simp only [List.set_cons_zero]
          refine wpL.call (i := 4) rfl (by kernel_rfl) (fun K hK => ?_)
          go_simp
          (go_at_call 77; refine (q_Mul (h.num.ext ES) (k.num.ext ES) (by omega) (by omega)).mono ?_; rintro e wk1 ⟨s5, A5, n5, c5, rfl, h5, hx0⟩; have E0_4 := Ext.trans ES hx0)
          refine hK.out _ _ E0_4 ?_
          clear hK K
          try simp only [Act.put]
          try simp only [List.setIfInBounds_toArray]
          try simp only [List.set_cons_succ]
          try simp only [List.set_cons_zero]
          refine wpL.take (i := 7) (d := some 35) (v := ?v7_54) rfl rfl (by kernel_rfl) (by kernel_rfl) (by kernel_rfl) (by kernel_rfl) hQ (Or.inl ⟨by rfl, ?y7_54⟩) E0_4 ?r7_54
          case y7_54 =>
            intro w' hSw
            have k00 := (bx.ext hSw).c4
            have k10 := (by_.ext hSw).c4
            go_simp
            try with_reducible rfl
          try simp only [Act.put]
          try simp only [List.setIfInBounds_toArray]
          try simp only [List.set_cons_succ]
          try simp only [List.set_cons_zero]
          have z0 := (bz.ext E0_4).cell 0 _ rfl
          have z1 := (bz.ext E0_4).cell 1 _ rfl
          have z2 := (bz.ext E0_4).cell 2 _ rfl
          have z3 := (bz.ext E0_4).cell 3 _ rfl
          have f0 := (bz.ext E0_4).frozen 0
          have f1 := (bz.ext E0_4).frozen 1
          have f2 := (bz.ext E0_4).frozen 2
          have f3 := (bz.ext E0_4).frozen 3
          refine wpL.tail (i := 8) rfl (by kernel_rfl) (by kernel_rfl) (fun K hK => ?_)
          go_simp
          refine hK.out _ _ ?_
          clear hK K
          try simp only [Act.put]
          try simp only [List.setIfInBounds_toArray]
          try simp only [List.set_cons_succ]
          try simp only [List.set_cons_zero]
          refine wpL.done (by kernel_rfl) ?_ _
          clear hQ
          go_wp2_with fail
          obtain ⟨e5, e6⟩ := rat_mul_one H1.out H2.out
          obtain ⟨b1, b2, b3, b4⟩ := fin_quad (s := s5) (A := A5) (n := n5) (c := c5) (t := t) (B := B) (m := m) (d := d) (bz.ext E0_4)
          have r0 := b1.cell 0 (.bool s5) rfl
          have r1 := b1.cell 1 (.slice A5 n5 c5) rfl
          have r2 := b1.cell 2 (.bool t) rfl
          have r3 := b1.cell 3 (.slice B m d) rfl
          unfold set4 at r0 r1 r2 r3
          refine bodyPost_ret (v := .agg #[.bool s5, .slice A5 n5 c5, .bool t, .slice B m d]) (by simp [results, Tryz.results44, go_sem, r0, r1, r2, r3]) rfl ⟨s5, A5, n5, c5, t, B, m, d, rfl, ⟨?_, ?_⟩, b3 _ (extW.trans E0_4) (by omega)⟩
          · rw [e5]; exact b2 _ _ _ _ _ _ h5
          · rw [e6]; exact (b2 _ _ _ _ _ _ (h.den.ext E0_4)).le (by omega)
        · rw [decide_eq_false h2]
          clear h2
          go_wp2_with fail
          have ES0 := Ext.refl V
          refine wp_region_held_drew (S := Ext V) (by kernel_rfl) ES0.drew (fun ES => ?_)
          clear ES0
          refine Late.start2 (x := ⟨10, 5, 24, #[Value.bool false, Value.slice none 0 0]⟩) (y := ⟨11, 6, 24, #[Value.bool false, Value.slice none 0 0]⟩) (n := 12) ⟨_, rfl, rfl, rfl, fun a w => by go_simp⟩ ⟨_, rfl, rfl, rfl, fun a w => by go_simp⟩ (fun _ _ _ _ _ => ⟨fun h => h, fun h => h⟩) ES rfl (fun hAl hQ => ?_)
          refine Late.take (i := 0) (d := some 36) (v := ?v0_55a) rfl rfl (by kernel_rfl) (by kernel_rfl) (by kernel_rfl) (by kernel_rfl) hQ (Or.inl ⟨by rfl, ?y0_55a⟩) ?r0_55a
          case y0_55a =>
            intro w' hSw
            have k00 := (bx.ext hSw).c4
            have k10 := (by_.ext hSw).c4
            go_simp
            try with_reducible rfl
          try simp only [Act.put]
          try simp only [List.setIfInBounds_toArray]
          try simp only [List.set_cons_succ]
          try simp only [List.set_cons_zero]
          refine Late.take (i := 2) (d := some 38) (v := ?v2_56a) rfl rfl (by kernel_rfl) (by kernel_rfl) (by kernel_rfl) (by kernel_rfl) hQ (Or.inl ⟨by rfl, ?y2_56a⟩) ?r2_56a
          case y2_56a =>
            intro w' hSw
            have k00 := (bx.ext hSw).c4
            have k10 := (by_.ext hSw).c4
            go_simp
            try with_reducible rfl
          try simp only [Act.put]
          try simp only [List.setIfInBounds_toArray]
          try simp only [List.set_cons_succ]
          try simp only [List.set_cons_zero]
          refine Late.take (i := 5) (d := some 41) (v := ?v5_57a) rfl rfl (by kernel_rfl) (by kernel_rfl) (by kernel_rfl) (by kernel_rfl) hQ (Or.inl ⟨by rfl, ?y5_57a⟩) ?r5_57a
          case y5_57a =>
            intro w' hSw
            have k00 := (bx.ext hSw).c4
            have k10 := (by_.ext hSw).c4
            go_simp
            try with_reducible rfl
          try simp only [Act.put]
          try simp only [List.setIfInBounds_toArray]
          try simp only [List.set_cons_succ]
          try simp only [List.set_cons_zero]
          refine Late.take (i := 7) (d := some 43) (v := ?v7_58a) rfl rfl (by kernel_rfl) (by kernel_rfl) (by kernel_rfl) (by kernel_rfl) hQ (Or.inl ⟨by rfl, ?y7_58a⟩) ?r7_58a
          case y7_58a =>
            intro w' hSw
            have k00 := (bx.ext hSw).c4
            have k10 := (by_.ext hSw).c4
            go_simp
            try with_reducible rfl
          try simp only [Act.put]
          try simp only [List.setIfInBounds_toArray]
          try simp only [List.set_cons_succ]
          try simp only [List.set_cons_zero]
          refine Late.take (i := 1) (d := some 37) (v := ?v1_59a) rfl rfl (by kernel_rfl) (by kernel_rfl) (by kernel_rfl) (by kernel_rfl) hQ (Or.inl ⟨by rfl, ?y1_59a⟩) ?r1_59a
          case y1_59a =>
            intro w' hSw
            have k00 := (bx.ext hSw).c4
            have k10 := (by_.ext hSw).c4
            go_simp
            try with_reducible rfl
          try simp only [Act.put]
          try simp only [List.setIfInBounds_toArray]
          try simp only [List.set_cons_succ]
          try simp only [List.set_cons_zero]
          refine Late.take (i := 3) (d := some 39) (v := ?v3_60a) rfl rfl (by kernel_rfl) (by kernel_rfl) (by kernel_rfl) (by kernel_rfl) hQ (Or.inl ⟨by rfl, ?y3_60a⟩) ?r3_60a
          case y3_60a =>
            intro w' hSw
            have k00 := (bx.ext hSw).c4
            have k10 := (by_.ext hSw).c4
            go_simp
            try with_reducible rfl
          try simp only [Act.put]
          try simp only [List.setIfInBounds_toArray]
          try simp only [List.set_cons_succ]
          try simp only [List.set_cons_zero]
          refine Late.take (i := 6) (d := some 42) (v := ?v6_61a) rfl rfl (by kernel_rfl) (by kernel_rfl) (by kernel_rfl) (by kernel_rfl) hQ (Or.inl ⟨by rfl, ?y6_61a⟩) ?r6_61a
          case y6_61a =>
            intro w' hSw
            have k00 := (bx.ext hSw).c4
            have k10 := (by_.ext hSw).c4
            go_simp
            try with_reducible rfl
          try simp only [Act.put]
          try simp only [List.setIfInBounds_toArray]
          try simp only [List.set_cons_succ]
          try simp only [List.set_cons_zero]
          refine Late.take (i := 8) (d := some 44) (v := ?v8_62a) rfl rfl (by kernel_rfl) (by kernel_rfl) (by kernel_rfl) (by kernel_rfl) hQ (Or.inl ⟨by rfl, ?y8_62a⟩) ?r8_62a
          case y8_62a =>
            intro w' hSw
            have k00 := (bx.ext hSw).c4
            have k10 := (by_.ext hSw).c4
            go_simp
            try with_reducible rfl
          try simp only [Act.put]
          try simp only [List.setIfInBounds_toArray]
          try simp only [List.set_cons_succ]
          try simp only [List.set_cons_zero]
          refine Late.call (i := 4) rfl (by kernel_rfl) hAl (by kernel_rfl) (by kernel_rfl) (by kernel_rfl) hQ (fun w4 e4 E4 K hK => ?_)
          go_simp
          (go_at_call 84; refine (q_GCD (h.num.ext E4) (k.den.ext E4) (by omega) (by omega)).mono ?_; rintro e wk1 ⟨s1, A1, n1, c1', rfl, h1, hx4⟩; rw [Int.natAbs_natCast] at h1)
          refine hK.out _ _ hx4 ?_
          clear hK K
          try simp only [Act.put]
          try simp only [List.setIfInBounds_toArray]
          try simp only [List.set_cons_succ]
          try simp only [List.set_cons_zero]
          refine Late.call (i := 9) rfl (by kernel_rfl) hAl (by kernel_rfl) (by kernel_rfl) (by kernel_rfl) hQ (fun w9 e9 E9 K hK => ?_)
          go_simp
          (go_at_call 84; refine (q_GCD (k.num.ext E9) (h.den.ext E9) (by omega) (by omega)).mono ?_; rintro e wk2 ⟨s2, A2, n2, c2', rfl, h2, hx9⟩; rw [Int.natAbs_natCast] at h2)
          refine hK.out _ _ hx9 ?_
          clear hK K
          try simp only [Act.put]
          try simp only [List.setIfInBounds_toArray]
          try simp only [List.set_cons_succ]
          try simp only [List.set_cons_zero]
          refine Late.finish2 (hAl _ (by simp)) (hAl _ (by simp)) (by decide) (by decide) (by kernel_rfl) (by kernel_rfl) (by kernel_rfl) (fun wz g5 g6 ez Ez lg5 lg6 hne xb1 xb2 => ?_)
          clear hAl hQ ES
          have p10 := xb1.cell 0 (Value.bool false) rfl
          have p11 := xb1.cell 1 (Value.slice none 0 0) rfl
          have f10 := xb1.frozen 0
          have f11 := xb1.frozen 1
          have e4 := fin_dual (s := s1) (A := A1) (n := n1) (c := c1') xb1
          try simp only [Act.put]
          try simp only [List.setIfInBounds_toArray]
          try simp only [List.set_cons_succ]
          try simp only [List.set_cons_zero]
          refine wpAnyH_ready (rs := [12]) (by kernel_rfl) (by simp) (AllReadyH.cons rfl (fun K hK => ?_) AllReadyH.nil)
          go_simp
          refine hK.out _ _ (e4.2.2.1 _ Ez lg5) (fun _ => ?_)
          clear hK K
          try simp only [Act.put]
          try simp only [List.setIfInBounds_toArray]
          try simp only [List.set_cons_succ]
          try simp only [List.set_cons_zero]
          have e5 := e4.2.2.2 _ _ _ (Ne.symm hne) xb2
          refine any_world (fun U => Ext V U ∧ Box U g5 24 #[.bool s1, .slice A1 n1 c1'] ∧ Box U g6 24 #[Value.bool false, Value.slice none 0 0] ∧ NI U ((q.num.natAbs.gcd p.den : Nat) : Int) (max L M) s1 A1 n1 c1' ∧ NI U ((p.num.natAbs.gcd q.den : Nat) : Int) (max M L) s2 A2 n2 c2') ⟨e4.2.2.1 _ Ez lg5, e4.1, e5, e4.2.1 _ _ _ _ _ _ (h1.ext (e9.trans (hx9.trans ez))), e4.2.1 _ _ _ _ _ _ (h2.ext ez)⟩ ?_
          clear e4 e5 p10 p11 f10 f11 xb1 xb2
          rintro U ⟨EU, b8, xb2, h1, h2⟩
          have p10 := xb2.cell 0 (Value.bool false) rfl
          have p11 := xb2.cell 1 (Value.slice none 0 0) rfl
          have f10 := xb2.frozen 0
          have f11 := xb2.frozen 1
          have e4 := fin_dual (s := s2) (A := A2) (n := n2) (c := c2') xb2
          refine wpAnyH_ready (rs := [13]) (by kernel_rfl) (by simp) (AllReadyH.cons rfl (fun K hK => ?_) AllReadyH.nil)
          go_simp
          refine hK.out _ _ (e4.2.2.1 _ EU lg6) (fun _ => ?_)
          clear hK K
          try simp only [Act.put]
          try simp only [List.setIfInBounds_toArray]
          try simp only [List.set_cons_succ]
          try simp only [List.set_cons_zero]
          refine any_world (fun U2 => Ext V U2 ∧ Box U2 g5 24 #[.bool s1, .slice A1 n1 c1'] ∧ Box U2 g6 24 #[.bool s2, .slice A2 n2 c2'] ∧ NI U2 ((q.num.natAbs.gcd p.den : Nat) : Int) (max L M) s1 A1 n1 c1' ∧ NI U2 ((p.num.natAbs.gcd q.den : Nat) : Int) (max M L) s2 A2 n2 c2') ⟨e4.2.2.1 _ EU lg6, e4.2.2.2 _ _ _ hne b8, e4.1, e4.2.1 _ _ _ _ _ _ h1, e4.2.1 _ _ _ _ _ _ h2⟩ ?_
          clear e4 p10 p11 f10 f11 xb2 b8 h1 h2 lg5 lg6
          rintro U2 ⟨EU2, b8, b9, h1, h2⟩
          refine wpAnyH_done (by kernel_rfl) ?_ _
          replace bx := bx.ext EU2
          replace by_ := by_.ext EU2
          replace bz := bz.ext EU2
          replace h := h.ext EU2
          replace k := k.ext EU2
          replace extW := extW.trans EU2
          clear EU EU2 Ez ez
          obtain ⟨g, hge⟩ : ∃ g, q.num.natAbs.gcd p.den = g := ⟨_, rfl⟩
          obtain ⟨hq, hhe⟩ : ∃ g, p.num.natAbs.gcd q.den = g := ⟨_, rfl⟩
          rw [hge] at h1
          rw [hhe] at h2
          obtain ⟨q1, q2⟩ := rat_mul q p hge.symm hhe.symm
          have Hq1 := Lib.hid q1
          have Hq2 := Lib.hid q2
          have hgq : g ∣ q.num.natAbs := by rw [← hge]; exact Nat.gcd_dvd_left _ _
          have hgp : g ∣ p.den := by rw [← hge]; exact Nat.gcd_dvd_right _ _
          have hhp : hq ∣ p.num.natAbs := by rw [← hhe]; exact Nat.gcd_dvd_left _ _
          have hhq : hq ∣ q.den := by rw [← hhe]; exact Nat.gcd_dvd_right _ _
          have hg0 : (g : Int) ≠ 0 := by
            intro h0
            have : g = 0 := by omega
            rw [this] at hgp
            exact p.den_nz (Nat.eq_zero_of_zero_dvd hgp)
          have hh0 : (hq : Int) ≠ 0 := by
            intro h0
            have : hq = 0 := by omega
            rw [this] at hhq
            exact q.den_nz (Nat.eq_zero_of_zero_dvd hhq)
          have Hg0 := Lib.hid hg0
          have Hh0 := Lib.hid hh0
          have Hgq := Lib.hid (Int.ofNat_dvd_left.2 hgq)
          have Hgp := Lib.hid (Int.ofNat_dvd.2 hgp)
          have Hhp := Lib.hid (Int.ofNat_dvd_left.2 hhp)
          have Hhq := Lib.hid (Int.ofNat_dvd.2 hhq)
          have hg := h1
          have hh := h2
          clear hge hhe q1 q2 hgq hgp hhp hhq hg0 hh0 h1 h2
          go_wp2_with fail
          refine wpL.start 19 (by kernel_rfl) (fun _ _ _ _ _ => ⟨fun h => h, fun h => h⟩) (fun hQ ES => ?_)
          refine wpL.take (i := 0) (d := some 46) (v := ?v0_63a) rfl rfl (by kernel_rfl) (by kernel_rfl) (by kernel_rfl) (by kernel_rfl) hQ (Or.inl ⟨by rfl, ?y0_63a⟩) ES ?r0_63a
          case y0_63a =>
            intro w' hSw
            have k00 := (bx.ext hSw).c4
            have k10 := (by_.ext hSw).c4
            have k20 := (b8.ext hSw).c2
            have k30 := (b9.ext hSw).c2
            go_simp
            try with_reducible rfl
          try simp only [Act.put]
          try simp only [List.setIfInBounds_toArray]
          try simp only [List.set_cons_succ]
          try simp only [List.set_cons_zero]
          refine wpL.take (i := 2) (d := some 48) (v := ?v2_64a) rfl rfl (by kernel_rfl) (by kernel_rfl) (by kernel_rfl) (by kernel_rfl) hQ (Or.inl ⟨by rfl, ?y2_64a⟩) ES ?r2_64a
          case y2_64a =>
            intro w' hSw
            have k00 := (bx.ext hSw).c4
            have k10 := (by_.ext hSw).c4
            have k20 := (b8.ext hSw).c2
            have k30 := (b9.ext hSw).c2
            go_simp
            try with_reducible rfl
          try simp only [Act.put]
          try simp only [List.setIfInBounds_toArray]
          try simp only [List.set_cons_succ]
          try simp only [List.set_cons_zero]
          refine wpL.take (i := 4) (d := some 50) (v := ?v4_65a) rfl rfl (by kernel_rfl) (by kernel_rfl) (by kernel_rfl) (by kernel_rfl) hQ (Or.inl ⟨by rfl, ?y4_65a⟩) ES ?r4_65a
          case y4_65a =>
            intro w' hSw
            have k00 := (bx.ext hSw).c4
            have k10 := (by_.ext hSw).c4
            have k20 := (b8.ext hSw).c2
            have k30 := (b9.ext hSw).c2
            go_simp
            try with_reducible rfl
          try simp only [Act.put]
          try simp only [List.setIfInBounds_toArray]
          try simp only [List.set_cons_succ]
          try simp only [List.set_cons_zero]
          refine wpL.take (i := 6) (d := some 52) (v := ?v6_66a) rfl rfl (by kernel_rfl) (by kernel_rfl) (by kernel_rfl) (by kernel_rfl) hQ (Or.inl ⟨by rfl, ?y6_66a⟩) ES ?r6_66a
          case y6_66a =>
            intro w' hSw
            have k00 := (bx.ext hSw).c4
            have k10 := (by_.ext hSw).c4
            have k20 := (b8.ext hSw).c2
            have k30 := (b9.ext hSw).c2
            go_simp
            try with_reducible rfl
          try simp only [Act.put]
          try simp only [List.setIfInBounds_toArray]
          try simp only [List.set_cons_succ]
          try simp only [List.set_cons_zero]
          refine wpL.take (i := 9) (d := some 55) (v := ?v9_67a) rfl rfl (by kernel_rfl) (by kernel_rfl) (by kernel_rfl) (by kernel_rfl) hQ (Or.inl ⟨by rfl, ?y9_67a⟩) ES ?r9_67a
          case y9_67a =>
            intro w' hSw
            have k00 := (bx.ext hSw).c4
            have k10 := (by_.ext hSw).c4
            have k20 := (b8.ext hSw).c2
            have k30 := (b9.ext hSw).c2
            go_simp
            try with_reducible rfl
          try simp only [Act.put]
          try simp only [List.setIfInBounds_toArray]
          try simp only [List.set_cons_succ]
          try simp only [List.set_cons_zero]
          refine wpL.take (i := 11) (d := some 57) (v := ?v11_68a) rfl rfl (by kernel_rfl) (by kernel_rfl) (by kernel_rfl) (by kernel_rfl) hQ (Or.inl ⟨by rfl, ?y11_68a⟩) ES ?r11_68a
          case y11_68a =>
            intro w' hSw
            have k00 := (bx.ext hSw).c4
            have k10 := (by_.ext hSw).c4
            have k20 := (b8.ext hSw).c2
            have k30 := (b9.ext hSw).c2
            go_simp
            try with_reducible rfl
          try simp only [Act.put]
          try simp only [List.setIfInBounds_toArray]
          try simp only [List.set_cons_succ]
          try simp only [List.set_cons_zero]
          refine wpL.take (i := 13) (d := some 59) (v := ?v13_69a) rfl rfl (by kernel_rfl) (by kernel_rfl) (by kernel_rfl) (by kernel_rfl) hQ (Or.inl ⟨by rfl, ?y13_69a⟩) ES ?r13_69a
          case y13_69a =>
            intro w' hSw
            have k00 := (bx.ext hSw).c4
            have k10 := (by_.ext hSw).c4
            have k20 := (b8.ext hSw).c2
            have k30 := (b9.ext hSw).c2
            go_simp
            try with_reducible rfl
          try simp only [Act.put]
          try simp only [List.setIfInBounds_toArray]
          try simp only [List.set_cons_succ]
          try simp only [List.set_cons_zero]
          refine wpL.take (i := 15) (d := some 61) (v := ?v15_70a) rfl rfl (by kernel_rfl) (by kernel_rfl) (by kernel_rfl) (by kernel_rfl) hQ (Or.inl ⟨by rfl, ?y15_70a⟩) ES ?r15_70a
          case y15_70a =>
            intro w' hSw
            have k00 := (bx.ext hSw).c4
            have k10 := (by_.ext hSw).c4
            have k20 := (b8.ext hSw).c2
            have k30 := (b9.ext hSw).c2
            go_simp
            try with_reducible rfl
          try simp only [Act.put]
          try simp only [List.setIfInBounds_toArray]
          try simp only [List.set_cons_succ]
          try simp only [List.set_cons_zero]
          refine wpL.take (i := 1) (d := some 47) (v := ?v1_71a) rfl rfl (by kernel_rfl) (by kernel_rfl) (by kernel_rfl) (by kernel_rfl) hQ (Or.inl ⟨by rfl, ?y1_71a⟩) ES ?r1_71a
          case y1_71a =>
            intro w' hSw
            have k00 := (bx.ext hSw).c4
            have k10 := (by_.ext hSw).c4
            have k20 := (b8.ext hSw).c2
            have k30 := (b9.ext hSw).c2
            go_simp
            try with_reducible rfl
          try simp only [Act.put]
          try simp only [List.setIfInBounds_toArray]
          try simp only [List.set_cons_succ]
          try simp only [List.set_cons_zero]
          refine wpL.take (i := 5) (d := some 51) (v := ?v5_72a) rfl rfl (by kernel_rfl) (by kernel_rfl) (by kernel_rfl) (by kernel_rfl) hQ (Or.inl ⟨by rfl, ?y5_72a⟩) ES ?r5_72a
          case y5_72a =>
            intro w' hSw
            have k00 := (bx.ext hSw).c4
            have k10 := (by_.ext hSw).c4
            have k20 := (b8.ext hSw).c2
            have k30 := (b9.ext hSw).c2
            go_simp
            try with_reducible rfl
          try simp only [Act.put]
          try simp only [List.setIfInBounds_toArray]
          try simp only [List.set_cons_succ]
          try simp only [List.set_cons_zero]
          refine wpL.take (i := 10) (d := some 56) (v := ?v10_73a) rfl rfl (by kernel_rfl) (by kernel_rfl) (by kernel_rfl) (by kernel_rfl) hQ (Or.inl ⟨by rfl, ?y10_73a⟩) ES ?r10_73a
          case y10_73a =>
            intro w' hSw
            have k00 := (bx.ext hSw).c4
            have k10 := (by_.ext hSw).c4
            have k20 := (b8.ext hSw).c2
            have k30 := (b9.ext hSw).c2
            go_simp
            try with_reducible rfl
          try simp only [Act.put]
          try simp only [List.setIfInBounds_toArray]
          try simp only [List.set_cons_succ]
          try simp only [List.set_cons_zero]
          refine wpL.take (i := 14) (d := some 60) (v := ?v14_74a) rfl rfl (by kernel_rfl) (by kernel_rfl) (by kernel_rfl) (by kernel_rfl) hQ (Or.inl ⟨by rfl, ?y14_74a⟩) ES ?r14_74a
          case y14_74a =>
            intro w' hSw
            have k00 := (bx.ext hSw).c4
            have k10 := (by_.ext hSw).c4
            have k20 := (b8.ext hSw).c2
            have k30 := (b9.ext hSw).c2
            go_simp
            try with_reducible rfl
          try simp only [Act.put]
          try simp only [List.setIfInBounds_toArray]
          try simp only [List.set_cons_succ]
          try simp only [List.set_cons_zero]
          refine wpL.call (i := 3) rfl (by kernel_rfl) (fun K hK => ?_)
          go_simp
          (go_at_call 85; refine (q_quo (h.num.ext ES) (hg.ext ES) (by omega) (by omega) Hg0.out Hgq.out).mono ?_; rintro e wk1 ⟨s3, A3, n3, c3, rfl, h3, hx0⟩; have E0_6 := Ext.trans ES hx0)
          refine hK.out _ _ E0_6 ?_
          clear hK K
          try simp only [Act.put]
          try simp only [List.setIfInBounds_toArray]
          try simp only [List.set_cons_succ]
          try simp only [List.set_cons_zero]
          refine wpL.call (i := 7) rfl (by kernel_rfl) (fun K hK => ?_)
          go_simp
          (go_at_call 85; refine (q_quo (k.num.ext E0_6) (hh.ext E0_6) (by omega) (by omega) Hh0.out Hhp.out).mono ?_; rintro e wk2 ⟨s4, A4, n4, c4, rfl, h4, hx1⟩; have E1_6 := Ext.trans E0_6 hx1)
          refine hK.out _ _ E1_6 ?_
          clear hK K
          try simp only [Act.put]
          try simp only [List.setIfInBounds_toArray]
          try simp only [List.set_cons_succ]
          try simp only [List.set_cons_zero]
          refine wpL.call (i := 8) rfl (by kernel_rfl) (fun K hK => ?_)
          go_simp
          (go_at_call 77; refine (q_Mul (h3.ext hx1) h4 (by omega) (by omega)).mono ?_; rintro e wk3 ⟨s5, A5, n5, c5, rfl, h5, hx2⟩; have E2_6 := Ext.trans E1_6 hx2)
          refine hK.out _ _ E2_6 ?_
          clear hK K
          try simp only [Act.put]
          try simp only [List.setIfInBounds_toArray]
          try simp only [List.set_cons_succ]
          try simp only [List.set_cons_zero]
          refine wpL.call (i := 12) rfl (by kernel_rfl) (fun K hK => ?_)
          go_simp
          (go_at_call 85; refine (q_quo (h.den.ext E2_6) (hh.ext E2_6) (by omega) (by omega) Hh0.out Hhq.out).mono ?_; rintro e wk4 ⟨s6, A6, n6, c6, rfl, h6, hx3⟩; have E3_6 := Ext.trans E2_6 hx3)
          refine hK.out _ _ E3_6 ?_
          clear hK K
          try simp only [Act.put]
          try simp only [List.setIfInBounds_toArray]
          try simp only [List.set_cons_succ]
          try simp only [List.set_cons_zero]
          refine wpL.call (i := 16) rfl (by kernel_rfl) (fun K hK => ?_)
          go_simp
          (go_at_call 85; refine (q_quo (k.den.ext E3_6) (hg.ext E3_6) (by omega) (by omega) Hg0.out Hgp.out).mono ?_; rintro e wk5 ⟨s7, A7, n7, c7, rfl, h7, hx4⟩; have E4_6 := Ext.trans E3_6 hx4)
          refine hK.out _ _ E4_6 ?_
          clear hK K
          try simp only [Act.put]
          try simp only [List.setIfInBounds_toArray]
          try simp only [List.set_cons_succ]
          try simp only [List.set_cons_zero]
          refine wpL.call (i := 17) rfl (by kernel_rfl) (fun K hK => ?_)
          go_simp
          (go_at_call 77; refine (q_Mul (h6.ext hx4) h7 (by omega) (by omega)).mono ?_; rintro e wk6 ⟨s8, A8, n8, c8, rfl, h8, hx5⟩; have E5_6 := Ext.trans E4_6 hx5)
          refine hK.out _ _ E5_6 ?_
          clear hK K
          try simp only [Act.put]
          try simp only [List.setIfInBounds_toArray]
          try simp only [List.set_cons_succ]
          try simp only [List.set_cons_zero]
          refine wpL.take (i := 18) (d := some 64) (v := ?v18_75a) rfl rfl (by kernel_rfl) (by kernel_rfl) (by kernel_rfl) (by kernel_rfl) hQ (Or.inl ⟨by rfl, ?y18_75a⟩) E5_6 ?r18_75a
          case y18_75a =>
            intro w' hSw
            have k00 := (bx.ext hSw).c4
            have k10 := (by_.ext hSw).c4
            have k20 := (b8.ext hSw).c2
            have k30 := (b9.ext hSw).c2
            go_simp
            try with_reducible rfl
          try simp only [Act.put]
          try simp only [List.setIfInBounds_toArray]
          try simp only [List.set_cons_succ]
          try simp only [List.set_cons_zero]
          have z0 := (bz.ext E5_6).cell 0 _ rfl
          have z1 := (bz.ext E5_6).cell 1 _ rfl
          have z2 := (bz.ext E5_6).cell 2 _ rfl
          have z3 := (bz.ext E5_6).cell 3 _ rfl
          have f0 := (bz.ext E5_6).frozen 0
          have f1 := (bz.ext E5_6).frozen 1
          have f2 := (bz.ext E5_6).frozen 2
          have f3 := (bz.ext E5_6).frozen 3
          refine wpL.tail (i := 19) rfl (by kernel_rfl) (by kernel_rfl) (fun K hK => ?_)
          go_simp
          refine hK.out _ _ ?_
          clear hK K
          try simp only [Act.put]
          try simp only [List.setIfInBounds_toArray]
          try simp only [List.set_cons_succ]
          try simp only [List.set_cons_zero]
          refine wpL.done (by kernel_rfl) ?_ _
          clear hQ
          go_wp2_with fail
          have hk1 : ((q.den : Int) / (hq : Int)) * ((p.den : Int) / (g : Int)) = ((q * p).den : Int) := by rw [Hq2.out]; simp
          rw [hk1] at h8
          rw [← Hq1.out] at h5
          obtain ⟨b1, b2, b3, b4⟩ := fin_quad (s := s5) (A := A5) (n := n5) (c := c5) (t := s8) (B := A8) (m := n8) (d := c8) (bz.ext E5_6)
          have r0 := b1.cell 0 (.bool s5) rfl
          have r1 := b1.cell 1 (.slice A5 n5 c5) rfl
          have r2 := b1.cell 2 (.bool s8) rfl
          have r3 := b1.cell 3 (.slice A8 n8 c8) rfl
          unfold set4 at r0 r1 r2 r3
          refine bodyPost_ret (v := .agg #[.bool s5, .slice A5 n5 c5, .bool s8, .slice A8 n8 c8]) (by simp [results, Tryz.results44, go_sem, r0, r1, r2, r3]) rfl ⟨s5, A5, n5, c5, s8, A8, n8, c8, rfl, ⟨?_, ?_⟩, b3 _ (extW.trans E5_6) (by omega)⟩
          · exact b2 _ _ _ _ _ _ (h5.ext (hx3.trans (hx4.trans hx5)))
          · exact b2 _ _ _ _ _ _ h8
      · rw [decide_eq_false h1]
        clear h1
        go_wp2_with fail
        have ES0 := Ext.refl wb
        refine wp_region_held_drew (S := Ext wb) (by kernel_rfl) ES0.drew (fun ES => ?_)
        clear ES0
        refine Late.start2 (x := ⟨10, 5, 24, #[Value.bool false, Value.slice none 0 0]⟩) (y := ⟨11, 6, 24, #[Value.bool false, Value.slice none 0 0]⟩) (n := 12) ⟨_, rfl, rfl, rfl, fun a w => by go_simp⟩ ⟨_, rfl, rfl, rfl, fun a w => by go_simp⟩ (fun _ _ _ _ _ => ⟨fun h => h, fun h => h⟩) ES rfl (fun hAl hQ => ?_)
        refine Late.take (i := 0) (d := some 36) (v := ?v0_55b) rfl rfl (by kernel_rfl) (by kernel_rfl) (by kernel_rfl) (by kernel_rfl) hQ (Or.inl ⟨by rfl, ?y0_55b⟩) ?r0_55b
        case y0_55b =>
          intro w' hSw
          have k00 := (bx.ext hSw).c4
          have k10 := (by_.ext hSw).c4
          go_simp
          try with_reducible rfl
        try simp only [Act.put]
        try simp only [List.setIfInBounds_toArray]
        try simp only [List.set_cons_succ]
        try simp only [List.set_cons_zero]
        refine Late.take (i := 2) (d := some 38) (v := ?v2_56b) rfl rfl (by kernel_rfl) (by kernel_rfl) (by kernel_rfl) (by kernel_rfl) hQ (Or.inl ⟨by rfl, ?y2_56b⟩) ?r2_56b
        case y2_56b =>
          intro w' hSw
          have k00 := (bx.ext hSw).c4
          have k10 := (by_.ext hSw).c4
          go_simp
          try with_reducible rfl
        try simp only [Act.put]
        try simp only [List.setIfInBounds_toArray]
        try simp only [List.set_cons_succ]
        try simp only [List.set_cons_zero]
        refine Late.take (i := 5) (d := some 41) (v := ?v5_57b) rfl rfl (by kernel_rfl) (by kernel_rfl) (by kernel_rfl) (by kernel_rfl) hQ (Or.inl ⟨by rfl, ?y5_57b⟩) ?r5_57b
        case y5_57b =>
          intro w' hSw
          have k00 := (bx.ext hSw).c4
          have k10 := (by_.ext hSw).c4
          go_simp
          try with_reducible rfl
        try simp only [Act.put]
        try simp only [List.setIfInBounds_toArray]
        try simp only [List.set_cons_succ]
        try simp only [List.set_cons_zero]
        refine Late.take (i := 7) (d := some 43) (v := ?v7_58b) rfl rfl (by kernel_rfl) (by kernel_rfl) (by kernel_rfl) (by kernel_rfl) hQ (Or.inl ⟨by rfl, ?y7_58b⟩) ?r7_58b
        case y7_58b =>
          intro w' hSw
          have k00 := (bx.ext hSw).c4
          have k10 := (by_.ext hSw).c4
          go_simp
          try with_reducible rfl
        try simp only [Act.put]
        try simp only [List.setIfInBounds_toArray]
        try simp only [List.set_cons_succ]
        try simp only [List.set_cons_zero]
        refine Late.take (i := 1) (d := some 37) (v := ?v1_59b) rfl rfl (by kernel_rfl) (by kernel_rfl) (by kernel_rfl) (by kernel_rfl) hQ (Or.inl ⟨by rfl, ?y1_59b⟩) ?r1_59b
        case y1_59b =>
          intro w' hSw
          have k00 := (bx.ext hSw).c4
          have k10 := (by_.ext hSw).c4
          go_simp
          try with_reducible rfl
        try simp only [Act.put]
        try simp only [List.setIfInBounds_toArray]
        try simp only [List.set_cons_succ]
        try simp only [List.set_cons_zero]
        refine Late.take (i := 3) (d := some 39) (v := ?v3_60b) rfl rfl (by kernel_rfl) (by kernel_rfl) (by kernel_rfl) (by kernel_rfl) hQ (Or.inl ⟨by rfl, ?y3_60b⟩) ?r3_60b
        case y3_60b =>
          intro w' hSw
          have k00 := (bx.ext hSw).c4
          have k10 := (by_.ext hSw).c4
          go_simp
          try with_reducible rfl
        try simp only [Act.put]
        try simp only [List.setIfInBounds_toArray]
        try simp only [List.set_cons_succ]
        try simp only [List.set_cons_zero]
        refine Late.take (i := 6) (d := some 42) (v := ?v6_61b) rfl rfl (by kernel_rfl) (by kernel_rfl) (by kernel_rfl) (by kernel_rfl) hQ (Or.inl ⟨by rfl, ?y6_61b⟩) ?r6_61b
        case y6_61b =>
          intro w' hSw
          have k00 := (bx.ext hSw).c4
          have k10 := (by_.ext hSw).c4
          go_simp
          try with_reducible rfl
        try simp only [Act.put]
        try simp only [List.setIfInBounds_toArray]
        try simp only [List.set_cons_succ]
        try simp only [List.set_cons_zero]
        refine Late.take (i := 8) (d := some 44) (v := ?v8_62b) rfl rfl (by kernel_rfl) (by kernel_rfl) (by kernel_rfl) (by kernel_rfl) hQ (Or.inl ⟨by rfl, ?y8_62b⟩) ?r8_62b
        case y8_62b =>
          intro w' hSw
          have k00 := (bx.ext hSw).c4
          have k10 := (by_.ext hSw).c4
          go_simp
          try with_reducible rfl
        try simp only [Act.put]
        try simp only [List.setIfInBounds_toArray]
        try simp only [List.set_cons_succ]
        try simp only [List.set_cons_zero]
        refine Late.call (i := 4) rfl (by kernel_rfl) hAl (by kernel_rfl) (by kernel_rfl) (by kernel_rfl) hQ (fun w4 e4 E4 K hK => ?_)
        go_simp
        (go_at_call 84; refine (q_GCD (h.num.ext E4) (k.den.ext E4) (by omega) (by omega)).mono ?_; rintro e wk1 ⟨s1, A1, n1, c1', rfl, h1, hx4⟩; rw [Int.natAbs_natCast] at h1)
        refine hK.out _ _ hx4 ?_
        clear hK K
        try simp only [Act.put]
        try simp only [List.setIfInBounds_toArray]
        try simp only [List.set_cons_succ]
        try simp only [List.set_cons_zero]
        refine Late.call (i := 9) rfl (by kernel_rfl) hAl (by kernel_rfl) (by kernel_rfl) (by kernel_rfl) hQ (fun w9 e9 E9 K hK => ?_)
        go_simp
        (go_at_call 84; refine (q_GCD (k.num.ext E9) (h.den.ext E9) (by omega) (by omega)).mono ?_; rintro e wk2 ⟨s2, A2, n2, c2', rfl, h2, hx9⟩; rw [Int.natAbs_natCast] at h2)
        refine hK.out _ _ hx9 ?_
        clear hK K
        try simp only [Act.put]
        try simp only [List.setIfInBounds_toArray]
        try simp only [List.set_cons_succ]
        try simp only [List.set_cons_zero]
        refine Late.finish2 (hAl _ (by simp)) (hAl _ (by simp)) (by decide) (by decide) (by kernel_rfl) (by kernel_rfl) (by kernel_rfl) (fun wz g5 g6 ez Ez lg5 lg6 hne xb1 xb2 => ?_)
        clear hAl hQ ES
        have p10 := xb1.cell 0 (Value.bool false) rfl
        have p11 := xb1.cell 1 (Value.slice none 0 0) rfl
        have f10 := xb1.frozen 0
        have f11 := xb1.frozen 1
        have e4 := fin_dual (s := s1) (A := A1) (n := n1) (c := c1') xb1
        try simp only [Act.put]
        try simp only [List.setIfInBounds_toArray]
        try simp only [List.set_cons_succ]
        try simp only [List.set_cons_zero]
        refine wpAnyH_ready (rs := [12]) (by kernel_rfl) (by simp) (AllReadyH.cons rfl (fun K hK => ?_) AllReadyH.nil)
        go_simp
        refine hK.out _ _ (e4.2.2.1 _ Ez lg5) (fun _ => ?_)
        clear hK K
        try simp only [Act.put]
        try simp only [List.setIfInBounds_toArray]
        try simp only [List.set_cons_succ]
        try simp only [List.set_cons_zero]
        have e5 := e4.2.2.2 _ _ _ (Ne.symm hne) xb2
        refine any_world (fun U => Ext wb U ∧ Box U g5 24 #[.bool s1, .slice A1 n1 c1'] ∧ Box U g6 24 #[Value.bool false, Value.slice none 0 0] ∧ NI U ((q.num.natAbs.gcd p.den : Nat) : Int) (max L M) s1 A1 n1 c1' ∧ NI U ((p.num.natAbs.gcd q.den : Nat) : Int) (max M L) s2 A2 n2 c2') ⟨e4.2.2.1 _ Ez lg5, e4.1, e5, e4.2.1 _ _ _ _ _ _ (h1.ext (e9.trans (hx9.trans ez))), e4.2.1 _ _ _ _ _ _ (h2.ext ez)⟩ ?_
        clear e4 e5 p10 p11 f10 f11 xb1 xb2
        rintro U ⟨EU, b8, xb2, h1, h2⟩
        have p10 := xb2.cell 0 (Value.bool false) rfl
        have p11 := xb2.cell 1 (Value.slice none 0 0) rfl
        have f10 := xb2.frozen 0
        have f11 := xb2.frozen 1
        have e4 := fin_dual (s := s2) (A := A2) (n := n2) (c := c2') xb2
        refine wpAnyH_ready (rs := [13]) (by kernel_rfl) (by simp) (AllReadyH.cons rfl (fun K hK => ?_) AllReadyH.nil)
        go_simp
        refine hK.out _ _ (e4.2.2.1 _ EU lg6) (fun _ => ?_)
        clear hK K
        try simp only [Act.put]
        try simp only [List.setIfInBounds_toArray]
        try simp only [List.set_cons_succ]
        try simp only [List.set_cons_zero]
        refine any_world (fun U2 => Ext wb U2 ∧ Box U2 g5 24 #[.bool s1, .slice A1 n1 c1'] ∧ Box U2 g6 24 #[.bool s2, .slice A2 n2 c2'] ∧ NI U2 ((q.num.natAbs.gcd p.den : Nat) : Int) (max L M) s1 A1 n1 c1' ∧ NI U2 ((p.num.natAbs.gcd q.den : Nat) : Int) (max M L) s2 A2 n2 c2') ⟨e4.2.2.1 _ EU lg6, e4.2.2.2 _ _ _ hne b8, e4.1, e4.2.1 _ _ _ _ _ _ h1, e4.2.1 _ _ _ _ _ _ h2⟩ ?_
        clear e4 p10 p11 f10 f11 xb2 b8 h1 h2 lg5 lg6
        rintro U2 ⟨EU2, b8, b9, h1, h2⟩
        refine wpAnyH_done (by kernel_rfl) ?_ _
        replace bx := bx.ext EU2
        replace by_ := by_.ext EU2
        replace bz := bz.ext EU2
        replace h := h.ext EU2
        replace k := k.ext EU2
        replace extW := extW.trans EU2
        clear EU EU2 Ez ez
        obtain ⟨g, hge⟩ : ∃ g, q.num.natAbs.gcd p.den = g := ⟨_, rfl⟩
        obtain ⟨hq, hhe⟩ : ∃ g, p.num.natAbs.gcd q.den = g := ⟨_, rfl⟩
        rw [hge] at h1
        rw [hhe] at h2
        obtain ⟨q1, q2⟩ := rat_mul q p hge.symm hhe.symm
        have Hq1 := Lib.hid q1
        have Hq2 := Lib.hid q2
        have hgq : g ∣ q.num.natAbs := by rw [← hge]; exact Nat.gcd_dvd_left _ _
        have hgp : g ∣ p.den := by rw [← hge]; exact Nat.gcd_dvd_right _ _
        have hhp : hq ∣ p.num.natAbs := by rw [← hhe]; exact Nat.gcd_dvd_left _ _
        have hhq : hq ∣ q.den := by rw [← hhe]; exact Nat.gcd_dvd_right _ _
        have hg0 : (g : Int) ≠ 0 := by
          intro h0
          have : g = 0 := by omega
          rw [this] at hgp
          exact p.den_nz (Nat.eq_zero_of_zero_dvd hgp)
        have hh0 : (hq : Int) ≠ 0 := by
          intro h0
          have : hq = 0 := by omega
          rw [this] at hhq
          exact q.den_nz (Nat.eq_zero_of_zero_dvd hhq)
        have Hg0 := Lib.hid hg0
        have Hh0 := Lib.hid hh0
        have Hgq := Lib.hid (Int.ofNat_dvd_left.2 hgq)
        have Hgp := Lib.hid (Int.ofNat_dvd.2 hgp)
        have Hhp := Lib.hid (Int.ofNat_dvd_left.2 hhp)
        have Hhq := Lib.hid (Int.ofNat_dvd.2 hhq)
        have hg := h1
        have hh := h2
        clear hge hhe q1 q2 hgq hgp hhp hhq hg0 hh0 h1 h2
        go_wp2_with fail
        refine wpL.start 19 (by kernel_rfl) (fun _ _ _ _ _ => ⟨fun h => h, fun h => h⟩) (fun hQ ES => ?_)
        refine wpL.take (i := 0) (d := some 46) (v := ?v0_63b) rfl rfl (by kernel_rfl) (by kernel_rfl) (by kernel_rfl) (by kernel_rfl) hQ (Or.inl ⟨by rfl, ?y0_63b⟩) ES ?r0_63b
        case y0_63b =>
          intro w' hSw
          have k00 := (bx.ext hSw).c4
          have k10 := (by_.ext hSw).c4
          have k20 := (b8.ext hSw).c2
          have k30 := (b9.ext hSw).c2
          go_simp
          try with_reducible rfl
        try simp only [Act.put]
        try simp only [List.setIfInBounds_toArray]
        try simp only [List.set_cons_succ]
        try simp only [List.set_cons_zero]
        refine wpL.take (i := 2) (d := some 48) (v := ?v2_64b) rfl rfl (by kernel_rfl) (by kernel_rfl) (by kernel_rfl) (by kernel_rfl) hQ (Or.inl ⟨by rfl, ?y2_64b⟩) ES ?r2_64b
        case y2_64b =>
          intro w' hSw
          have k00 := (bx.ext hSw).c4
          have k10 := (by_.ext hSw).c4
          have k20 := (b8.ext hSw).c2
          have k30 := (b9.ext hSw).c2
          go_simp
          try with_reducible rfl
        try simp only [Act.put]
        try simp only [List.setIfInBounds_toArray]
        try simp only [List.set_cons_succ]
        try simp only [List.set_cons_zero]
        refine wpL.take (i := 4) (d := some 50) (v := ?v4_65b) rfl rfl (by kernel_rfl) (by kernel_rfl) (by kernel_rfl) (by kernel_rfl) hQ (Or.inl ⟨by rfl, ?y4_65b⟩) ES ?r4_65b
        case y4_65b =>
          intro w' hSw
          have k00 := (bx.ext hSw).c4
          have k10 := (by_.ext hSw).c4
          have k20 := (b8.ext hSw).c2
          have k30 := (b9.ext hSw).c2
          go_simp
          try with_reducible rfl
        try simp only [Act.put]
        try simp only [List.setIfInBounds_toArray]
        try simp only [List.set_cons_succ]
        try simp only [List.set_cons_zero]
        refine wpL.take (i := 6) (d := some 52) (v := ?v6_66b) rfl rfl (by kernel_rfl) (by kernel_rfl) (by kernel_rfl) (by kernel_rfl) hQ (Or.inl ⟨by rfl, ?y6_66b⟩) ES ?r6_66b
        case y6_66b =>
          intro w' hSw
          have k00 := (bx.ext hSw).c4
          have k10 := (by_.ext hSw).c4
          have k20 := (b8.ext hSw).c2
          have k30 := (b9.ext hSw).c2
          go_simp
          try with_reducible rfl
        try simp only [Act.put]
        try simp only [List.setIfInBounds_toArray]
        try simp only [List.set_cons_succ]
        try simp only [List.set_cons_zero]
        refine wpL.take (i := 9) (d := some 55) (v := ?v9_67b) rfl rfl (by kernel_rfl) (by kernel_rfl) (by kernel_rfl) (by kernel_rfl) hQ (Or.inl ⟨by rfl, ?y9_67b⟩) ES ?r9_67b
        case y9_67b =>
          intro w' hSw
          have k00 := (bx.ext hSw).c4
          have k10 := (by_.ext hSw).c4
          have k20 := (b8.ext hSw).c2
          have k30 := (b9.ext hSw).c2
          go_simp
          try with_reducible rfl
        try simp only [Act.put]
        try simp only [List.setIfInBounds_toArray]
        try simp only [List.set_cons_succ]
        try simp only [List.set_cons_zero]
        refine wpL.take (i := 11) (d := some 57) (v := ?v11_68b) rfl rfl (by kernel_rfl) (by kernel_rfl) (by kernel_rfl) (by kernel_rfl) hQ (Or.inl ⟨by rfl, ?y11_68b⟩) ES ?r11_68b
        case y11_68b =>
          intro w' hSw
          have k00 := (bx.ext hSw).c4
          have k10 := (by_.ext hSw).c4
          have k20 := (b8.ext hSw).c2
          have k30 := (b9.ext hSw).c2
          go_simp
          try with_reducible rfl
        try simp only [Act.put]
        try simp only [List.setIfInBounds_toArray]
        try simp only [List.set_cons_succ]
        try simp only [List.set_cons_zero]
        refine wpL.take (i := 13) (d := some 59) (v := ?v13_69b) rfl rfl (by kernel_rfl) (by kernel_rfl) (by kernel_rfl) (by kernel_rfl) hQ (Or.inl ⟨by rfl, ?y13_69b⟩) ES ?r13_69b
        case y13_69b =>
          intro w' hSw
          have k00 := (bx.ext hSw).c4
          have k10 := (by_.ext hSw).c4
          have k20 := (b8.ext hSw).c2
          have k30 := (b9.ext hSw).c2
          go_simp
          try with_reducible rfl
        try simp only [Act.put]
        try simp only [List.setIfInBounds_toArray]
        try simp only [List.set_cons_succ]
        try simp only [List.set_cons_zero]
        refine wpL.take (i := 15) (d := some 61) (v := ?v15_70b) rfl rfl (by kernel_rfl) (by kernel_rfl) (by kernel_rfl) (by kernel_rfl) hQ (Or.inl ⟨by rfl, ?y15_70b⟩) ES ?r15_70b
        case y15_70b =>
          intro w' hSw
          have k00 := (bx.ext hSw).c4
          have k10 := (by_.ext hSw).c4
          have k20 := (b8.ext hSw).c2
          have k30 := (b9.ext hSw).c2
          go_simp
          try with_reducible rfl
        try simp only [Act.put]
        try simp only [List.setIfInBounds_toArray]
        try simp only [List.set_cons_succ]
        try simp only [List.set_cons_zero]
        refine wpL.take (i := 1) (d := some 47) (v := ?v1_71b) rfl rfl (by kernel_rfl) (by kernel_rfl) (by kernel_rfl) (by kernel_rfl) hQ (Or.inl ⟨by rfl, ?y1_71b⟩) ES ?r1_71b
        case y1_71b =>
          intro w' hSw
          have k00 := (bx.ext hSw).c4
          have k10 := (by_.ext hSw).c4
          have k20 := (b8.ext hSw).c2
          have k30 := (b9.ext hSw).c2
          go_simp
          try with_reducible rfl
        try simp only [Act.put]
        try simp only [List.setIfInBounds_toArray]
        try simp only [List.set_cons_succ]
        try simp only [List.set_cons_zero]
        refine wpL.take (i := 5) (d := some 51) (v := ?v5_72b) rfl rfl (by kernel_rfl) (by kernel_rfl) (by kernel_rfl) (by kernel_rfl) hQ (Or.inl ⟨by rfl, ?y5_72b⟩) ES ?r5_72b
        case y5_72b =>
          intro w' hSw
          have k00 := (bx.ext hSw).c4
          have k10 := (by_.ext hSw).c4
          have k20 := (b8.ext hSw).c2
          have k30 := (b9.ext hSw).c2
          go_simp
          try with_reducible rfl
        try simp only [Act.put]
        try simp only [List.setIfInBounds_toArray]
        try simp only [List.set_cons_succ]
        try simp only [List.set_cons_zero]
        refine wpL.take (i := 10) (d := some 56) (v := ?v10_73b) rfl rfl (by kernel_rfl) (by kernel_rfl) (by kernel_rfl) (by kernel_rfl) hQ (Or.inl ⟨by rfl, ?y10_73b⟩) ES ?r10_73b
        case y10_73b =>
          intro w' hSw
          have k00 := (bx.ext hSw).c4
          have k10 := (by_.ext hSw).c4
          have k20 := (b8.ext hSw).c2
          have k30 := (b9.ext hSw).c2
          go_simp
          try with_reducible rfl
        try simp only [Act.put]
        try simp only [List.setIfInBounds_toArray]
        try simp only [List.set_cons_succ]
        try simp only [List.set_cons_zero]
        refine wpL.take (i := 14) (d := some 60) (v := ?v14_74b) rfl rfl (by kernel_rfl) (by kernel_rfl) (by kernel_rfl) (by kernel_rfl) hQ (Or.inl ⟨by rfl, ?y14_74b⟩) ES ?r14_74b
        case y14_74b =>
          intro w' hSw
          have k00 := (bx.ext hSw).c4
          have k10 := (by_.ext hSw).c4
          have k20 := (b8.ext hSw).c2
          have k30 := (b9.ext hSw).c2
          go_simp
          try with_reducible rfl
        try simp only [Act.put]
        try simp only [List.setIfInBounds_toArray]
        try simp only [List.set_cons_succ]
        try simp only [List.set_cons_zero]
        refine wpL.call (i := 3) rfl (by kernel_rfl) (fun K hK => ?_)
        go_simp
        (go_at_call 85; refine (q_quo (h.num.ext ES) (hg.ext ES) (by omega) (by omega) Hg0.out Hgq.out).mono ?_; rintro e wk1 ⟨s3, A3, n3, c3, rfl, h3, hx0⟩; have E0_6 := Ext.trans ES hx0)
        refine hK.out _ _ E0_6 ?_
        clear hK K
        try simp only [Act.put]
        try simp only [List.setIfInBounds_toArray]
        try simp only [List.set_cons_succ]
        try simp only [List.set_cons_zero]
        refine wpL.call (i := 7) rfl (by kernel_rfl) (fun K hK => ?_)
        go_simp
        (go_at_call 85; refine (q_quo (k.num.ext E0_6) (hh.ext E0_6) (by omega) (by omega) Hh0.out Hhp.out).mono ?_; rintro e wk2 ⟨s4, A4, n4, c4, rfl, h4, hx1⟩; have E1_6 := Ext.trans E0_6 hx1)
        refine hK.out _ _ E1_6 ?_
        clear hK K
        try simp only [Act.put]
        try simp only [List.setIfInBounds_toArray]
        try simp only [List.set_cons_succ]
        try simp only [List.set_cons_zero]
        refine wpL.call (i := 8) rfl (by kernel_rfl) (fun K hK => ?_)
        go_simp
        (go_at_call 77; refine (q_Mul (h3.ext hx1) h4 (by omega) (by omega)).mono ?_; rintro e wk3 ⟨s5, A5, n5, c5, rfl, h5, hx2⟩; have E2_6 := Ext.trans E1_6 hx2)
        refine hK.out _ _ E2_6 ?_
        clear hK K
        try simp only [Act.put]
        try simp only [List.setIfInBounds_toArray]
        try simp only [List.set_cons_succ]
        try simp only [List.set_cons_zero]
        refine wpL.call (i := 12) rfl (by kernel_rfl) (fun K hK => ?_)
        go_simp
        (go_at_call 85; refine (q_quo (h.den.ext E2_6) (hh.ext E2_6) (by omega) (by omega) Hh0.out Hhq.out).mono ?_; rintro e wk4 ⟨s6, A6, n6, c6, rfl, h6, hx3⟩; have E3_6 := Ext.trans E2_6 hx3)
        refine hK.out _ _ E3_6 ?_
        clear hK K
        try simp only [Act.put]
        try simp only [List.setIfInBounds_toArray]
        try simp only [List.set_cons_succ]
        try simp only [List.set_cons_zero]
        refine wpL.call (i := 16) rfl (by kernel_rfl) (fun K hK => ?_)
        go_simp
        (go_at_call 85; refine (q_quo (k.den.ext E3_6) (hg.ext E3_6) (by omega) (by omega) Hg0.out Hgp.out).mono ?_; rintro e wk5 ⟨s7, A7, n7, c7, rfl, h7, hx4⟩; have E4_6 := Ext.trans E3_6 hx4)
        refine hK.out _ _ E4_6 ?_
        clear hK K
        try simp only [Act.put]
        try simp only [List.setIfInBounds_toArray]
        try simp only [List.set_cons_succ]
        try simp only [List.set_cons_zero]
        refine wpL.call (i := 17) rfl (by kernel_rfl) (fun K hK => ?_)
        go_simp
        (go_at_call 77; refine (q_Mul (h6.ext hx4) h7 (by omega) (by omega)).mono ?_; rintro e wk6 ⟨s8, A8, n8, c8, rfl, h8, hx5⟩; have E5_6 := Ext.trans E4_6 hx5)
        refine hK.out _ _ E5_6 ?_
        clear hK K
        try simp only [Act.put]
        try simp only [List.setIfInBounds_toArray]
        try simp only [List.set_cons_succ]
        try simp only [List.set_cons_zero]
        refine wpL.take (i := 18) (d := some 64) (v := ?v18_75b) rfl rfl (by kernel_rfl) (by kernel_rfl) (by kernel_rfl) (by kernel_rfl) hQ (Or.inl ⟨by rfl, ?y18_75b⟩) E5_6 ?r18_75b
        case y18_75b =>
          intro w' hSw
          have k00 := (bx.ext hSw).c4
          have k10 := (by_.ext hSw).c4
          have k20 := (b8.ext hSw).c2
          have k30 := (b9.ext hSw).c2
          go_simp
          try with_reducible rfl
        try simp only [Act.put]
        try simp only [List.setIfInBounds_toArray]
        try simp only [List.set_cons_succ]
        try simp only [List.set_cons_zero]
        have z0 := (bz.ext E5_6).cell 0 _ rfl
        have z1 := (bz.ext E5_6).cell 1 _ rfl
        have z2 := (bz.ext E5_6).cell 2 _ rfl
        have z3 := (bz.ext E5_6).cell 3 _ rfl
        have f0 := (bz.ext E5_6).frozen 0
        have f1 := (bz.ext E5_6).frozen 1
        have f2 := (bz.ext E5_6).frozen 2
        have f3 := (bz.ext E5_6).frozen 3
        refine wpL.tail (i := 19) rfl (by kernel_rfl) (by kernel_rfl) (fun K hK => ?_)
        go_simp
        refine hK.out _ _ ?_
        clear hK K
        try simp only [Act.put]
        try simp only [List.setIfInBounds_toArray]
        try simp only [List.set_cons_succ]
        try simp only [List.set_cons_zero]
        refine wpL.done (by kernel_rfl) ?_ _
        clear hQ
        go_wp2_with fail
        have hk1 : ((q.den : Int) / (hq : Int)) * ((p.den : Int) / (g : Int)) = ((q * p).den : Int) := by rw [Hq2.out]; simp
        rw [hk1] at h8
        rw [← Hq1.out] at h5
        obtain ⟨b1, b2, b3, b4⟩ := fin_quad (s := s5) (A := A5) (n := n5) (c := c5) (t := s8) (B := A8) (m := n8) (d := c8) (bz.ext E5_6)
        have r0 := b1.cell 0 (.bool s5) rfl
        have r1 := b1.cell 1 (.slice A5 n5 c5) rfl
        have r2 := b1.cell 2 (.bool s8) rfl
        have r3 := b1.cell 3 (.slice A8 n8 c8) rfl
        unfold set4 at r0 r1 r2 r3
        refine bodyPost_ret (v := .agg #[.bool s5, .slice A5 n5 c5, .bool s8, .slice A8 n8 c8]) (by simp [results, Tryz.results44, go_sem, r0, r1, r2, r3]) rfl ⟨s5, A5, n5, c5, s8, A8, n8, c8, rfl, ⟨?_, ?_⟩, b3 _ (extW.trans E5_6) (by omega)⟩
        · exact b2 _ _ _ _ _ _ (h5.ext (hx3.trans (hx4.trans hx5)))
        · exact b2 _ _ _ _ _ _ h8
end
end Go.Proofs.YtoabhnofppledaaGreatDoor
namespace Go.Proofs.YtoabhnofppledaaGreatDoor
open Go.RowKit
attribute [local go_sem ↓] Go.wp_at_zero Go.wp_at_succ
section
variable {w w' : World} {q p r : Rat} {L : Nat} {s t s' t' u u' : Bool} {A B A' B' C D : Option Addr} {n c m d n' c' m' d' l e0 l' e' : Nat} {xs ys xs' ys' zs zs' : List Nat}
variable {z y : Int} {M : Nat}
set_option maxHeartbeats 2000000 in
theorem q_Floor (h : NR w q L s A n c t B m d) (hL : L ≤ 1000) : Calls Tryz.prog 75 #[.agg #[.bool s, .slice A n c, .bool t, .slice B m d]] w fun e w' => ∃ z r : Int, IsDM q.num q.den z r ∧ RetNI z 60000 w e w' := by
  have hd0 : (q.den : Int) ≠ 0 := by have := q.den_nz; omega
  go_enter Tryz.func75, Tryz.ntmps75
  go_upto_region 1 with (fail)
  obtain ⟨W, hW, extW, bx, bz, hz⟩ := box2 w 26 24 #[.bool s, .slice A n c, .bool t, .slice B m d] #[Value.bool false, Value.slice none 0 0]
  rw [← hW]
  clear hW
  replace h := h.ext extW
  have x0 := bx.cell 0 (.bool s) rfl
  have x1 := bx.cell 1 (.slice A n c) rfl
  have x2 := bx.cell 2 (.bool t) rfl
  have x3 := bx.cell 3 (.slice B m d) rfl
  go_wp2_with fail
  refine (q_quo_dm h.num h.den (by omega) (by omega) hd0).mono ?_
  rintro e wb ⟨q', r, hdm, s1, A1, n1, c1, rfl, hq, hx1⟩
  clear x0 x1 x2 x3
  have z0 := (bz.ext hx1).cell 0 _ rfl
  have z1 := (bz.ext hx1).cell 1 _ rfl
  have f0 := (bz.ext hx1).frozen 0
  have f1 := (bz.ext hx1).frozen 1
  go_wp2_with fail
  obtain ⟨b1, b2, b3, b4⟩ := fin_dual (s := s1) (A := A1) (n := n1) (c := c1) (bz.ext hx1)
  have r0 := b1.cell 0 (.bool s1) rfl
  have r1 := b1.cell 1 (.slice A1 n1 c1) rfl
  unfold set2 at r0 r1
  refine bodyPost_ret (v := .agg #[.bool s1, .slice A1 n1 c1]) (by simp [results, Tryz.results75, go_sem, r0, r1]) rfl ⟨q', r, hdm, s1, A1, n1, c1, rfl, ?_, b3 _ (extW.trans hx1) (by omega)⟩
  exact b2 _ _ _ _ _ _ hq
end
end Go.Proofs.YtoabhnofppledaaGreatDoor
namespace Go.Proofs.YtoabhnofppledaaGreatDoor
open Go.RowKit
attribute [local go_sem ↓] Go.wp_at_zero Go.wp_at_succ
section
variable {w w' : World} {q p lo hi lo' hi' : Rat} {z y x S : Int} {L M : Nat} {s t s' t' u v sx tx : Bool} {A B A' B' C D Ax Bx : Option Addr} {n c m d n' c' m' d' i j k l nx cx mx dx : Nat}
theorem p_isPrec_no {k : Int} (hk : k < 0 ∨ 4096 < k) : Calls Tryz.prog 65 #[.int .i64 k] w fun e w' => e = .returned (.bool false) ∧ Ext w w' := by
  by_cases h0 : 0 ≤ k
  · have d0 : decide (0 ≤ k) = true := decide_eq_true h0
    have d1 : decide (k ≤ 4096) = false := decide_eq_false (by omega)
    go_enter Tryz.func65, Tryz.ntmps65
    go_wp2_with fail
    go_ret
    exact ⟨rfl, Ext.refl _⟩
  · have d0 : decide (0 ≤ k) = false := decide_eq_false h0
    go_enter Tryz.func65, Tryz.ntmps65
    go_wp2_with fail
    go_ret
    exact ⟨rfl, Ext.refl _⟩
end
end Go.Proofs.YtoabhnofppledaaGreatDoor
namespace Go.Proofs.YtoabhnofppledaaGreatDoor
open Go.RowKit
attribute [local go_sem ↓] Go.wp_at_zero Go.wp_at_succ
/-- no interval, and an error. -/
def RetEV (err : Int) (w : World) (e : Ending) (w' : World) : Prop := e = .returned (.tuple #[.agg #[.bool false, .slice none 0 0, .bool false, .slice none 0 0, .bool false, .slice none 0 0, .bool false, .slice none 0 0], .int .i64 err]) ∧ Ext w w'
section
variable {w w' : World} {q p lo hi lo' hi' : Rat} {z y x S : Int} {L M : Nat} {s t s' t' u v sx tx : Bool} {A B A' B' C D Ax Bx : Option Addr} {n c m d n' c' m' d' i j k l nx cx mx dx : Nat}
set_option maxHeartbeats 4000000 in
theorem p_SqrtV_bits {k : Int} (hk : k < 0 ∨ 4096 < k) : Calls Tryz.prog 29 #[.agg #[.bool s, .slice A n c, .bool t, .slice B m d, .bool s', .slice A' n' c', .bool t', .slice B' m' d'], .int .i64 k] w (RetEV 1 w) := by
  go_enter Tryz.func29, Tryz.ntmps29
  go_upto_region 1 with (fail)
  obtain ⟨W, hW, ext, bx, bz, hz⟩ := box2 w 28 28 #[.bool s, .slice A n c, .bool t, .slice B m d, .bool s', .slice A' n' c', .bool t', .slice B' m' d'] #[Value.bool false, Value.slice none 0 0, Value.bool false, Value.slice none 0 0, Value.bool false, Value.slice none 0 0, Value.bool false, Value.slice none 0 0]
  rw [← hW]
  clear hW hz
  go_wp2_with fail
  refine (p_isPrec_no hk).mono ?_
  rintro e wa ⟨rfl, hxa⟩
  replace bz := bz.ext hxa
  replace ext := ext.trans hxa
  clear hxa
  have hx1 := Ext.refl wa
  have z0 := (bz.ext hx1).cell 0 _ rfl
  have f0 := (bz.ext hx1).frozen 0
  have z1 := (bz.ext hx1).cell 1 _ rfl
  have f1 := (bz.ext hx1).frozen 1
  have z2 := (bz.ext hx1).cell 2 _ rfl
  have f2 := (bz.ext hx1).frozen 2
  have z3 := (bz.ext hx1).cell 3 _ rfl
  have f3 := (bz.ext hx1).frozen 3
  have z4 := (bz.ext hx1).cell 4 _ rfl
  have f4 := (bz.ext hx1).frozen 4
  have z5 := (bz.ext hx1).cell 5 _ rfl
  have f5 := (bz.ext hx1).frozen 5
  have z6 := (bz.ext hx1).cell 6 _ rfl
  have f6 := (bz.ext hx1).frozen 6
  have z7 := (bz.ext hx1).cell 7 _ rfl
  have f7 := (bz.ext hx1).frozen 7
  go_wp2_with fail
  obtain ⟨b1, b2, b3, b4⟩ := fin_oct (v0 := (.bool false)) (v1 := (.slice none 0 0)) (v2 := (.bool false)) (v3 := (.slice none 0 0)) (v4 := (.bool false)) (v5 := (.slice none 0 0)) (v6 := (.bool false)) (v7 := (.slice none 0 0)) (bz.ext hx1)
  have r0 := b1.cell 0 (.bool false) rfl
  have r1 := b1.cell 1 (.slice none 0 0) rfl
  have r2 := b1.cell 2 (.bool false) rfl
  have r3 := b1.cell 3 (.slice none 0 0) rfl
  have r4 := b1.cell 4 (.bool false) rfl
  have r5 := b1.cell 5 (.slice none 0 0) rfl
  have r6 := b1.cell 6 (.bool false) rfl
  have r7 := b1.cell 7 (.slice none 0 0) rfl
  unfold set8 at r0 r1 r2 r3 r4 r5 r6 r7
  refine bodyPost_ret (v := .tuple #[.agg #[.bool false, .slice none 0 0, .bool false, .slice none 0 0, .bool false, .slice none 0 0, .bool false, .slice none 0 0], .int .i64 1]) (by simp [results, Tryz.results29, go_sem, r0, r1, r2, r3, r4, r5, r6, r7]) rfl ⟨rfl, b3 _ (ext.trans hx1) (by omega)⟩
set_option maxHeartbeats 4000000 in
theorem p_SqrtV_neg {k : Int} (h : IV w lo hi L s A n c t B m d s' A' n' c' t' B' m' d') (hL : L ≤ 50) (h0 : 0 ≤ k) (h1 : k ≤ 4096) (hn : lo.num < 0) : Calls Tryz.prog 29 #[.agg #[.bool s, .slice A n c, .bool t, .slice B m d, .bool s', .slice A' n' c', .bool t', .slice B' m' d'], .int .i64 k] w (RetEV 7 w) := by
  have HS := Lib.hid (Int.sign_eq_neg_one_of_neg hn)
  clear hn
  go_enter Tryz.func29, Tryz.ntmps29
  go_upto_region 1 with (fail)
  obtain ⟨W, hW, ext, bx, bz, hz⟩ := box2 w 28 28 #[.bool s, .slice A n c, .bool t, .slice B m d, .bool s', .slice A' n' c', .bool t', .slice B' m' d'] #[Value.bool false, Value.slice none 0 0, Value.bool false, Value.slice none 0 0, Value.bool false, Value.slice none 0 0, Value.bool false, Value.slice none 0 0]
  rw [← hW]
  clear hW hz
  go_wp2_with fail
  refine (p_isPrec_yes h0 h1).mono ?_
  rintro e wa ⟨rfl, hxa⟩
  replace bx := bx.ext hxa
  replace bz := bz.ext hxa
  replace ext := ext.trans hxa
  clear hxa
  have k0 := bx.cell 0 (.bool s) rfl
  have k1 := bx.cell 1 (.slice A n c) rfl
  have k2 := bx.cell 2 (.bool t) rfl
  have k3 := bx.cell 3 (.slice B m d) rfl
  have k4 := bx.cell 4 (.bool s') rfl
  have k5 := bx.cell 5 (.slice A' n' c') rfl
  have k6 := bx.cell 6 (.bool t') rfl
  have k7 := bx.cell 7 (.slice B' m' d') rfl
  go_wp2_with fail
  refine (p_SignR (h.low.ext ext) (by omega)).mono ?_
  rintro e wb ⟨rfl, hxb⟩
  rw [HS.out]
  replace bx := bx.ext hxb
  replace bz := bz.ext hxb
  replace ext := ext.trans hxb
  clear hxb k0 k1 k2 k3 k4 k5 k6 k7
  have hx1 := Ext.refl wb
  have z0 := (bz.ext hx1).cell 0 _ rfl
  have f0 := (bz.ext hx1).frozen 0
  have z1 := (bz.ext hx1).cell 1 _ rfl
  have f1 := (bz.ext hx1).frozen 1
  have z2 := (bz.ext hx1).cell 2 _ rfl
  have f2 := (bz.ext hx1).frozen 2
  have z3 := (bz.ext hx1).cell 3 _ rfl
  have f3 := (bz.ext hx1).frozen 3
  have z4 := (bz.ext hx1).cell 4 _ rfl
  have f4 := (bz.ext hx1).frozen 4
  have z5 := (bz.ext hx1).cell 5 _ rfl
  have f5 := (bz.ext hx1).frozen 5
  have z6 := (bz.ext hx1).cell 6 _ rfl
  have f6 := (bz.ext hx1).frozen 6
  have z7 := (bz.ext hx1).cell 7 _ rfl
  have f7 := (bz.ext hx1).frozen 7
  go_wp2_with fail
  obtain ⟨b1, b2, b3, b4⟩ := fin_oct (v0 := (.bool false)) (v1 := (.slice none 0 0)) (v2 := (.bool false)) (v3 := (.slice none 0 0)) (v4 := (.bool false)) (v5 := (.slice none 0 0)) (v6 := (.bool false)) (v7 := (.slice none 0 0)) (bz.ext hx1)
  have r0 := b1.cell 0 (.bool false) rfl
  have r1 := b1.cell 1 (.slice none 0 0) rfl
  have r2 := b1.cell 2 (.bool false) rfl
  have r3 := b1.cell 3 (.slice none 0 0) rfl
  have r4 := b1.cell 4 (.bool false) rfl
  have r5 := b1.cell 5 (.slice none 0 0) rfl
  have r6 := b1.cell 6 (.bool false) rfl
  have r7 := b1.cell 7 (.slice none 0 0) rfl
  unfold set8 at r0 r1 r2 r3 r4 r5 r6 r7
  refine bodyPost_ret (v := .tuple #[.agg #[.bool false, .slice none 0 0, .bool false, .slice none 0 0, .bool false, .slice none 0 0, .bool false, .slice none 0 0], .int .i64 7]) (by simp [results, Tryz.results29, go_sem, r0, r1, r2, r3, r4, r5, r6, r7]) rfl ⟨rfl, b3 _ (ext.trans hx1) (by omega)⟩
end
end Go.Proofs.YtoabhnofppledaaGreatDoor
namespace Go.Proofs.YtoabhnofppledaaGreatDoor
open Go.RowKit
attribute [local go_sem ↓] Go.wp_at_zero Go.wp_at_succ
section
variable {w w' : World} {q p lo hi lo' hi' x : Rat} {L M : Nat} {s t s' t' sx tx u v u' v' : Bool} {A B A' B' Ax Bx C D C' D' : Option Addr} {n c m d n' c' m' d' nx cx mx dx i j k l i' j' k' l' : Nat} {qs : List Rat}
set_option maxHeartbeats 4000000 in
theorem q_ZeroV : Calls Tryz.prog 28 #[.agg #[.bool false, .slice none 0 0, .bool false, .slice none 0 0, .bool false, .slice none 0 0, .bool false, .slice none 0 0]] w fun e w' => e = .returned (.bool true) ∧ Ext w w' := by
  go_enter Tryz.func28, Tryz.ntmps28
  go_upto_region 1 with (fail)
  obtain ⟨W, hW, ext, bx, hz⟩ := box1 w 28 #[.bool false, .slice none 0 0, .bool false, .slice none 0 0, .bool false, .slice none 0 0, .bool false, .slice none 0 0]
  rw [← hW]
  clear hW hz
  have k0 := bx.cell 0 (.bool false) rfl
  have k1 := bx.cell 1 (.slice none 0 0) rfl
  have k2 := bx.cell 2 (.bool false) rfl
  have k3 := bx.cell 3 (.slice none 0 0) rfl
  have k4 := bx.cell 4 (.bool false) rfl
  have k5 := bx.cell 5 (.slice none 0 0) rfl
  have k6 := bx.cell 6 (.bool false) rfl
  have k7 := bx.cell 7 (.slice none 0 0) rfl
  go_wp2_with fail
  go_ret
  exact ⟨rfl, ext⟩
end
end Go.Proofs.YtoabhnofppledaaGreatDoor
namespace Go.Proofs.YtoabhnofppledaaGreatDoor
open Go.RowKit
attribute [local go_sem ↓] Go.wp_at_zero Go.wp_at_succ
def few10 (n m : Nat) (s : Bool) (xs : List Nat) (t : Bool) (ys : List Nat) : Bool := decide (n ≤ 10) && (decide (m ≤ 10) && validQ s xs t ys)
/-- an interval with ends of at most ten words. -/
def fewV (n m n' m' : Nat) (s : Bool) (xs : List Nat) (t : Bool) (ys : List Nat) (s' : Bool) (xs' : List Nat) (t' : Bool) (ys' : List Nat) : Bool :=
  few10 n m s xs t ys && (few10 n' m' s' xs' t' ys' && validV s xs t ys s' xs' t' ys')
theorem few10_le {n m : Nat} {s : Bool} {xs : List Nat} {t : Bool} {ys : List Nat} (h : few10 n m s xs t ys = true) : n ≤ 10 ∧ m ≤ 10 ∧ validQ s xs t ys = true := by
  unfold few10 at h
  simp only [Bool.and_eq_true, decide_eq_true_eq] at h
  exact ⟨h.1, h.2.1, h.2.2⟩
theorem few_iv {w : World} {s t s' t' : Bool} {A B A' B' : Option Addr} {n c m d n' c' m' d' : Nat} {xs ys xs' ys' : List Nat} (h : RI w A n c xs) (k : RI w B m d ys) (h' : RI w A' n' c' xs') (k' : RI w B' m' d' ys') (hf : fewV n m n' m' s xs t ys s' xs' t' ys' = true) :
    IV w (rawQ s xs t ys) (rawQ s' xs' t' ys') 10 s A n c t B m d s' A' n' c' t' B' m' d' ∧ rawQ s xs t ys ≤ rawQ s' xs' t' ys' := by
  unfold fewV validV at hf
  simp only [Bool.and_eq_true, decide_eq_true_eq] at hf
  obtain ⟨f1, f2, f3, f4, f5⟩ := hf
  obtain ⟨a1, a2, a3⟩ := few10_le f1
  obtain ⟨b1, b2, b3⟩ := few10_le f2
  exact ⟨⟨NR.of_raw' h k a3 a1 a2, NR.of_raw' h' k' b3 b1 b2⟩, f5⟩
section
variable {w w' : World} {L M : Nat} {s t s' t' : Bool} {A B A' B' : Option Addr} {n c m d n' c' m' d' : Nat} {xs ys xs' ys' : List Nat}
set_option maxHeartbeats 4000000 in
theorem q_Few10 (h : RI w A n c xs) (k : RI w B m d ys) : Calls Tryz.prog 34 #[.agg #[.bool s, .slice A n c, .bool t, .slice B m d], .int .i64 10] w fun e w' => e = .returned (.bool (few10 n m s xs t ys)) ∧ Ext w w' := by
  by_cases h1 : n ≤ 10
  · have d1 : decide ((n : Int) ≤ (10 : Int)) = true := decide_eq_true (by omega)
    by_cases h2 : m ≤ 10
    · have d2 : decide ((m : Int) ≤ (10 : Int)) = true := decide_eq_true (by omega)
      have hf : few10 n m s xs t ys = validQ s xs t ys := by unfold few10; rw [decide_eq_true h1, decide_eq_true h2]; rfl
      rw [hf]
      clear hf
      go_enter Tryz.func34, Tryz.ntmps34
      go_upto_region 1 with (fail)
      obtain ⟨W, hW, extW, bx, hz⟩ := box1 w 26 #[.bool s, .slice A n c, .bool t, .slice B m d]
      rw [← hW]
      clear hW
      replace h := h.ext extW
      replace k := k.ext extW
      have x0 := bx.cell 0 (.bool s) rfl
      have x1 := bx.cell 1 (.slice A n c) rfl
      have x2 := bx.cell 2 (.bool t) rfl
      have x3 := bx.cell 3 (.slice B m d) rfl
      go_wp2_with fail
      refine (q_ValidRaw h k (by omega) (by omega)).mono ?_
      rintro e wd ⟨rfl, hxd⟩
      go_wp2_with fail
      go_ret
      exact ⟨rfl, extW.trans hxd⟩
    · have d2 : decide ((m : Int) ≤ (10 : Int)) = false := decide_eq_false (by omega)
      have hf : few10 n m s xs t ys = false := by unfold few10; rw [decide_eq_true h1, decide_eq_false h2]; rfl
      rw [hf]
      clear hf
      go_enter Tryz.func34, Tryz.ntmps34
      go_upto_region 1 with (fail)
      obtain ⟨W, hW, extW, bx, hz⟩ := box1 w 26 #[.bool s, .slice A n c, .bool t, .slice B m d]
      rw [← hW]
      clear hW
      replace h := h.ext extW
      replace k := k.ext extW
      have x0 := bx.cell 0 (.bool s) rfl
      have x1 := bx.cell 1 (.slice A n c) rfl
      have x2 := bx.cell 2 (.bool t) rfl
      have x3 := bx.cell 3 (.slice B m d) rfl
      go_wp2_with fail
      go_ret
      exact ⟨rfl, extW⟩
  · have d1 : decide ((n : Int) ≤ (10 : Int)) = false := decide_eq_false (by omega)
    have hf : few10 n m s xs t ys = false := by unfold few10; rw [decide_eq_false h1]; rfl
    rw [hf]
    clear hf
    go_enter Tryz.func34, Tryz.ntmps34
    go_upto_region 1 with (fail)
    obtain ⟨W, hW, extW, bx, hz⟩ := box1 w 26 #[.bool s, .slice A n c, .bool t, .slice B m d]
    rw [← hW]
    clear hW
    replace h := h.ext extW
    replace k := k.ext extW
    have x0 := bx.cell 0 (.bool s) rfl
    have x1 := bx.cell 1 (.slice A n c) rfl
    have x2 := bx.cell 2 (.bool t) rfl
    have x3 := bx.cell 3 (.slice B m d) rfl
    go_wp2_with fail
    go_ret
    exact ⟨rfl, extW⟩
set_option maxHeartbeats 4000000 in
theorem q_FewV (h : RI w A n c xs) (k : RI w B m d ys) (h' : RI w A' n' c' xs') (k' : RI w B' m' d' ys') : Calls Tryz.prog 54 #[.agg #[.bool s, .slice A n c, .bool t, .slice B m d, .bool s', .slice A' n' c', .bool t', .slice B' m' d'], .int .i64 10] w fun e w' => e = .returned (.bool (fewV n m n' m' s xs t ys s' xs' t' ys')) ∧ Ext w w' := by
  obtain ⟨r, hr⟩ : ∃ r, fewV n m n' m' s xs t ys s' xs' t' ys' = r := ⟨_, rfl⟩
  have HR := Lib.hid hr
  rw [hr]
  clear hr
  go_enter Tryz.func54, Tryz.ntmps54
  go_upto_region 1 with (fail)
  obtain ⟨W, hW, ext, bx, hz⟩ := box1 w 28 #[.bool s, .slice A n c, .bool t, .slice B m d, .bool s', .slice A' n' c', .bool t', .slice B' m' d']
  rw [← hW]
  clear hW hz
  have k0 := bx.cell 0 (.bool s) rfl
  have k1 := bx.cell 1 (.slice A n c) rfl
  have k2 := bx.cell 2 (.bool t) rfl
  have k3 := bx.cell 3 (.slice B m d) rfl
  have k4 := bx.cell 4 (.bool s') rfl
  have k5 := bx.cell 5 (.slice A' n' c') rfl
  have k6 := bx.cell 6 (.bool t') rfl
  have k7 := bx.cell 7 (.slice B' m' d') rfl
  cases hv : few10 n m s xs t ys with
  | false =>
    have HV := Lib.hid hv
    clear hv
    go_wp2_with fail
    refine (q_Few10 (h.ext ext) (k.ext ext)).mono ?_
    rintro e V ⟨rfl, hxc⟩
    rw [HV.out]
    go_wp2_with fail
    go_ret
    refine ⟨?_, ext.trans hxc⟩
    rw [← HR.out, fewV, HV.out]; rfl
  | true =>
    have hb1 := few10_le hv
    have HV := Lib.hid hv
    clear hv
    go_wp2_with fail
    refine (q_Few10 (h.ext ext) (k.ext ext)).mono ?_
    rintro e V ⟨rfl, hxc⟩
    rw [HV.out]
    replace bx := bx.ext hxc
    replace ext := ext.trans hxc
    clear hxc k0 k1 k2 k3 k4 k5 k6 k7
    have k0 := bx.cell 0 (.bool s) rfl
    have k1 := bx.cell 1 (.slice A n c) rfl
    have k2 := bx.cell 2 (.bool t) rfl
    have k3 := bx.cell 3 (.slice B m d) rfl
    have k4 := bx.cell 4 (.bool s') rfl
    have k5 := bx.cell 5 (.slice A' n' c') rfl
    have k6 := bx.cell 6 (.bool t') rfl
    have k7 := bx.cell 7 (.slice B' m' d') rfl
    cases hv' : few10 n' m' s' xs' t' ys' with
    | false =>
      have HV' := Lib.hid hv'
      clear hv'
      have HB := Lib.hid hb1
      clear hb1
      go_wp2_with fail
      refine (q_Few10 (h'.ext ext) (k'.ext ext)).mono ?_
      rintro e V2 ⟨rfl, hxc⟩
      rw [HV'.out]
      go_wp2_with fail
      go_ret
      refine ⟨?_, ext.trans hxc⟩
      rw [← HR.out, fewV, HV.out, HV'.out]; rfl
    | true =>
      have hb2 := few10_le hv'
      have HV' := Lib.hid hv'
      clear hv'
      have HB := Lib.hid (And.intro hb1 hb2)
      clear hb1 hb2
      go_wp2_with fail
      refine (q_Few10 (h'.ext ext) (k'.ext ext)).mono ?_
      rintro e V2 ⟨rfl, hxc⟩
      rw [HV'.out]
      replace bx := bx.ext hxc
      replace ext := ext.trans hxc
      clear hxc k0 k1 k2 k3 k4 k5 k6 k7
      have k0 := bx.cell 0 (.bool s) rfl
      have k1 := bx.cell 1 (.slice A n c) rfl
      have k2 := bx.cell 2 (.bool t) rfl
      have k3 := bx.cell 3 (.slice B m d) rfl
      have k4 := bx.cell 4 (.bool s') rfl
      have k5 := bx.cell 5 (.slice A' n' c') rfl
      have k6 := bx.cell 6 (.bool t') rfl
      have k7 := bx.cell 7 (.slice B' m' d') rfl
      go_wp2_with fail
      refine (q_ValidV (h.ext ext) (k.ext ext) (h'.ext ext) (k'.ext ext) (by have := HB.out; omega) (by have := HB.out; omega) (by have := HB.out; omega) (by have := HB.out; omega)).mono ?_
      rintro e V3 ⟨rfl, hxc⟩
      go_wp2_with fail
      go_ret
      refine ⟨?_, ext.trans hxc⟩
      rw [← HR.out, fewV, HV.out, HV'.out]; rfl
end
end Go.Proofs.YtoabhnofppledaaGreatDoor
namespace Go.Proofs.YtoabhnofppledaaGreatDoor
open Go.RowKit
attribute [local go_sem ↓] Go.wp_at_zero Go.wp_at_succ
set_option maxHeartbeats 8000000 in
theorem fewI1 {w : World} {g : Nat} {sa1 ta1 sa2 ta2 : Bool} {Aa1 Ba1 Aa2 Ba2 : Option Addr} {na1 ca1 ma1 da1 na2 ca2 ma2 da2 : Nat} {xa1 ya1 xa2 ya2 : List Nat} (hbox : Box w g 28 #[.bool sa1, .slice Aa1 na1 ca1, .bool ta1, .slice Ba1 ma1 da1, .bool sa2, .slice Aa2 na2 ca2, .bool ta2, .slice Ba2 ma2 da2]) (ha : RawV w Aa1 na1 ca1 xa1 Ba1 ma1 da1 ya1 Aa2 na2 ca2 xa2 Ba2 ma2 da2 ya2) :
    Calls Tryz.prog 15 #[.slice (some ⟨g, 0, none⟩) 1 1] w fun e w' => e = .returned (.bool (fewV na1 ma1 na2 ma2 sa1 xa1 ta1 ya1 sa2 xa2 ta2 ya2)) ∧ Ext w w' := by
  go_enter Tryz.func15, Tryz.ntmps15
  go_wp2_with fail
  go_loopw [7] (fun i wr => ∃ k : Nat, k ≤ 1 ∧ i = .int .i64 (k : Int) ∧ Ext w wr ∧ ((0 < k → fewV na1 ma1 na2 ma2 sa1 xa1 ta1 ya1 sa2 xa2 ta2 ya2 = true))) (fun i _ => 1 - (intOf i).toNat)
  case atStart => exact ⟨0, by omega, rfl, Ext.refl _, by simp⟩
  case round =>
    obtain ⟨k, hk, rfl, hext, hall⟩ := hrel
    have HA := Lib.hid hall
    clear hall
    have c0 := (hbox.ext hext).cell 0 (.bool sa1) rfl
    have c1 := (hbox.ext hext).cell 1 (.slice Aa1 na1 ca1) rfl
    have c2 := (hbox.ext hext).cell 2 (.bool ta1) rfl
    have c3 := (hbox.ext hext).cell 3 (.slice Ba1 ma1 da1) rfl
    have c4 := (hbox.ext hext).cell 4 (.bool sa2) rfl
    have c5 := (hbox.ext hext).cell 5 (.slice Aa2 na2 ca2) rfl
    have c6 := (hbox.ext hext).cell 6 (.bool ta2) rfl
    have c7 := (hbox.ext hext).cell 7 (.slice Ba2 ma2 da2) rfl
    have hk2 : k = 0 ∨ k = 1 := by omega
    rcases hk2 with rfl | rfl
    · go_wp2_with (fail)
      refine (q_FewV (ha.ext (hext.alloc _)).1 (ha.ext (hext.alloc _)).2.1 (ha.ext (hext.alloc _)).2.2.1 (ha.ext (hext.alloc _)).2.2.2).mono ?_
      rintro e V ⟨rfl, hxv⟩
      replace hext := (hext.alloc _).trans hxv
      cases hf : fewV na1 ma1 na2 ma2 sa1 xa1 ta1 ya1 sa2 xa2 ta2 ya2 with
      | true =>
        have HF := Lib.hid hf
        clear hf
        go_wp2_with fail
        go_roundw
        case rel => exact ⟨1, by omega, rfl, hext, by have := HA.out; simp [HF.out] at this ⊢; try exact this⟩
        case measure => simp [intOf]
      | false =>
        have HF := Lib.hid hf
        clear hf
        go_wp2_with fail
        go_ret
        exact ⟨by have := HA.out; simp [HF.out] at this ⊢, hext⟩
    · go_wp2_with fail
      go_ret
      exact ⟨by have := HA.out; simp at this; simp [this], hext⟩
end Go.Proofs.YtoabhnofppledaaGreatDoor
namespace Go.Proofs.YtoabhnofppledaaGreatDoor
open Go.RowKit
attribute [local go_sem ↓] Go.wp_at_zero Go.wp_at_succ
section
variable {n : Nat} {xs : List Nat} {s : Bool}
theorem pow_half {z : Int} {k : Nat} (h : k % 2 = 0) : z ^ (k / 2) * z ^ (k / 2) = z ^ k := by
  rw [← Int.pow_add]; congr 1; omega
theorem pow_half1 {z : Int} {k : Nat} (h : k % 2 = 1) : z ^ (k / 2) * z ^ (k / 2) * z = z ^ k := by
  rw [← Int.pow_add, ← Int.pow_succ]; congr 1; omega
set_option maxHeartbeats 4000000 in
theorem ref_power (hn : xs.length = n) (hn20 : n ≤ 20) : ∀ (k : Nat), k ≤ 4096 → ∀ (A : Option Addr) (c : Nat) (w : World), Rd w A xs → n ≤ c → c ≤ maxLen →
    Calls Tryz.prog 141 #[.agg #[.bool s, .slice A n c], .int .i64 (k : Int)] w (RetI ((ival s xs) ^ k) (max 2 ((n + 4) * k)) w) := by
  have Hn := Lib.hid hn
  clear hn
  intro k
  induction k using Nat.strongRecOn with
  | ind k ih =>
    intro hk A c w hx hc hcm
    have IH := Lib.hid ih
    clear ih
    by_cases h0 : k = 0
    · subst h0
      go_enter Tryz.func141, Tryz.ntmps141
      go_upto_region 1 with (fail)
      obtain ⟨W, hW, extW, bx, bz, hz⟩ := box2 w 24 24 #[.bool s, .slice A n c] #[.bool false, .slice none 0 0]
      rw [← hW]
      clear hW
      go_wp2_with fail
      refine (ref_FromInt 1 (by omega) (by omega)).mono ?_
      rintro e w1 ⟨b1, A1, c1, ps, rfl, hr1, hc1, hm1, hi1, hl1, hx1⟩
      have bz1 := bz.ext hx1
      have z0 := bz1.cell 0 (.bool false) rfl
      have z1 := bz1.cell 1 (.slice none 0 0) rfl
      have f0 := bz1.frozen 0
      have f1 := bz1.frozen 1
      go_wp2_with fail
      obtain ⟨r1, r2, r3, r4⟩ := fin_pair (b := b1) (n := ps.length) (c := c1) (extW.trans hx1) (by omega) bz1 hr1
      exact bodyPost_ret (v := .agg #[.bool b1, .slice A1 ps.length c1]) (by simp [results, Tryz.results141, go_sem, r3, r4]) rfl ⟨b1, A1, c1, ps, rfl, r1, hc1, hm1, by rw [Int.pow_zero]; exact hi1, by omega, r2⟩
    · have Hh := Lib.hid (show (k : Int) / 2 = ((k / 2 : Nat) : Int) by omega)
      have hk2 : (n + 4) * (k / 2) + (n + 4) * (k / 2) ≤ (n + 4) * k := by rw [← Nat.mul_add]; exact Nat.mul_le_mul_left _ (by omega)
      have hk3 : k % 2 = 1 → (n + 4) * (k / 2) + (n + 4) * (k / 2) + (n + 4) ≤ (n + 4) * k := fun h => by rw [← Nat.mul_add, ← Nat.mul_succ]; exact Nat.mul_le_mul_left _ (by omega)
      have hk4 : (n + 4) * k ≤ 98304 := Nat.mul_le_mul (show n + 4 ≤ 24 by omega) hk
      have hk5 : k / 2 = 0 → k = 1 := fun h => by omega
      have hk6 : 1 ≤ k / 2 → n + 4 ≤ (n + 4) * (k / 2) := fun h => Nat.le_mul_of_pos_right _ h
      have hk7 : n + 4 ≤ (n + 4) * k := Nat.le_mul_of_pos_right _ (by omega)
      have hk8 : k / 2 = 0 → (n + 4) * (k / 2) = 0 := fun h => by rw [h]; rfl
      have H2 := Lib.hid hk2
      have H3 := Lib.hid hk3
      have H4 := Lib.hid hk4
      have H5 := Lib.hid hk5
      have H6 := Lib.hid hk6
      have H7 := Lib.hid hk7
      have H8 := Lib.hid hk8
      clear hk2 hk3 hk4 hk5 hk6 hk7 hk8
      have t0 : ((k : Int) == 0) = false := by rw [beq_eq_false_iff_ne]; omega
      go_enter Tryz.func141, Tryz.ntmps141
      go_upto_region 1 with (fail)
      obtain ⟨W, hW, extW, bx, bz, hz⟩ := box2 w 24 24 #[.bool s, .slice A n c] #[.bool false, .slice none 0 0]
      rw [← hW]
      clear hW
      have x0 := bx.cell 0 (.bool s) rfl
      have x1 := bx.cell 1 (.slice A n c) rfl
      go_wp2_with fail
      rw [Hh.out]
      refine (IH.out (k / 2) (by omega) (by omega) A c _ (hx.ext extW) hc hcm).mono ?_
      rintro e w1 ⟨b1, A1, c1, ps, rfl, hr1, hc1, hm1, hi1, hl1, hx1⟩
      clear x0 x1
      go_upto_region 4 with (fail)
      refine at_world (fun V => Ext W V ∧ Box V w1.heap.size 24 #[.bool b1, .slice A1 ps.length c1] ∧ Rd V A1 ps ∧ W.heap.size ≤ w1.heap.size) ⟨hx1.alloc _, Box.new w1 _ _, hr1.ext ((Ext.refl w1).alloc _), hx1.size⟩ ?_
      generalize w1.heap.size = g5
      clear hr1 hx1
      rintro V ⟨EV, b5, hr1, hg5⟩
      have x0 := b5.cell 0 (.bool b1) rfl
      have x1 := b5.cell 1 (.slice A1 ps.length c1) rfl
      have hps : ps.length ≤ 98304 := by have := H2.out; have := H4.out; omega
      go_wp2_with fail
      refine (ref_Mul rfl rfl hr1 hr1 hc1 hm1 hc1 hm1 (by omega) (by omega)).mono ?_
      rintro e w2 ⟨b2, A2, c2, qs, rfl, hr2, hc2, hm2, hi2, hl2, hx2⟩
      rw [hi1.eq] at hi2
      clear x0 x1
      have hq2 : qs.length ≤ max 4 ((n + 4) * k) := by
        have h1 := H2.out
        have h2 := H8.out
        have h3 := H6.out
        by_cases hz0 : k / 2 = 0
        · have := h2 hz0; omega
        · have := h3 (by omega); omega
      have hq3 : k % 2 = 1 → qs.length + n ≤ (n + 4) * k := fun h => by
        have h1 := H3.out h
        have h2 := H8.out
        have h3 := H6.out
        by_cases hz0 : k / 2 = 0
        · have := h2 hz0; omega
        · have := h3 (by omega); omega
      have HQ3 := Lib.hid hq3
      clear hq3
      go_upto_region 5 with (fail)
      refine at_world (fun U => Ext W U ∧ Box U w2.heap.size 24 #[.bool b2, .slice A2 qs.length c2] ∧ Rd U A2 qs ∧ W.heap.size ≤ w2.heap.size) ⟨(EV.trans hx2).alloc _, Box.new w2 _ _, hr2.ext ((Ext.refl w2).alloc _), (EV.trans hx2).size⟩ ?_
      generalize w2.heap.size = g6
      clear hr2 hx2 b5 hr1 EV
      rintro U ⟨EU, b6, hr2, hg6⟩
      have bx1 := bx.ext EU
      have bz1 := bz.ext EU
      have q0 := b6.cell 0 (.bool b2) rfl
      have q1 := b6.cell 1 (.slice A2 qs.length c2) rfl
      by_cases hodd : k % 2 = 1
      · have t1 : (((k : Int) % 2) == 1) = true := by rw [beq_iff_eq]; omega
        have hi3 := pow_half1 (z := ival s xs) hodd
        have HI3 := Lib.hid hi3
        have Ho := Lib.hid hodd
        clear hi3 hodd
        have x0 := bx1.cell 0 (.bool s) rfl
        have x1 := bx1.cell 1 (.slice A n c) rfl
        go_wp2_with fail
        refine (ref_Mul rfl Hn.out hr2 ((hx.ext extW).ext EU) hc2 hm2 hc hcm (by have := H4.out; omega) (by omega)).mono ?_
        rintro e w3 ⟨b3, A3, c3, rs, rfl, hr3, hc3, hm3, hi4, hl3, hx3⟩
        rw [hi2.eq, HI3.out] at hi4
        have b63 := b6.ext hx3
        have bz3 := bz1.ext hx3
        clear x0 x1 q0 q1
        have q0 := b63.cell 0 (.bool b2) rfl
        have q1 := b63.cell 1 (.slice A2 qs.length c2) rfl
        have f0 := b63.frozen 0
        have f1 := b63.frozen 1
        have hp := put_box (b := b3) (A := A3) (n := rs.length) (c := c3) b63
        have hrp := hp.2.2.1 A3 rs hr3
        have hzp := hp.2.1 _ _ _ (show w.heap.size + 1 ≠ g6 by omega) bz3
        have hep := hp.2.2.2 _ (EU.trans hx3) hg6
        have hbp := hp.1
        clear hp
        go_upto_region 7 with (fail)
        refine at_world (fun Y => Ext W Y ∧ Box Y g6 24 #[.bool b3, .slice A3 rs.length c3] ∧ Rd Y A3 rs ∧ Box Y (w.heap.size + 1) 24 #[.bool false, .slice none 0 0]) ⟨hep, hbp, hrp, hzp⟩ ?_
        clear hep hbp hrp hzp q0 q1 f0 f1 b6 b63 bz3 bz1
        rintro Y ⟨EY, b6, hr3, bz1⟩
        have q0 := b6.cell 0 (.bool b3) rfl
        have q1 := b6.cell 1 (.slice A3 rs.length c3) rfl
        have z0 := bz1.cell 0 (.bool false) rfl
        have z1 := bz1.cell 1 (.slice none 0 0) rfl
        have f0 := bz1.frozen 0
        have f1 := bz1.frozen 1
        go_wp2_with fail
        obtain ⟨r1, r2, r3, r4⟩ := fin_pair (b := b3) (n := rs.length) (c := c3) (extW.trans EY) (by omega) bz1 hr3
        exact bodyPost_ret (v := .agg #[.bool b3, .slice A3 rs.length c3]) (by simp [results, Tryz.results141, go_sem, r3, r4]) rfl ⟨b3, A3, c3, rs, rfl, r1, hc3, hm3, hi4, by have := HQ3.out Ho.out; have := Hn.out; omega, r2⟩
      · have t1 : (((k : Int) % 2) == 1) = false := by rw [beq_eq_false_iff_ne]; omega
        have hi3 := pow_half (z := ival s xs) (show k % 2 = 0 by omega)
        rw [hi3] at hi2
        have Ho := Lib.hid (show 1 ≤ k / 2 by omega)
        clear hi3 hodd
        have z0 := bz1.cell 0 (.bool false) rfl
        have z1 := bz1.cell 1 (.slice none 0 0) rfl
        have f0 := bz1.frozen 0
        have f1 := bz1.frozen 1
        go_wp2_with fail
        obtain ⟨r1, r2, r3, r4⟩ := fin_pair (b := b2) (n := qs.length) (c := c2) (extW.trans EU) (by omega) bz1 hr2
        exact bodyPost_ret (v := .agg #[.bool b2, .slice A2 qs.length c2]) (by simp [results, Tryz.results141, go_sem, r3, r4]) rfl ⟨b2, A2, c2, qs, rfl, r1, hc2, hm2, hi2, by have := H7.out; omega, r2⟩
set_option maxHeartbeats 1000000 in
theorem ref_Pow {A : Option Addr} {c k : Nat} {w : World} (hn : xs.length = n) (hx : Rd w A xs) (hc : n ≤ c) (hcm : c ≤ maxLen) (hk : k ≤ 4096) (hn20 : n ≤ 20) :
    Calls Tryz.prog 112 #[.agg #[.bool s, .slice A n c], .int .i64 (k : Int)] w (RetIE ((ival s xs) ^ k) (max 2 ((n + 4) * k)) 0 w) := by
  have HP := Lib.hid (fun (A : Option Addr) (c : Nat) (w : World) => ref_power (s := s) hn hn20 k hk A c w)
  clear hn
  have t0 : decide ((4096 : Int) < (k : Int)) = false := decide_eq_false (by omega)
  go_enter Tryz.func112, Tryz.ntmps112
  go_upto_region 1 with (fail)
  obtain ⟨W, hW, extW, bx, bz, hz⟩ := box2 w 24 24 #[.bool s, .slice A n c] #[.bool false, .slice none 0 0]
  rw [← hW]
  clear hW
  have x0 := bx.cell 0 (.bool s) rfl
  have x1 := bx.cell 1 (.slice A n c) rfl
  go_wp2_with fail
  refine (HP.out A c _ (hx.ext extW) hc hcm).mono ?_
  rintro e w3 ⟨b3, A3, c3, rs, rfl, hr3, hc3, hm3, hi3, hl3, ext3⟩
  have bz3 := bz.ext ext3
  have z0 := bz3.cell 0 (.bool false) rfl
  have z1 := bz3.cell 1 (.slice none 0 0) rfl
  have f0 := bz3.frozen 0
  have f1 := bz3.frozen 1
  go_wp2_with fail
  obtain ⟨r1, r2, r3, r4⟩ := fin_pair (b := b3) (n := rs.length) (c := c3) (extW.trans ext3) (by omega) bz3 hr3
  exact bodyPost_ret (v := .tuple #[.agg #[.bool b3, .slice A3 rs.length c3], .int .i64 0]) (by simp [results, Tryz.results112, go_sem, r3, r4]) rfl ⟨b3, A3, c3, rs, rfl, r1, hc3, hm3, hi3, hl3, r2⟩
end
end Go.Proofs.YtoabhnofppledaaGreatDoor
namespace Go.Proofs.YtoabhnofppledaaGreatDoor
open Go.RowKit
attribute [local go_sem ↓] Go.wp_at_zero Go.wp_at_succ
theorem mkQ_one (z : Int) : mkQ z 1 = (z : Rat) := by
  unfold mkQ
  rw [if_neg (by omega)]
  exact Rat.mkRat_one z
theorem pow_sq (k : Nat) : ((2 ^ k : Int) : Rat) * ((2 ^ k : Int) : Rat) = ((4 ^ k : Int) : Rat) := by
  rw [← Rat.intCast_mul, ← Int.mul_pow]
  rfl
theorem NR.of_int {w : World} {z : Int} {L : Nat} {s : Bool} {A : Option Addr} {n c : Nat} {t : Bool} {B : Option Addr} {m d : Nat} (h : NR w (z : Rat) L s A n c t B m d) : NI w z L s A n c := by
  have := h.num
  rwa [Rat.num_intCast] at this
section
variable {w w' : World} {q p lo hi lo' hi' x : Rat} {L M : Nat} {s t s' t' sx tx u v u' v' : Bool} {A B A' B' Ax Bx C D C' D' : Option Addr} {n c m d n' c' m' d' nx cx mx dx i j k l i' j' k' l' : Nat} {qs : List Rat} {z y : Int}
set_option maxHeartbeats 2000000 in
theorem q_unit {w : World} {k : Nat} (hk : k ≤ 200) : Calls Tryz.prog 73 #[.int .i64 (k : Int)] w (RetNR ((2 ^ k : Int) : Rat) 13 w) := by
  have HS := Lib.hid (pow_small (b := 2) (.inl rfl) hk)
  go_enter Tryz.func73, Tryz.ntmps73
  go_upto_region 1 with (fail)
  obtain ⟨W, hW, extW, bz, hz⟩ := box1 w 26 #[Value.bool false, Value.slice none 0 0, Value.bool false, Value.slice none 0 0]
  rw [← hW]
  clear hW
  go_wp2_with fail
  refine (q_FromInt 2 (by omega) (by omega)).mono ?_
  rintro e wa ⟨s1, A1, n1, c1, rfl, h1, hx1⟩
  replace h1 := h1.tight' (M := 1) (by omega)
  go_wp2_with fail
  obtain ⟨xs, hn, hx, hc, hcm, hi, hl⟩ := h1.out
  refine (ref_Pow hn hx hc hcm (show k ≤ 4096 by omega) (by omega)).mono ?_
  rintro e wb ⟨s2, A2, c2, ys, rfl, g1, g2, g3, g4, g5, hx2⟩
  rw [hi.eq] at g4
  obtain ⟨n2, hn2⟩ : ∃ n, ys.length = n := ⟨_, rfl⟩
  have h2 : NI wb (2 ^ k) 13 s2 A2 n2 c2 := (NI.mk (L := max 2 ((n1 + 4) * k)) ⟨ys, hn2, g1, by omega, g3, g4, by omega⟩).tight' HS.out
  rw [hn2]
  have hx3 := hx1.trans hx2
  clear hn hx hc hcm hi hl g1 g2 g3 g4 g5 hn2 h1 hx1 hx2
  go_upto_region 2 with (fail)
  refine at_world (fun V => Ext W V ∧ Box V wb.heap.size 24 #[.bool s2, .slice A2 n2 c2] ∧ NI V (2 ^ k) 13 s2 A2 n2 c2) ⟨hx3.alloc _, Box.new wb _ _, h2.ext ((Ext.refl wb).alloc _)⟩ ?_
  generalize wb.heap.size = g8
  clear hx3 h2
  rintro V ⟨EV, b8, h2⟩
  replace bz := bz.ext EV
  replace extW := extW.trans EV
  clear EV
  refine wpL.start 3 (by kernel_rfl) (fun _ _ _ _ _ => ⟨fun h => h, fun h => h⟩) (fun hQ ES => ?_)
  refine wpL.take (i := 0) (d := some 11) (v := ?v0_106) rfl rfl (by kernel_rfl) (by kernel_rfl) (by kernel_rfl) (by kernel_rfl) hQ (Or.inl ⟨by rfl, ?y0_106⟩) ES ?r0_106
  case y0_106 =>
    intro w' hSw
    have k00 := (b8.ext hSw).c2
    go_simp
    try with_reducible rfl
  try simp only [Act.put]
  try simp only [List.setIfInBounds_toArray]
  try simp only [List.set_cons_succ]
  try simp only [List.set_cons_zero]
  refine wpL.call (i := 1) rfl (by kernel_rfl) (fun K hK => ?_)
  go_simp
  (go_at_call 78; refine (q_FromInt 1 (by omega) (by omega)).mono ?_; rintro e wa2 ⟨s3, A3, n3, c3, rfl, h3, hx0⟩; have E0_2 := Ext.trans ES hx0)
  refine hK.out _ _ E0_2 ?_
  clear hK K
  try simp only [Act.put]
  try simp only [List.setIfInBounds_toArray]
  try simp only [List.set_cons_succ]
  try simp only [List.set_cons_zero]
  refine wpL.call (i := 2) rfl (by kernel_rfl) (fun K hK => ?_)
  go_simp
  (go_at_call 76; refine (q_Make_nz (h2.ext E0_2) h3 (by omega) (by omega) (by omega)).mono ?_; rintro e wb2 ⟨s1, A1, n1, c1, t1, B1, m1, d1, rfl, g1, hx1⟩; have E1_2 := Ext.trans E0_2 hx1)
  refine hK.out _ _ E1_2 ?_
  clear hK K
  try simp only [Act.put]
  try simp only [List.setIfInBounds_toArray]
  try simp only [List.set_cons_succ]
  try simp only [List.set_cons_zero]
  have z0 := (bz.ext E1_2).cell 0 _ rfl
  have z1 := (bz.ext E1_2).cell 1 _ rfl
  have z2 := (bz.ext E1_2).cell 2 _ rfl
  have z3 := (bz.ext E1_2).cell 3 _ rfl
  have f0 := (bz.ext E1_2).frozen 0
  have f1 := (bz.ext E1_2).frozen 1
  have f2 := (bz.ext E1_2).frozen 2
  have f3 := (bz.ext E1_2).frozen 3
  refine wpL.tail (i := 3) rfl (by kernel_rfl) (by kernel_rfl) (fun K hK => ?_)
  go_simp
  refine hK.out _ _ ?_
  clear hK K
  try simp only [Act.put]
  try simp only [List.setIfInBounds_toArray]
  try simp only [List.set_cons_succ]
  try simp only [List.set_cons_zero]
  refine wpL.done (by kernel_rfl) ?_ _
  clear hQ
  go_wp2_with fail
  rw [mkQ_one] at g1
  obtain ⟨b1, b2, b3, b4⟩ := fin_quad (s := s1) (A := A1) (n := n1) (c := c1) (t := t1) (B := B1) (m := m1) (d := d1) (bz.ext E1_2)
  have r0 := b1.cell 0 (.bool s1) rfl
  have r1 := b1.cell 1 (.slice A1 n1 c1) rfl
  have r2 := b1.cell 2 (.bool t1) rfl
  have r3 := b1.cell 3 (.slice B1 m1 d1) rfl
  unfold set4 at r0 r1 r2 r3
  refine bodyPost_ret (v := .agg #[.bool s1, .slice A1 n1 c1, .bool t1, .slice B1 m1 d1]) (by simp [results, Tryz.results73, go_sem, r0, r1, r2, r3]) rfl ⟨s1, A1, n1, c1, t1, B1, m1, d1, rfl, ⟨?_, ?_⟩, b3 _ (extW.trans E1_2) (by omega)⟩
  · exact (b2 _ _ _ _ _ _ g1.num).le (by omega)
  · exact (b2 _ _ _ _ _ _ g1.den).le (by omega)
end
end Go.Proofs.YtoabhnofppledaaGreatDoor
namespace Go.Proofs.YtoabhnofppledaaGreatDoor
theorem val_set : ∀ {zs : List Nat} {j : Nat} (hj : j < zs.length) (v : Nat), val (zs.set j v) + 4294967296 ^ j * zs[j] = val zs + 4294967296 ^ j * v
  | x :: zs, 0, _, v => by simp [val]; omega
  | x :: zs, j + 1, hj, v => by
    have h := val_set (zs := zs) (j := j) (by simpa using hj) v
    simp only [List.set_cons_succ, val, List.getElem_cons_succ, Nat.pow_succ]
    generalize 4294967296 ^ j = p at *
    have e1 : p * 4294967296 * zs[j]'(by simpa using hj) = 4294967296 * (p * zs[j]'(by simpa using hj)) := by rw [Nat.mul_comm p, Nat.mul_assoc]
    have e2 : p * 4294967296 * v = 4294967296 * (p * v) := by rw [Nat.mul_comm p, Nat.mul_assoc]
    rw [e1, e2]
    omega
theorem pow32j (j b : Nat) : 2 ^ (32 * j + b) = 4294967296 ^ j * 2 ^ b := by
  rw [Nat.pow_add, Nat.pow_mul]
theorem low_bits {zs : List Nat} {j b : Nat} (hw : W32 zs) (hj : j < zs.length) (hb : b < 32) (hd : 2 ^ (32 * j + (b + 1)) ∣ val zs) : 2 ^ (b + 1) ∣ zs[j] := by
  have hs := val_split zs j (by omega)
  rw [val_drop_succ zs j hj] at hs
  rw [pow32j] at hd
  have hT : val (zs.take j) < 4294967296 ^ j := by
    have := val_lt (xs := zs.take j) (fun x hx => hw x (List.mem_of_mem_take hx))
    rwa [List.length_take, Nat.min_eq_left (by omega)] at this
  have hpos : 0 < 4294967296 ^ j := Nat.pow_pos (by decide)
  generalize 4294967296 ^ j = p at *
  generalize val (zs.take j) = T at *
  generalize val (zs.drop (j + 1)) = R at *
  generalize zs[j] = x at *
  generalize hq : 2 ^ (b + 1) = q at *
  have hqB : q ∣ 4294967296 := by
    rw [← hq, show 4294967296 = 2 ^ 32 from rfl]
    exact Nat.pow_dvd_pow 2 (by omega)
  have hpT : p ∣ T := by
    have h1 : p ∣ T + p * (x + 4294967296 * R) := by
      rw [← hs]
      exact Nat.dvd_trans (Nat.dvd_mul_right p q) hd
    exact (Nat.dvd_add_iff_left (Nat.dvd_mul_right p _)).2 h1
  have hT0 : T = 0 := Nat.eq_zero_of_dvd_of_lt hpT hT
  rw [hT0, Nat.zero_add] at hs
  rw [hs] at hd
  have h2 := Nat.dvd_of_mul_dvd_mul_left hpos hd
  exact (Nat.dvd_add_iff_left (Nat.dvd_trans hqB (Nat.dvd_mul_right _ _))).2 h2
theorem bit_room {x b : Nat} (hx : x < 4294967296) (hb : b < 32) (hd : 2 ^ (b + 1) ∣ x) : x + 2 ^ b < 4294967296 ∧ 2 ^ b < 4294967296 := by
  obtain ⟨h, rfl⟩ := hd
  have e : 4294967296 = 2 ^ (b + 1) * 2 ^ (31 - b) := by rw [← Nat.pow_add, show b + 1 + (31 - b) = 32 by omega]
  have hlt : h < 2 ^ (31 - b) := by
    rw [e] at hx
    exact Nat.lt_of_mul_lt_mul_left hx
  have h1 : 2 ^ (b + 1) * (h + 1) ≤ 2 ^ (b + 1) * 2 ^ (31 - b) := Nat.mul_le_mul_left _ hlt
  rw [← e, Nat.mul_add, Nat.mul_one] at h1
  have hp : 0 < 2 ^ b := Nat.pow_pos (by decide)
  have e2 : 2 ^ (b + 1) = 2 * 2 ^ b := by rw [Nat.pow_succ, Nat.mul_comm]
  generalize 2 ^ (b + 1) * h = y at *
  omega
theorem or_bit {x b : Nat} (hd : 2 ^ (b + 1) ∣ x) : x ||| 2 ^ b = x + 2 ^ b := by
  obtain ⟨h, rfl⟩ := hd
  exact (Nat.two_pow_add_eq_or_of_lt (i := b + 1) (Nat.pow_lt_pow_right (by decide) (by omega)) h).symm
theorem and_bit {x b : Nat} (hx : x < 4294967296) (hb : b < 32) (hd : 2 ^ (b + 1) ∣ x) : (x + 2 ^ b) &&& (4294967295 - 2 ^ b) = x := by
  rw [← or_bit hd]
  obtain ⟨h, rfl⟩ := hd
  have hbl : 2 ^ b < 2 ^ 32 := Nat.pow_lt_pow_right (by decide) hb
  have e : 4294967295 - 2 ^ b = 2 ^ 32 - (2 ^ b + 1) := by omega
  rw [e]
  apply Nat.eq_of_testBit_eq
  intro i
  rw [Nat.testBit_and, Nat.testBit_or, Nat.testBit_two_pow_sub_succ hbl, Nat.testBit_two_pow]
  by_cases hi : b = i
  · subst hi
    have : (2 ^ (b + 1) * h).testBit b = false := by
      rw [Nat.testBit_two_pow_mul, decide_eq_false (by omega)]
      rfl
    simp [this]
  · by_cases h32 : i < 32
    · simp [hi, h32]
    · have : (2 ^ (b + 1) * h).testBit i = false := Nat.testBit_lt_two_pow (Nat.lt_of_lt_of_le hx (by
        rw [show 4294967296 = 2 ^ 32 from rfl]
        exact Nat.pow_le_pow_right (by decide) (by omega)))
      simp [hi, this]
/-- the root so far: its bits from k on. -/
structure RtInv (a K k : Nat) (zs : List Nat) : Prop where
  w : W32 zs
  len : zs.length = K
  dvd : 2 ^ k ∣ val zs
  lo : val zs * val zs ≤ a
  hi : a < (val zs + 2 ^ k) * (val zs + 2 ^ k)
theorem RtInv.start {a n K : Nat} (h : a < 2 ^ (n + n)) : RtInv a K n (List.replicate K 0) := by
  refine ⟨W32.replicate _, by simp, by rw [val_replicate]; exact Nat.dvd_zero _, by rw [val_replicate]; omega, ?_⟩
  rw [val_replicate, Nat.zero_add, ← Nat.pow_add]
  exact h
/-- bit i is tried. -/
theorem RtInv.try_ {a K i j b : Nat} {zs : List Nat} (h : RtInv a K (i + 1) zs) (hi : i = 32 * j + b) (hb : b < 32) (hj : j < zs.length) :
    zs[j] + 2 ^ b < 4294967296 ∧ (zs[j] ||| 2 ^ b) = zs[j] + 2 ^ b ∧ ((zs[j] + 2 ^ b) &&& (4294967295 - 2 ^ b)) = zs[j] ∧ val (zs.set j (zs[j] + 2 ^ b)) = val zs + 2 ^ i ∧ W32 (zs.set j (zs[j] + 2 ^ b)) ∧
    (a < (val zs + 2 ^ i) * (val zs + 2 ^ i) → RtInv a K i zs) ∧ ((val zs + 2 ^ i) * (val zs + 2 ^ i) ≤ a → RtInv a K i (zs.set j (zs[j] + 2 ^ b))) := by
  have hd := low_bits h.w hj hb (by have := h.dvd; rw [hi, Nat.add_assoc] at this; exact this)
  have hx := h.w.get hj
  obtain ⟨r1, r2⟩ := bit_room hx hb hd
  have hv : val (zs.set j (zs[j] + 2 ^ b)) = val zs + 2 ^ i := by
    have := val_set hj (zs[j] + 2 ^ b)
    rw [Nat.mul_add, ← pow32j, ← hi] at this
    omega
  have hw : W32 (zs.set j (zs[j] + 2 ^ b)) := fun x hx => by
    rcases List.mem_or_eq_of_mem_set hx with h' | rfl
    · exact h.w x h'
    · exact r1
  have e2 : 2 ^ (i + 1) = 2 ^ i + 2 ^ i := by rw [Nat.pow_succ]; omega
  have hdi : 2 ^ i ∣ val zs := Nat.dvd_trans (by rw [e2]; exact ⟨2, by omega⟩) h.dvd
  refine ⟨r1, or_bit hd, and_bit hx hb hd, hv, hw, fun hlt => ⟨h.w, h.len, hdi, h.lo, hlt⟩, fun hle => ⟨hw, by rw [List.length_set]; exact h.len, ?_, by rw [hv]; exact hle, ?_⟩⟩
  · rw [hv]
    exact Nat.dvd_add hdi (Nat.dvd_refl _)
  · rw [hv, Nat.add_assoc, ← e2]
    exact h.hi
theorem RtInv.done {a K : Nat} {zs : List Nat} (h : RtInv a K 0 zs) : val zs * val zs ≤ a ∧ a < (val zs + 1) * (val zs + 1) := ⟨h.lo, h.hi⟩
end Go.Proofs.YtoabhnofppledaaGreatDoor
