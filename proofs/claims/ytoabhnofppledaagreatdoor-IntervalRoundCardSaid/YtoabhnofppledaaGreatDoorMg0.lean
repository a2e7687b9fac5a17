/- Walks and laws, a part. -/
import Derived.Test.YtoabhnofppledaaGreatDoorM0
import Derived.Test.YtoabhnofppledaaGreatDoorM1
import Derived.Test.YtoabhnofppledaaGreatDoorM2
import Derived.Test.YtoabhnofppledaaGreatDoorM3
import Derived.Test.YtoabhnofppledaaGreatDoorM4
import Derived.Test.YtoabhnofppledaaGreatDoorM5
import Derived.Test.YtoabhnofppledaaGreatDoorM6
import Derived.Test.YtoabhnofppledaaGreatDoorM7
import Derived.Test.YtoabhnofppledaaGreatDoorM8
import Derived.Test.YtoabhnofppledaaGreatDoorM9
import Derived.Deep.RegionHeld
import Derived.Laws.BytesArg
namespace Go.Proofs.YtoabhnofppledaaGreatDoor
open Go.RowKit
section
variable {P : Program} {ops : Array Oper} {Q : Exit → Act → World → Prop} {md : Region.Mode} {S : World → Prop} {W0 : World}
end
/-- what a store of an integer (a sign and a slice of words) into a box does. -/
theorem put_box {w : World} {g p q n c : Nat} {t : TypeId} {x b : Bool} {y A : Option Addr} (hb : Box w g t #[.bool x, .slice y p q]) :
    Box ((w.setCell ⟨g, 0, none⟩ (.bool b)).setCell ⟨g, 1, none⟩ (.slice A n c)) g t #[.bool b, .slice A n c] ∧
    (∀ g' t' cs', g' ≠ g → Box w g' t' cs' → Box ((w.setCell ⟨g, 0, none⟩ (.bool b)).setCell ⟨g, 1, none⟩ (.slice A n c)) g' t' cs') ∧
    (∀ A' xs, Rd w A' xs → Rd ((w.setCell ⟨g, 0, none⟩ (.bool b)).setCell ⟨g, 1, none⟩ (.slice A n c)) A' xs) ∧
    ∀ W0, Ext W0 w → W0.heap.size ≤ g → Ext W0 ((w.setCell ⟨g, 0, none⟩ (.bool b)).setCell ⟨g, 1, none⟩ (.slice A n c)) :=
  ⟨(hb.setA _).setB _, fun _ _ _ hne h => (h.far (p := ⟨g, 0, none⟩) hne _).far (p := ⟨g, 1, none⟩) hne _, fun _ _ h => (h.setBox hb NoWord.two 0 _).setBox (hb.setA _) NoWord.two 1 _, fun _ e hg => (e.setCell hg _).setCell hg _⟩
end Go.Proofs.YtoabhnofppledaaGreatDoor
namespace Go.Proofs.YtoabhnofppledaaGreatDoor
theorem mul_lt_in {a b d : Int} (hd : 0 < d) (h : a < b) : a * d < b * d := Int.mul_lt_mul_of_pos_right h hd
theorem dm_natAbs {a b z r : Int} (hb : 0 < b) (h : IsDM a b z r) : z.natAbs ≤ a.natAbs := by
  obtain ⟨h1, h2⟩ := h
  have h3 : (z + 1) * b = z * b + b := by rw [Int.add_mul, Int.one_mul]
  by_cases hz : 0 ≤ z
  · have := Int.mul_le_mul_of_nonneg_left (show (1 : Int) ≤ b by omega) hz
    omega
  · have := Int.mul_le_mul_of_nonpos_left (show z + 1 ≤ 0 by omega) (show (1 : Int) ≤ b by omega)
    omega
theorem cross {q p : Rat} {S : Int} (hp : p = q * (S : Rat)) : p.num * (q.den : Int) = q.num * S * (p.den : Int) := by
  have h1 : q * (S : Rat) = mkRat (q.num * S) q.den := by
    rw [Rat.mul_def, Rat.normalize_eq_mkRat]
    simp
  rw [h1] at hp
  have h2 : mkRat p.num p.den = mkRat (q.num * S) q.den := by rw [Rat.mkRat_self]; exact hp
  exact (Rat.mkRat_eq_iff p.den_nz q.den_nz).1 h2
theorem IsFl.of_mul {q p : Rat} {S z r : Int} (hp : p = q * (S : Rat)) (h : IsDM p.num (p.den : Int) z r) : IsFl q S z := by
  have hq := denI q
  have hd := denI p
  have hc := cross hp
  obtain ⟨h1, h2⟩ := h
  have e : (z + 1) * (p.den : Int) = z * (p.den : Int) + p.den := by rw [Int.add_mul, Int.one_mul]
  have a : z * (p.den : Int) ≤ p.num := by omega
  have b : p.num < (z + 1) * (p.den : Int) := by omega
  have a' := mul_le_in hq a
  have b' := mul_lt_in hq b
  rw [hc] at a' b'
  exact ⟨mul_le_out hd (by rw [Int.mul_right_comm]; exact a'), mul_lt_out hd (by rw [Int.mul_right_comm (z + 1)]; exact b')⟩
end Go.Proofs.YtoabhnofppledaaGreatDoor
namespace Go.Proofs.YtoabhnofppledaaGreatDoor
open Go.RowKit
attribute [local go_sem ↓] Go.wp_at_zero Go.wp_at_succ
section
variable {w w' : World} {z y : Int} {q p : Rat} {L M : Nat} {s t s' t' : Bool} {A B A' B' : Option Addr} {n c m d n' c' m' d' : Nat}
set_option maxHeartbeats 1000000 in
theorem q_NegR (h : NR w q L s A n c t B m d) (hL : L ≤ 1000) : Calls Tryz.prog 47 #[.agg #[.bool s, .slice A n c, .bool t, .slice B m d]] w (RetNR (-q) L w) := by
  go_enter Tryz.func47, Tryz.ntmps47
  go_upto_region 1 with (fail)
  obtain ⟨W, hW, extW, bx, bz, hz⟩ := box2 w 26 26 #[.bool s, .slice A n c, .bool t, .slice B m d] #[Value.bool false, Value.slice none 0 0, Value.bool false, Value.slice none 0 0]
  rw [← hW]
  clear hW
  refine wpL.start 6 (by kernel_rfl) (fun _ _ _ _ _ => ⟨fun h => h, fun h => h⟩) (fun hQ ES => ?_)
  refine wpL.take (i := 0) (d := some 3) (v := ?v0_29) rfl rfl (by kernel_rfl) (by kernel_rfl) (by kernel_rfl) (by kernel_rfl) hQ (Or.inl ⟨by rfl, ?y0_29⟩) ES ?r0_29
  case y0_29 =>
    intro w' hSw
    have k00 := (bx.ext hSw).c4
    go_simp
    try with_reducible rfl
  try simp only [Act.put]
  try simp only [List.setIfInBounds_toArray]
  try simp only [List.set_cons_succ]
  try simp only [List.set_cons_zero]
  refine wpL.take (i := 3) (d := some 6) (v := ?v3_30) rfl rfl (by kernel_rfl) (by kernel_rfl) (by kernel_rfl) (by kernel_rfl) hQ (Or.inl ⟨by rfl, ?y3_30⟩) ES ?r3_30
  case y3_30 =>
    intro w' hSw
    have k00 := (bx.ext hSw).c4
    go_simp
    try with_reducible rfl
  try simp only [Act.put]
  try simp only [List.setIfInBounds_toArray]
  try simp only [List.set_cons_succ]
  try simp only [List.set_cons_zero]
  refine wpL.take (i := 1) (d := some 4) (v := ?v1_31) rfl rfl (by kernel_rfl) (by kernel_rfl) (by kernel_rfl) (by kernel_rfl) hQ (Or.inl ⟨by rfl, ?y1_31⟩) ES ?r1_31
  case y1_31 =>
    intro w' hSw
    have k00 := (bx.ext hSw).c4
    go_simp
    try with_reducible rfl
  try simp only [Act.put]
  try simp only [List.setIfInBounds_toArray]
  try simp only [List.set_cons_succ]
  try simp only [List.set_cons_zero]
  refine wpL.take (i := 4) (d := some 7) (v := ?v4_32) rfl rfl (by kernel_rfl) (by kernel_rfl) (by kernel_rfl) (by kernel_rfl) hQ (Or.inl ⟨by rfl, ?y4_32⟩) ES ?r4_32
  case y4_32 =>
    intro w' hSw
    have k00 := (bx.ext hSw).c4
    go_simp
    try with_reducible rfl
  try simp only [Act.put]
  try simp only [List.setIfInBounds_toArray]
  try simp only [List.set_cons_succ]
  try simp only [List.set_cons_zero]
  refine wpL.call (i := 2) rfl (by kernel_rfl) (fun K hK => ?_)
  go_simp
  (go_at_call 87; refine (q_Neg (h.num.ext (extW.trans ES)) (by omega)).mono ?_; rintro e wa ⟨s1, A1, n1, c1, rfl, h1, hx0⟩; have E0_1 := Ext.trans ES hx0)
  refine hK.out _ _ E0_1 ?_
  clear hK K
  try simp only [Act.put]
  try simp only [List.setIfInBounds_toArray]
  try simp only [List.set_cons_succ]
  try simp only [List.set_cons_zero]
  refine wpL.take (i := 5) (d := some 8) (v := ?v5_33) rfl rfl (by kernel_rfl) (by kernel_rfl) (by kernel_rfl) (by kernel_rfl) hQ (Or.inl ⟨by rfl, ?y5_33⟩) E0_1 ?r5_33
  case y5_33 =>
    intro w' hSw
    have k00 := (bx.ext hSw).c4
    go_simp
    try with_reducible rfl
  try simp only [Act.put]
  try simp only [List.setIfInBounds_toArray]
  try simp only [List.set_cons_succ]
  try simp only [List.set_cons_zero]
  have z0 := (bz.ext E0_1).cell 0 _ rfl
  have z1 := (bz.ext E0_1).cell 1 _ rfl
  have z2 := (bz.ext E0_1).cell 2 _ rfl
  have z3 := (bz.ext E0_1).cell 3 _ rfl
  have f0 := (bz.ext E0_1).frozen 0
  have f1 := (bz.ext E0_1).frozen 1
  have f2 := (bz.ext E0_1).frozen 2
  have f3 := (bz.ext E0_1).frozen 3
  refine wpL.tail (i := 6) rfl (by kernel_rfl) (by kernel_rfl) (fun K hK => ?_)
  go_simp
  refine hK.out _ _ ?_
  clear hK K
  try simp only [Act.put]
  try simp only [List.setIfInBounds_toArray]
  try simp only [List.set_cons_succ]
  try simp only [List.set_cons_zero]
  refine wpL.done (by kernel_rfl) ?_ _
  clear hQ
  go_wp2_with fail
  obtain ⟨b1, b2, b3, b4⟩ := fin_quad (s := s1) (A := A1) (n := n1) (c := c1) (t := t) (B := B) (m := m) (d := d) (bz.ext E0_1)
  have r0 := b1.cell 0 (.bool s1) rfl
  have r1 := b1.cell 1 (.slice A1 n1 c1) rfl
  have r2 := b1.cell 2 (.bool t) rfl
  have r3 := b1.cell 3 (.slice B m d) rfl
  unfold set4 at r0 r1 r2 r3
  refine bodyPost_ret (v := .agg #[.bool s1, .slice A1 n1 c1, .bool t, .slice B m d]) (by simp [results, Tryz.results47, go_sem, r0, r1, r2, r3]) rfl ⟨s1, A1, n1, c1, t, B, m, d, rfl, ⟨?_, ?_⟩, b3 _ (extW.trans E0_1) (by omega)⟩
  · exact b2 _ _ _ _ _ _ h1
  · exact b2 _ _ _ _ _ _ (h.den.ext (extW.trans E0_1))
end
end Go.Proofs.YtoabhnofppledaaGreatDoor
namespace Go.Proofs.YtoabhnofppledaaGreatDoor
open Go.RowKit
attribute [local go_sem ↓] Go.wp_at_zero Go.wp_at_succ
section
variable {w w' : World} {z y : Int} {q p : Rat} {L M : Nat} {s t s' t' : Bool} {A B A' B' : Option Addr} {n c m d n' c' m' d' : Nat}
theorem rat_mul_one {q p : Rat} (h1 : (q.den : Int) = 1) (h2 : (p.den : Int) = 1) : (q * p).num = q.num * p.num ∧ ((q * p).den : Int) = (q.den : Int) := by
  have e1 : q.den = 1 := by omega
  have e2 : p.den = 1 := by omega
  obtain ⟨a, b⟩ := rat_mul q p (g := 1) (h := 1) (by rw [e2]; simp) (by rw [e1]; simp)
  rw [a, b, e1, e2]
  simp
set_option maxHeartbeats 16000000 in
set_option maxRecDepth 100000 in
theorem q_MulR (h : NR w q L s A n c t B m d) (k : NR w p M s' A' n' c' t' B' m' d') (hL : L ≤ 1000) (hM : M ≤ 1000) : Calls Tryz.prog 44 #[.agg #[.bool s, .slice A n c, .bool t, .slice B m d], .agg #[.bool s', .slice A' n' c', .bool t', .slice B' m' d']] w (RetNR (q * p) (L + M) w) := by
  have hL1 := h.pos
  have hM1 := k.pos
  go_enter Tryz.func44, Tryz.ntmps44
  go_upto_region 1 with (fail)
  obtain ⟨W, hW, extW, bx, by_, bz, hz⟩ := box3 w 26 26 26 #[.bool s, .slice A n c, .bool t, .slice B m d] #[.bool s', .slice A' n' c', .bool t', .slice B' m' d'] #[Value.bool false, Value.slice none 0 0, Value.bool false, Value.slice none 0 0]
  rw [← hW]
  clear hW
  replace h := h.ext extW
  replace k := k.ext extW
  have hz1 := h.num.zero
  have hz2 := k.num.zero
  by_cases hq0 : q.num = 0
  · have hn2 : ((n : Int) == 0) = true := by rw [beq_iff_eq]; have := hz1.2 hq0; omega
    have hqp : q * p = ((0 : Int) : Rat) := by rw [Rat.num_eq_zero.1 hq0, Rat.zero_mul]; rfl
    clear hz1 hz2 hq0
    have x1 := bx.cell 1 (.slice A n c) rfl
    have y1 := by_.cell 1 (.slice A' n' c') rfl
    go_wp2_with fail
    refine (q_FromIntR 0 (by omega) (by omega)).mono ?_
    rintro e wb ⟨s1, A1, n1, c1', t1, B1, m1, d1, rfl, hr, hxb⟩
    have z0 := (bz.ext hxb).cell 0 _ rfl
    have z1 := (bz.ext hxb).cell 1 _ rfl
    have z2 := (bz.ext hxb).cell 2 _ rfl
    have z3 := (bz.ext hxb).cell 3 _ rfl
    have f0 := (bz.ext hxb).frozen 0
    have f1 := (bz.ext hxb).frozen 1
    have f2 := (bz.ext hxb).frozen 2
    have f3 := (bz.ext hxb).frozen 3
    go_wp2_with fail
    obtain ⟨b1, b2, b3, b4⟩ := fin_quad (s := s1) (A := A1) (n := n1) (c := c1') (t := t1) (B := B1) (m := m1) (d := d1) (bz.ext hxb)
    have r0 := b1.cell 0 (.bool s1) rfl
    have r1 := b1.cell 1 (.slice A1 n1 c1') rfl
    have r2 := b1.cell 2 (.bool t1) rfl
    have r3 := b1.cell 3 (.slice B1 m1 d1) rfl
    unfold set4 at r0 r1 r2 r3
    refine bodyPost_ret (v := .agg #[.bool s1, .slice A1 n1 c1', .bool t1, .slice B1 m1 d1]) (by simp [results, Tryz.results44, go_sem, r0, r1, r2, r3]) rfl ⟨s1, A1, n1, c1', t1, B1, m1, d1, rfl, ⟨?_, ?_⟩, b3 _ (extW.trans hxb) (by omega)⟩
    · rw [hqp]; exact (b2 _ _ _ _ _ _ hr.num).le (by omega)
    · rw [hqp]; exact (b2 _ _ _ _ _ _ hr.den).le (by omega)
  · have hn2 : ((n : Int) == 0) = false := by rw [beq_eq_false_iff_ne]; intro h0; exact hq0 (hz1.1 (by omega))
    by_cases hp0 : p.num = 0
    · have hm2 : ((n' : Int) == 0) = true := by rw [beq_iff_eq]; have := hz2.2 hp0; omega
      have hqp : q * p = ((0 : Int) : Rat) := by rw [Rat.num_eq_zero.1 hp0, Rat.mul_zero]; rfl
      clear hz1 hz2 hq0 hp0
      have x1 := bx.cell 1 (.slice A n c) rfl
      have y1 := by_.cell 1 (.slice A' n' c') rfl
      go_wp2_with fail
      refine (q_FromIntR 0 (by omega) (by omega)).mono ?_
      rintro e wb ⟨s1, A1, n1, c1', t1, B1, m1, d1, rfl, hr, hxb⟩
      have z0 := (bz.ext hxb).cell 0 _ rfl
      have z1 := (bz.ext hxb).cell 1 _ rfl
      have z2 := (bz.ext hxb).cell 2 _ rfl
      have z3 := (bz.ext hxb).cell 3 _ rfl
      have f0 := (bz.ext hxb).frozen 0
      have f1 := (bz.ext hxb).frozen 1
      have f2 := (bz.ext hxb).frozen 2
      have f3 := (bz.ext hxb).frozen 3
      go_wp2_with fail
      obtain ⟨b1, b2, b3, b4⟩ := fin_quad (s := s1) (A := A1) (n := n1) (c := c1') (t := t1) (B := B1) (m := m1) (d := d1) (bz.ext hxb)
      have r0 := b1.cell 0 (.bool s1) rfl
      have r1 := b1.cell 1 (.slice A1 n1 c1') rfl
      have r2 := b1.cell 2 (.bool t1) rfl
      have r3 := b1.cell 3 (.slice B1 m1 d1) rfl
      unfold set4 at r0 r1 r2 r3
      refine bodyPost_ret (v := .agg #[.bool s1, .slice A1 n1 c1', .bool t1, .slice B1 m1 d1]) (by simp [results, Tryz.results44, go_sem, r0, r1, r2, r3]) rfl ⟨s1, A1, n1, c1', t1, B1, m1, d1, rfl, ⟨?_, ?_⟩, b3 _ (extW.trans hxb) (by omega)⟩
      · rw [hqp]; exact (b2 _ _ _ _ _ _ hr.num).le (by omega)
      · rw [hqp]; exact (b2 _ _ _ _ _ _ hr.den).le (by omega)
    · have hm2 : ((n' : Int) == 0) = false := by rw [beq_eq_false_iff_ne]; intro h0; exact hp0 (hz2.1 (by omega))
      clear hz1 hz2 hq0 hp0
      have x1 := bx.cell 1 (.slice A n c) rfl
      have y1 := by_.cell 1 (.slice A' n' c') rfl
      go_upto_region 3 with (fail)
      clear x1 y1
      have x0 := bx.cell 0 (.bool s) rfl
      have x1 := bx.cell 1 (.slice A n c) rfl
      have x2 := bx.cell 2 (.bool t) rfl
      have x3 := bx.cell 3 (.slice B m d) rfl
      go_wp2_with fail
      refine (q_one h.den).mono ?_
      rintro e wb ⟨rfl, hxb⟩
      replace bx := bx.ext hxb
      replace by_ := by_.ext hxb
      replace bz := bz.ext hxb
      replace h := h.ext hxb
      replace k := k.ext hxb
      replace extW := extW.trans hxb
      clear hxb
      clear x0 x1 x2 x3
      by_cases h1 : (q.den : Int) = 1
      · rw [decide_eq_true h1]
        have H1 := Lib.hid h1
        clear h1
        have y2 := by_.cell 2 (.bool t') rfl
        have y3 := by_.cell 3 (.slice B' m' d') rfl
        go_wp2_with fail
        refine (q_one k.den).mono ?_
        rintro e V ⟨rfl, hxc⟩
        replace bx := bx.ext hxc
        replace by_ := by_.ext hxc
        replace bz := bz.ext hxc
        replace h := h.ext hxc
        replace k := k.ext hxc
        replace extW := extW.trans hxc
        clear hxc y2 y3
        by_cases h2 : (p.den : Int) = 1
        · rw [decide_eq_true h2]
          have H2 := Lib.hid h2
          clear h2
          go_wp2_with fail
          refine wpL.start 8 (by kernel_rfl) (fun _ _ _ _ _ => ⟨fun h => h, fun h => h⟩) (fun hQ ES => ?_)
          refine wpL.take (i := 0) (d := some 28) (v := ?v0_48) rfl rfl (by kernel_rfl) (by kernel_rfl) (by kernel_rfl) (by kernel_rfl) hQ (Or.inl ⟨by rfl, ?y0_48⟩) ES ?r0_48
          case y0_48 =>
            intro w' hSw
            have k00 := (bx.ext hSw).c4
            have k10 := (by_.ext hSw).c4
            go_simp
            try with_reducible rfl
          try simp only [Act.put]
          try simp only [List.setIfInBounds_toArray]
          try simp only [List.set_cons_succ]
          try simp only [List.set_cons_zero]
          refine wpL.take (i := 2) (d := some 30) (v := ?v2_49) rfl rfl (by kernel_rfl) (by kernel_rfl) (by kernel_rfl) (by kernel_rfl) hQ (Or.inl ⟨by rfl, ?y2_49⟩) ES ?r2_49
          case y2_49 =>
            intro w' hSw
            have k00 := (bx.ext hSw).c4
            have k10 := (by_.ext hSw).c4
            go_simp
            try with_reducible rfl
          try simp only [Act.put]
          try simp only [List.setIfInBounds_toArray]
          try simp only [List.set_cons_succ]
          try simp only [List.set_cons_zero]
          refine wpL.take (i := 5) (d := some 33) (v := ?v5_50) rfl rfl (by kernel_rfl) (by kernel_rfl) (by kernel_rfl) (by kernel_rfl) hQ (Or.inl ⟨by rfl, ?y5_50⟩) ES ?r5_50
          case y5_50 =>
            intro w' hSw
            have k00 := (bx.ext hSw).c4
            have k10 := (by_.ext hSw).c4
            go_simp
            try with_reducible rfl
          try simp only [Act.put]
          try simp only [List.setIfInBounds_toArray]
          try simp only [List.set_cons_succ]
          try simp only [List.set_cons_zero]
          refine wpL.take (i := 1) (d := some 29) (v := ?v1_51) rfl rfl (by kernel_rfl) (by kernel_rfl) (by kernel_rfl) (by kernel_rfl) hQ (Or.inl ⟨by rfl, ?y1_51⟩) ES ?r1_51
          case y1_51 =>
            intro w' hSw
            have k00 := (bx.ext hSw).c4
            have k10 := (by_.ext hSw).c4
            go_simp
            try with_reducible rfl
          try simp only [Act.put]
          try simp only [List.setIfInBounds_toArray]
          try simp only [List.set_cons_succ]
          try simp only [List.set_cons_zero]
          refine wpL.take (i := 3) (d := some 31) (v := ?v3_52) rfl rfl (by kernel_rfl) (by kernel_rfl) (by kernel_rfl) (by kernel_rfl) hQ (Or.inl ⟨by rfl, ?y3_52⟩) ES ?r3_52
          case y3_52 =>
            intro w' hSw
            have k00 := (bx.ext hSw).c4
            have k10 := (by_.ext hSw).c4
            go_simp
            try with_reducible rfl
          try simp only [Act.put]
          try simp only [List.setIfInBounds_toArray]
          try simp only [List.set_cons_succ]
          try simp only [List.set_cons_zero]
          refine wpL.take (i := 6) (d := some 34) (v := ?v6_53) rfl rfl (by kernel_rfl) (by kernel_rfl) (by kernel_rfl) (by kernel_rfl) hQ (Or.inl ⟨by rfl, ?y6_53⟩) ES ?r6_53
          case y6_53 =>
            intro w' hSw
            have k00 := (bx.ext hSw).c4
            have k10 := (by_.ext hSw).c4
            go_simp
            try with_reducible rfl
          try simp only [Act.put]
          try simp only [List.setIfInBounds_toArray]
          try simp only [List.set_cons_succ]
          try simp only [List.set_cons_zero]
          refine wpL.call (i := 4) rfl (by kernel_rfl) (fun K hK => ?_)
          go_simp
          (go_at_call 77; refine (q_Mul (h.num.ext ES) (k.num.ext ES) (by omega) (by omega)).mono ?_; rintro e wk1 ⟨s5, A5, n5, c5, rfl, h5, hx0⟩; have E0_4 := Ext.trans ES hx0)
          refine hK.out _ _ E0_4 ?_
          clear hK K
          try simp only [Act.put]
          try simp only [List.setIfInBounds_toArray]
          try simp only [List.set_cons_succ]
          try simp only [List.set_cons_zero]
          refine wpL.take (i := 7) (d := some 35) (v := ?v7_54) rfl rfl (by kernel_rfl) (by kernel_rfl) (by kernel_rfl) (by kernel_rfl) hQ (Or.inl ⟨by rfl, ?y7_54⟩) E0_4 ?r7_54
          case y7_54 =>
            intro w' hSw
            have k00 := (bx.ext hSw).c4
            have k10 := (by_.ext hSw).c4
            go_simp
            try with_reducible rfl
          try simp only [Act.put]
          try simp only [List.setIfInBounds_toArray]
          try simp only [List.set_cons_succ]
          try simp only [List.set_cons_zero]
          have z0 := (bz.ext E0_4).cell 0 _ rfl
          have z1 := (bz.ext E0_4).cell 1 _ rfl
          have z2 := (bz.ext E0_4).cell 2 _ rfl
          have z3 := (bz.ext E0_4).cell 3 _ rfl
          have f0 := (bz.ext E0_4).frozen 0
          have f1 := (bz.ext E0_4).frozen 1
          have f2 := (bz.ext E0_4).frozen 2
          have f3 := (bz.ext E0_4).frozen 3
          refine wpL.tail (i := 8) rfl (by kernel_rfl) (by kernel_rfl) (fun K hK => ?_)
          go_simp
          refine hK.out _ _ ?_
          clear hK K
          try simp only [Act.put]
          try simp only [List.setIfInBounds_toArray]
          try simp only [List.set_cons_succ]
          try simp only [List.set_cons_zero]
          refine wpL.done (by kernel_rfl) ?_ _
          clear hQ
          go_wp2_with fail
          obtain ⟨e5, e6⟩ := rat_mul_one H1.out H2.out
          obtain ⟨b1, b2, b3, b4⟩ := fin_quad (s := s5) (A := A5) (n := n5) (c := c5) (t := t) (B := B) (m := m) (d := d) (bz.ext E0_4)
          have r0 := b1.cell 0 (.bool s5) rfl
          have r1 := b1.cell 1 (.slice A5 n5 c5) rfl
          have r2 := b1.cell 2 (.bool t) rfl
          have r3 := b1.cell 3 (.slice B m d) rfl
          unfold set4 at r0 r1 r2 r3
          refine bodyPost_ret (v := .agg #[.bool s5, .slice A5 n5 c5, .bool t, .slice B m d]) (by simp [results, Tryz.results44, go_sem, r0, r1, r2, r3]) rfl ⟨s5, A5, n5, c5, t, B, m, d, rfl, ⟨?_, ?_⟩, b3 _ (extW.trans E0_4) (by omega)⟩
          · rw [e5]; exact b2 _ _ _ _ _ _ h5
          · rw [e6]; exact (b2 _ _ _ _ _ _ (h.den.ext E0_4)).le (by omega)
        · rw [decide_eq_false h2]
          clear h2
          go_wp2_with fail
          have ES0 := Ext.refl V
          refine wp_region_held_drew (S := Ext V) (by kernel_rfl) ES0.drew (fun ES => ?_)
          clear ES0
          refine Late.start2 (x := ⟨10, 5, 24, #[Value.bool false, Value.slice none 0 0]⟩) (y := ⟨11, 6, 24, #[Value.bool false, Value.slice none 0 0]⟩) (n := 12) ⟨_, rfl, rfl, rfl, fun a w => by go_simp⟩ ⟨_, rfl, rfl, rfl, fun a w => by go_simp⟩ (fun _ _ _ _ _ => ⟨fun h => h, fun h => h⟩) ES rfl (fun hAl hQ => ?_)
          refine Late.take (i := 0) (d := some 36) (v := ?v0_55a) rfl rfl (by kernel_rfl) (by kernel_rfl) (by kernel_rfl) (by kernel_rfl) hQ (Or.inl ⟨by rfl, ?y0_55a⟩) ?r0_55a
          case y0_55a =>
            intro w' hSw
            have k00 := (bx.ext hSw).c4
            have k10 := (by_.ext hSw).c4
            go_simp
            try with_reducible rfl
          try simp only [Act.put]
          try simp only [List.setIfInBounds_toArray]
          try simp only [List.set_cons_succ]
          try simp only [List.set_cons_zero]
          refine Late.take (i := 2) (d := some 38) (v := ?v2_56a) rfl rfl (by kernel_rfl) (by kernel_rfl) (by kernel_rfl) (by kernel_rfl) hQ (Or.inl ⟨by rfl, ?y2_56a⟩) ?r2_56a
          case y2_56a =>
            intro w' hSw
            have k00 := (bx.ext hSw).c4
            have k10 := (by_.ext hSw).c4
            go_simp
            try with_reducible rfl
          try simp only [Act.put]
          try simp only [List.setIfInBounds_toArray]
          try simp only [List.set_cons_succ]
          try simp only [List.set_cons_zero]
          refine Late.take (i := 5) (d := some 41) (v := ?v5_57a) rfl rfl (by kernel_rfl) (by kernel_rfl) (by kernel_rfl) (by kernel_rfl) hQ (Or.inl ⟨by rfl, ?y5_57a⟩) ?r5_57a
          case y5_57a =>
            intro w' hSw
            have k00 := (bx.ext hSw).c4
            have k10 := (by_.ext hSw).c4
            go_simp
            try with_reducible rfl
          try simp only [Act.put]
          try simp only [List.setIfInBounds_toArray]
          try simp only [List.set_cons_succ]
          try simp only [List.set_cons_zero]
          refine Late.take (i := 7) (d := some 43) (v := ?v7_58a) rfl rfl (by kernel_rfl) (by kernel_rfl) (by kernel_rfl) (by kernel_rfl) hQ (Or.inl ⟨by rfl, ?y7_58a⟩) ?r7_58a
          case y7_58a =>
            intro w' hSw
            have k00 := (bx.ext hSw).c4
            have k10 := (by_.ext hSw).c4
            go_simp
            try with_reducible rfl
          try simp only [Act.put]
          try simp only [List.setIfInBounds_toArray]
          try simp only [List.set_cons_succ]
          try simp only [List.set_cons_zero]
          refine Late.take (i := 1) (d := some 37) (v := ?v1_59a) rfl rfl (by kernel_rfl) (by kernel_rfl) (by kernel_rfl) (by kernel_rfl) hQ (Or.inl ⟨by rfl, ?y1_59a⟩) ?r1_59a
          case y1_59a =>
            intro w' hSw
            have k00 := (bx.ext hSw).c4
            have k10 := (by_.ext hSw).c4
            go_simp
            try with_reducible rfl
          try simp only [Act.put]
          try simp only [List.setIfInBounds_toArray]
          try simp only [List.set_cons_succ]
          try simp only [List.set_cons_zero]
          refine Late.take (i := 3) (d := some 39) (v := ?v3_60a) rfl rfl (by kernel_rfl) (by kernel_rfl) (by kernel_rfl) (by kernel_rfl) hQ (Or.inl ⟨by rfl, ?y3_60a⟩) ?r3_60a
          case y3_60a =>
            intro w' hSw
            have k00 := (bx.ext hSw).c4
            have k10 := (by_.ext hSw).c4
            go_simp
            try with_reducible rfl
          try simp only [Act.put]
          try simp only [List.setIfInBounds_toArray]
          try simp only [List.set_cons_succ]
          try simp only [List.set_cons_zero]
          refine Late.take (i := 6) (d := some 42) (v := ?v6_61a) rfl rfl (by kernel_rfl) (by kernel_rfl) (by kernel_rfl) (by kernel_rfl) hQ (Or.inl ⟨by rfl, ?y6_61a⟩) ?r6_61a
          case y6_61a =>
            intro w' hSw
            have k00 := (bx.ext hSw).c4
            have k10 := (by_.ext hSw).c4
            go_simp
            try with_reducible rfl
          try simp only [Act.put]
          try simp only [List.setIfInBounds_toArray]
          try simp only [List.set_cons_succ]
          try simp only [List.set_cons_zero]
          refine Late.take (i := 8) (d := some 44) (v := ?v8_62a) rfl rfl (by kernel_rfl) (by kernel_rfl) (by kernel_rfl) (by kernel_rfl) hQ (Or.inl ⟨by rfl, ?y8_62a⟩) ?r8_62a
          case y8_62a =>
            intro w' hSw
            have k00 := (bx.ext hSw).c4
            have k10 := (by_.ext hSw).c4
            go_simp
            try with_reducible rfl
          try simp only [Act.put]
          try simp only [List.setIfInBounds_toArray]
          try simp only [List.set_cons_succ]
          try simp only [List.set_cons_zero]
          refine Late.call (i := 4) rfl (by kernel_rfl) hAl (by kernel_rfl) (by kernel_rfl) (by kernel_rfl) hQ (fun w4 e4 E4 K hK => ?_)
          go_simp
          (go_at_call 84; refine (q_GCD (h.num.ext E4) (k.den.ext E4) (by omega) (by omega)).mono ?_; rintro e wk1 ⟨s1, A1, n1, c1', rfl, h1, hx4⟩; rw [Int.natAbs_natCast] at h1)
          refine hK.out _ _ hx4 ?_
          clear hK K
          try simp only [Act.put]
          try simp only [List.setIfInBounds_toArray]
          try simp only [List.set_cons_succ]
          try simp only [List.set_cons_zero]
          refine Late.call (i := 9) rfl (by kernel_rfl) hAl (by kernel_rfl) (by kernel_rfl) (by kernel_rfl) hQ (fun w9 e9 E9 K hK => ?_)
          go_simp
          (go_at_call 84; refine (q_GCD (k.num.ext E9) (h.den.ext E9) (by omega) (by omega)).mono ?_; rintro e wk2 ⟨s2, A2, n2, c2', rfl, h2, hx9⟩; rw [Int.natAbs_natCast] at h2)
          refine hK.out _ _ hx9 ?_
          clear hK K
          try simp only [Act.put]
          try simp only [List.setIfInBounds_toArray]
          try simp only [List.set_cons_succ]
          try simp only [List.set_cons_zero]
          refine Late.finish2 (hAl _ (by simp)) (hAl _ (by simp)) (by decide) (by decide) (by kernel_rfl) (by kernel_rfl) (by kernel_rfl) (fun wz g5 g6 ez Ez lg5 lg6 hne xb1 xb2 => ?_)
          clear hAl hQ ES
          have p10 := xb1.cell 0 (Value.bool false) rfl
          have p11 := xb1.cell 1 (Value.slice none 0 0) rfl
          have f10 := xb1.frozen 0
          have f11 := xb1.frozen 1
          have e4 := fin_dual (s := s1) (A := A1) (n := n1) (c := c1') xb1
          try simp only [Act.put]
          try simp only [List.setIfInBounds_toArray]
          try simp only [List.set_cons_succ]
          try simp only [List.set_cons_zero]
          refine wpAnyH_ready (rs := [12]) (by kernel_rfl) (by simp) (AllReadyH.cons rfl (fun K hK => ?_) AllReadyH.nil)
          go_simp
          refine hK.out _ _ (e4.2.2.1 _ Ez lg5) (fun _ => ?_)
          clear hK K
          try simp only [Act.put]
          try simp only [List.setIfInBounds_toArray]
          try simp only [List.set_cons_succ]
          try simp only [List.set_cons_zero]
          have e5 := e4.2.2.2 _ _ _ (Ne.symm hne) xb2
          refine any_world (fun U => Ext V U ∧ Box U g5 24 #[.bool s1, .slice A1 n1 c1'] ∧ Box U g6 24 #[Value.bool false, Value.slice none 0 0] ∧ NI U ((q.num.natAbs.gcd p.den : Nat) : Int) (max L M) s1 A1 n1 c1' ∧ NI U ((p.num.natAbs.gcd q.den : Nat) : Int) (max M L) s2 A2 n2 c2') ⟨e4.2.2.1 _ Ez lg5, e4.1, e5, e4.2.1 _ _ _ _ _ _ (h1.ext (e9.trans (hx9.trans ez))), e4.2.1 _ _ _ _ _ _ (h2.ext ez)⟩ ?_
          clear e4 e5 p10 p11 f10 f11 xb1 xb2
          rintro U ⟨EU, b8, xb2, h1, h2⟩
          have p10 := xb2.cell 0 (Value.bool false) rfl
          have p11 := xb2.cell 1 (Value.slice none 0 0) rfl
          have f10 := xb2.frozen 0
          have f11 := xb2.frozen 1
          have e4 := fin_dual (s := s2) (A := A2) (n := n2) (c := c2') xb2
          refine wpAnyH_ready (rs := [13]) (by kernel_rfl) (by simp) (AllReadyH.cons rfl (fun K hK => ?_) AllReadyH.nil)
          go_simp
          refine hK.out _ _ (e4.2.2.1 _ EU lg6) (fun _ => ?_)
          clear hK K
          try simp only [Act.put]
          try simp only [List.setIfInBounds_toArray]
          try simp only [List.set_cons_succ]
          try simp only [List.set_cons_zero]
          refine any_world (fun U2 => Ext V U2 ∧ Box U2 g5 24 #[.bool s1, .slice A1 n1 c1'] ∧ Box U2 g6 24 #[.bool s2, .slice A2 n2 c2'] ∧ NI U2 ((q.num.natAbs.gcd p.den : Nat) : Int) (max L M) s1 A1 n1 c1' ∧ NI U2 ((p.num.natAbs.gcd q.den : Nat) : Int) (max M L) s2 A2 n2 c2') ⟨e4.2.2.1 _ EU lg6, e4.2.2.2 _ _ _ hne b8, e4.1, e4.2.1 _ _ _ _ _ _ h1, e4.2.1 _ _ _ _ _ _ h2⟩ ?_
          clear e4 p10 p11 f10 f11 xb2 b8 h1 h2 lg5 lg6
          rintro U2 ⟨EU2, b8, b9, h1, h2⟩
          refine wpAnyH_done (by kernel_rfl) ?_ _
          replace bx := bx.ext EU2
          replace by_ := by_.ext EU2
          replace bz := bz.ext EU2
          replace h := h.ext EU2
          replace k := k.ext EU2
          replace extW := extW.trans EU2
          clear EU EU2 Ez ez
          obtain ⟨g, hge⟩ : ∃ g, q.num.natAbs.gcd p.den = g := ⟨_, rfl⟩
          obtain ⟨hq, hhe⟩ : ∃ g, p.num.natAbs.gcd q.den = g := ⟨_, rfl⟩
          rw [hge] at h1
          rw [hhe] at h2
          obtain ⟨q1, q2⟩ := rat_mul q p hge.symm hhe.symm
          have Hq1 := Lib.hid q1
          have Hq2 := Lib.hid q2
          have hgq : g ∣ q.num.natAbs := by rw [← hge]; exact Nat.gcd_dvd_left _ _
          have hgp : g ∣ p.den := by rw [← hge]; exact Nat.gcd_dvd_right _ _
          have hhp : hq ∣ p.num.natAbs := by rw [← hhe]; exact Nat.gcd_dvd_left _ _
          have hhq : hq ∣ q.den := by rw [← hhe]; exact Nat.gcd_dvd_right _ _
          have hg0 : (g : Int) ≠ 0 := by
            intro h0
            have : g = 0 := by omega
            rw [this] at hgp
            exact p.den_nz (Nat.eq_zero_of_zero_dvd hgp)
          have hh0 : (hq : Int) ≠ 0 := by
            intro h0
            have : hq = 0 := by omega
            rw [this] at hhq
            exact q.den_nz (Nat.eq_zero_of_zero_dvd hhq)
          have Hg0 := Lib.hid hg0
          have Hh0 := Lib.hid hh0
          have Hgq := Lib.hid (Int.ofNat_dvd_left.2 hgq)
          have Hgp := Lib.hid (Int.ofNat_dvd.2 hgp)
          have Hhp := Lib.hid (Int.ofNat_dvd_left.2 hhp)
          have Hhq := Lib.hid (Int.ofNat_dvd.2 hhq)
          have hg := h1
          have hh := h2
          clear hge hhe q1 q2 hgq hgp hhp hhq hg0 hh0 h1 h2
          go_wp2_with fail
          refine wpL.start 19 (by kernel_rfl) (fun _ _ _ _ _ => ⟨fun h => h, fun h => h⟩) (fun hQ ES => ?_)
          refine wpL.take (i := 0) (d := some 46) (v := ?v0_63a) rfl rfl (by kernel_rfl) (by kernel_rfl) (by kernel_rfl) (by kernel_rfl) hQ (Or.inl ⟨by rfl, ?y0_63a⟩) ES ?r0_63a
          case y0_63a =>
            intro w' hSw
            have k00 := (bx.ext hSw).c4
            have k10 := (by_.ext hSw).c4
            have k20 := (b8.ext hSw).c2
            have k30 := (b9.ext hSw).c2
            go_simp
            try with_reducible rfl
          try simp only [Act.put]
          try simp only [List.setIfInBounds_toArray]
          try simp only [List.set_cons_succ]
          try simp only [List.set_cons_zero]
          refine wpL.take (i := 2) (d := some 48) (v := ?v2_64a) rfl rfl (by kernel_rfl) (by kernel_rfl) (by kernel_rfl) (by kernel_rfl) hQ (Or.inl ⟨by rfl, ?y2_64a⟩) ES ?r2_64a
          case y2_64a =>
            intro w' hSw
            have k00 := (bx.ext hSw).c4
            have k10 := (by_.ext hSw).c4
            have k20 := (b8.ext hSw).c2
            have k30 := (b9.ext hSw).c2
            go_simp
            try with_reducible rfl
          try simp only [Act.put]
          try simp only [List.setIfInBounds_toArray]
          try simp only [List.set_cons_succ]
          try simp only [List.set_cons_zero]
          refine wpL.take (i := 4) (d := some 50) (v := ?v4_65a) rfl rfl (by kernel_rfl) (by kernel_rfl) (by kernel_rfl) (by kernel_rfl) hQ (Or.inl ⟨by rfl, ?y4_65a⟩) ES ?r4_65a
          case y4_65a =>
            intro w' hSw
            have k00 := (bx.ext hSw).c4
            have k10 := (by_.ext hSw).c4
            have k20 := (b8.ext hSw).c2
            have k30 := (b9.ext hSw).c2
            go_simp
            try with_reducible rfl
          try simp only [Act.put]
          try simp only [List.setIfInBounds_toArray]
          try simp only [List.set_cons_succ]
          try simp only [List.set_cons_zero]
          refine wpL.take (i := 6) (d := some 52) (v := ?v6_66a) rfl rfl (by kernel_rfl) (by kernel_rfl) (by kernel_rfl) (by kernel_rfl) hQ (Or.inl ⟨by rfl, ?y6_66a⟩) ES ?r6_66a
          case y6_66a =>
            intro w' hSw
            have k00 := (bx.ext hSw).c4
            have k10 := (by_.ext hSw).c4
            have k20 := (b8.ext hSw).c2
            have k30 := (b9.ext hSw).c2
            go_simp
            try with_reducible rfl
          try simp only [Act.put]
          try simp only [List.setIfInBounds_toArray]
          try simp only [List.set_cons_succ]
          try simp only [List.set_cons_zero]
          refine wpL.take (i := 9) (d := some 55) (v := ?v9_67a) rfl rfl (by kernel_rfl) (by kernel_rfl) (by kernel_rfl) (by kernel_rfl) hQ (Or.inl ⟨by rfl, ?y9_67a⟩) ES ?r9_67a
          case y9_67a =>
            intro w' hSw
            have k00 := (bx.ext hSw).c4
            have k10 := (by_.ext hSw).c4
            have k20 := (b8.ext hSw).c2
            have k30 := (b9.ext hSw).c2
            go_simp
            try with_reducible rfl
          try simp only [Act.put]
          try simp only [List.setIfInBounds_toArray]
          try simp only [List.set_cons_succ]
          try simp only [List.set_cons_zero]
          refine wpL.take (i := 11) (d := some 57) (v := ?v11_68a) rfl rfl (by kernel_rfl) (by kernel_rfl) (by kernel_rfl) (by kernel_rfl) hQ (Or.inl ⟨by rfl, ?y11_68a⟩) ES ?r11_68a
          case y11_68a =>
            intro w' hSw
            have k00 := (bx.ext hSw).c4
            have k10 := (by_.ext hSw).c4
            have k20 := (b8.ext hSw).c2
            have k30 := (b9.ext hSw).c2
            go_simp
            try with_reducible rfl
          try simp only [Act.put]
          try simp only [List.setIfInBounds_toArray]
          try simp only [List.set_cons_succ]
          try simp only [List.set_cons_zero]
          refine wpL.take (i := 13) (d := some 59) (v := ?v13_69a) rfl rfl (by kernel_rfl) (by kernel_rfl) (by kernel_rfl) (by kernel_rfl) hQ (Or.inl ⟨by rfl, ?y13_69a⟩) ES ?r13_69a
          case y13_69a =>
            intro w' hSw
            have k00 := (bx.ext hSw).c4
            have k10 := (by_.ext hSw).c4
            have k20 := (b8.ext hSw).c2
            have k30 := (b9.ext hSw).c2
            go_simp
            try with_reducible rfl
          try simp only [Act.put]
          try simp only [List.setIfInBounds_toArray]
          try simp only [List.set_cons_succ]
          try simp only [List.set_cons_zero]
          refine wpL.take (i := 15) (d := some 61) (v := ?v15_70a) rfl rfl (by kernel_rfl) (by kernel_rfl) (by kernel_rfl) (by kernel_rfl) hQ (Or.inl ⟨by rfl, ?y15_70a⟩) ES ?r15_70a
          case y15_70a =>
            intro w' hSw
            have k00 := (bx.ext hSw).c4
            have k10 := (by_.ext hSw).c4
            have k20 := (b8.ext hSw).c2
            have k30 := (b9.ext hSw).c2
            go_simp
            try with_reducible rfl
          try simp only [Act.put]
          try simp only [List.setIfInBounds_toArray]
          try simp only [List.set_cons_succ]
          try simp only [List.set_cons_zero]
          refine wpL.take (i := 1) (d := some 47) (v := ?v1_71a) rfl rfl (by kernel_rfl) (by kernel_rfl) (by kernel_rfl) (by kernel_rfl) hQ (Or.inl ⟨by rfl, ?y1_71a⟩) ES ?r1_71a
          case y1_71a =>
            intro w' hSw
            have k00 := (bx.ext hSw).c4
            have k10 := (by_.ext hSw).c4
            have k20 := (b8.ext hSw).c2
            have k30 := (b9.ext hSw).c2
            go_simp
            try with_reducible rfl
          try simp only [Act.put]
          try simp only [List.setIfInBounds_toArray]
          try simp only [List.set_cons_succ]
          try simp only [List.set_cons_zero]
          refine wpL.take (i := 5) (d := some 51) (v := ?v5_72a) rfl rfl (by kernel_rfl) (by kernel_rfl) (by kernel_rfl) (by kernel_rfl) hQ (Or.inl ⟨by rfl, ?y5_72a⟩) ES ?r5_72a
          case y5_72a =>
            intro w' hSw
            have k00 := (bx.ext hSw).c4
            have k10 := (by_.ext hSw).c4
            have k20 := (b8.ext hSw).c2
            have k30 := (b9.ext hSw).c2
            go_simp
            try with_reducible rfl
          try simp only [Act.put]
          try simp only [List.setIfInBounds_toArray]
          try simp only [List.set_cons_succ]
          try simp only [List.set_cons_zero]
          refine wpL.take (i := 10) (d := some 56) (v := ?v10_73a) rfl rfl (by kernel_rfl) (by kernel_rfl) (by kernel_rfl) (by kernel_rfl) hQ (Or.inl ⟨by rfl, ?y10_73a⟩) ES ?r10_73a
          case y10_73a =>
            intro w' hSw
            have k00 := (bx.ext hSw).c4
            have k10 := (by_.ext hSw).c4
            have k20 := (b8.ext hSw).c2
            have k30 := (b9.ext hSw).c2
            go_simp
            try with_reducible rfl
          try simp only [Act.put]
          try simp only [List.setIfInBounds_toArray]
          try simp only [List.set_cons_succ]
          try simp only [List.set_cons_zero]
          refine wpL.take (i := 14) (d := some 60) (v := ?v14_74a) rfl rfl (by kernel_rfl) (by kernel_rfl) (by kernel_rfl) (by kernel_rfl) hQ (Or.inl ⟨by rfl, ?y14_74a⟩) ES ?r14_74a
          case y14_74a =>
            intro w' hSw
            have k00 := (bx.ext hSw).c4
            have k10 := (by_.ext hSw).c4
            have k20 := (b8.ext hSw).c2
            have k30 := (b9.ext hSw).c2
            go_simp
            try with_reducible rfl
          try simp only [Act.put]
          try simp only [List.setIfInBounds_toArray]
          try simp only [List.set_cons_succ]
          try simp only [List.set_cons_zero]
          refine wpL.call (i := 3) rfl (by kernel_rfl) (fun K hK => ?_)
          go_simp
          (go_at_call 85; refine (q_quo (h.num.ext ES) (hg.ext ES) (by omega) (by omega) Hg0.out Hgq.out).mono ?_; rintro e wk1 ⟨s3, A3, n3, c3, rfl, h3, hx0⟩; have E0_6 := Ext.trans ES hx0)
          refine hK.out _ _ E0_6 ?_
          clear hK K
          try simp only [Act.put]
          try simp only [List.setIfInBounds_toArray]
          try simp only [List.set_cons_succ]
          try simp only [List.set_cons_zero]
          refine wpL.call (i := 7) rfl (by kernel_rfl) (fun K hK => ?_)
          go_simp
          (go_at_call 85; refine (q_quo (k.num.ext E0_6) (hh.ext E0_6) (by omega) (by omega) Hh0.out Hhp.out).mono ?_; rintro e wk2 ⟨s4, A4, n4, c4, rfl, h4, hx1⟩; have E1_6 := Ext.trans E0_6 hx1)
          refine hK.out _ _ E1_6 ?_
          clear hK K
          try simp only [Act.put]
          try simp only [List.setIfInBounds_toArray]
          try simp only [List.set_cons_succ]
          try simp only [List.set_cons_zero]
          refine wpL.call (i := 8) rfl (by kernel_rfl) (fun K hK => ?_)
          go_simp
          (go_at_call 77; refine (q_Mul (h3.ext hx1) h4 (by omega) (by omega)).mono ?_; rintro e wk3 ⟨s5, A5, n5, c5, rfl, h5, hx2⟩; have E2_6 := Ext.trans E1_6 hx2)
          refine hK.out _ _ E2_6 ?_
          clear hK K
          try simp only [Act.put]
          try simp only [List.setIfInBounds_toArray]
          try simp only [List.set_cons_succ]
          try simp only [List.set_cons_zero]
          refine wpL.call (i := 12) rfl (by kernel_rfl) (fun K hK => ?_)
          go_simp
          (go_at_call 85; refine (q_quo (h.den.ext E2_6) (hh.ext E2_6) (by omega) (by omega) Hh0.out Hhq.out).mono ?_; rintro e wk4 ⟨s6, A6, n6, c6, rfl, h6, hx3⟩; have E3_6 := Ext.trans E2_6 hx3)
          refine hK.out _ _ E3_6 ?_
          clear hK K
          try simp only [Act.put]
          try simp only [List.setIfInBounds_toArray]
          try simp only [List.set_cons_succ]
          try simp only [List.set_cons_zero]
          refine wpL.call (i := 16) rfl (by kernel_rfl) (fun K hK => ?_)
          go_simp
          (go_at_call 85; refine (q_quo (k.den.ext E3_6) (hg.ext E3_6) (by omega) (by omega) Hg0.out Hgp.out).mono ?_; rintro e wk5 ⟨s7, A7, n7, c7, rfl, h7, hx4⟩; have E4_6 := Ext.trans E3_6 hx4)
          refine hK.out _ _ E4_6 ?_
          clear hK K
          try simp only [Act.put]
          try simp only [List.setIfInBounds_toArray]
          try simp only [List.set_cons_succ]
          try simp only [List.set_cons_zero]
          refine wpL.call (i := 17) rfl (by kernel_rfl) (fun K hK => ?_)
          go_simp
          (go_at_call 77; refine (q_Mul (h6.ext hx4) h7 (by omega) (by omega)).mono ?_; rintro e wk6 ⟨s8, A8, n8, c8, rfl, h8, hx5⟩; have E5_6 := Ext.trans E4_6 hx5)
          refine hK.out _ _ E5_6 ?_
          clear hK K
          try simp only [Act.put]
          try simp only [List.setIfInBounds_toArray]
          try simp only [List.set_cons_succ]
          try simp only [List.set_cons_zero]
          refine wpL.take (i := 18) (d := some 64) (v := ?v18_75a) rfl rfl (by kernel_rfl) (by kernel_rfl) (by kernel_rfl) (by kernel_rfl) hQ (Or.inl ⟨by rfl, ?y18_75a⟩) E5_6 ?r18_75a
          case y18_75a =>
            intro w' hSw
            have k00 := (bx.ext hSw).c4
            have k10 := (by_.ext hSw).c4
            have k20 := (b8.ext hSw).c2
            have k30 := (b9.ext hSw).c2
            go_simp
            try with_reducible rfl
          try simp only [Act.put]
          try simp only [List.setIfInBounds_toArray]
          try simp only [List.set_cons_succ]
          try simp only [List.set_cons_zero]
          have z0 := (bz.ext E5_6).cell 0 _ rfl
          have z1 := (bz.ext E5_6).cell 1 _ rfl
          have z2 := (bz.ext E5_6).cell 2 _ rfl
          have z3 := (bz.ext E5_6).cell 3 _ rfl
          have f0 := (bz.ext E5_6).frozen 0
          have f1 := (bz.ext E5_6).frozen 1
          have f2 := (bz.ext E5_6).frozen 2
          have f3 := (bz.ext E5_6).frozen 3
          refine wpL.tail (i := 19) rfl (by kernel_rfl) (by kernel_rfl) (fun K hK => ?_)
          go_simp
          refine hK.out _ _ ?_
          clear hK K
          try simp only [Act.put]
          try simp only [List.setIfInBounds_toArray]
          try simp only [List.set_cons_succ]
          try simp only [List.set_cons_zero]
          refine wpL.done (by kernel_rfl) ?_ _
          clear hQ
          go_wp2_with fail
          have hk1 : ((q.den : Int) / (hq : Int)) * ((p.den : Int) / (g : Int)) = ((q * p).den : Int) := by rw [Hq2.out]; simp
          rw [hk1] at h8
          rw [← Hq1.out] at h5
          obtain ⟨b1, b2, b3, b4⟩ := fin_quad (s := s5) (A := A5) (n := n5) (c := c5) (t := s8) (B := A8) (m := n8) (d := c8) (bz.ext E5_6)
          have r0 := b1.cell 0 (.bool s5) rfl
          have r1 := b1.cell 1 (.slice A5 n5 c5) rfl
          have r2 := b1.cell 2 (.bool s8) rfl
          have r3 := b1.cell 3 (.slice A8 n8 c8) rfl
          unfold set4 at r0 r1 r2 r3
          refine bodyPost_ret (v := .agg #[.bool s5, .slice A5 n5 c5, .bool s8, .slice A8 n8 c8]) (by simp [results, Tryz.results44, go_sem, r0, r1, r2, r3]) rfl ⟨s5, A5, n5, c5, s8, A8, n8, c8, rfl, ⟨?_, ?_⟩, b3 _ (extW.trans E5_6) (by omega)⟩
          · exact b2 _ _ _ _ _ _ (h5.ext (hx3.trans (hx4.trans hx5)))
          · exact b2 _ _ _ _ _ _ h8
      · rw [decide_eq_false h1]
        clear h1
        go_wp2_with fail
        have ES0 := Ext.refl wb
        refine wp_region_held_drew (S := Ext wb) (by kernel_rfl) ES0.drew (fun ES => ?_)
        clear ES0
        refine Late.start2 (x := ⟨10, 5, 24, #[Value.bool false, Value.slice none 0 0]⟩) (y := ⟨11, 6, 24, #[Value.bool false, Value.slice none 0 0]⟩) (n := 12) ⟨_, rfl, rfl, rfl, fun a w => by go_simp⟩ ⟨_, rfl, rfl, rfl, fun a w => by go_simp⟩ (fun _ _ _ _ _ => ⟨fun h => h, fun h => h⟩) ES rfl (fun hAl hQ => ?_)
        refine Late.take (i := 0) (d := some 36) (v := ?v0_55b) rfl rfl (by kernel_rfl) (by kernel_rfl) (by kernel_rfl) (by kernel_rfl) hQ (Or.inl ⟨by rfl, ?y0_55b⟩) ?r0_55b
        case y0_55b =>
          intro w' hSw
          have k00 := (bx.ext hSw).c4
          have k10 := (by_.ext hSw).c4
          go_simp
          try with_reducible rfl
        try simp only [Act.put]
        try simp only [List.setIfInBounds_toArray]
        try simp only [List.set_cons_succ]
        try simp only [List.set_cons_zero]
        refine Late.take (i := 2) (d := some 38) (v := ?v2_56b) rfl rfl (by kernel_rfl) (by kernel_rfl) (by kernel_rfl) (by kernel_rfl) hQ (Or.inl ⟨by rfl, ?y2_56b⟩) ?r2_56b
        case y2_56b =>
          intro w' hSw
          have k00 := (bx.ext hSw).c4
          have k10 := (by_.ext hSw).c4
          go_simp
          try with_reducible rfl
        try simp only [Act.put]
        try simp only [List.setIfInBounds_toArray]
        try simp only [List.set_cons_succ]
        try simp only [List.set_cons_zero]
        refine Late.take (i := 5) (d := some 41) (v := ?v5_57b) rfl rfl (by kernel_rfl) (by kernel_rfl) (by kernel_rfl) (by kernel_rfl) hQ (Or.inl ⟨by rfl, ?y5_57b⟩) ?r5_57b
        case y5_57b =>
          intro w' hSw
          have k00 := (bx.ext hSw).c4
          have k10 := (by_.ext hSw).c4
          go_simp
          try with_reducible rfl
        try simp only [Act.put]
        try simp only [List.setIfInBounds_toArray]
        try simp only [List.set_cons_succ]
        try simp only [List.set_cons_zero]
        refine Late.take (i := 7) (d := some 43) (v := ?v7_58b) rfl rfl (by kernel_rfl) (by kernel_rfl) (by kernel_rfl) (by kernel_rfl) hQ (Or.inl ⟨by rfl, ?y7_58b⟩) ?r7_58b
        case y7_58b =>
          intro w' hSw
          have k00 := (bx.ext hSw).c4
          have k10 := (by_.ext hSw).c4
          go_simp
          try with_reducible rfl
        try simp only [Act.put]
        try simp only [List.setIfInBounds_toArray]
        try simp only [List.set_cons_succ]
        try simp only [List.set_cons_zero]
        refine Late.take (i := 1) (d := some 37) (v := ?v1_59b) rfl rfl (by kernel_rfl) (by kernel_rfl) (by kernel_rfl) (by kernel_rfl) hQ (Or.inl ⟨by rfl, ?y1_59b⟩) ?r1_59b
        case y1_59b =>
          intro w' hSw
          have k00 := (bx.ext hSw).c4
          have k10 := (by_.ext hSw).c4
          go_simp
          try with_reducible rfl
        try simp only [Act.put]
        try simp only [List.setIfInBounds_toArray]
        try simp only [List.set_cons_succ]
        try simp only [List.set_cons_zero]
        refine Late.take (i := 3) (d := some 39) (v := ?v3_60b) rfl rfl (by kernel_rfl) (by kernel_rfl) (by kernel_rfl) (by kernel_rfl) hQ (Or.inl ⟨by rfl, ?y3_60b⟩) ?r3_60b
        case y3_60b =>
          intro w' hSw
          have k00 := (bx.ext hSw).c4
          have k10 := (by_.ext hSw).c4
          go_simp
          try with_reducible rfl
        try simp only [Act.put]
        try simp only [List.setIfInBounds_toArray]
        try simp only [List.set_cons_succ]
        try simp only [List.set_cons_zero]
        refine Late.take (i := 6) (d := some 42) (v := ?v6_61b) rfl rfl (by kernel_rfl) (by kernel_rfl) (by kernel_rfl) (by kernel_rfl) hQ (Or.inl ⟨by rfl, ?y6_61b⟩) ?r6_61b
        case y6_61b =>
          intro w' hSw
          have k00 := (bx.ext hSw).c4
          have k10 := (by_.ext hSw).c4
          go_simp
          try with_reducible rfl
        try simp only [Act.put]
        try simp only [List.setIfInBounds_toArray]
        try simp only [List.set_cons_succ]
        try simp only [List.set_cons_zero]
        refine Late.take (i := 8) (d := some 44) (v := ?v8_62b) rfl rfl (by kernel_rfl) (by kernel_rfl) (by kernel_rfl) (by kernel_rfl) hQ (Or.inl ⟨by rfl, ?y8_62b⟩) ?r8_62b
        case y8_62b =>
          intro w' hSw
          have k00 := (bx.ext hSw).c4
          have k10 := (by_.ext hSw).c4
          go_simp
          try with_reducible rfl
        try simp only [Act.put]
        try simp only [List.setIfInBounds_toArray]
        try simp only [List.set_cons_succ]
        try simp only [List.set_cons_zero]
        refine Late.call (i := 4) rfl (by kernel_rfl) hAl (by kernel_rfl) (by kernel_rfl) (by kernel_rfl) hQ (fun w4 e4 E4 K hK => ?_)
        go_simp
        (go_at_call 84; refine (q_GCD (h.num.ext E4) (k.den.ext E4) (by omega) (by omega)).mono ?_; rintro e wk1 ⟨s1, A1, n1, c1', rfl, h1, hx4⟩; rw [Int.natAbs_natCast] at h1)
        refine hK.out _ _ hx4 ?_
        clear hK K
        try simp only [Act.put]
        try simp only [List.setIfInBounds_toArray]
        try simp only [List.set_cons_succ]
        try simp only [List.set_cons_zero]
        refine Late.call (i := 9) rfl (by kernel_rfl) hAl (by kernel_rfl) (by kernel_rfl) (by kernel_rfl) hQ (fun w9 e9 E9 K hK => ?_)
        go_simp
        (go_at_call 84; refine (q_GCD (k.num.ext E9) (h.den.ext E9) (by omega) (by omega)).mono ?_; rintro e wk2 ⟨s2, A2, n2, c2', rfl, h2, hx9⟩; rw [Int.natAbs_natCast] at h2)
        refine hK.out _ _ hx9 ?_
        clear hK K
        try simp only [Act.put]
        try simp only [List.setIfInBounds_toArray]
        try simp only [List.set_cons_succ]
        try simp only [List.set_cons_zero]
        refine Late.finish2 (hAl _ (by simp)) (hAl _ (by simp)) (by decide) (by decide) (by kernel_rfl) (by kernel_rfl) (by kernel_rfl) (fun wz g5 g6 ez Ez lg5 lg6 hne xb1 xb2 => ?_)
        clear hAl hQ ES
        have p10 := xb1.cell 0 (Value.bool false) rfl
        have p11 := xb1.cell 1 (Value.slice none 0 0) rfl
        have f10 := xb1.frozen 0
        have f11 := xb1.frozen 1
        have e4 := fin_dual (s := s1) (A := A1) (n := n1) (c := c1') xb1
        try simp only [Act.put]
        try simp only [List.setIfInBounds_toArray]
        try simp only [List.set_cons_succ]
        try simp only [List.set_cons_zero]
        refine wpAnyH_ready (rs := [12]) (by kernel_rfl) (by simp) (AllReadyH.cons rfl (fun K hK => ?_) AllReadyH.nil)
        go_simp
        refine hK.out _ _ (e4.2.2.1 _ Ez lg5) (fun _ => ?_)
        clear hK K
        try simp only [Act.put]
        try simp only [List.setIfInBounds_toArray]
        try simp only [List.set_cons_succ]
        try simp only [List.set_cons_zero]
        have e5 := e4.2.2.2 _ _ _ (Ne.symm hne) xb2
        refine any_world (fun U => Ext wb U ∧ Box U g5 24 #[.bool s1, .slice A1 n1 c1'] ∧ Box U g6 24 #[Value.bool false, Value.slice none 0 0] ∧ NI U ((q.num.natAbs.gcd p.den : Nat) : Int) (max L M) s1 A1 n1 c1' ∧ NI U ((p.num.natAbs.gcd q.den : Nat) : Int) (max M L) s2 A2 n2 c2') ⟨e4.2.2.1 _ Ez lg5, e4.1, e5, e4.2.1 _ _ _ _ _ _ (h1.ext (e9.trans (hx9.trans ez))), e4.2.1 _ _ _ _ _ _ (h2.ext ez)⟩ ?_
        clear e4 e5 p10 p11 f10 f11 xb1 xb2
        rintro U ⟨EU, b8, xb2, h1, h2⟩
        have p10 := xb2.cell 0 (Value.bool false) rfl
        have p11 := xb2.cell 1 (Value.slice none 0 0) rfl
        have f10 := xb2.frozen 0
        have f11 := xb2.frozen 1
        have e4 := fin_dual (s := s2) (A := A2) (n := n2) (c := c2') xb2
        refine wpAnyH_ready (rs := [13]) (by kernel_rfl) (by simp) (AllReadyH.cons rfl (fun K hK => ?_) AllReadyH.nil)
        go_simp
        refine hK.out _ _ (e4.2.2.1 _ EU lg6) (fun _ => ?_)
        clear hK K
        try simp only [Act.put]
        try simp only [List.setIfInBounds_toArray]
        try simp only [List.set_cons_succ]
        try simp only [List.set_cons_zero]
        refine any_world (fun U2 => Ext wb U2 ∧ Box U2 g5 24 #[.bool s1, .slice A1 n1 c1'] ∧ Box U2 g6 24 #[.bool s2, .slice A2 n2 c2'] ∧ NI U2 ((q.num.natAbs.gcd p.den : Nat) : Int) (max L M) s1 A1 n1 c1' ∧ NI U2 ((p.num.natAbs.gcd q.den : Nat) : Int) (max M L) s2 A2 n2 c2') ⟨e4.2.2.1 _ EU lg6, e4.2.2.2 _ _ _ hne b8, e4.1, e4.2.1 _ _ _ _ _ _ h1, e4.2.1 _ _ _ _ _ _ h2⟩ ?_
        clear e4 p10 p11 f10 f11 xb2 b8 h1 h2 lg5 lg6
        rintro U2 ⟨EU2, b8, b9, h1, h2⟩
        refine wpAnyH_done (by kernel_rfl) ?_ _
        replace bx := bx.ext EU2
        replace by_ := by_.ext EU2
        replace bz := bz.ext EU2
        replace h := h.ext EU2
        replace k := k.ext EU2
        replace extW := extW.trans EU2
        clear EU EU2 Ez ez
        obtain ⟨g, hge⟩ : ∃ g, q.num.natAbs.gcd p.den = g := ⟨_, rfl⟩
        obtain ⟨hq, hhe⟩ : ∃ g, p.num.natAbs.gcd q.den = g := ⟨_, rfl⟩
        rw [hge] at h1
        rw [hhe] at h2
        obtain ⟨q1, q2⟩ := rat_mul q p hge.symm hhe.symm
        have Hq1 := Lib.hid q1
        have Hq2 := Lib.hid q2
        have hgq : g ∣ q.num.natAbs := by rw [← hge]; exact Nat.gcd_dvd_left _ _
        have hgp : g ∣ p.den := by rw [← hge]; exact Nat.gcd_dvd_right _ _
        have hhp : hq ∣ p.num.natAbs := by rw [← hhe]; exact Nat.gcd_dvd_left _ _
        have hhq : hq ∣ q.den := by rw [← hhe]; exact Nat.gcd_dvd_right _ _
        have hg0 : (g : Int) ≠ 0 := by
          intro h0
          have : g = 0 := by omega
          rw [this] at hgp
          exact p.den_nz (Nat.eq_zero_of_zero_dvd hgp)
        have hh0 : (hq : Int) ≠ 0 := by
          intro h0
          have : hq = 0 := by omega
          rw [this] at hhq
          exact q.den_nz (Nat.eq_zero_of_zero_dvd hhq)
        have Hg0 := Lib.hid hg0
        have Hh0 := Lib.hid hh0
        have Hgq := Lib.hid (Int.ofNat_dvd_left.2 hgq)
        have Hgp := Lib.hid (Int.ofNat_dvd.2 hgp)
        have Hhp := Lib.hid (Int.ofNat_dvd_left.2 hhp)
        have Hhq := Lib.hid (Int.ofNat_dvd.2 hhq)
        have hg := h1
        have hh := h2
        clear hge hhe q1 q2 hgq hgp hhp hhq hg0 hh0 h1 h2
        go_wp2_with fail
        refine wpL.start 19 (by kernel_rfl) (fun _ _ _ _ _ => ⟨fun h => h, fun h => h⟩) (fun hQ ES => ?_)
        refine wpL.take (i := 0) (d := some 46) (v := ?v0_63b) rfl rfl (by kernel_rfl) (by kernel_rfl) (by kernel_rfl) (by kernel_rfl) hQ (Or.inl ⟨by rfl, ?y0_63b⟩) ES ?r0_63b
        case y0_63b =>
          intro w' hSw
          have k00 := (bx.ext hSw).c4
          have k10 := (by_.ext hSw).c4
          have k20 := (b8.ext hSw).c2
          have k30 := (b9.ext hSw).c2
          go_simp
          try with_reducible rfl
        try simp only [Act.put]
        try simp only [List.setIfInBounds_toArray]
        try simp only [List.set_cons_succ]
        try simp only [List.set_cons_zero]
        refine wpL.take (i := 2) (d := some 48) (v := ?v2_64b) rfl rfl (by kernel_rfl) (by kernel_rfl) (by kernel_rfl) (by kernel_rfl) hQ (Or.inl ⟨by rfl, ?y2_64b⟩) ES ?r2_64b
        case y2_64b =>
          intro w' hSw
          have k00 := (bx.ext hSw).c4
          have k10 := (by_.ext hSw).c4
          have k20 := (b8.ext hSw).c2
          have k30 := (b9.ext hSw).c2
          go_simp
          try with_reducible rfl
        try simp only [Act.put]
        try simp only [List.setIfInBounds_toArray]
        try simp only [List.set_cons_succ]
        try simp only [List.set_cons_zero]
        refine wpL.take (i := 4) (d := some 50) (v := ?v4_65b) rfl rfl (by kernel_rfl) (by kernel_rfl) (by kernel_rfl) (by kernel_rfl) hQ (Or.inl ⟨by rfl, ?y4_65b⟩) ES ?r4_65b
        case y4_65b =>
          intro w' hSw
          have k00 := (bx.ext hSw).c4
          have k10 := (by_.ext hSw).c4
          have k20 := (b8.ext hSw).c2
          have k30 := (b9.ext hSw).c2
          go_simp
          try with_reducible rfl
        try simp only [Act.put]
        try simp only [List.setIfInBounds_toArray]
        try simp only [List.set_cons_succ]
        try simp only [List.set_cons_zero]
        refine wpL.take (i := 6) (d := some 52) (v := ?v6_66b) rfl rfl (by kernel_rfl) (by kernel_rfl) (by kernel_rfl) (by kernel_rfl) hQ (Or.inl ⟨by rfl, ?y6_66b⟩) ES ?r6_66b
        case y6_66b =>
          intro w' hSw
          have k00 := (bx.ext hSw).c4
          have k10 := (by_.ext hSw).c4
          have k20 := (b8.ext hSw).c2
          have k30 := (b9.ext hSw).c2
          go_simp
          try with_reducible rfl
        try simp only [Act.put]
        try simp only [List.setIfInBounds_toArray]
        try simp only [List.set_cons_succ]
        try simp only [List.set_cons_zero]
        refine wpL.take (i := 9) (d := some 55) (v := ?v9_67b) rfl rfl (by kernel_rfl) (by kernel_rfl) (by kernel_rfl) (by kernel_rfl) hQ (Or.inl ⟨by rfl, ?y9_67b⟩) ES ?r9_67b
        case y9_67b =>
          intro w' hSw
          have k00 := (bx.ext hSw).c4
          have k10 := (by_.ext hSw).c4
          have k20 := (b8.ext hSw).c2
          have k30 := (b9.ext hSw).c2
          go_simp
          try with_reducible rfl
        try simp only [Act.put]
        try simp only [List.setIfInBounds_toArray]
        try simp only [List.set_cons_succ]
        try simp only [List.set_cons_zero]
        refine wpL.take (i := 11) (d := some 57) (v := ?v11_68b) rfl rfl (by kernel_rfl) (by kernel_rfl) (by kernel_rfl) (by kernel_rfl) hQ (Or.inl ⟨by rfl, ?y11_68b⟩) ES ?r11_68b
        case y11_68b =>
          intro w' hSw
          have k00 := (bx.ext hSw).c4
          have k10 := (by_.ext hSw).c4
          have k20 := (b8.ext hSw).c2
          have k30 := (b9.ext hSw).c2
          go_simp
          try with_reducible rfl
        try simp only [Act.put]
        try simp only [List.setIfInBounds_toArray]
        try simp only [List.set_cons_succ]
        try simp only [List.set_cons_zero]
        refine wpL.take (i := 13) (d := some 59) (v := ?v13_69b) rfl rfl (by kernel_rfl) (by kernel_rfl) (by kernel_rfl) (by kernel_rfl) hQ (Or.inl ⟨by rfl, ?y13_69b⟩) ES ?r13_69b
        case y13_69b =>
          intro w' hSw
          have k00 := (bx.ext hSw).c4
          have k10 := (by_.ext hSw).c4
          have k20 := (b8.ext hSw).c2
          have k30 := (b9.ext hSw).c2
          go_simp
          try with_reducible rfl
        try simp only [Act.put]
        try simp only [List.setIfInBounds_toArray]
        try simp only [List.set_cons_succ]
        try simp only [List.set_cons_zero]
        refine wpL.take (i := 15) (d := some 61) (v := ?v15_70b) rfl rfl (by kernel_rfl) (by kernel_rfl) (by kernel_rfl) (by kernel_rfl) hQ (Or.inl ⟨by rfl, ?y15_70b⟩) ES ?r15_70b
        case y15_70b =>
          intro w' hSw
          have k00 := (bx.ext hSw).c4
          have k10 := (by_.ext hSw).c4
          have k20 := (b8.ext hSw).c2
          have k30 := (b9.ext hSw).c2
          go_simp
          try with_reducible rfl
        try simp only [Act.put]
        try simp only [List.setIfInBounds_toArray]
        try simp only [List.set_cons_succ]
        try simp only [List.set_cons_zero]
        refine wpL.take (i := 1) (d := some 47) (v := ?v1_71b) rfl rfl (by kernel_rfl) (by kernel_rfl) (by kernel_rfl) (by kernel_rfl) hQ (Or.inl ⟨by rfl, ?y1_71b⟩) ES ?r1_71b
        case y1_71b =>
          intro w' hSw
          have k00 := (bx.ext hSw).c4
          have k10 := (by_.ext hSw).c4
          have k20 := (b8.ext hSw).c2
          have k30 := (b9.ext hSw).c2
          go_simp
          try with_reducible rfl
        try simp only [Act.put]
        try simp only [List.setIfInBounds_toArray]
        try simp only [List.set_cons_succ]
        try simp only [List.set_cons_zero]
        refine wpL.take (i := 5) (d := some 51) (v := ?v5_72b) rfl rfl (by kernel_rfl) (by kernel_rfl) (by kernel_rfl) (by kernel_rfl) hQ (Or.inl ⟨by rfl, ?y5_72b⟩) ES ?r5_72b
        case y5_72b =>
          intro w' hSw
          have k00 := (bx.ext hSw).c4
          have k10 := (by_.ext hSw).c4
          have k20 := (b8.ext hSw).c2
          have k30 := (b9.ext hSw).c2
          go_simp
          try with_reducible rfl
        try simp only [Act.put]
        try simp only [List.setIfInBounds_toArray]
        try simp only [List.set_cons_succ]
        try simp only [List.set_cons_zero]
        refine wpL.take (i := 10) (d := some 56) (v := ?v10_73b) rfl rfl (by kernel_rfl) (by kernel_rfl) (by kernel_rfl) (by kernel_rfl) hQ (Or.inl ⟨by rfl, ?y10_73b⟩) ES ?r10_73b
        case y10_73b =>
          intro w' hSw
          have k00 := (bx.ext hSw).c4
          have k10 := (by_.ext hSw).c4
          have k20 := (b8.ext hSw).c2
          have k30 := (b9.ext hSw).c2
          go_simp
          try with_reducible rfl
        try simp only [Act.put]
        try simp only [List.setIfInBounds_toArray]
        try simp only [List.set_cons_succ]
        try simp only [List.set_cons_zero]
        refine wpL.take (i := 14) (d := some 60) (v := ?v14_74b) rfl rfl (by kernel_rfl) (by kernel_rfl) (by kernel_rfl) (by kernel_rfl) hQ (Or.inl ⟨by rfl, ?y14_74b⟩) ES ?r14_74b
        case y14_74b =>
          intro w' hSw
          have k00 := (bx.ext hSw).c4
          have k10 := (by_.ext hSw).c4
          have k20 := (b8.ext hSw).c2
          have k30 := (b9.ext hSw).c2
          go_simp
          try with_reducible rfl
        try simp only [Act.put]
        try simp only [List.setIfInBounds_toArray]
        try simp only [List.set_cons_succ]
        try simp only [List.set_cons_zero]
        refine wpL.call (i := 3) rfl (by kernel_rfl) (fun K hK => ?_)
        go_simp
        (go_at_call 85; refine (q_quo (h.num.ext ES) (hg.ext ES) (by omega) (by omega) Hg0.out Hgq.out).mono ?_; rintro e wk1 ⟨s3, A3, n3, c3, rfl, h3, hx0⟩; have E0_6 := Ext.trans ES hx0)
        refine hK.out _ _ E0_6 ?_
        clear hK K
        try simp only [Act.put]
        try simp only [List.setIfInBounds_toArray]
        try simp only [List.set_cons_succ]
        try simp only [List.set_cons_zero]
        refine wpL.call (i := 7) rfl (by kernel_rfl) (fun K hK => ?_)
        go_simp
        (go_at_call 85; refine (q_quo (k.num.ext E0_6) (hh.ext E0_6) (by omega) (by omega) Hh0.out Hhp.out).mono ?_; rintro e wk2 ⟨s4, A4, n4, c4, rfl, h4, hx1⟩; have E1_6 := Ext.trans E0_6 hx1)
        refine hK.out _ _ E1_6 ?_
        clear hK K
        try simp only [Act.put]
        try simp only [List.setIfInBounds_toArray]
        try simp only [List.set_cons_succ]
        try simp only [List.set_cons_zero]
        refine wpL.call (i := 8) rfl (by kernel_rfl) (fun K hK => ?_)
        go_simp
        (go_at_call 77; refine (q_Mul (h3.ext hx1) h4 (by omega) (by omega)).mono ?_; rintro e wk3 ⟨s5, A5, n5, c5, rfl, h5, hx2⟩; have E2_6 := Ext.trans E1_6 hx2)
        refine hK.out _ _ E2_6 ?_
        clear hK K
        try simp only [Act.put]
        try simp only [List.setIfInBounds_toArray]
        try simp only [List.set_cons_succ]
        try simp only [List.set_cons_zero]
        refine wpL.call (i := 12) rfl (by kernel_rfl) (fun K hK => ?_)
        go_simp
        (go_at_call 85; refine (q_quo (h.den.ext E2_6) (hh.ext E2_6) (by omega) (by omega) Hh0.out Hhq.out).mono ?_; rintro e wk4 ⟨s6, A6, n6, c6, rfl, h6, hx3⟩; have E3_6 := Ext.trans E2_6 hx3)
        refine hK.out _ _ E3_6 ?_
        clear hK K
        try simp only [Act.put]
        try simp only [List.setIfInBounds_toArray]
        try simp only [List.set_cons_succ]
        try simp only [List.set_cons_zero]
        refine wpL.call (i := 16) rfl (by kernel_rfl) (fun K hK => ?_)
        go_simp
        (go_at_call 85; refine (q_quo (k.den.ext E3_6) (hg.ext E3_6) (by omega) (by omega) Hg0.out Hgp.out).mono ?_; rintro e wk5 ⟨s7, A7, n7, c7, rfl, h7, hx4⟩; have E4_6 := Ext.trans E3_6 hx4)
        refine hK.out _ _ E4_6 ?_
        clear hK K
        try simp only [Act.put]
        try simp only [List.setIfInBounds_toArray]
        try simp only [List.set_cons_succ]
        try simp only [List.set_cons_zero]
        refine wpL.call (i := 17) rfl (by kernel_rfl) (fun K hK => ?_)
        go_simp
        (go_at_call 77; refine (q_Mul (h6.ext hx4) h7 (by omega) (by omega)).mono ?_; rintro e wk6 ⟨s8, A8, n8, c8, rfl, h8, hx5⟩; have E5_6 := Ext.trans E4_6 hx5)
        refine hK.out _ _ E5_6 ?_
        clear hK K
        try simp only [Act.put]
        try simp only [List.setIfInBounds_toArray]
        try simp only [List.set_cons_succ]
        try simp only [List.set_cons_zero]
        refine wpL.take (i := 18) (d := some 64) (v := ?v18_75b) rfl rfl (by kernel_rfl) (by kernel_rfl) (by kernel_rfl) (by kernel_rfl) hQ (Or.inl ⟨by rfl, ?y18_75b⟩) E5_6 ?r18_75b
        case y18_75b =>
          intro w' hSw
          have k00 := (bx.ext hSw).c4
          have k10 := (by_.ext hSw).c4
          have k20 := (b8.ext hSw).c2
          have k30 := (b9.ext hSw).c2
          go_simp
          try with_reducible rfl
        try simp only [Act.put]
        try simp only [List.setIfInBounds_toArray]
        try simp only [List.set_cons_succ]
        try simp only [List.set_cons_zero]
        have z0 := (bz.ext E5_6).cell 0 _ rfl
        have z1 := (bz.ext E5_6).cell 1 _ rfl
        have z2 := (bz.ext E5_6).cell 2 _ rfl
        have z3 := (bz.ext E5_6).cell 3 _ rfl
        have f0 := (bz.ext E5_6).frozen 0
        have f1 := (bz.ext E5_6).frozen 1
        have f2 := (bz.ext E5_6).frozen 2
        have f3 := (bz.ext E5_6).frozen 3
        refine wpL.tail (i := 19) rfl (by kernel_rfl) (by kernel_rfl) (fun K hK => ?_)
        go_simp
        refine hK.out _ _ ?_
        clear hK K
        try simp only [Act.put]
        try simp only [List.setIfInBounds_toArray]
        try simp only [List.set_cons_succ]
        try simp only [List.set_cons_zero]
        refine wpL.done (by kernel_rfl) ?_ _
        clear hQ
        go_wp2_with fail
        have hk1 : ((q.den : Int) / (hq : Int)) * ((p.den : Int) / (g : Int)) = ((q * p).den : Int) := by rw [Hq2.out]; simp
        rw [hk1] at h8
        rw [← Hq1.out] at h5
        obtain ⟨b1, b2, b3, b4⟩ := fin_quad (s := s5) (A := A5) (n := n5) (c := c5) (t := s8) (B := A8) (m := n8) (d := c8) (bz.ext E5_6)
        have r0 := b1.cell 0 (.bool s5) rfl
        have r1 := b1.cell 1 (.slice A5 n5 c5) rfl
        have r2 := b1.cell 2 (.bool s8) rfl
        have r3 := b1.cell 3 (.slice A8 n8 c8) rfl
        unfold set4 at r0 r1 r2 r3
        refine bodyPost_ret (v := .agg #[.bool s5, .slice A5 n5 c5, .bool s8, .slice A8 n8 c8]) (by simp [results, Tryz.results44, go_sem, r0, r1, r2, r3]) rfl ⟨s5, A5, n5, c5, s8, A8, n8, c8, rfl, ⟨?_, ?_⟩, b3 _ (extW.trans E5_6) (by omega)⟩
        · exact b2 _ _ _ _ _ _ (h5.ext (hx3.trans (hx4.trans hx5)))
        · exact b2 _ _ _ _ _ _ h8
end
end Go.Proofs.YtoabhnofppledaaGreatDoor
namespace Go.Proofs.YtoabhnofppledaaGreatDoor
open Go.RowKit
attribute [local go_sem ↓] Go.wp_at_zero Go.wp_at_succ
section
variable {w w' : World} {q p r : Rat} {L : Nat} {s t s' t' u u' : Bool} {A B A' B' C D : Option Addr} {n c m d n' c' m' d' l e0 l' e' : Nat} {xs ys xs' ys' zs zs' : List Nat}
variable {z y : Int} {M : Nat}
set_option maxHeartbeats 2000000 in
theorem q_Floor (h : NR w q L s A n c t B m d) (hL : L ≤ 1000) : Calls Tryz.prog 75 #[.agg #[.bool s, .slice A n c, .bool t, .slice B m d]] w fun e w' => ∃ z r : Int, IsDM q.num q.den z r ∧ RetNI z 60000 w e w' := by
  have hd0 : (q.den : Int) ≠ 0 := by have := q.den_nz; omega
  go_enter Tryz.func75, Tryz.ntmps75
  go_upto_region 1 with (fail)
  obtain ⟨W, hW, extW, bx, bz, hz⟩ := box2 w 26 24 #[.bool s, .slice A n c, .bool t, .slice B m d] #[Value.bool false, Value.slice none 0 0]
  rw [← hW]
  clear hW
  replace h := h.ext extW
  have x0 := bx.cell 0 (.bool s) rfl
  have x1 := bx.cell 1 (.slice A n c) rfl
  have x2 := bx.cell 2 (.bool t) rfl
  have x3 := bx.cell 3 (.slice B m d) rfl
  go_wp2_with fail
  refine (q_quo_dm h.num h.den (by omega) (by omega) hd0).mono ?_
  rintro e wb ⟨q', r, hdm, s1, A1, n1, c1, rfl, hq, hx1⟩
  clear x0 x1 x2 x3
  have z0 := (bz.ext hx1).cell 0 _ rfl
  have z1 := (bz.ext hx1).cell 1 _ rfl
  have f0 := (bz.ext hx1).frozen 0
  have f1 := (bz.ext hx1).frozen 1
  go_wp2_with fail
  obtain ⟨b1, b2, b3, b4⟩ := fin_dual (s := s1) (A := A1) (n := n1) (c := c1) (bz.ext hx1)
  have r0 := b1.cell 0 (.bool s1) rfl
  have r1 := b1.cell 1 (.slice A1 n1 c1) rfl
  unfold set2 at r0 r1
  refine bodyPost_ret (v := .agg #[.bool s1, .slice A1 n1 c1]) (by simp [results, Tryz.results75, go_sem, r0, r1]) rfl ⟨q', r, hdm, s1, A1, n1, c1, rfl, ?_, b3 _ (extW.trans hx1) (by omega)⟩
  exact b2 _ _ _ _ _ _ hq
end
end Go.Proofs.YtoabhnofppledaaGreatDoor
namespace Go.Proofs.YtoabhnofppledaaGreatDoor
open Go.RowKit
attribute [local go_sem ↓] Go.wp_at_zero Go.wp_at_succ
section
variable {w w' : World} {q p lo hi lo' hi' : Rat} {z y x S : Int} {L M : Nat} {s t s' t' u v sx tx : Bool} {A B A' B' C D Ax Bx : Option Addr} {n c m d n' c' m' d' i j k l nx cx mx dx : Nat}
theorem p_isPrec_no {k : Int} (hk : k < 0 ∨ 4096 < k) : Calls Tryz.prog 65 #[.int .i64 k] w fun e w' => e = .returned (.bool false) ∧ Ext w w' := by
  by_cases h0 : 0 ≤ k
  · have d0 : decide (0 ≤ k) = true := decide_eq_true h0
    have d1 : decide (k ≤ 4096) = false := decide_eq_false (by omega)
    go_enter Tryz.func65, Tryz.ntmps65
    go_wp2_with fail
    go_ret
    exact ⟨rfl, Ext.refl _⟩
  · have d0 : decide (0 ≤ k) = false := decide_eq_false h0
    go_enter Tryz.func65, Tryz.ntmps65
    go_wp2_with fail
    go_ret
    exact ⟨rfl, Ext.refl _⟩
end
end Go.Proofs.YtoabhnofppledaaGreatDoor
namespace Go.Proofs.YtoabhnofppledaaGreatDoor
open Go.RowKit
attribute [local go_sem ↓] Go.wp_at_zero Go.wp_at_succ
/-- the least interval with ends that are multiples. -/
def RetRnd (lo hi : Rat) (k : Nat) (L : Nat) (w : World) (e : Ending) (w' : World) : Prop :=
  ∃ z1 z2 : Int, IsFl lo (2 ^ k) z1 ∧ IsCl hi (2 ^ k) z2 ∧ RetIV (mkQ z1 (2 ^ k)) (mkQ z2 (2 ^ k)) L w e w'
section
variable {w w' : World} {q p lo hi lo' hi' : Rat} {z y x S : Int} {L M : Nat} {s t s' t' u v sx tx : Bool} {A B A' B' C D Ax Bx : Option Addr} {n c m d n' c' m' d' i j k l nx cx mx dx : Nat}
set_option maxHeartbeats 8000000 in
set_option maxRecDepth 100000 in
theorem p_RoundV {k : Nat} (h : IV w lo hi L s A n c t B m d s' A' n' c' t' B' m' d') (hL : L ≤ 20) (hk : k ≤ 200) (hT : Tab w) : Calls Tryz.prog 31 #[.agg #[.bool s, .slice A n c, .bool t, .slice B m d, .bool s', .slice A' n' c', .bool t', .slice B' m' d'], .int .i64 (k : Int)] w (RetRnd lo hi k (L + 14) w) := by
  have HU := Lib.hid (pow_pos2 k)
  have Hk := Lib.hid hk
  go_enter Tryz.func31, Tryz.ntmps31
  go_upto_region 1 with (fail)
  obtain ⟨W, hW, ext, bx, bz, hz⟩ := box2 w 28 28 #[.bool s, .slice A n c, .bool t, .slice B m d, .bool s', .slice A' n' c', .bool t', .slice B' m' d'] #[Value.bool false, Value.slice none 0 0, Value.bool false, Value.slice none 0 0, Value.bool false, Value.slice none 0 0, Value.bool false, Value.slice none 0 0]
  rw [← hW]
  clear hW hz
  go_wp2_with fail
  refine (p_isPrec_yes (k := (k : Int)) (by omega) (by omega)).mono ?_
  rintro e wa ⟨rfl, hxa⟩
  replace bx := bx.ext hxa
  replace bz := bz.ext hxa
  replace ext := ext.trans hxa
  clear hxa
  go_wp2_with fail
  refine (p_power2 Hk.out).mono ?_
  rintro e wb2 ⟨s3, A3, n3, c3, rfl, h6, hxb⟩
  go_upto_region 4 with (fail)
  refine at_world (fun V => Ext wa V ∧ Box V wb2.heap.size 24 #[.bool s3, .slice A3 n3 c3] ∧ NI V (2 ^ k) 13 s3 A3 n3 c3) ⟨hxb.alloc _, Box.new wb2 _ _, h6.ext ((Ext.refl wb2).alloc _)⟩ ?_
  generalize wb2.heap.size = g6
  clear hxb h6
  rintro V ⟨EV, b6, h6⟩
  replace bx := bx.ext EV
  replace bz := bz.ext EV
  replace ext := ext.trans EV
  replace h := h.ext ext
  clear EV
  refine wpL.start 10 (by kernel_rfl) (fun _ _ _ _ _ => ⟨fun h => h, fun h => h⟩) (fun hQ ES => ?_)
  refine wpL.take (i := 0) (d := some 12) (v := ?v0_77) rfl rfl (by kernel_rfl) (by kernel_rfl) (by kernel_rfl) (by kernel_rfl) hQ (Or.inl ⟨by rfl, ?y0_77⟩) ES ?r0_77
  case y0_77 =>
    intro w' hSw
    have k00 := (bx.ext hSw).c8
    have k10 := (b6.ext hSw).c2
    go_simp
    try with_reducible rfl
  try simp only [Act.put]
  try simp only [List.setIfInBounds_toArray]
  try simp only [List.set_cons_succ]
  try simp only [List.set_cons_zero]
  refine wpL.take (i := 2) (d := some 14) (v := ?v2_78) rfl rfl (by kernel_rfl) (by kernel_rfl) (by kernel_rfl) (by kernel_rfl) hQ (Or.inl ⟨by rfl, ?y2_78⟩) ES ?r2_78
  case y2_78 =>
    intro w' hSw
    have k00 := (bx.ext hSw).c8
    have k10 := (b6.ext hSw).c2
    go_simp
    try with_reducible rfl
  try simp only [Act.put]
  try simp only [List.setIfInBounds_toArray]
  try simp only [List.set_cons_succ]
  try simp only [List.set_cons_zero]
  refine wpL.take (i := 4) (d := some 16) (v := ?v4_79) rfl rfl (by kernel_rfl) (by kernel_rfl) (by kernel_rfl) (by kernel_rfl) hQ (Or.inl ⟨by rfl, ?y4_79⟩) ES ?r4_79
  case y4_79 =>
    intro w' hSw
    have k00 := (bx.ext hSw).c8
    have k10 := (b6.ext hSw).c2
    go_simp
    try with_reducible rfl
  try simp only [Act.put]
  try simp only [List.setIfInBounds_toArray]
  try simp only [List.set_cons_succ]
  try simp only [List.set_cons_zero]
  refine wpL.take (i := 6) (d := some 18) (v := ?v6_80) rfl rfl (by kernel_rfl) (by kernel_rfl) (by kernel_rfl) (by kernel_rfl) hQ (Or.inl ⟨by rfl, ?y6_80⟩) ES ?r6_80
  case y6_80 =>
    intro w' hSw
    have k00 := (bx.ext hSw).c8
    have k10 := (b6.ext hSw).c2
    go_simp
    try with_reducible rfl
  try simp only [Act.put]
  try simp only [List.setIfInBounds_toArray]
  try simp only [List.set_cons_succ]
  try simp only [List.set_cons_zero]
  refine wpL.take (i := 8) (d := some 20) (v := ?v8_81) rfl rfl (by kernel_rfl) (by kernel_rfl) (by kernel_rfl) (by kernel_rfl) hQ (Or.inl ⟨by rfl, ?y8_81⟩) ES ?r8_81
  case y8_81 =>
    intro w' hSw
    have k00 := (bx.ext hSw).c8
    have k10 := (b6.ext hSw).c2
    go_simp
    try with_reducible rfl
  try simp only [Act.put]
  try simp only [List.setIfInBounds_toArray]
  try simp only [List.set_cons_succ]
  try simp only [List.set_cons_zero]
  refine wpL.take (i := 1) (d := some 13) (v := ?v1_82) rfl rfl (by kernel_rfl) (by kernel_rfl) (by kernel_rfl) (by kernel_rfl) hQ (Or.inl ⟨by rfl, ?y1_82⟩) ES ?r1_82
  case y1_82 =>
    intro w' hSw
    have k00 := (bx.ext hSw).c8
    have k10 := (b6.ext hSw).c2
    go_simp
    try with_reducible rfl
  try simp only [Act.put]
  try simp only [List.setIfInBounds_toArray]
  try simp only [List.set_cons_succ]
  try simp only [List.set_cons_zero]
  refine wpL.take (i := 5) (d := some 17) (v := ?v5_83) rfl rfl (by kernel_rfl) (by kernel_rfl) (by kernel_rfl) (by kernel_rfl) hQ (Or.inl ⟨by rfl, ?y5_83⟩) ES ?r5_83
  case y5_83 =>
    intro w' hSw
    have k00 := (bx.ext hSw).c8
    have k10 := (b6.ext hSw).c2
    go_simp
    try with_reducible rfl
  try simp only [Act.put]
  try simp only [List.setIfInBounds_toArray]
  try simp only [List.set_cons_succ]
  try simp only [List.set_cons_zero]
  refine wpL.call (i := 3) rfl (by kernel_rfl) (fun K hK => ?_)
  go_simp
  (go_at_call 70; refine (p_down (h.low.ext ES) (h6.ext ES) (by omega) (by omega)).mono ?_; rintro e wc ⟨zA, hf1, sa, Aa, na, ca, rfl, g1, hx0⟩; have HF1 := Lib.hid hf1; clear hf1; have E0_4 := Ext.trans ES hx0)
  refine hK.out _ _ E0_4 ?_
  clear hK K
  try simp only [Act.put]
  try simp only [List.setIfInBounds_toArray]
  try simp only [List.set_cons_succ]
  try simp only [List.set_cons_zero]
  refine wpL.call (i := 7) rfl (by kernel_rfl) (fun K hK => ?_)
  go_simp
  (go_at_call 72; refine (p_up (h.high.ext E0_4) (h6.ext E0_4) (by omega) (by omega)).mono ?_; rintro e we ⟨zB, hf2, sc, Ac, nc, cc, rfl, g3, hx1⟩; have HF2 := Lib.hid hf2; clear hf2; have E1_4 := Ext.trans E0_4 hx1)
  refine hK.out _ _ E1_4 ?_
  clear hK K
  try simp only [Act.put]
  try simp only [List.setIfInBounds_toArray]
  try simp only [List.set_cons_succ]
  try simp only [List.set_cons_zero]
  refine wpL.call (i := 9) rfl (by kernel_rfl) (fun K hK => ?_)
  go_simp
  (go_at_call 68; refine (p_between (g1.ext hx1) g3 (h6.ext E1_4) (by omega) (by omega) HU.out (hT.ext (ext.trans E1_4))).mono ?_; rintro e wh ⟨s1, A1, n1, c1, t1, B1, m1, d1, s2, A2, n2, c2, t2, B2, m2, d2, rfl, g7, hx2⟩; have E2_4 := Ext.trans E1_4 hx2)
  refine hK.out _ _ E2_4 ?_
  clear hK K
  try simp only [Act.put]
  try simp only [List.setIfInBounds_toArray]
  try simp only [List.set_cons_succ]
  try simp only [List.set_cons_zero]
  have z0 := (bz.ext E2_4).cell 0 _ rfl
  have f0 := (bz.ext E2_4).frozen 0
  have z1 := (bz.ext E2_4).cell 1 _ rfl
  have f1 := (bz.ext E2_4).frozen 1
  have z2 := (bz.ext E2_4).cell 2 _ rfl
  have f2 := (bz.ext E2_4).frozen 2
  have z3 := (bz.ext E2_4).cell 3 _ rfl
  have f3 := (bz.ext E2_4).frozen 3
  have z4 := (bz.ext E2_4).cell 4 _ rfl
  have f4 := (bz.ext E2_4).frozen 4
  have z5 := (bz.ext E2_4).cell 5 _ rfl
  have f5 := (bz.ext E2_4).frozen 5
  have z6 := (bz.ext E2_4).cell 6 _ rfl
  have f6 := (bz.ext E2_4).frozen 6
  have z7 := (bz.ext E2_4).cell 7 _ rfl
  have f7 := (bz.ext E2_4).frozen 7
  refine wpL.tail (i := 10) rfl (by kernel_rfl) (by kernel_rfl) (fun K hK => ?_)
  go_simp
  refine hK.out _ _ ?_
  clear hK K
  try simp only [Act.put]
  try simp only [List.setIfInBounds_toArray]
  try simp only [List.set_cons_succ]
  try simp only [List.set_cons_zero]
  refine wpL.done (by kernel_rfl) ?_ _
  clear hQ
  go_wp2_with fail
  obtain ⟨b1, b2, b3, b4⟩ := fin_oct (v0 := (.bool s1)) (v1 := (.slice A1 n1 c1)) (v2 := (.bool t1)) (v3 := (.slice B1 m1 d1)) (v4 := (.bool s2)) (v5 := (.slice A2 n2 c2)) (v6 := (.bool t2)) (v7 := (.slice B2 m2 d2)) (bz.ext E2_4)
  have r0 := b1.cell 0 (.bool s1) rfl
  have r1 := b1.cell 1 (.slice A1 n1 c1) rfl
  have r2 := b1.cell 2 (.bool t1) rfl
  have r3 := b1.cell 3 (.slice B1 m1 d1) rfl
  have r4 := b1.cell 4 (.bool s2) rfl
  have r5 := b1.cell 5 (.slice A2 n2 c2) rfl
  have r6 := b1.cell 6 (.bool t2) rfl
  have r7 := b1.cell 7 (.slice B2 m2 d2) rfl
  unfold set8 at r0 r1 r2 r3 r4 r5 r6 r7
  refine bodyPost_ret (v := .agg #[.bool s1, .slice A1 n1 c1, .bool t1, .slice B1 m1 d1, .bool s2, .slice A2 n2 c2, .bool t2, .slice B2 m2 d2]) (by simp [results, Tryz.results31, go_sem, r0, r1, r2, r3, r4, r5, r6, r7]) rfl ⟨zA, zB, HF1.out, HF2.out, s1, A1, n1, c1, t1, B1, m1, d1, s2, A2, n2, c2, t2, B2, m2, d2, rfl, ⟨⟨?_, ?_⟩, ⟨?_, ?_⟩⟩, b3 _ (ext.trans E2_4) (by omega)⟩
  · exact b2 _ _ _ _ _ _ g7.low.num
  · exact b2 _ _ _ _ _ _ g7.low.den
  · exact b2 _ _ _ _ _ _ g7.high.num
  · exact b2 _ _ _ _ _ _ g7.high.den
set_option maxHeartbeats 4000000 in
theorem p_RoundV_no {k : Int} (hk : k < 0 ∨ 4096 < k) : Calls Tryz.prog 31 #[.agg #[.bool s, .slice A n c, .bool t, .slice B m d, .bool s', .slice A' n' c', .bool t', .slice B' m' d'], .int .i64 k] w fun e w' => e = .returned (.agg #[.bool false, .slice none 0 0, .bool false, .slice none 0 0, .bool false, .slice none 0 0, .bool false, .slice none 0 0]) ∧ Ext w w' := by
  go_enter Tryz.func31, Tryz.ntmps31
  go_upto_region 1 with (fail)
  obtain ⟨W, hW, ext, bx, bz, hz⟩ := box2 w 28 28 #[.bool s, .slice A n c, .bool t, .slice B m d, .bool s', .slice A' n' c', .bool t', .slice B' m' d'] #[Value.bool false, Value.slice none 0 0, Value.bool false, Value.slice none 0 0, Value.bool false, Value.slice none 0 0, Value.bool false, Value.slice none 0 0]
  rw [← hW]
  clear hW hz
  go_wp2_with fail
  refine (p_isPrec_no hk).mono ?_
  rintro e wa ⟨rfl, hxa⟩
  replace bz := bz.ext hxa
  replace ext := ext.trans hxa
  clear hxa
  have hx1 := Ext.refl wa
  have z0 := (bz.ext hx1).cell 0 _ rfl
  have f0 := (bz.ext hx1).frozen 0
  have z1 := (bz.ext hx1).cell 1 _ rfl
  have f1 := (bz.ext hx1).frozen 1
  have z2 := (bz.ext hx1).cell 2 _ rfl
  have f2 := (bz.ext hx1).frozen 2
  have z3 := (bz.ext hx1).cell 3 _ rfl
  have f3 := (bz.ext hx1).frozen 3
  have z4 := (bz.ext hx1).cell 4 _ rfl
  have f4 := (bz.ext hx1).frozen 4
  have z5 := (bz.ext hx1).cell 5 _ rfl
  have f5 := (bz.ext hx1).frozen 5
  have z6 := (bz.ext hx1).cell 6 _ rfl
  have f6 := (bz.ext hx1).frozen 6
  have z7 := (bz.ext hx1).cell 7 _ rfl
  have f7 := (bz.ext hx1).frozen 7
  go_wp2_with fail
  obtain ⟨b1, b2, b3, b4⟩ := fin_oct (v0 := (.bool false)) (v1 := (.slice none 0 0)) (v2 := (.bool false)) (v3 := (.slice none 0 0)) (v4 := (.bool false)) (v5 := (.slice none 0 0)) (v6 := (.bool false)) (v7 := (.slice none 0 0)) (bz.ext hx1)
  have r0 := b1.cell 0 (.bool false) rfl
  have r1 := b1.cell 1 (.slice none 0 0) rfl
  have r2 := b1.cell 2 (.bool false) rfl
  have r3 := b1.cell 3 (.slice none 0 0) rfl
  have r4 := b1.cell 4 (.bool false) rfl
  have r5 := b1.cell 5 (.slice none 0 0) rfl
  have r6 := b1.cell 6 (.bool false) rfl
  have r7 := b1.cell 7 (.slice none 0 0) rfl
  unfold set8 at r0 r1 r2 r3 r4 r5 r6 r7
  refine bodyPost_ret (v := .agg #[.bool false, .slice none 0 0, .bool false, .slice none 0 0, .bool false, .slice none 0 0, .bool false, .slice none 0 0]) (by simp [results, Tryz.results31, go_sem, r0, r1, r2, r3, r4, r5, r6, r7]) rfl ⟨rfl, b3 _ (ext.trans hx1) (by omega)⟩
end
end Go.Proofs.YtoabhnofppledaaGreatDoor
