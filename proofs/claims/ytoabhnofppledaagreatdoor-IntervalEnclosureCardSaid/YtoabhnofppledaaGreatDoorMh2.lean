/- For every two intervals and two numbers of them the law IntervalEnclosure returns true: the results for numbers belong to the results for intervals, the arguments keep their values, and the examples of the chapter hold. Condition: the table math/bits.deBruijn64tab holds what its initialiser lays (tied by the given card). -/
import Derived.Test.YtoabhnofppledaaGreatDoorM0
import Derived.Test.YtoabhnofppledaaGreatDoorM1
import Derived.Test.YtoabhnofppledaaGreatDoorM2
import Derived.Test.YtoabhnofppledaaGreatDoorM3
import Derived.Test.YtoabhnofppledaaGreatDoorM4
import Derived.Test.YtoabhnofppledaaGreatDoorM5
import Derived.Test.YtoabhnofppledaaGreatDoorM6
import Derived.Test.YtoabhnofppledaaGreatDoorM7
import Derived.Test.YtoabhnofppledaaGreatDoorM8
import Derived.Test.YtoabhnofppledaaGreatDoorM9
import Derived.Test.YtoabhnofppledaaGreatDoorMh0
import Derived.Test.YtoabhnofppledaaGreatDoorMh1
namespace Go.Proofs.YtoabhnofppledaaGreatDoor
open Go.RowKit
attribute [local go_sem ↓] Go.wp_at_zero Go.wp_at_succ
section
variable {w w' : World} {q p lo hi lo' hi' x : Rat} {L M : Nat} {s t s' t' sx tx u v u' v' : Bool} {A B A' B' Ax Bx C D C' D' : Option Addr} {n c m d n' c' m' d' nx cx mx dx i j k l i' j' k' l' : Nat} {qs : List Rat}
set_option maxHeartbeats 4000000 in
theorem p_AddV (h : IV w lo hi L s A n c t B m d s' A' n' c' t' B' m' d') (h' : IV w lo' hi' M u C i j v D k l u' C' i' j' v' D' k' l') (hL : L ≤ 20) (hM : M ≤ 20) (hT : Tab w) : Calls Tryz.prog 17 #[.agg #[.bool s, .slice A n c, .bool t, .slice B m d, .bool s', .slice A' n' c', .bool t', .slice B' m' d'], .agg #[.bool u, .slice C i j, .bool v, .slice D k l, .bool u', .slice C' i' j', .bool v', .slice D' k' l']] w (RetHull (prods (fun x y => x + y) (endsOf lo hi) (endsOf lo' hi')) (L + M + 1) w) := by
  go_enter Tryz.func17, Tryz.ntmps17
  go_upto_region 1 with (fail)
  obtain ⟨W, hW, ext, bx, by_, bz, hz⟩ := box3 w 28 28 28 #[.bool s, .slice A n c, .bool t, .slice B m d, .bool s', .slice A' n' c', .bool t', .slice B' m' d'] #[.bool u, .slice C i j, .bool v, .slice D k l, .bool u', .slice C' i' j', .bool v', .slice D' k' l'] #[Value.bool false, Value.slice none 0 0, Value.bool false, Value.slice none 0 0, Value.bool false, Value.slice none 0 0, Value.bool false, Value.slice none 0 0]
  rw [← hW]
  clear hW hz
  have k0 := bx.cell 0 (.bool s) rfl
  have k1 := bx.cell 1 (.slice A n c) rfl
  have k2 := bx.cell 2 (.bool t) rfl
  have k3 := bx.cell 3 (.slice B m d) rfl
  have k4 := bx.cell 4 (.bool s') rfl
  have k5 := bx.cell 5 (.slice A' n' c') rfl
  have k6 := bx.cell 6 (.bool t') rfl
  have k7 := bx.cell 7 (.slice B' m' d') rfl
  have x0 := by_.cell 0 (.bool u) rfl
  have x1 := by_.cell 1 (.slice C i j) rfl
  have x2 := by_.cell 2 (.bool v) rfl
  have x3 := by_.cell 3 (.slice D k l) rfl
  have x4 := by_.cell 4 (.bool u') rfl
  have x5 := by_.cell 5 (.slice C' i' j') rfl
  have x6 := by_.cell 6 (.bool v') rfl
  have x7 := by_.cell 7 (.slice D' k' l') rfl
  go_wp2_with fail
  refine (p_apply_Add (h.ext ext) (h'.ext ext) hL hM (hT.ext ext)).mono ?_
  rintro e V ⟨lo3, hi3, hu, s1, A1, n3, c1, t1, B1, m1, d1, s2, A2, n4, c2, t2, B2, m2, d2, rfl, h1, hx1⟩
  have HU := Lib.hid hu
  clear hu k0 k1 k2 k3 k4 k5 k6 k7 x0 x1 x2 x3 x4 x5 x6 x7
  have z0 := (bz.ext hx1).cell 0 _ rfl
  have f0 := (bz.ext hx1).frozen 0
  have z1 := (bz.ext hx1).cell 1 _ rfl
  have f1 := (bz.ext hx1).frozen 1
  have z2 := (bz.ext hx1).cell 2 _ rfl
  have f2 := (bz.ext hx1).frozen 2
  have z3 := (bz.ext hx1).cell 3 _ rfl
  have f3 := (bz.ext hx1).frozen 3
  have z4 := (bz.ext hx1).cell 4 _ rfl
  have f4 := (bz.ext hx1).frozen 4
  have z5 := (bz.ext hx1).cell 5 _ rfl
  have f5 := (bz.ext hx1).frozen 5
  have z6 := (bz.ext hx1).cell 6 _ rfl
  have f6 := (bz.ext hx1).frozen 6
  have z7 := (bz.ext hx1).cell 7 _ rfl
  have f7 := (bz.ext hx1).frozen 7
  go_wp2_with fail
  obtain ⟨b1, b2, b3, b4⟩ := fin_oct (v0 := (.bool s1)) (v1 := (.slice A1 n3 c1)) (v2 := (.bool t1)) (v3 := (.slice B1 m1 d1)) (v4 := (.bool s2)) (v5 := (.slice A2 n4 c2)) (v6 := (.bool t2)) (v7 := (.slice B2 m2 d2)) (bz.ext hx1)
  have r0 := b1.cell 0 (.bool s1) rfl
  have r1 := b1.cell 1 (.slice A1 n3 c1) rfl
  have r2 := b1.cell 2 (.bool t1) rfl
  have r3 := b1.cell 3 (.slice B1 m1 d1) rfl
  have r4 := b1.cell 4 (.bool s2) rfl
  have r5 := b1.cell 5 (.slice A2 n4 c2) rfl
  have r6 := b1.cell 6 (.bool t2) rfl
  have r7 := b1.cell 7 (.slice B2 m2 d2) rfl
  unfold set8 at r0 r1 r2 r3 r4 r5 r6 r7
  refine bodyPost_ret (v := .agg #[.bool s1, .slice A1 n3 c1, .bool t1, .slice B1 m1 d1, .bool s2, .slice A2 n4 c2, .bool t2, .slice B2 m2 d2]) (by simp [results, Tryz.results17, go_sem, r0, r1, r2, r3, r4, r5, r6, r7]) rfl ⟨lo3, hi3, HU.out, s1, A1, n3, c1, t1, B1, m1, d1, s2, A2, n4, c2, t2, B2, m2, d2, rfl, ⟨⟨?_, ?_⟩, ⟨?_, ?_⟩⟩, b3 _ (ext.trans hx1) (by omega)⟩
  · exact b2 _ _ _ _ _ _ h1.low.num
  · exact b2 _ _ _ _ _ _ h1.low.den
  · exact b2 _ _ _ _ _ _ h1.high.num
  · exact b2 _ _ _ _ _ _ h1.high.den
set_option maxHeartbeats 4000000 in
theorem p_SubV (h : IV w lo hi L s A n c t B m d s' A' n' c' t' B' m' d') (h' : IV w lo' hi' M u C i j v D k l u' C' i' j' v' D' k' l') (hL : L ≤ 20) (hM : M ≤ 20) (hT : Tab w) : Calls Tryz.prog 19 #[.agg #[.bool s, .slice A n c, .bool t, .slice B m d, .bool s', .slice A' n' c', .bool t', .slice B' m' d'], .agg #[.bool u, .slice C i j, .bool v, .slice D k l, .bool u', .slice C' i' j', .bool v', .slice D' k' l']] w (RetHull (prods (fun x y => x - y) (endsOf lo hi) (endsOf lo' hi')) (L + M + 1) w) := by
  go_enter Tryz.func19, Tryz.ntmps19
  go_upto_region 1 with (fail)
  obtain ⟨W, hW, ext, bx, by_, bz, hz⟩ := box3 w 28 28 28 #[.bool s, .slice A n c, .bool t, .slice B m d, .bool s', .slice A' n' c', .bool t', .slice B' m' d'] #[.bool u, .slice C i j, .bool v, .slice D k l, .bool u', .slice C' i' j', .bool v', .slice D' k' l'] #[Value.bool false, Value.slice none 0 0, Value.bool false, Value.slice none 0 0, Value.bool false, Value.slice none 0 0, Value.bool false, Value.slice none 0 0]
  rw [← hW]
  clear hW hz
  have k0 := bx.cell 0 (.bool s) rfl
  have k1 := bx.cell 1 (.slice A n c) rfl
  have k2 := bx.cell 2 (.bool t) rfl
  have k3 := bx.cell 3 (.slice B m d) rfl
  have k4 := bx.cell 4 (.bool s') rfl
  have k5 := bx.cell 5 (.slice A' n' c') rfl
  have k6 := bx.cell 6 (.bool t') rfl
  have k7 := bx.cell 7 (.slice B' m' d') rfl
  have x0 := by_.cell 0 (.bool u) rfl
  have x1 := by_.cell 1 (.slice C i j) rfl
  have x2 := by_.cell 2 (.bool v) rfl
  have x3 := by_.cell 3 (.slice D k l) rfl
  have x4 := by_.cell 4 (.bool u') rfl
  have x5 := by_.cell 5 (.slice C' i' j') rfl
  have x6 := by_.cell 6 (.bool v') rfl
  have x7 := by_.cell 7 (.slice D' k' l') rfl
  go_wp2_with fail
  refine (p_apply_Sub (h.ext ext) (h'.ext ext) hL hM (hT.ext ext)).mono ?_
  rintro e V ⟨lo3, hi3, hu, s1, A1, n3, c1, t1, B1, m1, d1, s2, A2, n4, c2, t2, B2, m2, d2, rfl, h1, hx1⟩
  have HU := Lib.hid hu
  clear hu k0 k1 k2 k3 k4 k5 k6 k7 x0 x1 x2 x3 x4 x5 x6 x7
  have z0 := (bz.ext hx1).cell 0 _ rfl
  have f0 := (bz.ext hx1).frozen 0
  have z1 := (bz.ext hx1).cell 1 _ rfl
  have f1 := (bz.ext hx1).frozen 1
  have z2 := (bz.ext hx1).cell 2 _ rfl
  have f2 := (bz.ext hx1).frozen 2
  have z3 := (bz.ext hx1).cell 3 _ rfl
  have f3 := (bz.ext hx1).frozen 3
  have z4 := (bz.ext hx1).cell 4 _ rfl
  have f4 := (bz.ext hx1).frozen 4
  have z5 := (bz.ext hx1).cell 5 _ rfl
  have f5 := (bz.ext hx1).frozen 5
  have z6 := (bz.ext hx1).cell 6 _ rfl
  have f6 := (bz.ext hx1).frozen 6
  have z7 := (bz.ext hx1).cell 7 _ rfl
  have f7 := (bz.ext hx1).frozen 7
  go_wp2_with fail
  obtain ⟨b1, b2, b3, b4⟩ := fin_oct (v0 := (.bool s1)) (v1 := (.slice A1 n3 c1)) (v2 := (.bool t1)) (v3 := (.slice B1 m1 d1)) (v4 := (.bool s2)) (v5 := (.slice A2 n4 c2)) (v6 := (.bool t2)) (v7 := (.slice B2 m2 d2)) (bz.ext hx1)
  have r0 := b1.cell 0 (.bool s1) rfl
  have r1 := b1.cell 1 (.slice A1 n3 c1) rfl
  have r2 := b1.cell 2 (.bool t1) rfl
  have r3 := b1.cell 3 (.slice B1 m1 d1) rfl
  have r4 := b1.cell 4 (.bool s2) rfl
  have r5 := b1.cell 5 (.slice A2 n4 c2) rfl
  have r6 := b1.cell 6 (.bool t2) rfl
  have r7 := b1.cell 7 (.slice B2 m2 d2) rfl
  unfold set8 at r0 r1 r2 r3 r4 r5 r6 r7
  refine bodyPost_ret (v := .agg #[.bool s1, .slice A1 n3 c1, .bool t1, .slice B1 m1 d1, .bool s2, .slice A2 n4 c2, .bool t2, .slice B2 m2 d2]) (by simp [results, Tryz.results19, go_sem, r0, r1, r2, r3, r4, r5, r6, r7]) rfl ⟨lo3, hi3, HU.out, s1, A1, n3, c1, t1, B1, m1, d1, s2, A2, n4, c2, t2, B2, m2, d2, rfl, ⟨⟨?_, ?_⟩, ⟨?_, ?_⟩⟩, b3 _ (ext.trans hx1) (by omega)⟩
  · exact b2 _ _ _ _ _ _ h1.low.num
  · exact b2 _ _ _ _ _ _ h1.low.den
  · exact b2 _ _ _ _ _ _ h1.high.num
  · exact b2 _ _ _ _ _ _ h1.high.den
end
end Go.Proofs.YtoabhnofppledaaGreatDoor
namespace Go.Proofs.YtoabhnofppledaaGreatDoor
open Go.RowKit
attribute [local go_sem ↓] Go.wp_at_zero Go.wp_at_succ
section
variable {w w' : World} {q p lo hi lo' hi' x : Rat} {L M : Nat} {s t s' t' sx tx u v u' v' : Bool} {A B A' B' Ax Bx C D C' D' : Option Addr} {n c m d n' c' m' d' nx cx mx dx i j k l i' j' k' l' : Nat} {qs : List Rat}
set_option maxHeartbeats 4000000 in
theorem p_DivV_0 (h : IV w lo hi L s A n c t B m d s' A' n' c' t' B' m' d') (h' : IV w lo' hi' M u C i j v D k l u' C' i' j' v' D' k' l') (hM : M ≤ 20) (hin : inB lo' hi' ((0 : Int) : Rat) = true) : Calls Tryz.prog 24 #[.agg #[.bool s, .slice A n c, .bool t, .slice B m d, .bool s', .slice A' n' c', .bool t', .slice B' m' d'], .agg #[.bool u, .slice C i j, .bool v, .slice D k l, .bool u', .slice C' i' j', .bool v', .slice D' k' l']] w fun e w' => e = .returned (.tuple #[.agg #[.bool false, .slice none 0 0, .bool false, .slice none 0 0, .bool false, .slice none 0 0, .bool false, .slice none 0 0], .int .i64 6]) ∧ Ext w w' := by
  go_enter Tryz.func24, Tryz.ntmps24
  go_upto_region 1 with (fail)
  obtain ⟨W, hW, ext, bx, by_, bz, hz⟩ := box3 w 28 28 28 #[.bool s, .slice A n c, .bool t, .slice B m d, .bool s', .slice A' n' c', .bool t', .slice B' m' d'] #[.bool u, .slice C i j, .bool v, .slice D k l, .bool u', .slice C' i' j', .bool v', .slice D' k' l'] #[Value.bool false, Value.slice none 0 0, Value.bool false, Value.slice none 0 0, Value.bool false, Value.slice none 0 0, Value.bool false, Value.slice none 0 0]
  rw [← hW]
  clear hW hz
  have ha := h.ext ext
  have hb := h'.ext ext
  have Hin := Lib.hid hin
  clear hin
  have ES0 := Ext.refl W
  refine wp_region_held_drew (S := Ext W) (by kernel_rfl) ES0.drew (fun ES => ?_)
  clear ES0
  refine Late.start0 (fun _ _ _ _ _ => ⟨fun h => h, fun h => h⟩) ES (fun hAl hQ => ?_)
  refine Late.take (i := 0) (d := some 6) (v := ?v0_49) rfl rfl (by kernel_rfl) (by kernel_rfl) (by kernel_rfl) (by kernel_rfl) hQ (Or.inl ⟨by rfl, ?y0_49⟩) ?r0_49
  case y0_49 =>
    intro w' hSw
    have k00 := (by_.ext hSw).c8
    go_simp
    try with_reducible rfl
  try simp only [Act.put]
  try simp only [List.setIfInBounds_toArray]
  try simp only [List.set_cons_succ]
  try simp only [List.set_cons_zero]
  refine Late.call (i := 1) rfl (by kernel_rfl) hAl (by kernel_rfl) (by kernel_rfl) (by kernel_rfl) hQ (fun w1 e1 E1 K hK => ?_)
  go_simp
  (go_at_call 61; refine (p_FromIntR 0 (by omega) (by omega)).mono ?_; rintro e wk1 ⟨sz, Az, nz, cz, tz, Bz, mz, dz, rfl, rz, hx1⟩)
  refine hK.out _ _ hx1 ?_
  clear hK K
  try simp only [Act.put]
  try simp only [List.setIfInBounds_toArray]
  try simp only [List.set_cons_succ]
  try simp only [List.set_cons_zero]
  refine Late.call (i := 2) rfl (by kernel_rfl) hAl (by kernel_rfl) (by kernel_rfl) (by kernel_rfl) hQ (fun w2 e2 E2 K hK => ?_)
  go_simp
  (replace rz := rz.ext e2; go_at_call 38; refine (p_Contains (hb.ext E2) rz (by omega) (by omega)).mono ?_; rintro e wk2 ⟨rfl, hx2⟩; replace rz := rz.ext hx2; rw [Hin.out])
  refine hK.out _ _ hx2 ?_
  clear hK K
  try simp only [Act.put]
  try simp only [List.setIfInBounds_toArray]
  try simp only [List.set_cons_succ]
  try simp only [List.set_cons_zero]
  refine Late.done0 (by kernel_rfl) (fun wz ez Ez => ?_)
  clear hAl hQ ES
  replace bx := bx.ext Ez
  replace by_ := by_.ext Ez
  replace bz := bz.ext Ez
  replace ha := ha.ext Ez
  replace hb := hb.ext Ez
  replace ext := ext.trans Ez
  clear Ez ez rz
  have hx1 := Ext.refl wz
  have z0 := (bz.ext hx1).cell 0 _ rfl
  have f0 := (bz.ext hx1).frozen 0
  have z1 := (bz.ext hx1).cell 1 _ rfl
  have f1 := (bz.ext hx1).frozen 1
  have z2 := (bz.ext hx1).cell 2 _ rfl
  have f2 := (bz.ext hx1).frozen 2
  have z3 := (bz.ext hx1).cell 3 _ rfl
  have f3 := (bz.ext hx1).frozen 3
  have z4 := (bz.ext hx1).cell 4 _ rfl
  have f4 := (bz.ext hx1).frozen 4
  have z5 := (bz.ext hx1).cell 5 _ rfl
  have f5 := (bz.ext hx1).frozen 5
  have z6 := (bz.ext hx1).cell 6 _ rfl
  have f6 := (bz.ext hx1).frozen 6
  have z7 := (bz.ext hx1).cell 7 _ rfl
  have f7 := (bz.ext hx1).frozen 7
  go_wp2_with fail
  obtain ⟨b1, b2, b3, b4⟩ := fin_oct (v0 := (.bool false)) (v1 := (.slice none 0 0)) (v2 := (.bool false)) (v3 := (.slice none 0 0)) (v4 := (.bool false)) (v5 := (.slice none 0 0)) (v6 := (.bool false)) (v7 := (.slice none 0 0)) (bz.ext hx1)
  have r0 := b1.cell 0 (.bool false) rfl
  have r1 := b1.cell 1 (.slice none 0 0) rfl
  have r2 := b1.cell 2 (.bool false) rfl
  have r3 := b1.cell 3 (.slice none 0 0) rfl
  have r4 := b1.cell 4 (.bool false) rfl
  have r5 := b1.cell 5 (.slice none 0 0) rfl
  have r6 := b1.cell 6 (.bool false) rfl
  have r7 := b1.cell 7 (.slice none 0 0) rfl
  unfold set8 at r0 r1 r2 r3 r4 r5 r6 r7
  refine bodyPost_ret (v := .tuple #[.agg #[.bool false, .slice none 0 0, .bool false, .slice none 0 0, .bool false, .slice none 0 0, .bool false, .slice none 0 0], .int .i64 6]) (by simp [results, Tryz.results24, go_sem, r0, r1, r2, r3, r4, r5, r6, r7]) rfl ⟨rfl, b3 _ (ext.trans hx1) (by omega)⟩
end
end Go.Proofs.YtoabhnofppledaaGreatDoor
namespace Go.Proofs.YtoabhnofppledaaGreatDoor
open Go.RowKit
attribute [local go_sem ↓] Go.wp_at_zero Go.wp_at_succ
def few10 (n m : Nat) (s : Bool) (xs : List Nat) (t : Bool) (ys : List Nat) : Bool := decide (n ≤ 10) && (decide (m ≤ 10) && validQ s xs t ys)
/-- an interval with ends of at most ten words. -/
def fewV (n m n' m' : Nat) (s : Bool) (xs : List Nat) (t : Bool) (ys : List Nat) (s' : Bool) (xs' : List Nat) (t' : Bool) (ys' : List Nat) : Bool :=
  few10 n m s xs t ys && (few10 n' m' s' xs' t' ys' && validV s xs t ys s' xs' t' ys')
theorem few10_le {n m : Nat} {s : Bool} {xs : List Nat} {t : Bool} {ys : List Nat} (h : few10 n m s xs t ys = true) : n ≤ 10 ∧ m ≤ 10 ∧ validQ s xs t ys = true := by
  unfold few10 at h
  simp only [Bool.and_eq_true, decide_eq_true_eq] at h
  exact ⟨h.1, h.2.1, h.2.2⟩
theorem few_iv {w : World} {s t s' t' : Bool} {A B A' B' : Option Addr} {n c m d n' c' m' d' : Nat} {xs ys xs' ys' : List Nat} (h : RI w A n c xs) (k : RI w B m d ys) (h' : RI w A' n' c' xs') (k' : RI w B' m' d' ys') (hf : fewV n m n' m' s xs t ys s' xs' t' ys' = true) :
    IV w (rawQ s xs t ys) (rawQ s' xs' t' ys') 10 s A n c t B m d s' A' n' c' t' B' m' d' ∧ rawQ s xs t ys ≤ rawQ s' xs' t' ys' := by
  unfold fewV validV at hf
  simp only [Bool.and_eq_true, decide_eq_true_eq] at hf
  obtain ⟨f1, f2, f3, f4, f5⟩ := hf
  obtain ⟨a1, a2, a3⟩ := few10_le f1
  obtain ⟨b1, b2, b3⟩ := few10_le f2
  exact ⟨⟨NR.of_raw' h k a3 a1 a2, NR.of_raw' h' k' b3 b1 b2⟩, f5⟩
section
variable {w w' : World} {L M : Nat} {s t s' t' : Bool} {A B A' B' : Option Addr} {n c m d n' c' m' d' : Nat} {xs ys xs' ys' : List Nat}
set_option maxHeartbeats 4000000 in
theorem q_Few10 (h : RI w A n c xs) (k : RI w B m d ys) : Calls Tryz.prog 34 #[.agg #[.bool s, .slice A n c, .bool t, .slice B m d], .int .i64 10] w fun e w' => e = .returned (.bool (few10 n m s xs t ys)) ∧ Ext w w' := by
  by_cases h1 : n ≤ 10
  · have d1 : decide ((n : Int) ≤ (10 : Int)) = true := decide_eq_true (by omega)
    by_cases h2 : m ≤ 10
    · have d2 : decide ((m : Int) ≤ (10 : Int)) = true := decide_eq_true (by omega)
      have hf : few10 n m s xs t ys = validQ s xs t ys := by unfold few10; rw [decide_eq_true h1, decide_eq_true h2]; rfl
      rw [hf]
      clear hf
      go_enter Tryz.func34, Tryz.ntmps34
      go_upto_region 1 with (fail)
      obtain ⟨W, hW, extW, bx, hz⟩ := box1 w 26 #[.bool s, .slice A n c, .bool t, .slice B m d]
      rw [← hW]
      clear hW
      replace h := h.ext extW
      replace k := k.ext extW
      have x0 := bx.cell 0 (.bool s) rfl
      have x1 := bx.cell 1 (.slice A n c) rfl
      have x2 := bx.cell 2 (.bool t) rfl
      have x3 := bx.cell 3 (.slice B m d) rfl
      go_wp2_with fail
      refine (q_ValidRaw h k (by omega) (by omega)).mono ?_
      rintro e wd ⟨rfl, hxd⟩
      go_wp2_with fail
      go_ret
      exact ⟨rfl, extW.trans hxd⟩
    · have d2 : decide ((m : Int) ≤ (10 : Int)) = false := decide_eq_false (by omega)
      have hf : few10 n m s xs t ys = false := by unfold few10; rw [decide_eq_true h1, decide_eq_false h2]; rfl
      rw [hf]
      clear hf
      go_enter Tryz.func34, Tryz.ntmps34
      go_upto_region 1 with (fail)
      obtain ⟨W, hW, extW, bx, hz⟩ := box1 w 26 #[.bool s, .slice A n c, .bool t, .slice B m d]
      rw [← hW]
      clear hW
      replace h := h.ext extW
      replace k := k.ext extW
      have x0 := bx.cell 0 (.bool s) rfl
      have x1 := bx.cell 1 (.slice A n c) rfl
      have x2 := bx.cell 2 (.bool t) rfl
      have x3 := bx.cell 3 (.slice B m d) rfl
      go_wp2_with fail
      go_ret
      exact ⟨rfl, extW⟩
  · have d1 : decide ((n : Int) ≤ (10 : Int)) = false := decide_eq_false (by omega)
    have hf : few10 n m s xs t ys = false := by unfold few10; rw [decide_eq_false h1]; rfl
    rw [hf]
    clear hf
    go_enter Tryz.func34, Tryz.ntmps34
    go_upto_region 1 with (fail)
    obtain ⟨W, hW, extW, bx, hz⟩ := box1 w 26 #[.bool s, .slice A n c, .bool t, .slice B m d]
    rw [← hW]
    clear hW
    replace h := h.ext extW
    replace k := k.ext extW
    have x0 := bx.cell 0 (.bool s) rfl
    have x1 := bx.cell 1 (.slice A n c) rfl
    have x2 := bx.cell 2 (.bool t) rfl
    have x3 := bx.cell 3 (.slice B m d) rfl
    go_wp2_with fail
    go_ret
    exact ⟨rfl, extW⟩
set_option maxHeartbeats 4000000 in
theorem q_FewV (h : RI w A n c xs) (k : RI w B m d ys) (h' : RI w A' n' c' xs') (k' : RI w B' m' d' ys') : Calls Tryz.prog 54 #[.agg #[.bool s, .slice A n c, .bool t, .slice B m d, .bool s', .slice A' n' c', .bool t', .slice B' m' d'], .int .i64 10] w fun e w' => e = .returned (.bool (fewV n m n' m' s xs t ys s' xs' t' ys')) ∧ Ext w w' := by
  obtain ⟨r, hr⟩ : ∃ r, fewV n m n' m' s xs t ys s' xs' t' ys' = r := ⟨_, rfl⟩
  have HR := Lib.hid hr
  rw [hr]
  clear hr
  go_enter Tryz.func54, Tryz.ntmps54
  go_upto_region 1 with (fail)
  obtain ⟨W, hW, ext, bx, hz⟩ := box1 w 28 #[.bool s, .slice A n c, .bool t, .slice B m d, .bool s', .slice A' n' c', .bool t', .slice B' m' d']
  rw [← hW]
  clear hW hz
  have k0 := bx.cell 0 (.bool s) rfl
  have k1 := bx.cell 1 (.slice A n c) rfl
  have k2 := bx.cell 2 (.bool t) rfl
  have k3 := bx.cell 3 (.slice B m d) rfl
  have k4 := bx.cell 4 (.bool s') rfl
  have k5 := bx.cell 5 (.slice A' n' c') rfl
  have k6 := bx.cell 6 (.bool t') rfl
  have k7 := bx.cell 7 (.slice B' m' d') rfl
  cases hv : few10 n m s xs t ys with
  | false =>
    have HV := Lib.hid hv
    clear hv
    go_wp2_with fail
    refine (q_Few10 (h.ext ext) (k.ext ext)).mono ?_
    rintro e V ⟨rfl, hxc⟩
    rw [HV.out]
    go_wp2_with fail
    go_ret
    refine ⟨?_, ext.trans hxc⟩
    rw [← HR.out, fewV, HV.out]; rfl
  | true =>
    have hb1 := few10_le hv
    have HV := Lib.hid hv
    clear hv
    go_wp2_with fail
    refine (q_Few10 (h.ext ext) (k.ext ext)).mono ?_
    rintro e V ⟨rfl, hxc⟩
    rw [HV.out]
    replace bx := bx.ext hxc
    replace ext := ext.trans hxc
    clear hxc k0 k1 k2 k3 k4 k5 k6 k7
    have k0 := bx.cell 0 (.bool s) rfl
    have k1 := bx.cell 1 (.slice A n c) rfl
    have k2 := bx.cell 2 (.bool t) rfl
    have k3 := bx.cell 3 (.slice B m d) rfl
    have k4 := bx.cell 4 (.bool s') rfl
    have k5 := bx.cell 5 (.slice A' n' c') rfl
    have k6 := bx.cell 6 (.bool t') rfl
    have k7 := bx.cell 7 (.slice B' m' d') rfl
    cases hv' : few10 n' m' s' xs' t' ys' with
    | false =>
      have HV' := Lib.hid hv'
      clear hv'
      have HB := Lib.hid hb1
      clear hb1
      go_wp2_with fail
      refine (q_Few10 (h'.ext ext) (k'.ext ext)).mono ?_
      rintro e V2 ⟨rfl, hxc⟩
      rw [HV'.out]
      go_wp2_with fail
      go_ret
      refine ⟨?_, ext.trans hxc⟩
      rw [← HR.out, fewV, HV.out, HV'.out]; rfl
    | true =>
      have hb2 := few10_le hv'
      have HV' := Lib.hid hv'
      clear hv'
      have HB := Lib.hid (And.intro hb1 hb2)
      clear hb1 hb2
      go_wp2_with fail
      refine (q_Few10 (h'.ext ext) (k'.ext ext)).mono ?_
      rintro e V2 ⟨rfl, hxc⟩
      rw [HV'.out]
      replace bx := bx.ext hxc
      replace ext := ext.trans hxc
      clear hxc k0 k1 k2 k3 k4 k5 k6 k7
      have k0 := bx.cell 0 (.bool s) rfl
      have k1 := bx.cell 1 (.slice A n c) rfl
      have k2 := bx.cell 2 (.bool t) rfl
      have k3 := bx.cell 3 (.slice B m d) rfl
      have k4 := bx.cell 4 (.bool s') rfl
      have k5 := bx.cell 5 (.slice A' n' c') rfl
      have k6 := bx.cell 6 (.bool t') rfl
      have k7 := bx.cell 7 (.slice B' m' d') rfl
      go_wp2_with fail
      refine (q_ValidV (h.ext ext) (k.ext ext) (h'.ext ext) (k'.ext ext) (by have := HB.out; omega) (by have := HB.out; omega) (by have := HB.out; omega) (by have := HB.out; omega)).mono ?_
      rintro e V3 ⟨rfl, hxc⟩
      go_wp2_with fail
      go_ret
      refine ⟨?_, ext.trans hxc⟩
      rw [← HR.out, fewV, HV.out, HV'.out]; rfl
end
end Go.Proofs.YtoabhnofppledaaGreatDoor
namespace Go.Proofs.YtoabhnofppledaaGreatDoor
open Go.RowKit
attribute [local go_sem ↓] Go.wp_at_zero Go.wp_at_succ
set_option maxHeartbeats 8000000 in
theorem fewI2 {w : World} {g : Nat} {sa1 ta1 sa2 ta2 : Bool} {Aa1 Ba1 Aa2 Ba2 : Option Addr} {na1 ca1 ma1 da1 na2 ca2 ma2 da2 : Nat} {xa1 ya1 xa2 ya2 : List Nat} {sb1 tb1 sb2 tb2 : Bool} {Ab1 Bb1 Ab2 Bb2 : Option Addr} {nb1 cb1 mb1 db1 nb2 cb2 mb2 db2 : Nat} {xb1 yb1 xb2 yb2 : List Nat} (hbox : Box w g 28 #[.bool sa1, .slice Aa1 na1 ca1, .bool ta1, .slice Ba1 ma1 da1, .bool sa2, .slice Aa2 na2 ca2, .bool ta2, .slice Ba2 ma2 da2, .bool sb1, .slice Ab1 nb1 cb1, .bool tb1, .slice Bb1 mb1 db1, .bool sb2, .slice Ab2 nb2 cb2, .bool tb2, .slice Bb2 mb2 db2]) (ha : RawV w Aa1 na1 ca1 xa1 Ba1 ma1 da1 ya1 Aa2 na2 ca2 xa2 Ba2 ma2 da2 ya2) (hb : RawV w Ab1 nb1 cb1 xb1 Bb1 mb1 db1 yb1 Ab2 nb2 cb2 xb2 Bb2 mb2 db2 yb2) :
    Calls Tryz.prog 15 #[.slice (some ⟨g, 0, none⟩) 2 2] w fun e w' => e = .returned (.bool (fewV na1 ma1 na2 ma2 sa1 xa1 ta1 ya1 sa2 xa2 ta2 ya2 && (fewV nb1 mb1 nb2 mb2 sb1 xb1 tb1 yb1 sb2 xb2 tb2 yb2))) ∧ Ext w w' := by
  go_enter Tryz.func15, Tryz.ntmps15
  go_wp2_with fail
  go_loopw [7] (fun i wr => ∃ k : Nat, k ≤ 2 ∧ i = .int .i64 (k : Int) ∧ Ext w wr ∧ ((0 < k → fewV na1 ma1 na2 ma2 sa1 xa1 ta1 ya1 sa2 xa2 ta2 ya2 = true) ∧ (1 < k → fewV nb1 mb1 nb2 mb2 sb1 xb1 tb1 yb1 sb2 xb2 tb2 yb2 = true))) (fun i _ => 2 - (intOf i).toNat)
  case atStart => exact ⟨0, by omega, rfl, Ext.refl _, by simp⟩
  case round =>
    obtain ⟨k, hk, rfl, hext, hall⟩ := hrel
    have HA := Lib.hid hall
    clear hall
    have c0 := (hbox.ext hext).cell 0 (.bool sa1) rfl
    have c1 := (hbox.ext hext).cell 1 (.slice Aa1 na1 ca1) rfl
    have c2 := (hbox.ext hext).cell 2 (.bool ta1) rfl
    have c3 := (hbox.ext hext).cell 3 (.slice Ba1 ma1 da1) rfl
    have c4 := (hbox.ext hext).cell 4 (.bool sa2) rfl
    have c5 := (hbox.ext hext).cell 5 (.slice Aa2 na2 ca2) rfl
    have c6 := (hbox.ext hext).cell 6 (.bool ta2) rfl
    have c7 := (hbox.ext hext).cell 7 (.slice Ba2 ma2 da2) rfl
    have c8 := (hbox.ext hext).cell 8 (.bool sb1) rfl
    have c9 := (hbox.ext hext).cell 9 (.slice Ab1 nb1 cb1) rfl
    have c10 := (hbox.ext hext).cell 10 (.bool tb1) rfl
    have c11 := (hbox.ext hext).cell 11 (.slice Bb1 mb1 db1) rfl
    have c12 := (hbox.ext hext).cell 12 (.bool sb2) rfl
    have c13 := (hbox.ext hext).cell 13 (.slice Ab2 nb2 cb2) rfl
    have c14 := (hbox.ext hext).cell 14 (.bool tb2) rfl
    have c15 := (hbox.ext hext).cell 15 (.slice Bb2 mb2 db2) rfl
    have hk2 : k = 0 ∨ k = 1 ∨ k = 2 := by omega
    rcases hk2 with rfl | rfl | rfl
    · go_wp2_with (fail)
      refine (q_FewV (ha.ext (hext.alloc _)).1 (ha.ext (hext.alloc _)).2.1 (ha.ext (hext.alloc _)).2.2.1 (ha.ext (hext.alloc _)).2.2.2).mono ?_
      rintro e V ⟨rfl, hxv⟩
      replace hext := (hext.alloc _).trans hxv
      cases hf : fewV na1 ma1 na2 ma2 sa1 xa1 ta1 ya1 sa2 xa2 ta2 ya2 with
      | true =>
        have HF := Lib.hid hf
        clear hf
        go_wp2_with fail
        go_roundw
        case rel => exact ⟨1, by omega, rfl, hext, by have := HA.out; simp [HF.out] at this ⊢; try exact this⟩
        case measure => simp [intOf]
      | false =>
        have HF := Lib.hid hf
        clear hf
        go_wp2_with fail
        go_ret
        exact ⟨by have := HA.out; simp [HF.out] at this ⊢, hext⟩
    · go_wp2_with (fail)
      refine (q_FewV (hb.ext (hext.alloc _)).1 (hb.ext (hext.alloc _)).2.1 (hb.ext (hext.alloc _)).2.2.1 (hb.ext (hext.alloc _)).2.2.2).mono ?_
      rintro e V ⟨rfl, hxv⟩
      replace hext := (hext.alloc _).trans hxv
      cases hf : fewV nb1 mb1 nb2 mb2 sb1 xb1 tb1 yb1 sb2 xb2 tb2 yb2 with
      | true =>
        have HF := Lib.hid hf
        clear hf
        go_wp2_with fail
        go_roundw
        case rel => exact ⟨2, by omega, rfl, hext, by have := HA.out; simp [HF.out] at this ⊢; try exact this⟩
        case measure => simp [intOf]
      | false =>
        have HF := Lib.hid hf
        clear hf
        go_wp2_with fail
        go_ret
        exact ⟨by have := HA.out; simp [HF.out] at this ⊢, hext⟩
    · go_wp2_with fail
      go_ret
      exact ⟨by have := HA.out; simp at this; simp [this], hext⟩
end Go.Proofs.YtoabhnofppledaaGreatDoor
namespace Go.Proofs.YtoabhnofppledaaGreatDoor
theorem mem_ends {lo hi x : Rat} : x ∈ endsOf lo hi ↔ x = lo ∨ x = hi := by
  unfold endsOf
  split
  · rename_i h; subst h; simp
  · simp
theorem mem_prods {F : Rat → Rat → Rat} {l l' : List Rat} {z : Rat} : z ∈ prods F l l' ↔ ∃ x ∈ l, ∃ y ∈ l', F x y = z := by
  unfold prods
  rw [List.mem_flatMap]
  constructor
  · rintro ⟨x, hx, h⟩
    obtain ⟨y, hy, e⟩ := List.mem_map.1 h
    exact ⟨x, hx, y, hy, e⟩
  · rintro ⟨x, hx, y, hy, e⟩
    exact ⟨x, hx, List.mem_map.2 ⟨y, hy, e⟩⟩
theorem prods_four (F : Rat → Rat → Rat) (lo hi lo' hi' z : Rat) : z ∈ prods F (endsOf lo hi) (endsOf lo' hi') ↔ z ∈ [F lo lo', F lo hi', F hi lo', F hi hi'] := by
  rw [mem_prods]
  simp only [List.mem_cons, List.not_mem_nil, or_false, mem_ends]
  constructor
  · rintro ⟨x, rfl | rfl, y, rfl | rfl, rfl⟩ <;> simp
  · rintro (rfl | rfl | rfl | rfl)
    · exact ⟨lo, .inl rfl, lo', .inl rfl, rfl⟩
    · exact ⟨lo, .inl rfl, hi', .inr rfl, rfl⟩
    · exact ⟨hi, .inr rfl, lo', .inl rfl, rfl⟩
    · exact ⟨hi, .inr rfl, hi', .inr rfl, rfl⟩
/-- the results for the four pairs of ends lie from l to h. -/
def Four (F : Rat → Rat → Rat) (lo hi lo' hi' l h : Rat) : Prop := (l ≤ F lo lo' ∧ F lo lo' ≤ h) ∧ (l ≤ F lo hi' ∧ F lo hi' ≤ h) ∧ (l ≤ F hi lo' ∧ F hi lo' ≤ h) ∧ (l ≤ F hi hi' ∧ F hi hi' ≤ h)
theorem IsHull.four {F : Rat → Rat → Rat} {lo hi lo' hi' l h : Rat} (hu : IsHull l h (prods F (endsOf lo hi) (endsOf lo' hi'))) : Four F lo hi lo' hi' l h := by
  obtain ⟨_, _, h3⟩ := hu
  exact ⟨h3 _ ((prods_four F lo hi lo' hi' _).2 (by simp)), h3 _ ((prods_four F lo hi lo' hi' _).2 (by simp)), h3 _ ((prods_four F lo hi lo' hi' _).2 (by simp)), h3 _ ((prods_four F lo hi lo' hi' _).2 (by simp))⟩
theorem rat_add_le {a b c d : Rat} (h1 : a ≤ b) (h2 : c ≤ d) : a + c ≤ b + d := Rat.le_trans (Rat.add_le_add_right.2 h1) (Rat.add_le_add_left.2 h2)
theorem rat_lt_le {a b c : Rat} (h1 : a < b) (h2 : b ≤ c) : a < c := Rat.not_le.1 fun h => Rat.not_le.2 h1 (Rat.le_trans h2 h)
theorem rat_le_lt {a b c : Rat} (h1 : a ≤ b) (h2 : b < c) : a < c := Rat.not_le.1 fun h => Rat.not_le.2 h2 (Rat.le_trans h h1)
theorem rat_neg_inv {a : Rat} (ha : a ≠ 0) : (-a)⁻¹ = -a⁻¹ := by
  have hn : -a ≠ 0 := fun h => ha (by rw [← Rat.neg_neg a, h, Rat.neg_zero])
  have h1 : -a * -a⁻¹ = 1 := by rw [Rat.neg_mul, Rat.mul_neg, Rat.neg_neg, Rat.mul_inv_cancel a ha]
  calc (-a)⁻¹ = (-a)⁻¹ * (-a * -a⁻¹) := by rw [h1, Rat.mul_one]
    _ = -a⁻¹ := by rw [← Rat.mul_assoc, Rat.inv_mul_cancel _ hn, Rat.one_mul]
theorem add_four {lo hi lo' hi' l h x y : Rat} (k : Four (fun x y => x + y) lo hi lo' hi' l h) (h1 : lo ≤ x) (h2 : x ≤ hi) (h3 : lo' ≤ y) (h4 : y ≤ hi') : l ≤ x + y ∧ x + y ≤ h :=
  ⟨Rat.le_trans k.1.1 (rat_add_le h1 h3), Rat.le_trans (rat_add_le h2 h4) k.2.2.2.2⟩
theorem sub_four {lo hi lo' hi' l h x y : Rat} (k : Four (fun x y => x - y) lo hi lo' hi' l h) (h1 : lo ≤ x) (h2 : x ≤ hi) (h3 : lo' ≤ y) (h4 : y ≤ hi') : l ≤ x - y ∧ x - y ≤ h := by
  have a : ∀ {a b c d : Rat}, a ≤ b → d ≤ c → a - c ≤ b - d := fun h1 h2 => by
    rw [Rat.sub_eq_add_neg, Rat.sub_eq_add_neg]; exact rat_add_le h1 (Rat.neg_le_neg h2)
  exact ⟨Rat.le_trans k.2.1.1 (a h1 h4), Rat.le_trans (a h2 h3) k.2.2.1.2⟩
theorem lin {a u v t l h : Rat} (h1 : u ≤ t) (h2 : t ≤ v) (hu : l ≤ a * u ∧ a * u ≤ h) (hv : l ≤ a * v ∧ a * v ≤ h) : l ≤ a * t ∧ a * t ≤ h := by
  rcases Rat.le_total (a := 0) (b := a) with ha | ha
  · exact ⟨Rat.le_trans hu.1 (Rat.mul_le_mul_of_nonneg_left h1 ha), Rat.le_trans (Rat.mul_le_mul_of_nonneg_left h2 ha) hv.2⟩
  · have hn : 0 ≤ -a := by have := Rat.neg_le_neg ha; rwa [Rat.neg_zero] at this
    have e : ∀ {p q : Rat}, p ≤ q → a * q ≤ a * p := fun {p q} h => by
      have := Rat.mul_le_mul_of_nonneg_left h hn
      rw [Rat.neg_mul, Rat.neg_mul] at this
      have := Rat.neg_le_neg this
      rwa [Rat.neg_neg, Rat.neg_neg] at this
    exact ⟨Rat.le_trans hv.1 (e h2), Rat.le_trans (e h1) hu.2⟩
theorem lin' {a u v t l h : Rat} (h1 : u ≤ t) (h2 : t ≤ v) (hu : l ≤ u * a ∧ u * a ≤ h) (hv : l ≤ v * a ∧ v * a ≤ h) : l ≤ t * a ∧ t * a ≤ h := by
  rw [Rat.mul_comm] at hu hv ⊢
  exact lin h1 h2 hu hv
theorem mul_four {lo hi lo' hi' l h x y : Rat} (k : Four (fun x y => x * y) lo hi lo' hi' l h) (h1 : lo ≤ x) (h2 : x ≤ hi) (h3 : lo' ≤ y) (h4 : y ≤ hi') : l ≤ x * y ∧ x * y ≤ h :=
  lin' h1 h2 (lin h3 h4 k.1 k.2.1) (lin h3 h4 k.2.2.1 k.2.2.2)
theorem inv_pos_le {a b : Rat} (ha : 0 < a) (h : a ≤ b) : b⁻¹ ≤ a⁻¹ := by
  have hb : 0 < b := rat_lt_le ha h
  have ha' : 0 ≤ a⁻¹ := Rat.le_of_lt (Rat.inv_pos.2 ha)
  have hb' : 0 ≤ b⁻¹ := Rat.le_of_lt (Rat.inv_pos.2 hb)
  have h1 := Rat.mul_le_mul_of_nonneg_right (Rat.mul_le_mul_of_nonneg_right h ha') hb'
  rw [Rat.mul_inv_cancel a (Rat.ne_of_gt ha), Rat.one_mul, Rat.mul_assoc, Rat.mul_comm a⁻¹, ← Rat.mul_assoc, Rat.mul_inv_cancel b (Rat.ne_of_gt hb), Rat.one_mul] at h1
  exact h1
theorem inv_neg_le {a b : Rat} (hb : b < 0) (h : a ≤ b) : b⁻¹ ≤ a⁻¹ := by
  have h1 : 0 < -b := by have := Rat.neg_lt_neg hb; rwa [Rat.neg_zero] at this
  have h2 := inv_pos_le h1 (Rat.neg_le_neg h)
  have ha : a < 0 := rat_le_lt h hb
  rw [rat_neg_inv (Rat.ne_of_lt ha), rat_neg_inv (Rat.ne_of_lt hb)] at h2
  have := Rat.neg_le_neg h2
  rwa [Rat.neg_neg, Rat.neg_neg] at this
theorem inv_between {lo hi y : Rat} (hin : inB lo hi ((0 : Int) : Rat) = false) (h3 : lo ≤ y) (h4 : y ≤ hi) : hi⁻¹ ≤ y⁻¹ ∧ y⁻¹ ≤ lo⁻¹ ∧ y ≠ 0 := by
  have h0 : ((0 : Int) : Rat) = 0 := rfl
  rw [h0] at hin
  unfold inB at hin
  by_cases hl : lo ≤ 0
  · have hh : hi < 0 := by
      rw [decide_eq_true hl, Bool.true_and, decide_eq_false_iff_not] at hin
      exact Rat.not_le.1 hin
    have hy : y < 0 := rat_le_lt h4 hh
    exact ⟨inv_neg_le hh h4, inv_neg_le hy h3, Rat.ne_of_lt hy⟩
  · have hl' : 0 < lo := Rat.not_le.1 hl
    have hy : 0 < y := rat_lt_le hl' h3
    exact ⟨inv_pos_le hy h4, inv_pos_le hl' h3, Rat.ne_of_gt hy⟩
theorem div_four {lo hi lo' hi' l h x y : Rat} (k : Four (fun x y => x / y) lo hi lo' hi' l h) (hin : inB lo' hi' ((0 : Int) : Rat) = false) (h1 : lo ≤ x) (h2 : x ≤ hi) (h3 : lo' ≤ y) (h4 : y ≤ hi') : l ≤ x / y ∧ x / y ≤ h := by
  obtain ⟨i1, i2, _⟩ := inv_between hin h3 h4
  unfold Four at k
  simp only [Rat.div_def] at k ⊢
  exact lin' h1 h2 (lin i1 i2 k.2.1 k.1) (lin i1 i2 k.2.2.2 k.2.2.1)
theorem mkQ_cross {z u : Int} (hu : 0 < u) : (mkQ z u).num * u = z * ((mkQ z u).den : Int) := by
  unfold mkQ
  rw [if_neg (by omega)]
  have h := (Rat.mkRat_eq_iff (n₁ := (mkRat z u.natAbs).num) (n₂ := z) (mkRat z u.natAbs).den_nz (show u.natAbs ≠ 0 by omega)).1 (Rat.mkRat_self _)
  have e : ((u.natAbs : Nat) : Int) = u := by omega
  rw [e] at h
  exact h
theorem mkQ_le {z u : Int} {q : Rat} (hu : 0 < u) : mkQ z u ≤ q ↔ z * (q.den : Int) ≤ q.num * u := by
  have c := mkQ_cross (z := z) hu
  have hd := denI (mkQ z u)
  rw [Rat.le_iff]
  have e1 : (mkQ z u).num * (q.den : Int) * u = z * (q.den : Int) * ((mkQ z u).den : Int) := by rw [Int.mul_right_comm, c, Int.mul_right_comm]
  have e2 : q.num * ((mkQ z u).den : Int) * u = q.num * u * ((mkQ z u).den : Int) := Int.mul_right_comm _ _ _
  constructor
  · intro h
    have h' := mul_le_in hu h
    rw [e1, e2] at h'
    exact mul_le_out hd h'
  · intro h
    have h' := mul_le_in hd h
    rw [← e1, ← e2] at h'
    exact mul_le_out hu h'
theorem le_mkQ {z u : Int} {q : Rat} (hu : 0 < u) : q ≤ mkQ z u ↔ q.num * u ≤ z * (q.den : Int) := by
  have c := mkQ_cross (z := z) hu
  have hd := denI (mkQ z u)
  rw [Rat.le_iff]
  have e1 : (mkQ z u).num * (q.den : Int) * u = z * (q.den : Int) * ((mkQ z u).den : Int) := by rw [Int.mul_right_comm, c, Int.mul_right_comm]
  have e2 : q.num * ((mkQ z u).den : Int) * u = q.num * u * ((mkQ z u).den : Int) := Int.mul_right_comm _ _ _
  constructor
  · intro h
    have h' := mul_le_in hu h
    rw [e1, e2] at h'
    exact mul_le_out hd h'
  · intro h
    have h' := mul_le_in hd h
    rw [← e1, ← e2] at h'
    exact mul_le_out hu h'
theorem sq_le_out {a b : Int} (ha : 0 ≤ a) (h : a * a ≤ b * b) (hb : 0 ≤ b) : a ≤ b := by
  by_cases h1 : a ≤ b
  · exact h1
  · have h2 : b < a := by omega
    have h3 := Int.mul_le_mul_of_nonneg_left (Int.le_of_lt h2) hb
    have h4 := Int.mul_lt_mul_of_pos_right h2 (show 0 < a by omega)
    omega
theorem sq_cross (x : Rat) : (x * x).num * ((x.den : Int) * x.den) = x.num * x.num * ((x * x).den : Int) := by
  have h1 : x * x = mkRat (x.num * x.num) (x.den * x.den) := by rw [Rat.mul_def, Rat.normalize_eq_mkRat]
  have h2 : mkRat (x * x).num (x * x).den = mkRat (x.num * x.num) (x.den * x.den) := by rw [Rat.mkRat_self]; exact h1
  have := (Rat.mkRat_eq_iff (x * x).den_nz (Nat.mul_ne_zero x.den_nz x.den_nz)).1 h2
  rw [Int.natCast_mul] at this
  exact this
theorem enc_lo {x : Rat} {u r : Int} (hu : 0 < u) (hx : 0 ≤ x.num) (h : IsRl (x * x) (u * u) r) : mkQ r u ≤ x := by
  have c := sq_cross x
  have hD := denI (x * x)
  have hd := denI x
  have h1 := mul_le_in (Int.mul_pos hd hd) h.le
  have e1 : r * r * ((x * x).den : Int) * ((x.den : Int) * x.den) = r * x.den * (r * x.den) * ((x * x).den : Int) := by ac_rfl
  have e2 : (x * x).num * (u * u) * ((x.den : Int) * x.den) = x.num * u * (x.num * u) * ((x * x).den : Int) := by
    rw [Int.mul_right_comm, c]; ac_rfl
  rw [e1, e2] at h1
  exact (mkQ_le hu).2 (sq_le_out (Int.mul_nonneg h.pos (Int.le_of_lt hd)) (mul_le_out hD h1) (Int.mul_nonneg hx (Int.le_of_lt hu)))
theorem enc_hi {x : Rat} {u r : Int} (hu : 0 < u) (hx : 0 ≤ x.num) (h : IsRh (x * x) (u * u) r) : x ≤ mkQ r u := by
  have c := sq_cross x
  have hD := denI (x * x)
  have hd := denI x
  have h1 := mul_le_in (Int.mul_pos hd hd) h.le
  have e1 : r * r * ((x * x).den : Int) * ((x.den : Int) * x.den) = r * x.den * (r * x.den) * ((x * x).den : Int) := by ac_rfl
  have e2 : (x * x).num * (u * u) * ((x.den : Int) * x.den) = x.num * u * (x.num * u) * ((x * x).den : Int) := by
    rw [Int.mul_right_comm, c]; ac_rfl
  rw [e1, e2] at h1
  exact (le_mkQ hu).2 (sq_le_out (Int.mul_nonneg hx (Int.le_of_lt hu)) (mul_le_out hD h1) (Int.mul_nonneg h.pos (Int.le_of_lt hd)))
end Go.Proofs.YtoabhnofppledaaGreatDoor
namespace Go.Proofs.YtoabhnofppledaaGreatDoor
open Go.RowKit
attribute [local go_sem ↓] Go.wp_at_zero Go.wp_at_succ
theorem inB_true {l h z : Rat} (k : l ≤ z ∧ z ≤ h) : inB l h z = true := by
  unfold inB; rw [decide_eq_true k.1, decide_eq_true k.2]; rfl
theorem inB_out {l h z : Rat} (k : inB l h z = true) : l ≤ z ∧ z ≤ h := by
  unfold inB at k; simpa using k
theorem sq_num (x : Rat) : 0 ≤ (x * x).num := by
  have c := sq_cross x
  have hd := denI x
  have h1 : 0 ≤ x.num * x.num * ((x * x).den : Int) := Int.mul_nonneg (by
    rcases Int.le_total 0 x.num with h | h
    · exact Int.mul_nonneg h h
    · exact Int.mul_nonneg_of_nonpos_of_nonpos h h) (Int.le_of_lt (denI _))
  rw [← c] at h1
  exact mul_le_out (a := 0) (Int.mul_pos hd hd) (by rw [Int.zero_mul]; exact h1)
theorem enc_in {x : Rat} {r1 r2 : Int} (hx : 0 ≤ x.num) (h1 : IsRl (x * x) (4 ^ 20) r1) (h2 : IsRh (x * x) (4 ^ 20) r2) : inB (mkQ r1 (2 ^ 20)) (mkQ r2 (2 ^ 20)) x = true := by
  have e : (4 : Int) ^ 20 = 2 ^ 20 * 2 ^ 20 := by decide
  rw [e] at h1 h2
  exact inB_true ⟨enc_lo (pow_pos2 20) hx h1, enc_hi (pow_pos2 20) hx h2⟩
theorem neg_sq (x : Rat) : -x * -x = x * x := by rw [Rat.neg_mul, Rat.mul_neg, Rat.neg_neg]
theorem sq20_call {w : World} {x : Rat} {L : Nat} {s t s' t' : Bool} {A B A' B' : Option Addr} {n c m d n' c' m' d' : Nat} (h : IV w (x * x) (x * x) L s A n c t B m d s' A' n' c' t' B' m' d') (hL : L ≤ 20) (hn : 0 ≤ (x * x).num) (hT : Tab w) : Calls Tryz.prog 29 #[.agg #[.bool s, .slice A n c, .bool t, .slice B m d, .bool s', .slice A' n' c', .bool t', .slice B' m' d'], .int .i64 20] w (RetRt (x * x) (x * x) 20 (L + 17) w) := p_SqrtV (k := 20) h Rat.le_refl hL (by omega) hn hT
set_option maxHeartbeats 64000000 in
set_option maxRecDepth 100000 in
theorem encl3_any {w : World} {sa1 ta1 sa2 ta2 : Bool} {Aa1 Ba1 Aa2 Ba2 : Option Addr} {na1 ca1 ma1 da1 na2 ca2 ma2 da2 : Nat} {xa1 ya1 xa2 ya2 : List Nat} {sb1 tb1 sb2 tb2 : Bool} {Ab1 Bb1 Ab2 Bb2 : Option Addr} {nb1 cb1 mb1 db1 nb2 cb2 mb2 db2 : Nat} {xb1 yb1 xb2 yb2 : List Nat} {sl1 tl1 sl2 tl2 : Bool} {Al1 Bl1 Al2 Bl2 : Option Addr} {nl1 cl1 ml1 dl1 nl2 cl2 ml2 dl2 : Nat} {xl1 yl1 xl2 yl2 : List Nat} (hA : Awake3) (hT : Tab w) (hr0 : RawV w Aa1 na1 ca1 xa1 Ba1 ma1 da1 ya1 Aa2 na2 ca2 xa2 Ba2 ma2 da2 ya2) (hr1 : RawV w Ab1 nb1 cb1 xb1 Bb1 mb1 db1 yb1 Ab2 nb2 cb2 xb2 Bb2 mb2 db2 yb2) (hr2 : RawV w Al1 nl1 cl1 xl1 Bl1 ml1 dl1 yl1 Al2 nl2 cl2 xl2 Bl2 ml2 dl2 yl2) :
    Calls Tryz.prog 10 #[.agg #[.bool sa1, .slice Aa1 na1 ca1, .bool ta1, .slice Ba1 ma1 da1, .bool sa2, .slice Aa2 na2 ca2, .bool ta2, .slice Ba2 ma2 da2], .agg #[.bool sb1, .slice Ab1 nb1 cb1, .bool tb1, .slice Bb1 mb1 db1, .bool sb2, .slice Ab2 nb2 cb2, .bool tb2, .slice Bb2 mb2 db2], .agg #[.bool sl1, .slice Al1 nl1 cl1, .bool tl1, .slice Bl1 ml1 dl1, .bool sl2, .slice Al2 nl2 cl2, .bool tl2, .slice Bl2 ml2 dl2]] w fun e w' => e = .returned (.bool true) ∧ Ext w w' := by
  have HA := Lib.hid hA
  clear hA
  go_enter Tryz.func10, Tryz.ntmps10
  go_upto_region 1 with (fail)
  obtain ⟨W0, hW, extW, bx, by_, bz, hzz⟩ := box3 w 28 28 51 #[.bool sa1, .slice Aa1 na1 ca1, .bool ta1, .slice Ba1 ma1 da1, .bool sa2, .slice Aa2 na2 ca2, .bool ta2, .slice Ba2 ma2 da2] #[.bool sb1, .slice Ab1 nb1 cb1, .bool tb1, .slice Bb1 mb1 db1, .bool sb2, .slice Ab2 nb2 cb2, .bool tb2, .slice Bb2 mb2 db2] #[.bool sl1, .slice Al1 nl1 cl1, .bool tl1, .slice Bl1 ml1 dl1, .bool sl2, .slice Al2 nl2 cl2, .bool tl2, .slice Bl2 ml2 dl2]
  rw [← hW]
  clear hW hzz
  have ES0 := Ext.refl W0
  refine wp_region_held_drew (S := Ext W0) (by kernel_rfl) ES0.drew (fun ES => ?_)
  clear ES0
  refine Late.start2 (x := ⟨4, 7, 26, #[Value.bool false, Value.slice none 0 0, Value.bool false, Value.slice none 0 0]⟩) (y := ⟨5, 8, 26, #[Value.bool false, Value.slice none 0 0, Value.bool false, Value.slice none 0 0]⟩) (n := 6) ⟨_, rfl, rfl, rfl, fun a w => by go_simp⟩ ⟨_, rfl, rfl, rfl, fun a w => by go_simp⟩ (fun _ _ _ _ _ => ⟨fun h => h, fun h => h⟩) ES rfl (fun hAl hQ => ?_)
  refine Late.take (i := 0) (d := some 16) (v := ?v0_106) rfl rfl (by kernel_rfl) (by kernel_rfl) (by kernel_rfl) (by kernel_rfl) hQ (Or.inl ⟨by rfl, ?y0_106⟩) ?r0_106
  case y0_106 =>
    intro w' hSw
    have k00 := (bz.ext hSw).c8
    go_simp
    try with_reducible rfl
  try simp only [Act.put]
  try simp only [List.setIfInBounds_toArray]
  try simp only [List.set_cons_succ]
  try simp only [List.set_cons_zero]
  refine Late.take (i := 1) (d := some 17) (v := ?v1_107) rfl rfl (by kernel_rfl) (by kernel_rfl) (by kernel_rfl) (by kernel_rfl) hQ (Or.inl ⟨by rfl, ?y1_107⟩) ?r1_107
  case y1_107 =>
    intro w' hSw
    have k00 := (bz.ext hSw).c8
    go_simp
    try with_reducible rfl
  try simp only [Act.put]
  try simp only [List.setIfInBounds_toArray]
  try simp only [List.set_cons_succ]
  try simp only [List.set_cons_zero]
  refine Late.take (i := 2) (d := some 18) (v := ?v2_108) rfl rfl (by kernel_rfl) (by kernel_rfl) (by kernel_rfl) (by kernel_rfl) hQ (Or.inl ⟨by rfl, ?y2_108⟩) ?r2_108
  case y2_108 =>
    intro w' hSw
    have k00 := (bz.ext hSw).c8
    go_simp
    try with_reducible rfl
  try simp only [Act.put]
  try simp only [List.setIfInBounds_toArray]
  try simp only [List.set_cons_succ]
  try simp only [List.set_cons_zero]
  refine Late.take (i := 3) (d := some 19) (v := ?v3_109) rfl rfl (by kernel_rfl) (by kernel_rfl) (by kernel_rfl) (by kernel_rfl) hQ (Or.inl ⟨by rfl, ?y3_109⟩) ?r3_109
  case y3_109 =>
    intro w' hSw
    have k00 := (bz.ext hSw).c8
    go_simp
    try with_reducible rfl
  try simp only [Act.put]
  try simp only [List.setIfInBounds_toArray]
  try simp only [List.set_cons_succ]
  try simp only [List.set_cons_zero]
  refine Late.finish2 (hAl _ (by simp)) (hAl _ (by simp)) (by decide) (by decide) (by kernel_rfl) (by kernel_rfl) (by kernel_rfl) (fun wz g5 g6 ez Ez lg5 lg6 hne xb1 xb2 => ?_)
  clear hAl hQ ES
  try simp only [Act.put]
  try simp only [List.setIfInBounds_toArray]
  try simp only [List.set_cons_succ]
  try simp only [List.set_cons_zero]
  have p10 := xb1.cell 0 _ rfl
  have f10 := xb1.frozen 0
  have p11 := xb1.cell 1 _ rfl
  have f11 := xb1.frozen 1
  have p12 := xb1.cell 2 _ rfl
  have f12 := xb1.frozen 2
  have p13 := xb1.cell 3 _ rfl
  have f13 := xb1.frozen 3
  have e4 := fin_quad (s := sl1) (A := Al1) (n := nl1) (c := cl1) (t := tl1) (B := Bl1) (m := ml1) (d := dl1) xb1
  refine wpAnyH_ready (rs := [6]) (by kernel_rfl) (by simp) (AllReadyH.cons rfl (fun K hK => ?_) AllReadyH.nil)
  go_simp
  refine hK.out _ _ (e4.2.2.1 _ Ez lg5) (fun _ => ?_)
  clear hK K
  try simp only [Act.put]
  try simp only [List.setIfInBounds_toArray]
  try simp only [List.set_cons_succ]
  try simp only [List.set_cons_zero]
  refine any_world (fun U => Ext W0 U ∧ Box U g5 26 #[.bool sl1, .slice Al1 nl1 cl1, .bool tl1, .slice Bl1 ml1 dl1] ∧ Box U g6 26 #[Value.bool false, Value.slice none 0 0, Value.bool false, Value.slice none 0 0]) ⟨e4.2.2.1 _ Ez lg5, e4.1, e4.2.2.2 _ _ _ (Ne.symm hne) xb2⟩ ?_
  clear e4 p10 f10 p11 f11 p12 f12 p13 f13 xb1 xb2
  rintro U ⟨EU, xb1, xb2⟩
  have p10 := xb2.cell 0 _ rfl
  have f10 := xb2.frozen 0
  have p11 := xb2.cell 1 _ rfl
  have f11 := xb2.frozen 1
  have p12 := xb2.cell 2 _ rfl
  have f12 := xb2.frozen 2
  have p13 := xb2.cell 3 _ rfl
  have f13 := xb2.frozen 3
  have e4 := fin_quad (s := sl2) (A := Al2) (n := nl2) (c := cl2) (t := tl2) (B := Bl2) (m := ml2) (d := dl2) xb2
  refine wpAnyH_ready (rs := [7]) (by kernel_rfl) (by simp) (AllReadyH.cons rfl (fun K hK => ?_) AllReadyH.nil)
  go_simp
  refine hK.out _ _ (e4.2.2.1 _ EU lg6) (fun _ => ?_)
  clear hK K
  try simp only [Act.put]
  try simp only [List.setIfInBounds_toArray]
  try simp only [List.set_cons_succ]
  try simp only [List.set_cons_zero]
  refine any_world (fun X => Ext W0 X ∧ Box X g5 26 #[.bool sl1, .slice Al1 nl1 cl1, .bool tl1, .slice Bl1 ml1 dl1] ∧ Box X g6 26 #[.bool sl2, .slice Al2 nl2 cl2, .bool tl2, .slice Bl2 ml2 dl2]) ⟨e4.2.2.1 _ EU lg6, e4.2.2.2 _ _ _ hne xb1, e4.1⟩ ?_
  clear e4 p10 f10 p11 f11 p12 f12 p13 f13 xb1 xb2 EU Ez ez
  rintro X ⟨EX, bP, bQ⟩
  refine wpAnyH_done (by kernel_rfl) ?_ _
  have lgw := Nat.le_trans extW.size lg5
  replace bx := bx.ext EX
  replace by_ := by_.ext EX
  replace extW := extW.trans EX
  clear EX bz hne lg5 lg6
  go_wp2_with fail
  refine (HA.out _ (hT.ext extW)).mono ?_
  rintro e W ⟨rfl, hxt⟩
  replace bx := bx.ext hxt
  replace by_ := by_.ext hxt
  replace bP := bP.ext hxt
  replace bQ := bQ.ext hxt
  replace extW := extW.trans hxt
  clear hxt
  cases hf0 : (fewV na1 ma1 na2 ma2 sa1 xa1 ta1 ya1 sa2 xa2 ta2 ya2 && (fewV nb1 mb1 nb2 mb2 sb1 xb1 tb1 yb1 sb2 xb2 tb2 yb2)) with
  | false =>
    have HF0 := Lib.hid hf0
    clear hf0
    have k0 := bx.cell 0 (.bool sa1) rfl
    have k1 := bx.cell 1 (.slice Aa1 na1 ca1) rfl
    have k2 := bx.cell 2 (.bool ta1) rfl
    have k3 := bx.cell 3 (.slice Ba1 ma1 da1) rfl
    have k4 := bx.cell 4 (.bool sa2) rfl
    have k5 := bx.cell 5 (.slice Aa2 na2 ca2) rfl
    have k6 := bx.cell 6 (.bool ta2) rfl
    have k7 := bx.cell 7 (.slice Ba2 ma2 da2) rfl
    have x0 := by_.cell 0 (.bool sb1) rfl
    have x1 := by_.cell 1 (.slice Ab1 nb1 cb1) rfl
    have x2 := by_.cell 2 (.bool tb1) rfl
    have x3 := by_.cell 3 (.slice Bb1 mb1 db1) rfl
    have x4 := by_.cell 4 (.bool sb2) rfl
    have x5 := by_.cell 5 (.slice Ab2 nb2 cb2) rfl
    have x6 := by_.cell 6 (.bool tb2) rfl
    have x7 := by_.cell 7 (.slice Bb2 mb2 db2) rfl
    have u0 := bP.cell 0 (.bool sl1) rfl
    have u1 := bP.cell 1 (.slice Al1 nl1 cl1) rfl
    have u2 := bP.cell 2 (.bool tl1) rfl
    have u3 := bP.cell 3 (.slice Bl1 ml1 dl1) rfl
    have v0 := bQ.cell 0 (.bool sl2) rfl
    have v1 := bQ.cell 1 (.slice Al2 nl2 cl2) rfl
    have v2 := bQ.cell 2 (.bool tl2) rfl
    have v3 := bQ.cell 3 (.slice Bl2 ml2 dl2) rfl
    have hnb := Box.new W 28 #[.bool sa1, .slice Aa1 na1 ca1, .bool ta1, .slice Ba1 ma1 da1, .bool sa2, .slice Aa2 na2 ca2, .bool ta2, .slice Ba2 ma2 da2, .bool sb1, .slice Ab1 nb1 cb1, .bool tb1, .slice Bb1 mb1 db1, .bool sb2, .slice Ab2 nb2 cb2, .bool tb2, .slice Bb2 mb2 db2]
    have e1 := (Ext.refl W).alloc (.cells #[.bool sa1, .slice Aa1 na1 ca1, .bool ta1, .slice Ba1 ma1 da1, .bool sa2, .slice Aa2 na2 ca2, .bool ta2, .slice Ba2 ma2 da2, .bool sb1, .slice Ab1 nb1 cb1, .bool tb1, .slice Bb1 mb1 db1, .bool sb2, .slice Ab2 nb2 cb2, .bool tb2, .slice Bb2 mb2 db2] 28)
    go_wp2_with fail
    refine (fewI2 hnb (hr0.ext (extW.trans e1)) (hr1.ext (extW.trans e1))).mono ?_
    rintro e W1 ⟨rfl, hxt⟩
    rw [HF0.out]
    have ES := e1.trans hxt
    clear hnb e1 hxt
    clear k0 k1 k2 k3 k4 k5 k6 k7 x0 x1 x2 x3 x4 x5 x6 x7 u0 u1 u2 u3 v0 v1 v2 v3
    replace bx := bx.ext ES
    replace by_ := by_.ext ES
    replace bP := bP.ext ES
    replace bQ := bQ.ext ES
    replace extW := extW.trans ES
    clear ES
    go_wp2_with fail
    refine (HA.out _ (hT.ext extW)).mono ?_
    rintro e W9 ⟨rfl, hxt⟩
    go_wp2_with fail
    go_ret
    exact ⟨rfl, extW.trans hxt⟩
  | true =>
  have hf' := hf0
  simp only [Bool.and_eq_true] at hf'
  obtain ⟨g0, g1⟩ := hf'
  obtain ⟨h0, _⟩ := few_iv hr0.1 hr0.2.1 hr0.2.2.1 hr0.2.2.2 g0
  generalize rawQ sa1 xa1 ta1 ya1 = lo0 at h0
  generalize rawQ sa2 xa2 ta2 ya2 = hi0 at h0
  obtain ⟨h1, le1⟩ := few_iv hr1.1 hr1.2.1 hr1.2.2.1 hr1.2.2.2 g1
  generalize rawQ sb1 xb1 tb1 yb1 = lo1 at h1 le1
  generalize rawQ sb2 xb2 tb2 yb2 = hi1 at h1 le1
  have HLE := Lib.hid le1
  clear g0 g1 le1
  have HF0 := Lib.hid hf0
  clear hf0
  have k0 := bx.cell 0 (.bool sa1) rfl
  have k1 := bx.cell 1 (.slice Aa1 na1 ca1) rfl
  have k2 := bx.cell 2 (.bool ta1) rfl
  have k3 := bx.cell 3 (.slice Ba1 ma1 da1) rfl
  have k4 := bx.cell 4 (.bool sa2) rfl
  have k5 := bx.cell 5 (.slice Aa2 na2 ca2) rfl
  have k6 := bx.cell 6 (.bool ta2) rfl
  have k7 := bx.cell 7 (.slice Ba2 ma2 da2) rfl
  have x0 := by_.cell 0 (.bool sb1) rfl
  have x1 := by_.cell 1 (.slice Ab1 nb1 cb1) rfl
  have x2 := by_.cell 2 (.bool tb1) rfl
  have x3 := by_.cell 3 (.slice Bb1 mb1 db1) rfl
  have x4 := by_.cell 4 (.bool sb2) rfl
  have x5 := by_.cell 5 (.slice Ab2 nb2 cb2) rfl
  have x6 := by_.cell 6 (.bool tb2) rfl
  have x7 := by_.cell 7 (.slice Bb2 mb2 db2) rfl
  have u0 := bP.cell 0 (.bool sl1) rfl
  have u1 := bP.cell 1 (.slice Al1 nl1 cl1) rfl
  have u2 := bP.cell 2 (.bool tl1) rfl
  have u3 := bP.cell 3 (.slice Bl1 ml1 dl1) rfl
  have v0 := bQ.cell 0 (.bool sl2) rfl
  have v1 := bQ.cell 1 (.slice Al2 nl2 cl2) rfl
  have v2 := bQ.cell 2 (.bool tl2) rfl
  have v3 := bQ.cell 3 (.slice Bl2 ml2 dl2) rfl
  have hnb := Box.new W 28 #[.bool sa1, .slice Aa1 na1 ca1, .bool ta1, .slice Ba1 ma1 da1, .bool sa2, .slice Aa2 na2 ca2, .bool ta2, .slice Ba2 ma2 da2, .bool sb1, .slice Ab1 nb1 cb1, .bool tb1, .slice Bb1 mb1 db1, .bool sb2, .slice Ab2 nb2 cb2, .bool tb2, .slice Bb2 mb2 db2]
  have e1 := (Ext.refl W).alloc (.cells #[.bool sa1, .slice Aa1 na1 ca1, .bool ta1, .slice Ba1 ma1 da1, .bool sa2, .slice Aa2 na2 ca2, .bool ta2, .slice Ba2 ma2 da2, .bool sb1, .slice Ab1 nb1 cb1, .bool tb1, .slice Bb1 mb1 db1, .bool sb2, .slice Ab2 nb2 cb2, .bool tb2, .slice Bb2 mb2 db2] 28)
  go_wp2_with fail
  refine (fewI2 hnb (hr0.ext (extW.trans e1)) (hr1.ext (extW.trans e1))).mono ?_
  rintro e W1 ⟨rfl, hxt⟩
  rw [HF0.out]
  have ES := e1.trans hxt
  clear hnb e1 hxt
  clear k0 k1 k2 k3 k4 k5 k6 k7 x0 x1 x2 x3 x4 x5 x6 x7 u0 u1 u2 u3 v0 v1 v2 v3
  replace bx := bx.ext ES
  replace by_ := by_.ext ES
  replace bP := bP.ext ES
  replace bQ := bQ.ext ES
  replace extW := extW.trans ES
  clear ES
  cases hf1 : (few10 nl1 ml1 sl1 xl1 tl1 yl1) with
  | false =>
    have HF1 := Lib.hid hf1
    clear hf1
    have k0 := bx.cell 0 (.bool sa1) rfl
    have k1 := bx.cell 1 (.slice Aa1 na1 ca1) rfl
    have k2 := bx.cell 2 (.bool ta1) rfl
    have k3 := bx.cell 3 (.slice Ba1 ma1 da1) rfl
    have k4 := bx.cell 4 (.bool sa2) rfl
    have k5 := bx.cell 5 (.slice Aa2 na2 ca2) rfl
    have k6 := bx.cell 6 (.bool ta2) rfl
    have k7 := bx.cell 7 (.slice Ba2 ma2 da2) rfl
    have x0 := by_.cell 0 (.bool sb1) rfl
    have x1 := by_.cell 1 (.slice Ab1 nb1 cb1) rfl
    have x2 := by_.cell 2 (.bool tb1) rfl
    have x3 := by_.cell 3 (.slice Bb1 mb1 db1) rfl
    have x4 := by_.cell 4 (.bool sb2) rfl
    have x5 := by_.cell 5 (.slice Ab2 nb2 cb2) rfl
    have x6 := by_.cell 6 (.bool tb2) rfl
    have x7 := by_.cell 7 (.slice Bb2 mb2 db2) rfl
    have u0 := bP.cell 0 (.bool sl1) rfl
    have u1 := bP.cell 1 (.slice Al1 nl1 cl1) rfl
    have u2 := bP.cell 2 (.bool tl1) rfl
    have u3 := bP.cell 3 (.slice Bl1 ml1 dl1) rfl
    have v0 := bQ.cell 0 (.bool sl2) rfl
    have v1 := bQ.cell 1 (.slice Al2 nl2 cl2) rfl
    have v2 := bQ.cell 2 (.bool tl2) rfl
    have v3 := bQ.cell 3 (.slice Bl2 ml2 dl2) rfl
    go_wp2_with fail
    refine (q_Few10 (hr2.1.ext extW) (hr2.2.1.ext extW)).mono ?_
    rintro e W2 ⟨rfl, ES⟩
    rw [HF1.out]
    clear k0 k1 k2 k3 k4 k5 k6 k7 x0 x1 x2 x3 x4 x5 x6 x7 u0 u1 u2 u3 v0 v1 v2 v3
    replace bx := bx.ext ES
    replace by_ := by_.ext ES
    replace bP := bP.ext ES
    replace bQ := bQ.ext ES
    replace extW := extW.trans ES
    clear ES
    go_wp2_with fail
    refine (HA.out _ (hT.ext extW)).mono ?_
    rintro e W9 ⟨rfl, hxt⟩
    go_wp2_with fail
    go_ret
    exact ⟨rfl, extW.trans hxt⟩
  | true =>
  obtain ⟨v1, v2, v3⟩ := few10_le hf1
  have hx := NR.of_raw' (L := 10) hr2.1 hr2.2.1 v3 v1 v2
  generalize rawQ sl1 xl1 tl1 yl1 = x at hx
  clear v1 v2 v3
  have HF1 := Lib.hid hf1
  clear hf1
  have k0 := bx.cell 0 (.bool sa1) rfl
  have k1 := bx.cell 1 (.slice Aa1 na1 ca1) rfl
  have k2 := bx.cell 2 (.bool ta1) rfl
  have k3 := bx.cell 3 (.slice Ba1 ma1 da1) rfl
  have k4 := bx.cell 4 (.bool sa2) rfl
  have k5 := bx.cell 5 (.slice Aa2 na2 ca2) rfl
  have k6 := bx.cell 6 (.bool ta2) rfl
  have k7 := bx.cell 7 (.slice Ba2 ma2 da2) rfl
  have x0 := by_.cell 0 (.bool sb1) rfl
  have x1 := by_.cell 1 (.slice Ab1 nb1 cb1) rfl
  have x2 := by_.cell 2 (.bool tb1) rfl
  have x3 := by_.cell 3 (.slice Bb1 mb1 db1) rfl
  have x4 := by_.cell 4 (.bool sb2) rfl
  have x5 := by_.cell 5 (.slice Ab2 nb2 cb2) rfl
  have x6 := by_.cell 6 (.bool tb2) rfl
  have x7 := by_.cell 7 (.slice Bb2 mb2 db2) rfl
  have u0 := bP.cell 0 (.bool sl1) rfl
  have u1 := bP.cell 1 (.slice Al1 nl1 cl1) rfl
  have u2 := bP.cell 2 (.bool tl1) rfl
  have u3 := bP.cell 3 (.slice Bl1 ml1 dl1) rfl
  have v0 := bQ.cell 0 (.bool sl2) rfl
  have v1 := bQ.cell 1 (.slice Al2 nl2 cl2) rfl
  have v2 := bQ.cell 2 (.bool tl2) rfl
  have v3 := bQ.cell 3 (.slice Bl2 ml2 dl2) rfl
  go_wp2_with fail
  refine (q_Few10 (hr2.1.ext extW) (hr2.2.1.ext extW)).mono ?_
  rintro e W2 ⟨rfl, ES⟩
  rw [HF1.out]
  clear k0 k1 k2 k3 k4 k5 k6 k7 x0 x1 x2 x3 x4 x5 x6 x7 u0 u1 u2 u3 v0 v1 v2 v3
  replace bx := bx.ext ES
  replace by_ := by_.ext ES
  replace bP := bP.ext ES
  replace bQ := bQ.ext ES
  replace extW := extW.trans ES
  clear ES
  cases hf2 : (few10 nl2 ml2 sl2 xl2 tl2 yl2) with
  | false =>
    have HF2 := Lib.hid hf2
    clear hf2
    have k0 := bx.cell 0 (.bool sa1) rfl
    have k1 := bx.cell 1 (.slice Aa1 na1 ca1) rfl
    have k2 := bx.cell 2 (.bool ta1) rfl
    have k3 := bx.cell 3 (.slice Ba1 ma1 da1) rfl
    have k4 := bx.cell 4 (.bool sa2) rfl
    have k5 := bx.cell 5 (.slice Aa2 na2 ca2) rfl
    have k6 := bx.cell 6 (.bool ta2) rfl
    have k7 := bx.cell 7 (.slice Ba2 ma2 da2) rfl
    have x0 := by_.cell 0 (.bool sb1) rfl
    have x1 := by_.cell 1 (.slice Ab1 nb1 cb1) rfl
    have x2 := by_.cell 2 (.bool tb1) rfl
    have x3 := by_.cell 3 (.slice Bb1 mb1 db1) rfl
    have x4 := by_.cell 4 (.bool sb2) rfl
    have x5 := by_.cell 5 (.slice Ab2 nb2 cb2) rfl
    have x6 := by_.cell 6 (.bool tb2) rfl
    have x7 := by_.cell 7 (.slice Bb2 mb2 db2) rfl
    have u0 := bP.cell 0 (.bool sl1) rfl
    have u1 := bP.cell 1 (.slice Al1 nl1 cl1) rfl
    have u2 := bP.cell 2 (.bool tl1) rfl
    have u3 := bP.cell 3 (.slice Bl1 ml1 dl1) rfl
    have v0 := bQ.cell 0 (.bool sl2) rfl
    have v1 := bQ.cell 1 (.slice Al2 nl2 cl2) rfl
    have v2 := bQ.cell 2 (.bool tl2) rfl
    have v3 := bQ.cell 3 (.slice Bl2 ml2 dl2) rfl
    go_wp2_with fail
    refine (q_Few10 (hr2.2.2.1.ext extW) (hr2.2.2.2.ext extW)).mono ?_
    rintro e W3 ⟨rfl, ES⟩
    rw [HF2.out]
    clear k0 k1 k2 k3 k4 k5 k6 k7 x0 x1 x2 x3 x4 x5 x6 x7 u0 u1 u2 u3 v0 v1 v2 v3
    replace bx := bx.ext ES
    replace by_ := by_.ext ES
    replace bP := bP.ext ES
    replace bQ := bQ.ext ES
    replace extW := extW.trans ES
    clear ES
    go_wp2_with fail
    refine (HA.out _ (hT.ext extW)).mono ?_
    rintro e W9 ⟨rfl, hxt⟩
    go_wp2_with fail
    go_ret
    exact ⟨rfl, extW.trans hxt⟩
  | true =>
  obtain ⟨v1, v2, v3⟩ := few10_le hf2
  have hy := NR.of_raw' (L := 10) hr2.2.2.1 hr2.2.2.2 v3 v1 v2
  generalize rawQ sl2 xl2 tl2 yl2 = y at hy
  clear v1 v2 v3
  have HF2 := Lib.hid hf2
  clear hf2
  have k0 := bx.cell 0 (.bool sa1) rfl
  have k1 := bx.cell 1 (.slice Aa1 na1 ca1) rfl
  have k2 := bx.cell 2 (.bool ta1) rfl
  have k3 := bx.cell 3 (.slice Ba1 ma1 da1) rfl
  have k4 := bx.cell 4 (.bool sa2) rfl
  have k5 := bx.cell 5 (.slice Aa2 na2 ca2) rfl
  have k6 := bx.cell 6 (.bool ta2) rfl
  have k7 := bx.cell 7 (.slice Ba2 ma2 da2) rfl
  have x0 := by_.cell 0 (.bool sb1) rfl
  have x1 := by_.cell 1 (.slice Ab1 nb1 cb1) rfl
  have x2 := by_.cell 2 (.bool tb1) rfl
  have x3 := by_.cell 3 (.slice Bb1 mb1 db1) rfl
  have x4 := by_.cell 4 (.bool sb2) rfl
  have x5 := by_.cell 5 (.slice Ab2 nb2 cb2) rfl
  have x6 := by_.cell 6 (.bool tb2) rfl
  have x7 := by_.cell 7 (.slice Bb2 mb2 db2) rfl
  have u0 := bP.cell 0 (.bool sl1) rfl
  have u1 := bP.cell 1 (.slice Al1 nl1 cl1) rfl
  have u2 := bP.cell 2 (.bool tl1) rfl
  have u3 := bP.cell 3 (.slice Bl1 ml1 dl1) rfl
  have v0 := bQ.cell 0 (.bool sl2) rfl
  have v1 := bQ.cell 1 (.slice Al2 nl2 cl2) rfl
  have v2 := bQ.cell 2 (.bool tl2) rfl
  have v3 := bQ.cell 3 (.slice Bl2 ml2 dl2) rfl
  go_wp2_with fail
  refine (q_Few10 (hr2.2.2.1.ext extW) (hr2.2.2.2.ext extW)).mono ?_
  rintro e W3 ⟨rfl, ES⟩
  rw [HF2.out]
  clear k0 k1 k2 k3 k4 k5 k6 k7 x0 x1 x2 x3 x4 x5 x6 x7 u0 u1 u2 u3 v0 v1 v2 v3
  replace bx := bx.ext ES
  replace by_ := by_.ext ES
  replace bP := bP.ext ES
  replace bQ := bQ.ext ES
  replace extW := extW.trans ES
  clear ES
  cases hf3 : (inB lo0 hi0 x) with
  | false =>
    have HF3 := Lib.hid hf3
    clear hf3
    have k0 := bx.cell 0 (.bool sa1) rfl
    have k1 := bx.cell 1 (.slice Aa1 na1 ca1) rfl
    have k2 := bx.cell 2 (.bool ta1) rfl
    have k3 := bx.cell 3 (.slice Ba1 ma1 da1) rfl
    have k4 := bx.cell 4 (.bool sa2) rfl
    have k5 := bx.cell 5 (.slice Aa2 na2 ca2) rfl
    have k6 := bx.cell 6 (.bool ta2) rfl
    have k7 := bx.cell 7 (.slice Ba2 ma2 da2) rfl
    have x0 := by_.cell 0 (.bool sb1) rfl
    have x1 := by_.cell 1 (.slice Ab1 nb1 cb1) rfl
    have x2 := by_.cell 2 (.bool tb1) rfl
    have x3 := by_.cell 3 (.slice Bb1 mb1 db1) rfl
    have x4 := by_.cell 4 (.bool sb2) rfl
    have x5 := by_.cell 5 (.slice Ab2 nb2 cb2) rfl
    have x6 := by_.cell 6 (.bool tb2) rfl
    have x7 := by_.cell 7 (.slice Bb2 mb2 db2) rfl
    have u0 := bP.cell 0 (.bool sl1) rfl
    have u1 := bP.cell 1 (.slice Al1 nl1 cl1) rfl
    have u2 := bP.cell 2 (.bool tl1) rfl
    have u3 := bP.cell 3 (.slice Bl1 ml1 dl1) rfl
    have v0 := bQ.cell 0 (.bool sl2) rfl
    have v1 := bQ.cell 1 (.slice Al2 nl2 cl2) rfl
    have v2 := bQ.cell 2 (.bool tl2) rfl
    have v3 := bQ.cell 3 (.slice Bl2 ml2 dl2) rfl
    go_wp2_with fail
    refine (q_ContainsV (h0.ext extW) (hx.ext extW) (by omega) (by omega)).mono ?_
    rintro e W4 ⟨rfl, ES⟩
    rw [HF3.out]
    clear k0 k1 k2 k3 k4 k5 k6 k7 x0 x1 x2 x3 x4 x5 x6 x7 u0 u1 u2 u3 v0 v1 v2 v3
    replace bx := bx.ext ES
    replace by_ := by_.ext ES
    replace bP := bP.ext ES
    replace bQ := bQ.ext ES
    replace extW := extW.trans ES
    clear ES
    go_wp2_with fail
    refine (HA.out _ (hT.ext extW)).mono ?_
    rintro e W9 ⟨rfl, hxt⟩
    go_wp2_with fail
    go_ret
    exact ⟨rfl, extW.trans hxt⟩
  | true =>
  have HF3 := Lib.hid hf3
  clear hf3
  have k0 := bx.cell 0 (.bool sa1) rfl
  have k1 := bx.cell 1 (.slice Aa1 na1 ca1) rfl
  have k2 := bx.cell 2 (.bool ta1) rfl
  have k3 := bx.cell 3 (.slice Ba1 ma1 da1) rfl
  have k4 := bx.cell 4 (.bool sa2) rfl
  have k5 := bx.cell 5 (.slice Aa2 na2 ca2) rfl
  have k6 := bx.cell 6 (.bool ta2) rfl
  have k7 := bx.cell 7 (.slice Ba2 ma2 da2) rfl
  have x0 := by_.cell 0 (.bool sb1) rfl
  have x1 := by_.cell 1 (.slice Ab1 nb1 cb1) rfl
  have x2 := by_.cell 2 (.bool tb1) rfl
  have x3 := by_.cell 3 (.slice Bb1 mb1 db1) rfl
  have x4 := by_.cell 4 (.bool sb2) rfl
  have x5 := by_.cell 5 (.slice Ab2 nb2 cb2) rfl
  have x6 := by_.cell 6 (.bool tb2) rfl
  have x7 := by_.cell 7 (.slice Bb2 mb2 db2) rfl
  have u0 := bP.cell 0 (.bool sl1) rfl
  have u1 := bP.cell 1 (.slice Al1 nl1 cl1) rfl
  have u2 := bP.cell 2 (.bool tl1) rfl
  have u3 := bP.cell 3 (.slice Bl1 ml1 dl1) rfl
  have v0 := bQ.cell 0 (.bool sl2) rfl
  have v1 := bQ.cell 1 (.slice Al2 nl2 cl2) rfl
  have v2 := bQ.cell 2 (.bool tl2) rfl
  have v3 := bQ.cell 3 (.slice Bl2 ml2 dl2) rfl
  go_wp2_with fail
  refine (q_ContainsV (h0.ext extW) (hx.ext extW) (by omega) (by omega)).mono ?_
  rintro e W4 ⟨rfl, ES⟩
  rw [HF3.out]
  clear k0 k1 k2 k3 k4 k5 k6 k7 x0 x1 x2 x3 x4 x5 x6 x7 u0 u1 u2 u3 v0 v1 v2 v3
  replace bx := bx.ext ES
  replace by_ := by_.ext ES
  replace bP := bP.ext ES
  replace bQ := bQ.ext ES
  replace extW := extW.trans ES
  clear ES
  cases hf4 : (inB lo1 hi1 y) with
  | false =>
    have HF4 := Lib.hid hf4
    clear hf4
    have k0 := bx.cell 0 (.bool sa1) rfl
    have k1 := bx.cell 1 (.slice Aa1 na1 ca1) rfl
    have k2 := bx.cell 2 (.bool ta1) rfl
    have k3 := bx.cell 3 (.slice Ba1 ma1 da1) rfl
    have k4 := bx.cell 4 (.bool sa2) rfl
    have k5 := bx.cell 5 (.slice Aa2 na2 ca2) rfl
    have k6 := bx.cell 6 (.bool ta2) rfl
    have k7 := bx.cell 7 (.slice Ba2 ma2 da2) rfl
    have x0 := by_.cell 0 (.bool sb1) rfl
    have x1 := by_.cell 1 (.slice Ab1 nb1 cb1) rfl
    have x2 := by_.cell 2 (.bool tb1) rfl
    have x3 := by_.cell 3 (.slice Bb1 mb1 db1) rfl
    have x4 := by_.cell 4 (.bool sb2) rfl
    have x5 := by_.cell 5 (.slice Ab2 nb2 cb2) rfl
    have x6 := by_.cell 6 (.bool tb2) rfl
    have x7 := by_.cell 7 (.slice Bb2 mb2 db2) rfl
    have u0 := bP.cell 0 (.bool sl1) rfl
    have u1 := bP.cell 1 (.slice Al1 nl1 cl1) rfl
    have u2 := bP.cell 2 (.bool tl1) rfl
    have u3 := bP.cell 3 (.slice Bl1 ml1 dl1) rfl
    have v0 := bQ.cell 0 (.bool sl2) rfl
    have v1 := bQ.cell 1 (.slice Al2 nl2 cl2) rfl
    have v2 := bQ.cell 2 (.bool tl2) rfl
    have v3 := bQ.cell 3 (.slice Bl2 ml2 dl2) rfl
    go_wp2_with fail
    refine (q_ContainsV (h1.ext extW) (hy.ext extW) (by omega) (by omega)).mono ?_
    rintro e W5 ⟨rfl, ES⟩
    rw [HF4.out]
    clear k0 k1 k2 k3 k4 k5 k6 k7 x0 x1 x2 x3 x4 x5 x6 x7 u0 u1 u2 u3 v0 v1 v2 v3
    replace bx := bx.ext ES
    replace by_ := by_.ext ES
    replace bP := bP.ext ES
    replace bQ := bQ.ext ES
    replace extW := extW.trans ES
    clear ES
    go_wp2_with fail
    refine (HA.out _ (hT.ext extW)).mono ?_
    rintro e W9 ⟨rfl, hxt⟩
    go_wp2_with fail
    go_ret
    exact ⟨rfl, extW.trans hxt⟩
  | true =>
  have HF4 := Lib.hid hf4
  clear hf4
  have k0 := bx.cell 0 (.bool sa1) rfl
  have k1 := bx.cell 1 (.slice Aa1 na1 ca1) rfl
  have k2 := bx.cell 2 (.bool ta1) rfl
  have k3 := bx.cell 3 (.slice Ba1 ma1 da1) rfl
  have k4 := bx.cell 4 (.bool sa2) rfl
  have k5 := bx.cell 5 (.slice Aa2 na2 ca2) rfl
  have k6 := bx.cell 6 (.bool ta2) rfl
  have k7 := bx.cell 7 (.slice Ba2 ma2 da2) rfl
  have x0 := by_.cell 0 (.bool sb1) rfl
  have x1 := by_.cell 1 (.slice Ab1 nb1 cb1) rfl
  have x2 := by_.cell 2 (.bool tb1) rfl
  have x3 := by_.cell 3 (.slice Bb1 mb1 db1) rfl
  have x4 := by_.cell 4 (.bool sb2) rfl
  have x5 := by_.cell 5 (.slice Ab2 nb2 cb2) rfl
  have x6 := by_.cell 6 (.bool tb2) rfl
  have x7 := by_.cell 7 (.slice Bb2 mb2 db2) rfl
  have u0 := bP.cell 0 (.bool sl1) rfl
  have u1 := bP.cell 1 (.slice Al1 nl1 cl1) rfl
  have u2 := bP.cell 2 (.bool tl1) rfl
  have u3 := bP.cell 3 (.slice Bl1 ml1 dl1) rfl
  have v0 := bQ.cell 0 (.bool sl2) rfl
  have v1 := bQ.cell 1 (.slice Al2 nl2 cl2) rfl
  have v2 := bQ.cell 2 (.bool tl2) rfl
  have v3 := bQ.cell 3 (.slice Bl2 ml2 dl2) rfl
  go_wp2_with fail
  refine (q_ContainsV (h1.ext extW) (hy.ext extW) (by omega) (by omega)).mono ?_
  rintro e W5 ⟨rfl, ES⟩
  rw [HF4.out]
  clear k0 k1 k2 k3 k4 k5 k6 k7 x0 x1 x2 x3 x4 x5 x6 x7 u0 u1 u2 u3 v0 v1 v2 v3
  replace bx := bx.ext ES
  replace by_ := by_.ext ES
  replace bP := bP.ext ES
  replace bQ := bQ.ext ES
  replace extW := extW.trans ES
  clear ES
  have HI := Lib.hid (And.intro (inB_out HF3.out) (inB_out HF4.out))
  go_upto_region 4 with (fail)
  have ES0 := Ext.refl W5
  refine wp_region_held_drew (S := Ext W5) (by kernel_rfl) ES0.drew (fun ES => ?_)
  clear ES0
  refine Late.start0 (fun _ _ _ _ _ => ⟨fun h => h, fun h => h⟩) ES (fun hAl hQ => ?_)
  refine Late.take (i := 0) (d := some 52) (v := ?v0_110) rfl rfl (by kernel_rfl) (by kernel_rfl) (by kernel_rfl) (by kernel_rfl) hQ (Or.inl ⟨by rfl, ?y0_110⟩) ?r0_110
  case y0_110 =>
    intro w' hSw
    have k00 := (bx.ext hSw).c8
    have k10 := (by_.ext hSw).c8
    have k20 := (bP.ext hSw).c4
    have k30 := (bQ.ext hSw).c4
    go_simp
    try with_reducible rfl
  try simp only [Act.put]
  try simp only [List.setIfInBounds_toArray]
  try simp only [List.set_cons_succ]
  try simp only [List.set_cons_zero]
  refine Late.take (i := 1) (d := some 53) (v := ?v1_111) rfl rfl (by kernel_rfl) (by kernel_rfl) (by kernel_rfl) (by kernel_rfl) hQ (Or.inl ⟨by rfl, ?y1_111⟩) ?r1_111
  case y1_111 =>
    intro w' hSw
    have k00 := (bx.ext hSw).c8
    have k10 := (by_.ext hSw).c8
    have k20 := (bP.ext hSw).c4
    have k30 := (bQ.ext hSw).c4
    go_simp
    try with_reducible rfl
  try simp only [Act.put]
  try simp only [List.setIfInBounds_toArray]
  try simp only [List.set_cons_succ]
  try simp only [List.set_cons_zero]
  refine Late.take (i := 3) (d := some 55) (v := ?v3_112) rfl rfl (by kernel_rfl) (by kernel_rfl) (by kernel_rfl) (by kernel_rfl) hQ (Or.inl ⟨by rfl, ?y3_112⟩) ?r3_112
  case y3_112 =>
    intro w' hSw
    have k00 := (bx.ext hSw).c8
    have k10 := (by_.ext hSw).c8
    have k20 := (bP.ext hSw).c4
    have k30 := (bQ.ext hSw).c4
    go_simp
    try with_reducible rfl
  try simp only [Act.put]
  try simp only [List.setIfInBounds_toArray]
  try simp only [List.set_cons_succ]
  try simp only [List.set_cons_zero]
  refine Late.take (i := 4) (d := some 56) (v := ?v4_113) rfl rfl (by kernel_rfl) (by kernel_rfl) (by kernel_rfl) (by kernel_rfl) hQ (Or.inl ⟨by rfl, ?y4_113⟩) ?r4_113
  case y4_113 =>
    intro w' hSw
    have k00 := (bx.ext hSw).c8
    have k10 := (by_.ext hSw).c8
    have k20 := (bP.ext hSw).c4
    have k30 := (bQ.ext hSw).c4
    go_simp
    try with_reducible rfl
  try simp only [Act.put]
  try simp only [List.setIfInBounds_toArray]
  try simp only [List.set_cons_succ]
  try simp only [List.set_cons_zero]
  refine Late.call (i := 2) rfl (by kernel_rfl) hAl (by kernel_rfl) (by kernel_rfl) (by kernel_rfl) hQ (fun w2 e2 E2 K hK => ?_)
  go_simp
  (go_at_call 17; refine (p_AddV (h0.ext (extW.trans E2)) (h1.ext (extW.trans E2)) (by omega) (by omega) (hT.ext (extW.trans E2))).mono ?_; rintro e wk2 ⟨la3, ha3, hu3, s3_, A3_, n3_, c3_, t3_, B3_, m3_, d3_, s3', A3', n3', c3', t3', B3', m3', d3', rfl, y3, hx2⟩; have HU3 := Lib.hid hu3; clear hu3)
  refine hK.out _ _ hx2 ?_
  clear hK K
  try simp only [Act.put]
  try simp only [List.setIfInBounds_toArray]
  try simp only [List.set_cons_succ]
  try simp only [List.set_cons_zero]
  refine Late.call (i := 5) rfl (by kernel_rfl) hAl (by kernel_rfl) (by kernel_rfl) (by kernel_rfl) hQ (fun w5 e5 E5 K hK => ?_)
  go_simp
  (replace y3 := y3.ext e5; go_at_call 43; refine (q_AddR (hx.ext (extW.trans E5)) (hy.ext (extW.trans E5)) (by omega) (by omega)).mono ?_; rintro e wk5 ⟨s3r, A3r, n3r, c3r, t3r, B3r, m3r, d3r, rfl, r3, hx5⟩; replace y3 := y3.ext hx5)
  refine hK.out _ _ hx5 ?_
  clear hK K
  try simp only [Act.put]
  try simp only [List.setIfInBounds_toArray]
  try simp only [List.set_cons_succ]
  try simp only [List.set_cons_zero]
  refine Late.call (i := 6) rfl (by kernel_rfl) hAl (by kernel_rfl) (by kernel_rfl) (by kernel_rfl) hQ (fun w6 e6 E6 K hK => ?_)
  go_simp
  (replace y3 := y3.ext e6; replace r3 := r3.ext e6; go_at_call 37; refine (q_ContainsV y3 r3 (by omega) (by omega)).mono ?_; rintro e wk6 ⟨rfl, hx6⟩; replace y3 := y3.ext hx6; replace r3 := r3.ext hx6; rw [inB_true (add_four HU3.out.four HI.out.1.1 HI.out.1.2 HI.out.2.1 HI.out.2.2)])
  refine hK.out _ _ hx6 ?_
  clear hK K
  try simp only [Act.put]
  try simp only [List.setIfInBounds_toArray]
  try simp only [List.set_cons_succ]
  try simp only [List.set_cons_zero]
  refine Late.take (i := 7) (d := some 59) (v := ?v7_114) rfl rfl (by kernel_rfl) (by kernel_rfl) (by kernel_rfl) (by kernel_rfl) hQ (Or.inl ⟨by rfl, ?y7_114⟩) ?r7_114
  case y7_114 =>
    intro w' hSw
    have k00 := (bx.ext hSw).c8
    have k10 := (by_.ext hSw).c8
    have k20 := (bP.ext hSw).c4
    have k30 := (bQ.ext hSw).c4
    go_simp
    try with_reducible rfl
  try simp only [Act.put]
  try simp only [List.setIfInBounds_toArray]
  try simp only [List.set_cons_succ]
  try simp only [List.set_cons_zero]
  refine Late.take (i := 8) (d := some 60) (v := ?v8_115) rfl rfl (by kernel_rfl) (by kernel_rfl) (by kernel_rfl) (by kernel_rfl) hQ (Or.inl ⟨by rfl, ?y8_115⟩) ?r8_115
  case y8_115 =>
    intro w' hSw
    have k00 := (bx.ext hSw).c8
    have k10 := (by_.ext hSw).c8
    have k20 := (bP.ext hSw).c4
    have k30 := (bQ.ext hSw).c4
    go_simp
    try with_reducible rfl
  try simp only [Act.put]
  try simp only [List.setIfInBounds_toArray]
  try simp only [List.set_cons_succ]
  try simp only [List.set_cons_zero]
  refine Late.take (i := 9) (d := some 61) (v := ?v9_116) rfl rfl (by kernel_rfl) (by kernel_rfl) (by kernel_rfl) (by kernel_rfl) hQ (Or.inl ⟨by rfl, ?y9_116⟩) ?r9_116
  case y9_116 =>
    intro w' hSw
    have k00 := (bx.ext hSw).c8
    have k10 := (by_.ext hSw).c8
    have k20 := (bP.ext hSw).c4
    have k30 := (bQ.ext hSw).c4
    go_simp
    try with_reducible rfl
  try simp only [Act.put]
  try simp only [List.setIfInBounds_toArray]
  try simp only [List.set_cons_succ]
  try simp only [List.set_cons_zero]
  refine Late.take (i := 10) (d := some 62) (v := ?v10_117) rfl rfl (by kernel_rfl) (by kernel_rfl) (by kernel_rfl) (by kernel_rfl) hQ (Or.inl ⟨by rfl, ?y10_117⟩) ?r10_117
  case y10_117 =>
    intro w' hSw
    have k00 := (bx.ext hSw).c8
    have k10 := (by_.ext hSw).c8
    have k20 := (bP.ext hSw).c4
    have k30 := (bQ.ext hSw).c4
    go_simp
    try with_reducible rfl
  try simp only [Act.put]
  try simp only [List.setIfInBounds_toArray]
  try simp only [List.set_cons_succ]
  try simp only [List.set_cons_zero]
  refine Late.take (i := 12) (d := some 64) (v := ?v12_118) rfl rfl (by kernel_rfl) (by kernel_rfl) (by kernel_rfl) (by kernel_rfl) hQ (Or.inl ⟨by rfl, ?y12_118⟩) ?r12_118
  case y12_118 =>
    intro w' hSw
    have k00 := (bx.ext hSw).c8
    have k10 := (by_.ext hSw).c8
    have k20 := (bP.ext hSw).c4
    have k30 := (bQ.ext hSw).c4
    go_simp
    try with_reducible rfl
  try simp only [Act.put]
  try simp only [List.setIfInBounds_toArray]
  try simp only [List.set_cons_succ]
  try simp only [List.set_cons_zero]
  refine Late.take (i := 13) (d := some 65) (v := ?v13_119) rfl rfl (by kernel_rfl) (by kernel_rfl) (by kernel_rfl) (by kernel_rfl) hQ (Or.inl ⟨by rfl, ?y13_119⟩) ?r13_119
  case y13_119 =>
    intro w' hSw
    have k00 := (bx.ext hSw).c8
    have k10 := (by_.ext hSw).c8
    have k20 := (bP.ext hSw).c4
    have k30 := (bQ.ext hSw).c4
    go_simp
    try with_reducible rfl
  try simp only [Act.put]
  try simp only [List.setIfInBounds_toArray]
  try simp only [List.set_cons_succ]
  try simp only [List.set_cons_zero]
  refine Late.call (i := 11) rfl (by kernel_rfl) hAl (by kernel_rfl) (by kernel_rfl) (by kernel_rfl) hQ (fun w11 e11 E11 K hK => ?_)
  go_simp
  (replace y3 := y3.ext e11; replace r3 := r3.ext e11; go_at_call 19; refine (p_SubV (h0.ext (extW.trans E11)) (h1.ext (extW.trans E11)) (by omega) (by omega) (hT.ext (extW.trans E11))).mono ?_; rintro e wk11 ⟨la4, ha4, hu4, s4_, A4_, n4_, c4_, t4_, B4_, m4_, d4_, s4', A4', n4', c4', t4', B4', m4', d4', rfl, y4, hx11⟩; replace y3 := y3.ext hx11; replace r3 := r3.ext hx11; have HU4 := Lib.hid hu4; clear hu4)
  refine hK.out _ _ hx11 ?_
  clear hK K
  try simp only [Act.put]
  try simp only [List.setIfInBounds_toArray]
  try simp only [List.set_cons_succ]
  try simp only [List.set_cons_zero]
  refine Late.call (i := 14) rfl (by kernel_rfl) hAl (by kernel_rfl) (by kernel_rfl) (by kernel_rfl) hQ (fun w14 e14 E14 K hK => ?_)
  go_simp
  (replace y3 := y3.ext e14; replace r3 := r3.ext e14; replace y4 := y4.ext e14; go_at_call 23; refine (q_SubR (hx.ext (extW.trans E14)) (hy.ext (extW.trans E14)) (by omega) (by omega)).mono ?_; rintro e wk14 ⟨s4r, A4r, n4r, c4r, t4r, B4r, m4r, d4r, rfl, r4, hx14⟩; replace y3 := y3.ext hx14; replace r3 := r3.ext hx14; replace y4 := y4.ext hx14)
  refine hK.out _ _ hx14 ?_
  clear hK K
  try simp only [Act.put]
  try simp only [List.setIfInBounds_toArray]
  try simp only [List.set_cons_succ]
  try simp only [List.set_cons_zero]
  refine Late.call (i := 15) rfl (by kernel_rfl) hAl (by kernel_rfl) (by kernel_rfl) (by kernel_rfl) hQ (fun w15 e15 E15 K hK => ?_)
  go_simp
  (replace y3 := y3.ext e15; replace r3 := r3.ext e15; replace y4 := y4.ext e15; replace r4 := r4.ext e15; go_at_call 37; refine (q_ContainsV y4 r4 (by omega) (by omega)).mono ?_; rintro e wk15 ⟨rfl, hx15⟩; replace y3 := y3.ext hx15; replace r3 := r3.ext hx15; replace y4 := y4.ext hx15; replace r4 := r4.ext hx15; rw [inB_true (sub_four HU4.out.four HI.out.1.1 HI.out.1.2 HI.out.2.1 HI.out.2.2)])
  refine hK.out _ _ hx15 ?_
  clear hK K
  try simp only [Act.put]
  try simp only [List.setIfInBounds_toArray]
  try simp only [List.set_cons_succ]
  try simp only [List.set_cons_zero]
  refine Late.take (i := 16) (d := some 68) (v := ?v16_120) rfl rfl (by kernel_rfl) (by kernel_rfl) (by kernel_rfl) (by kernel_rfl) hQ (Or.inl ⟨by rfl, ?y16_120⟩) ?r16_120
  case y16_120 =>
    intro w' hSw
    have k00 := (bx.ext hSw).c8
    have k10 := (by_.ext hSw).c8
    have k20 := (bP.ext hSw).c4
    have k30 := (bQ.ext hSw).c4
    go_simp
    try with_reducible rfl
  try simp only [Act.put]
  try simp only [List.setIfInBounds_toArray]
  try simp only [List.set_cons_succ]
  try simp only [List.set_cons_zero]
  refine Late.take (i := 17) (d := some 69) (v := ?v17_121) rfl rfl (by kernel_rfl) (by kernel_rfl) (by kernel_rfl) (by kernel_rfl) hQ (Or.inl ⟨by rfl, ?y17_121⟩) ?r17_121
  case y17_121 =>
    intro w' hSw
    have k00 := (bx.ext hSw).c8
    have k10 := (by_.ext hSw).c8
    have k20 := (bP.ext hSw).c4
    have k30 := (bQ.ext hSw).c4
    go_simp
    try with_reducible rfl
  try simp only [Act.put]
  try simp only [List.setIfInBounds_toArray]
  try simp only [List.set_cons_succ]
  try simp only [List.set_cons_zero]
  refine Late.take (i := 18) (d := some 70) (v := ?v18_122) rfl rfl (by kernel_rfl) (by kernel_rfl) (by kernel_rfl) (by kernel_rfl) hQ (Or.inl ⟨by rfl, ?y18_122⟩) ?r18_122
  case y18_122 =>
    intro w' hSw
    have k00 := (bx.ext hSw).c8
    have k10 := (by_.ext hSw).c8
    have k20 := (bP.ext hSw).c4
    have k30 := (bQ.ext hSw).c4
    go_simp
    try with_reducible rfl
  try simp only [Act.put]
  try simp only [List.setIfInBounds_toArray]
  try simp only [List.set_cons_succ]
  try simp only [List.set_cons_zero]
  refine Late.take (i := 19) (d := some 71) (v := ?v19_123) rfl rfl (by kernel_rfl) (by kernel_rfl) (by kernel_rfl) (by kernel_rfl) hQ (Or.inl ⟨by rfl, ?y19_123⟩) ?r19_123
  case y19_123 =>
    intro w' hSw
    have k00 := (bx.ext hSw).c8
    have k10 := (by_.ext hSw).c8
    have k20 := (bP.ext hSw).c4
    have k30 := (bQ.ext hSw).c4
    go_simp
    try with_reducible rfl
  try simp only [Act.put]
  try simp only [List.setIfInBounds_toArray]
  try simp only [List.set_cons_succ]
  try simp only [List.set_cons_zero]
  refine Late.take (i := 20) (d := some 72) (v := ?v20_124) rfl rfl (by kernel_rfl) (by kernel_rfl) (by kernel_rfl) (by kernel_rfl) hQ (Or.inl ⟨by rfl, ?y20_124⟩) ?r20_124
  case y20_124 =>
    intro w' hSw
    have k00 := (bx.ext hSw).c8
    have k10 := (by_.ext hSw).c8
    have k20 := (bP.ext hSw).c4
    have k30 := (bQ.ext hSw).c4
    go_simp
    try with_reducible rfl
  try simp only [Act.put]
  try simp only [List.setIfInBounds_toArray]
  try simp only [List.set_cons_succ]
  try simp only [List.set_cons_zero]
  refine Late.take (i := 22) (d := some 74) (v := ?v22_125) rfl rfl (by kernel_rfl) (by kernel_rfl) (by kernel_rfl) (by kernel_rfl) hQ (Or.inl ⟨by rfl, ?y22_125⟩) ?r22_125
  case y22_125 =>
    intro w' hSw
    have k00 := (bx.ext hSw).c8
    have k10 := (by_.ext hSw).c8
    have k20 := (bP.ext hSw).c4
    have k30 := (bQ.ext hSw).c4
    go_simp
    try with_reducible rfl
  try simp only [Act.put]
  try simp only [List.setIfInBounds_toArray]
  try simp only [List.set_cons_succ]
  try simp only [List.set_cons_zero]
  refine Late.take (i := 23) (d := some 75) (v := ?v23_126) rfl rfl (by kernel_rfl) (by kernel_rfl) (by kernel_rfl) (by kernel_rfl) hQ (Or.inl ⟨by rfl, ?y23_126⟩) ?r23_126
  case y23_126 =>
    intro w' hSw
    have k00 := (bx.ext hSw).c8
    have k10 := (by_.ext hSw).c8
    have k20 := (bP.ext hSw).c4
    have k30 := (bQ.ext hSw).c4
    go_simp
    try with_reducible rfl
  try simp only [Act.put]
  try simp only [List.setIfInBounds_toArray]
  try simp only [List.set_cons_succ]
  try simp only [List.set_cons_zero]
  refine Late.call (i := 21) rfl (by kernel_rfl) hAl (by kernel_rfl) (by kernel_rfl) (by kernel_rfl) hQ (fun w21 e21 E21 K hK => ?_)
  go_simp
  (replace y3 := y3.ext e21; replace r3 := r3.ext e21; replace y4 := y4.ext e21; replace r4 := r4.ext e21; go_at_call 26; refine (p_MulV (h0.ext (extW.trans E21)) (h1.ext (extW.trans E21)) (by omega) (by omega) (hT.ext (extW.trans E21))).mono ?_; rintro e wk21 ⟨la5, ha5, hu5, s5_, A5_, n5_, c5_, t5_, B5_, m5_, d5_, s5', A5', n5', c5', t5', B5', m5', d5', rfl, y5, hx21⟩; replace y3 := y3.ext hx21; replace r3 := r3.ext hx21; replace y4 := y4.ext hx21; replace r4 := r4.ext hx21; have HU5 := Lib.hid hu5; clear hu5)
  refine hK.out _ _ hx21 ?_
  clear hK K
  try simp only [Act.put]
  try simp only [List.setIfInBounds_toArray]
  try simp only [List.set_cons_succ]
  try simp only [List.set_cons_zero]
  refine Late.call (i := 24) rfl (by kernel_rfl) hAl (by kernel_rfl) (by kernel_rfl) (by kernel_rfl) hQ (fun w24 e24 E24 K hK => ?_)
  go_simp
  (replace y3 := y3.ext e24; replace r3 := r3.ext e24; replace y4 := y4.ext e24; replace r4 := r4.ext e24; replace y5 := y5.ext e24; go_at_call 44; refine (q_MulR (hx.ext (extW.trans E24)) (hy.ext (extW.trans E24)) (by omega) (by omega)).mono ?_; rintro e wk24 ⟨s5r, A5r, n5r, c5r, t5r, B5r, m5r, d5r, rfl, r5, hx24⟩; replace y3 := y3.ext hx24; replace r3 := r3.ext hx24; replace y4 := y4.ext hx24; replace r4 := r4.ext hx24; replace y5 := y5.ext hx24)
  refine hK.out _ _ hx24 ?_
  clear hK K
  try simp only [Act.put]
  try simp only [List.setIfInBounds_toArray]
  try simp only [List.set_cons_succ]
  try simp only [List.set_cons_zero]
  refine Late.call (i := 25) rfl (by kernel_rfl) hAl (by kernel_rfl) (by kernel_rfl) (by kernel_rfl) hQ (fun w25 e25 E25 K hK => ?_)
  go_simp
  (replace y3 := y3.ext e25; replace r3 := r3.ext e25; replace y4 := y4.ext e25; replace r4 := r4.ext e25; replace y5 := y5.ext e25; replace r5 := r5.ext e25; go_at_call 37; refine (q_ContainsV y5 r5 (by omega) (by omega)).mono ?_; rintro e wk25 ⟨rfl, hx25⟩; replace y3 := y3.ext hx25; replace r3 := r3.ext hx25; replace y4 := y4.ext hx25; replace r4 := r4.ext hx25; replace y5 := y5.ext hx25; replace r5 := r5.ext hx25; rw [inB_true (mul_four HU5.out.four HI.out.1.1 HI.out.1.2 HI.out.2.1 HI.out.2.2)])
  refine hK.out _ _ hx25 ?_
  clear hK K
  try simp only [Act.put]
  try simp only [List.setIfInBounds_toArray]
  try simp only [List.set_cons_succ]
  try simp only [List.set_cons_zero]
  refine Late.take (i := 26) (d := some 78) (v := ?v26_127) rfl rfl (by kernel_rfl) (by kernel_rfl) (by kernel_rfl) (by kernel_rfl) hQ (Or.inl ⟨by rfl, ?y26_127⟩) ?r26_127
  case y26_127 =>
    intro w' hSw
    have k00 := (bx.ext hSw).c8
    have k10 := (by_.ext hSw).c8
    have k20 := (bP.ext hSw).c4
    have k30 := (bQ.ext hSw).c4
    go_simp
    try with_reducible rfl
  try simp only [Act.put]
  try simp only [List.setIfInBounds_toArray]
  try simp only [List.set_cons_succ]
  try simp only [List.set_cons_zero]
  refine Late.take (i := 27) (d := some 79) (v := ?v27_128) rfl rfl (by kernel_rfl) (by kernel_rfl) (by kernel_rfl) (by kernel_rfl) hQ (Or.inl ⟨by rfl, ?y27_128⟩) ?r27_128
  case y27_128 =>
    intro w' hSw
    have k00 := (bx.ext hSw).c8
    have k10 := (by_.ext hSw).c8
    have k20 := (bP.ext hSw).c4
    have k30 := (bQ.ext hSw).c4
    go_simp
    try with_reducible rfl
  try simp only [Act.put]
  try simp only [List.setIfInBounds_toArray]
  try simp only [List.set_cons_succ]
  try simp only [List.set_cons_zero]
  refine Late.done0 (by kernel_rfl) (fun wz ez Ez => ?_)
  clear hAl hQ ES
  replace bx := bx.ext Ez
  replace by_ := by_.ext Ez
  replace bP := bP.ext Ez
  replace bQ := bQ.ext Ez
  replace extW := extW.trans Ez
  clear Ez ez y3 y4 y5 r3 r4 r5 HU3 HU4 HU5
  cases hz : inB lo1 hi1 ((0 : Int) : Rat) with
  | true =>
    have HZ := Lib.hid hz
    clear hz
    have k0 := bx.cell 0 (.bool sa1) rfl
    have k1 := bx.cell 1 (.slice Aa1 na1 ca1) rfl
    have k2 := bx.cell 2 (.bool ta1) rfl
    have k3 := bx.cell 3 (.slice Ba1 ma1 da1) rfl
    have k4 := bx.cell 4 (.bool sa2) rfl
    have k5 := bx.cell 5 (.slice Aa2 na2 ca2) rfl
    have k6 := bx.cell 6 (.bool ta2) rfl
    have k7 := bx.cell 7 (.slice Ba2 ma2 da2) rfl
    have x0 := by_.cell 0 (.bool sb1) rfl
    have x1 := by_.cell 1 (.slice Ab1 nb1 cb1) rfl
    have x2 := by_.cell 2 (.bool tb1) rfl
    have x3 := by_.cell 3 (.slice Bb1 mb1 db1) rfl
    have x4 := by_.cell 4 (.bool sb2) rfl
    have x5 := by_.cell 5 (.slice Ab2 nb2 cb2) rfl
    have x6 := by_.cell 6 (.bool tb2) rfl
    have x7 := by_.cell 7 (.slice Bb2 mb2 db2) rfl
    go_wp2_with fail
    refine (p_DivV_0 (h0.ext extW) (h1.ext extW) (by omega) HZ.out).mono ?_
    rintro e W6 ⟨rfl, hxt⟩
    clear k0 k1 k2 k3 k4 k5 k6 k7 x0 x1 x2 x3 x4 x5 x6 x7
    replace bx := bx.ext hxt
    replace by_ := by_.ext hxt
    replace bP := bP.ext hxt
    replace bQ := bQ.ext hxt
    replace extW := extW.trans hxt
    clear hxt
    go_upto_region 7 with (fail)
    refine at_world (fun V => Ext W6 V ∧ Box V W6.heap.size 28 #[.bool false, .slice none 0 0, .bool false, .slice none 0 0, .bool false, .slice none 0 0, .bool false, .slice none 0 0]) ⟨(Ext.refl W6).alloc _, Box.new W6 _ _⟩ ?_
    generalize W6.heap.size = g9
    rintro W6v ⟨EV, b9⟩
    replace bx := bx.ext EV
    replace by_ := by_.ext EV
    replace bP := bP.ext EV
    replace bQ := bQ.ext EV
    replace extW := extW.trans EV
    clear EV
    have u0 := bP.cell 0 (.bool sl1) rfl
    have u1 := bP.cell 1 (.slice Al1 nl1 cl1) rfl
    have u2 := bP.cell 2 (.bool tl1) rfl
    have u3 := bP.cell 3 (.slice Bl1 ml1 dl1) rfl
    go_wp2_with fail
    refine (q_MulR (hx.ext extW) (hx.ext extW) (by omega) (by omega)).mono ?_
    rintro e W9 ⟨s9r, A9r, n9r, c9r, t9r, B9r, m9r, d9r, rfl, r9, hxt⟩
    clear u0 u1 u2 u3
    replace bx := bx.ext hxt
    replace by_ := by_.ext hxt
    replace bP := bP.ext hxt
    replace bQ := bQ.ext hxt
    replace extW := extW.trans hxt
    clear hxt
    go_upto_region 12 with (fail)
    refine at_world (fun V => Ext W9 V ∧ Box V W9.heap.size 26 #[.bool s9r, .slice A9r n9r c9r, .bool t9r, .slice B9r m9r d9r] ∧ NR V (x * x) (10 + 10) s9r A9r n9r c9r t9r B9r m9r d9r) ⟨(Ext.refl W9).alloc _, Box.new W9 _ _, r9.ext ((Ext.refl W9).alloc _)⟩ ?_
    generalize W9.heap.size = g13
    clear r9
    rintro W9v ⟨EV, b13, r9⟩
    replace bx := bx.ext EV
    replace by_ := by_.ext EV
    replace bP := bP.ext EV
    replace bQ := bQ.ext EV
    replace extW := extW.trans EV
    clear EV
    have u0 := b13.cell 0 (.bool s9r) rfl
    have u1 := b13.cell 1 (.slice A9r n9r c9r) rfl
    have u2 := b13.cell 2 (.bool t9r) rfl
    have u3 := b13.cell 3 (.slice B9r m9r d9r) rfl
    go_wp2_with fail
    refine (p_Point r9 (by omega)).mono ?_
    rintro e W10 ⟨s10_, A10_, n10_, c10_, t10_, B10_, m10_, d10_, s10', A10', n10', c10', t10', B10', m10', d10', rfl, y10, hxt⟩
    clear u0 u1 u2 u3
    replace bx := bx.ext hxt
    replace by_ := by_.ext hxt
    replace bP := bP.ext hxt
    replace bQ := bQ.ext hxt
    replace b13 := b13.ext hxt
    replace r9 := r9.ext hxt
    replace extW := extW.trans hxt
    clear hxt
    go_wp2_with fail
    refine (sq20_call y10 (by omega) (sq_num x) (hT.ext extW)).mono ?_
    rintro e W11 ⟨rA, rB, hg1, hg2, s11_, A11_, n11_, c11_, t11_, B11_, m11_, d11_, s11', A11', n11', c11', t11', B11', m11', d11', rfl, y11, hxt⟩
    have HG := Lib.hid (And.intro hg1 hg2)
    clear hg1 hg2 y10
    replace bx := bx.ext hxt
    replace by_ := by_.ext hxt
    replace bP := bP.ext hxt
    replace bQ := bQ.ext hxt
    replace b13 := b13.ext hxt
    replace r9 := r9.ext hxt
    replace extW := extW.trans hxt
    clear hxt
    have ltE := bP.lt
    go_upto_region 13 with (fail)
    refine at_world (fun V => Ext W11 V ∧ Box V W11.heap.size 28 #[.bool s11_, .slice A11_ n11_ c11_, .bool t11_, .slice B11_ m11_ d11_, .bool s11', .slice A11' n11' c11', .bool t11', .slice B11' m11' d11'] ∧ IV V (mkQ rA (2 ^ 20)) (mkQ rB (2 ^ 20)) (10 + 10 + 17) s11_ A11_ n11_ c11_ t11_ B11_ m11_ d11_ s11' A11' n11' c11' t11' B11' m11' d11') ⟨(Ext.refl W11).alloc _, Box.new W11 _ _, y11.ext ((Ext.refl W11).alloc _)⟩ ?_
    generalize W11.heap.size = g14 at ltE ⊢
    clear y11
    rintro W11v ⟨EV, b14, y11⟩
    replace bx := bx.ext EV
    replace by_ := by_.ext EV
    replace bP := bP.ext EV
    replace bQ := bQ.ext EV
    replace b13 := b13.ext EV
    replace r9 := r9.ext EV
    replace extW := extW.trans EV
    clear EV
    by_cases hs : x.num < 0
    · skip
      have HS := Lib.hid (Int.sign_eq_neg_one_of_neg hs)
      have HN := Lib.hid (show 0 ≤ (-x).num by rw [Rat.neg_num]; omega)
      clear hs
      have u0 := bP.cell 0 (.bool sl1) rfl
      have u1 := bP.cell 1 (.slice Al1 nl1 cl1) rfl
      have u2 := bP.cell 2 (.bool tl1) rfl
      have u3 := bP.cell 3 (.slice Bl1 ml1 dl1) rfl
      go_wp2_with fail
      refine (q_SignR (hx.ext extW) (by omega)).mono ?_
      rintro e W12 ⟨rfl, hxt⟩
      rw [HS.out]
      clear u0 u1 u2 u3
      replace bP := bP.ext hxt
      replace b14 := b14.ext hxt
      replace y11 := y11.ext hxt
      replace extW := extW.trans hxt
      clear hxt
      have u0 := bP.cell 0 (.bool sl1) rfl
      have u1 := bP.cell 1 (.slice Al1 nl1 cl1) rfl
      have u2 := bP.cell 2 (.bool tl1) rfl
      have u3 := bP.cell 3 (.slice Bl1 ml1 dl1) rfl
      go_wp2_with fail
      refine (q_NegR (hx.ext extW) (by omega)).mono ?_
      rintro e W13 ⟨s14r, A14r, n14r, c14r, t14r, B14r, m14r, d14r, rfl, r14, hxt⟩
      clear u0 u1 u2 u3
      replace bP := bP.ext hxt
      replace b14 := b14.ext hxt
      replace y11 := y11.ext hxt
      replace extW := extW.trans hxt
      clear hxt
      have p10 := bP.cell 0 _ rfl
      have p11 := bP.cell 1 _ rfl
      have p12 := bP.cell 2 _ rfl
      have p13 := bP.cell 3 _ rfl
      have f10 := bP.frozen 0
      have f11 := bP.frozen 1
      have f12 := bP.frozen 2
      have f13 := bP.frozen 3
      go_upto_region 15 with (fail)
      refine at_world (fun Y => Ext w Y ∧ Box Y g14 28 #[.bool s11_, .slice A11_ n11_ c11_, .bool t11_, .slice B11_ m11_ d11_, .bool s11', .slice A11' n11' c11', .bool t11', .slice B11' m11' d11'] ∧ Box Y g5 26 #[.bool s14r, .slice A14r n14r c14r, .bool t14r, .slice B14r m14r d14r] ∧ IV Y (mkQ rA (2 ^ 20)) (mkQ rB (2 ^ 20)) (10 + 10 + 17) s11_ A11_ n11_ c11_ t11_ B11_ m11_ d11_ s11' A11' n11' c11' t11' B11' m11' d11' ∧ NR Y (-x) 10 s14r A14r n14r c14r t14r B14r m14r d14r) ?_ ?_
      · have q1 := fin_quad (s := s14r) (A := A14r) (n := n14r) (c := c14r) (t := t14r) (B := B14r) (m := m14r) (d := d14r) bP
        exact ⟨q1.2.2.1 _ extW lgw, q1.2.2.2 _ _ _ (by omega) b14, q1.1, ⟨⟨q1.2.1 _ _ _ _ _ _ y11.low.num, q1.2.1 _ _ _ _ _ _ y11.low.den⟩, ⟨q1.2.1 _ _ _ _ _ _ y11.high.num, q1.2.1 _ _ _ _ _ _ y11.high.den⟩⟩, ⟨q1.2.1 _ _ _ _ _ _ r14.num, q1.2.1 _ _ _ _ _ _ r14.den⟩⟩
      clear extW b14 bP y11 r14 bx by_ bQ b13 r9 p10 p11 p12 p13 f10 f11 f12 f13
      rintro Y ⟨extW, b14, bP, y11, r14⟩
      have k0 := b14.cell 0 (.bool s11_) rfl
      have k1 := b14.cell 1 (.slice A11_ n11_ c11_) rfl
      have k2 := b14.cell 2 (.bool t11_) rfl
      have k3 := b14.cell 3 (.slice B11_ m11_ d11_) rfl
      have k4 := b14.cell 4 (.bool s11') rfl
      have k5 := b14.cell 5 (.slice A11' n11' c11') rfl
      have k6 := b14.cell 6 (.bool t11') rfl
      have k7 := b14.cell 7 (.slice B11' m11' d11') rfl
      have u0 := bP.cell 0 (.bool s14r) rfl
      have u1 := bP.cell 1 (.slice A14r n14r c14r) rfl
      have u2 := bP.cell 2 (.bool t14r) rfl
      have u3 := bP.cell 3 (.slice B14r m14r d14r) rfl
      go_wp2_with fail
      refine (q_ContainsV y11 r14 (by omega) (by omega)).mono ?_
      rintro e W14 ⟨rfl, hxt⟩
      rw [enc_in HN.out (by rw [neg_sq]; exact HG.out.1) (by rw [neg_sq]; exact HG.out.2)]
      go_wp2_with fail
      go_ret
      exact ⟨rfl, extW.trans hxt⟩
    · clear lgw ltE
      have hn : 0 ≤ x.num := by omega
      obtain ⟨S, hS, dS⟩ : ∃ S, x.num.sign = S ∧ decide (S < 0) = false := ⟨_, rfl, decide_eq_false (by
        intro h1
        rcases Int.lt_or_eq_of_le hn with h2 | h2
        · rw [Int.sign_eq_one_of_pos h2] at h1; omega
        · rw [← h2] at h1; simp at h1)⟩
      have HS := Lib.hid hS
      have HN := Lib.hid hn
      clear hs hn hS
      have u0 := bP.cell 0 (.bool sl1) rfl
      have u1 := bP.cell 1 (.slice Al1 nl1 cl1) rfl
      have u2 := bP.cell 2 (.bool tl1) rfl
      have u3 := bP.cell 3 (.slice Bl1 ml1 dl1) rfl
      go_wp2_with fail
      refine (q_SignR (hx.ext extW) (by omega)).mono ?_
      rintro e W12 ⟨rfl, hxt⟩
      rw [HS.out]
      clear u0 u1 u2 u3
      replace bP := bP.ext hxt
      replace b14 := b14.ext hxt
      replace y11 := y11.ext hxt
      replace extW := extW.trans hxt
      clear hxt
      have k0 := b14.cell 0 (.bool s11_) rfl
      have k1 := b14.cell 1 (.slice A11_ n11_ c11_) rfl
      have k2 := b14.cell 2 (.bool t11_) rfl
      have k3 := b14.cell 3 (.slice B11_ m11_ d11_) rfl
      have k4 := b14.cell 4 (.bool s11') rfl
      have k5 := b14.cell 5 (.slice A11' n11' c11') rfl
      have k6 := b14.cell 6 (.bool t11') rfl
      have k7 := b14.cell 7 (.slice B11' m11' d11') rfl
      have u0 := bP.cell 0 (.bool sl1) rfl
      have u1 := bP.cell 1 (.slice Al1 nl1 cl1) rfl
      have u2 := bP.cell 2 (.bool tl1) rfl
      have u3 := bP.cell 3 (.slice Bl1 ml1 dl1) rfl
      go_wp2_with fail
      refine (q_ContainsV y11 (hx.ext extW) (by omega) (by omega)).mono ?_
      rintro e W14 ⟨rfl, hxt⟩
      rw [enc_in HN.out HG.out.1 HG.out.2]
      go_wp2_with fail
      go_ret
      exact ⟨rfl, extW.trans hxt⟩
  | false =>
    have HZ := Lib.hid hz
    clear hz
    have k0 := bx.cell 0 (.bool sa1) rfl
    have k1 := bx.cell 1 (.slice Aa1 na1 ca1) rfl
    have k2 := bx.cell 2 (.bool ta1) rfl
    have k3 := bx.cell 3 (.slice Ba1 ma1 da1) rfl
    have k4 := bx.cell 4 (.bool sa2) rfl
    have k5 := bx.cell 5 (.slice Aa2 na2 ca2) rfl
    have k6 := bx.cell 6 (.bool ta2) rfl
    have k7 := bx.cell 7 (.slice Ba2 ma2 da2) rfl
    have x0 := by_.cell 0 (.bool sb1) rfl
    have x1 := by_.cell 1 (.slice Ab1 nb1 cb1) rfl
    have x2 := by_.cell 2 (.bool tb1) rfl
    have x3 := by_.cell 3 (.slice Bb1 mb1 db1) rfl
    have x4 := by_.cell 4 (.bool sb2) rfl
    have x5 := by_.cell 5 (.slice Ab2 nb2 cb2) rfl
    have x6 := by_.cell 6 (.bool tb2) rfl
    have x7 := by_.cell 7 (.slice Bb2 mb2 db2) rfl
    go_wp2_with fail
    refine (p_DivV_nz (h0.ext extW) (h1.ext extW) (by omega) (by omega) (hT.ext extW) HLE.out HZ.out).mono ?_
    rintro e W6 ⟨la6, ha6, hu6, s6_, A6_, n6_, c6_, t6_, B6_, m6_, d6_, s6', A6', n6', c6', t6', B6', m6', d6', rfl, y6, hxt⟩
    have HU6 := Lib.hid hu6
    clear hu6
    clear k0 k1 k2 k3 k4 k5 k6 k7 x0 x1 x2 x3 x4 x5 x6 x7
    replace bx := bx.ext hxt
    replace by_ := by_.ext hxt
    replace bP := bP.ext hxt
    replace bQ := bQ.ext hxt
    replace extW := extW.trans hxt
    clear hxt
    go_upto_region 7 with (fail)
    refine at_world (fun V => Ext W6 V ∧ Box V W6.heap.size 28 #[.bool s6_, .slice A6_ n6_ c6_, .bool t6_, .slice B6_ m6_ d6_, .bool s6', .slice A6' n6' c6', .bool t6', .slice B6' m6' d6'] ∧ IV V la6 ha6 (10 + 10) s6_ A6_ n6_ c6_ t6_ B6_ m6_ d6_ s6' A6' n6' c6' t6' B6' m6' d6') ⟨(Ext.refl W6).alloc _, Box.new W6 _ _, y6.ext ((Ext.refl W6).alloc _)⟩ ?_
    generalize W6.heap.size = g9
    clear y6
    rintro W6v ⟨EV, b9, y6⟩
    replace bx := bx.ext EV
    replace by_ := by_.ext EV
    replace bP := bP.ext EV
    replace bQ := bQ.ext EV
    replace extW := extW.trans EV
    clear EV
    have u0 := bP.cell 0 (.bool sl1) rfl
    have u1 := bP.cell 1 (.slice Al1 nl1 cl1) rfl
    have u2 := bP.cell 2 (.bool tl1) rfl
    have u3 := bP.cell 3 (.slice Bl1 ml1 dl1) rfl
    have v0 := bQ.cell 0 (.bool sl2) rfl
    have v1 := bQ.cell 1 (.slice Al2 nl2 cl2) rfl
    have v2 := bQ.cell 2 (.bool tl2) rfl
    have v3 := bQ.cell 3 (.slice Bl2 ml2 dl2) rfl
    go_wp2_with fail
    refine (q_Div_nz (hx.ext extW) (hy.ext extW) (by omega) (by omega) (inv_between HZ.out HI.out.2.1 HI.out.2.2).2.2).mono ?_
    rintro e W7 ⟨s7r, A7r, n7r, c7r, t7r, B7r, m7r, d7r, rfl, r7, hxt⟩
    clear u0 u1 u2 u3 v0 v1 v2 v3
    replace bx := bx.ext hxt
    replace by_ := by_.ext hxt
    replace bP := bP.ext hxt
    replace bQ := bQ.ext hxt
    replace b9 := b9.ext hxt
    replace y6 := y6.ext hxt
    replace extW := extW.trans hxt
    clear hxt
    go_upto_region 9 with (fail)
    refine at_world (fun V => Ext W7 V ∧ Box V W7.heap.size 26 #[.bool s7r, .slice A7r n7r c7r, .bool t7r, .slice B7r m7r d7r] ∧ NR V (x / y) (10 + 10) s7r A7r n7r c7r t7r B7r m7r d7r) ⟨(Ext.refl W7).alloc _, Box.new W7 _ _, r7.ext ((Ext.refl W7).alloc _)⟩ ?_
    generalize W7.heap.size = g11
    clear r7
    rintro W7v ⟨EV, b11, r7⟩
    replace bx := bx.ext EV
    replace by_ := by_.ext EV
    replace bP := bP.ext EV
    replace bQ := bQ.ext EV
    replace b9 := b9.ext EV
    replace y6 := y6.ext EV
    replace extW := extW.trans EV
    clear EV
    have k0 := b9.cell 0 (.bool s6_) rfl
    have k1 := b9.cell 1 (.slice A6_ n6_ c6_) rfl
    have k2 := b9.cell 2 (.bool t6_) rfl
    have k3 := b9.cell 3 (.slice B6_ m6_ d6_) rfl
    have k4 := b9.cell 4 (.bool s6') rfl
    have k5 := b9.cell 5 (.slice A6' n6' c6') rfl
    have k6 := b9.cell 6 (.bool t6') rfl
    have k7 := b9.cell 7 (.slice B6' m6' d6') rfl
    have u0 := b11.cell 0 (.bool s7r) rfl
    have u1 := b11.cell 1 (.slice A7r n7r c7r) rfl
    have u2 := b11.cell 2 (.bool t7r) rfl
    have u3 := b11.cell 3 (.slice B7r m7r d7r) rfl
    go_wp2_with fail
    refine (q_ContainsV y6 r7 (by omega) (by omega)).mono ?_
    rintro e W8 ⟨rfl, hxt⟩
    rw [inB_true (div_four HU6.out.four HZ.out HI.out.1.1 HI.out.1.2 HI.out.2.1 HI.out.2.2)]
    clear k0 k1 k2 k3 k4 k5 k6 k7 u0 u1 u2 u3
    replace bx := bx.ext hxt
    replace by_ := by_.ext hxt
    replace bP := bP.ext hxt
    replace bQ := bQ.ext hxt
    replace b9 := b9.ext hxt
    replace y6 := y6.ext hxt
    replace b11 := b11.ext hxt
    replace r7 := r7.ext hxt
    replace extW := extW.trans hxt
    clear hxt
    clear b9 y6 b11 r7 HU6
    have u0 := bP.cell 0 (.bool sl1) rfl
    have u1 := bP.cell 1 (.slice Al1 nl1 cl1) rfl
    have u2 := bP.cell 2 (.bool tl1) rfl
    have u3 := bP.cell 3 (.slice Bl1 ml1 dl1) rfl
    go_wp2_with fail
    refine (q_MulR (hx.ext extW) (hx.ext extW) (by omega) (by omega)).mono ?_
    rintro e W9 ⟨s9r, A9r, n9r, c9r, t9r, B9r, m9r, d9r, rfl, r9, hxt⟩
    clear u0 u1 u2 u3
    replace bx := bx.ext hxt
    replace by_ := by_.ext hxt
    replace bP := bP.ext hxt
    replace bQ := bQ.ext hxt
    replace extW := extW.trans hxt
    clear hxt
    go_upto_region 12 with (fail)
    refine at_world (fun V => Ext W9 V ∧ Box V W9.heap.size 26 #[.bool s9r, .slice A9r n9r c9r, .bool t9r, .slice B9r m9r d9r] ∧ NR V (x * x) (10 + 10) s9r A9r n9r c9r t9r B9r m9r d9r) ⟨(Ext.refl W9).alloc _, Box.new W9 _ _, r9.ext ((Ext.refl W9).alloc _)⟩ ?_
    generalize W9.heap.size = g13
    clear r9
    rintro W9v ⟨EV, b13, r9⟩
    replace bx := bx.ext EV
    replace by_ := by_.ext EV
    replace bP := bP.ext EV
    replace bQ := bQ.ext EV
    replace extW := extW.trans EV
    clear EV
    have u0 := b13.cell 0 (.bool s9r) rfl
    have u1 := b13.cell 1 (.slice A9r n9r c9r) rfl
    have u2 := b13.cell 2 (.bool t9r) rfl
    have u3 := b13.cell 3 (.slice B9r m9r d9r) rfl
    go_wp2_with fail
    refine (p_Point r9 (by omega)).mono ?_
    rintro e W10 ⟨s10_, A10_, n10_, c10_, t10_, B10_, m10_, d10_, s10', A10', n10', c10', t10', B10', m10', d10', rfl, y10, hxt⟩
    clear u0 u1 u2 u3
    replace bx := bx.ext hxt
    replace by_ := by_.ext hxt
    replace bP := bP.ext hxt
    replace bQ := bQ.ext hxt
    replace b13 := b13.ext hxt
    replace r9 := r9.ext hxt
    replace extW := extW.trans hxt
    clear hxt
    go_wp2_with fail
    refine (sq20_call y10 (by omega) (sq_num x) (hT.ext extW)).mono ?_
    rintro e W11 ⟨rA, rB, hg1, hg2, s11_, A11_, n11_, c11_, t11_, B11_, m11_, d11_, s11', A11', n11', c11', t11', B11', m11', d11', rfl, y11, hxt⟩
    have HG := Lib.hid (And.intro hg1 hg2)
    clear hg1 hg2 y10
    replace bx := bx.ext hxt
    replace by_ := by_.ext hxt
    replace bP := bP.ext hxt
    replace bQ := bQ.ext hxt
    replace b13 := b13.ext hxt
    replace r9 := r9.ext hxt
    replace extW := extW.trans hxt
    clear hxt
    have ltE := bP.lt
    go_upto_region 13 with (fail)
    refine at_world (fun V => Ext W11 V ∧ Box V W11.heap.size 28 #[.bool s11_, .slice A11_ n11_ c11_, .bool t11_, .slice B11_ m11_ d11_, .bool s11', .slice A11' n11' c11', .bool t11', .slice B11' m11' d11'] ∧ IV V (mkQ rA (2 ^ 20)) (mkQ rB (2 ^ 20)) (10 + 10 + 17) s11_ A11_ n11_ c11_ t11_ B11_ m11_ d11_ s11' A11' n11' c11' t11' B11' m11' d11') ⟨(Ext.refl W11).alloc _, Box.new W11 _ _, y11.ext ((Ext.refl W11).alloc _)⟩ ?_
    generalize W11.heap.size = g14 at ltE ⊢
    clear y11
    rintro W11v ⟨EV, b14, y11⟩
    replace bx := bx.ext EV
    replace by_ := by_.ext EV
    replace bP := bP.ext EV
    replace bQ := bQ.ext EV
    replace b13 := b13.ext EV
    replace r9 := r9.ext EV
    replace extW := extW.trans EV
    clear EV
    by_cases hs : x.num < 0
    · skip
      have HS := Lib.hid (Int.sign_eq_neg_one_of_neg hs)
      have HN := Lib.hid (show 0 ≤ (-x).num by rw [Rat.neg_num]; omega)
      clear hs
      have u0 := bP.cell 0 (.bool sl1) rfl
      have u1 := bP.cell 1 (.slice Al1 nl1 cl1) rfl
      have u2 := bP.cell 2 (.bool tl1) rfl
      have u3 := bP.cell 3 (.slice Bl1 ml1 dl1) rfl
      go_wp2_with fail
      refine (q_SignR (hx.ext extW) (by omega)).mono ?_
      rintro e W12 ⟨rfl, hxt⟩
      rw [HS.out]
      clear u0 u1 u2 u3
      replace bP := bP.ext hxt
      replace b14 := b14.ext hxt
      replace y11 := y11.ext hxt
      replace extW := extW.trans hxt
      clear hxt
      have u0 := bP.cell 0 (.bool sl1) rfl
      have u1 := bP.cell 1 (.slice Al1 nl1 cl1) rfl
      have u2 := bP.cell 2 (.bool tl1) rfl
      have u3 := bP.cell 3 (.slice Bl1 ml1 dl1) rfl
      go_wp2_with fail
      refine (q_NegR (hx.ext extW) (by omega)).mono ?_
      rintro e W13 ⟨s14r, A14r, n14r, c14r, t14r, B14r, m14r, d14r, rfl, r14, hxt⟩
      clear u0 u1 u2 u3
      replace bP := bP.ext hxt
      replace b14 := b14.ext hxt
      replace y11 := y11.ext hxt
      replace extW := extW.trans hxt
      clear hxt
      have p10 := bP.cell 0 _ rfl
      have p11 := bP.cell 1 _ rfl
      have p12 := bP.cell 2 _ rfl
      have p13 := bP.cell 3 _ rfl
      have f10 := bP.frozen 0
      have f11 := bP.frozen 1
      have f12 := bP.frozen 2
      have f13 := bP.frozen 3
      go_upto_region 15 with (fail)
      refine at_world (fun Y => Ext w Y ∧ Box Y g14 28 #[.bool s11_, .slice A11_ n11_ c11_, .bool t11_, .slice B11_ m11_ d11_, .bool s11', .slice A11' n11' c11', .bool t11', .slice B11' m11' d11'] ∧ Box Y g5 26 #[.bool s14r, .slice A14r n14r c14r, .bool t14r, .slice B14r m14r d14r] ∧ IV Y (mkQ rA (2 ^ 20)) (mkQ rB (2 ^ 20)) (10 + 10 + 17) s11_ A11_ n11_ c11_ t11_ B11_ m11_ d11_ s11' A11' n11' c11' t11' B11' m11' d11' ∧ NR Y (-x) 10 s14r A14r n14r c14r t14r B14r m14r d14r) ?_ ?_
      · have q1 := fin_quad (s := s14r) (A := A14r) (n := n14r) (c := c14r) (t := t14r) (B := B14r) (m := m14r) (d := d14r) bP
        exact ⟨q1.2.2.1 _ extW lgw, q1.2.2.2 _ _ _ (by omega) b14, q1.1, ⟨⟨q1.2.1 _ _ _ _ _ _ y11.low.num, q1.2.1 _ _ _ _ _ _ y11.low.den⟩, ⟨q1.2.1 _ _ _ _ _ _ y11.high.num, q1.2.1 _ _ _ _ _ _ y11.high.den⟩⟩, ⟨q1.2.1 _ _ _ _ _ _ r14.num, q1.2.1 _ _ _ _ _ _ r14.den⟩⟩
      clear extW b14 bP y11 r14 bx by_ bQ b13 r9 p10 p11 p12 p13 f10 f11 f12 f13
      rintro Y ⟨extW, b14, bP, y11, r14⟩
      have k0 := b14.cell 0 (.bool s11_) rfl
      have k1 := b14.cell 1 (.slice A11_ n11_ c11_) rfl
      have k2 := b14.cell 2 (.bool t11_) rfl
      have k3 := b14.cell 3 (.slice B11_ m11_ d11_) rfl
      have k4 := b14.cell 4 (.bool s11') rfl
      have k5 := b14.cell 5 (.slice A11' n11' c11') rfl
      have k6 := b14.cell 6 (.bool t11') rfl
      have k7 := b14.cell 7 (.slice B11' m11' d11') rfl
      have u0 := bP.cell 0 (.bool s14r) rfl
      have u1 := bP.cell 1 (.slice A14r n14r c14r) rfl
      have u2 := bP.cell 2 (.bool t14r) rfl
      have u3 := bP.cell 3 (.slice B14r m14r d14r) rfl
      go_wp2_with fail
      refine (q_ContainsV y11 r14 (by omega) (by omega)).mono ?_
      rintro e W14 ⟨rfl, hxt⟩
      rw [enc_in HN.out (by rw [neg_sq]; exact HG.out.1) (by rw [neg_sq]; exact HG.out.2)]
      go_wp2_with fail
      go_ret
      exact ⟨rfl, extW.trans hxt⟩
    · clear lgw ltE
      have hn : 0 ≤ x.num := by omega
      obtain ⟨S, hS, dS⟩ : ∃ S, x.num.sign = S ∧ decide (S < 0) = false := ⟨_, rfl, decide_eq_false (by
        intro h1
        rcases Int.lt_or_eq_of_le hn with h2 | h2
        · rw [Int.sign_eq_one_of_pos h2] at h1; omega
        · rw [← h2] at h1; simp at h1)⟩
      have HS := Lib.hid hS
      have HN := Lib.hid hn
      clear hs hn hS
      have u0 := bP.cell 0 (.bool sl1) rfl
      have u1 := bP.cell 1 (.slice Al1 nl1 cl1) rfl
      have u2 := bP.cell 2 (.bool tl1) rfl
      have u3 := bP.cell 3 (.slice Bl1 ml1 dl1) rfl
      go_wp2_with fail
      refine (q_SignR (hx.ext extW) (by omega)).mono ?_
      rintro e W12 ⟨rfl, hxt⟩
      rw [HS.out]
      clear u0 u1 u2 u3
      replace bP := bP.ext hxt
      replace b14 := b14.ext hxt
      replace y11 := y11.ext hxt
      replace extW := extW.trans hxt
      clear hxt
      have k0 := b14.cell 0 (.bool s11_) rfl
      have k1 := b14.cell 1 (.slice A11_ n11_ c11_) rfl
      have k2 := b14.cell 2 (.bool t11_) rfl
      have k3 := b14.cell 3 (.slice B11_ m11_ d11_) rfl
      have k4 := b14.cell 4 (.bool s11') rfl
      have k5 := b14.cell 5 (.slice A11' n11' c11') rfl
      have k6 := b14.cell 6 (.bool t11') rfl
      have k7 := b14.cell 7 (.slice B11' m11' d11') rfl
      have u0 := bP.cell 0 (.bool sl1) rfl
      have u1 := bP.cell 1 (.slice Al1 nl1 cl1) rfl
      have u2 := bP.cell 2 (.bool tl1) rfl
      have u3 := bP.cell 3 (.slice Bl1 ml1 dl1) rfl
      go_wp2_with fail
      refine (q_ContainsV y11 (hx.ext extW) (by omega) (by omega)).mono ?_
      rintro e W14 ⟨rfl, hxt⟩
      rw [enc_in HN.out HG.out.1 HG.out.2]
      go_wp2_with fail
      go_ret
      exact ⟨rfl, extW.trans hxt⟩
end Go.Proofs.YtoabhnofppledaaGreatDoor
namespace Go.Proofs.YtoabhnofppledaaGreatDoor
open Go.ChangeShapes Go.WideShapes Go.ChangeAt Go.RowKit Go.Joins
section
variable {H : Type} {enc : TypeId × Value → H} {W : World} {base : Nat} {held : Bool}
theorem cells2R : Tryz.prog.cellsOf 51 = 8 := by kernel_rfl
set_option maxRecDepth 100000 in
theorem open_two {r : Reach} {b0 : Nat} {v : Value} {d : DataW H} {p : List MemPlace} (hv : Value.okWide Tryz.prog W r b0 51 v) (h : DataW.Trod enc Tryz.prog W base (fun _ => true) held 51 v d p) :
    ∃ s A n c t B m d s' A' n' c' t' B' m' d' xs ys xs' ys', v = .agg #[.bool s, .slice A n c, .bool t, .slice B m d, .bool s', .slice A' n' c', .bool t', .slice B' m' d'] ∧ RawV W A n c xs B m d ys A' n' c' xs' B' m' d' ys' := by
  have hv' : ∃ cs, v = .agg cs ∧ cs.size = Tryz.prog.cellsOf 51 := by
    simp only [Value.okWide, Tryz.underlying51] at hv
    obtain ⟨cs, h1, h2, _⟩ := hv
    exact ⟨cs, h1, h2⟩
  obtain ⟨cs, rfl, hsz⟩ := hv'
  obtain ⟨c0, c1, c2, c3, c4, c5, c6, c7, rfl⟩ := array8 (hsz.trans cells2R)
  obtain ⟨fuel, hf⟩ := h
  obtain ⟨xs0, m0, _, _, _, hl, hel⟩ := DataW.trod_array Tryz.underlying51 hf
  have h0 := hel 0 (by omega)
  have h1 := hel 1 (by omega)
  rw [cellsR] at h0 h1
  simp only [Value.cells, Nat.zero_mul, Nat.one_mul, List.drop_zero, List.drop_succ_cons, List.take_succ_cons, List.take_zero] at h0 h1
  obtain ⟨y0, hy0⟩ : ∃ y, xs0[0]? = some y := ⟨xs0[0]'(by omega), List.getElem?_eq_getElem (by omega)⟩
  obtain ⟨y1, hy1⟩ : ∃ y, xs0[1]? = some y := ⟨xs0[1]'(by omega), List.getElem?_eq_getElem (by omega)⟩
  rw [hy0] at h0
  rw [hy1] at h1
  obtain ⟨s, A, n, c, t, B, m, d, xs, ys, rfl, rfl, rfl, rfl, r1, r2⟩ := open_ratc h0
  obtain ⟨s', A', n', c', t', B', m', d', xs', ys', rfl, rfl, rfl, rfl, r3, r4⟩ := open_ratc h1
  exact ⟨s, A, n, c, t, B, m, d, s', A', n', c', t', B', m', d', xs, ys, xs', ys', rfl, r1, r2, r3, r4⟩
end
end Go.Proofs.YtoabhnofppledaaGreatDoor
namespace Go.Proofs.YtoabhnofppledaaGreatDoor
open Go.ChangeShapes Go.WideShapes Go.ChangeAt Go.RowKit Go.Joins
set_option maxRecDepth 100000
theorem encl3_lifted (os : Os) (started : os.Started) (H : Type) (enc : TypeId × Value → H) :
    ReturnsInHanded {} Tryz.checked os 10 .any (fun w args => (Rows.intervalEnclosureSpec.pre enc Tryz.prog Tryz.f10 [] false w args ∧ laidMetH Tryz.prog laidI w) ∧ sizedMet enc Tryz.prog Tryz.f10 (OpenSpec.ofChange Rows.intervalEnclosureSpec) false w args)
      (Rows.intervalEnclosureSpec.post enc Tryz.prog Tryz.f10 false true false false) := by
  refine returnsInHanded_of_change_and (C := Tryz.checked) (X := fun w _ => laidMetH Tryz.prog laidI w) (fun _ _ _ hh h => h.of_heap hh) Tryz.own started (by kernel_rfl) Tryz.func10
    (ChangeSpec.witness_shaped (enc := enc) (C := Tryz.checked) (os := os) (X := fun w _ => laidMetH Tryz.prog laidI w) false (World.doorLaid Tryz.prog 400 os) #[Value.agg #[.bool false, .slice none 0 0, .bool false, .slice none 0 0, .bool false, .slice none 0 0, .bool false, .slice none 0 0], Value.agg #[.bool false, .slice none 0 0, .bool false, .slice none 0 0, .bool false, .slice none 0 0, .bool false, .slice none 0 0], Value.agg #[.bool false, .slice none 0 0, .bool false, .slice none 0 0, .bool false, .slice none 0 0, .bool false, .slice none 0 0]] 8 rfl (World.shaped_of_RefB (by kernel_rfl) (by kernel_rfl)) (by kernel_rfl) (by kernel_rfl) (by kernel_rfl) (doorI_met os _)) ?_
  intro W base args ds gs before hval0 hW _ _ hL _
  have hval : ∀ (j : Nat) t v, Tryz.f10.params[j]? = some t → args[j]? = some v → Value.okWide Tryz.prog W .any base t v := hval0
  have hW' := hW
  have hlt : ∀ p ∈ before, p.block < W.heap.size := fun p hp => hW.lt p hp
  obtain ⟨p, q, hA0, hV, rfl, _, _⟩ := hW
  have hA : DataW.TrodAll enc Tryz.prog W 0 (fun _ => true) true Tryz.f10.params.toList args.toList ds p := hA0
  rw [Tryz.params10] at hA hval
  obtain ⟨v0, v1, v2, d0, d1, d2, p0, p1, p2, rfl, rfl, rfl, h0, h1, h2⟩ := trodAll_three hA
  obtain ⟨rfl, rfl⟩ := trodVars_none hV
  simp only [List.append_nil] at hW' hlt
  obtain ⟨sa1, Aa1, na1, ca1, ta1, Ba1, ma1, da1, sa2, Aa2, na2, ca2, ta2, Ba2, ma2, da2, xa1, ya1, xa2, ya2, rfl, hr0⟩ := open_iv (hval 0 28 v0 rfl rfl) h0
  obtain ⟨sb1, Ab1, nb1, cb1, tb1, Bb1, mb1, db1, sb2, Ab2, nb2, cb2, tb2, Bb2, mb2, db2, xb1, yb1, xb2, yb2, rfl, hr1⟩ := open_iv (hval 1 28 v1 rfl rfl) h1
  obtain ⟨sl1, Al1, nl1, cl1, tl1, Bl1, ml1, dl1, sl2, Al2, nl2, cl2, tl2, Bl2, ml2, dl2, xl1, yl1, xl2, yl2, rfl, hr2⟩ := open_two (hval 2 51 v2 rfl rfl) h2
  clear hA0 hval0
  have hT := tab_of_laidH hL
  refine (encl3_any awake3 hT hr0 hr1 hr2).mono fun e W' ⟨he, hext⟩ => ?_
  subst he
  have hb : Below W.heap.size W W' := hext
  have g0 := Below.trod Tryz.laidOut (by kernel_rfl) (of_decide_eq_true (by kernel_rfl)) h0 hb (fun p hp => hlt p (List.mem_append.2 (.inl (List.mem_append.2 (.inl hp)))))
  have g1 := Below.trod Tryz.laidOut (by kernel_rfl) (of_decide_eq_true (by kernel_rfl)) h1 hb (fun p hp => hlt p (List.mem_append.2 (.inl (List.mem_append.2 (.inr hp)))))
  have g2 := Below.trod Tryz.laidOut (by kernel_rfl) (of_decide_eq_true (by kernel_rfl)) h2 hb (fun p hp => hlt p (List.mem_append.2 (.inr hp)))
  exact ⟨_, rfl, _, _, _, [], (p0 ++ (p1 ++ p2)), [], hW', trodAll_mk1 (shut_bool Tryz.underlying4 true), trodAll_mk3 g0 g1 g2, rfl, Below.frame hb _, fun h => by cases h⟩
theorem encl3_row_holds : Rows.IntervalEnclosureSaid :=
  OpenClaim.holds_of_wide 10 Tryz.f10 rfl rfl rfl rfl rfl rfl rfl ⟨rfl, rfl, rfl, rfl, rfl⟩ rfl rfl rfl rfl rfl (by kernel_rfl) Tryz.func10 (by kernel_rfl)
    (of_decide_eq_true (by kernel_rfl)) (by unfold Func.isWrapper; first | (rw [if_neg (of_decide_eq_false (by kernel_rfl))]; exact ⟨rfl, rfl⟩) | (rw [if_pos (by decide +kernel)]; kernel_rfl))
    (fun os started H enc _ => encl3_lifted os started H enc)
theorem encl3_holds : Rows.IntervalEnclosureCardSaid :=
  Claim7.holds_tied_plain_at .later [] [.data] true Rows.intervalEnclosureCard.stood.harness false
    encl3_row_holds (fun _ h => by cases h) (by kernel_rfl) (fun _ h => by cases h) intervalEnclosure_row_tie rfl ⟨rfl, rfl⟩ (by kernel_rfl) rfl
    (fun f fn hf hfn => by
      obtain rfl : f = 10 := Option.some.inj ((show Tryz.prog.funcNamed "setsquare/setsquarelaw03.IntervalEnclosure" = some 10 by kernel_rfl).symm.trans hf) |>.symm
      obtain rfl : fn = Tryz.f10 := (Option.some.inj (Tryz.func10.symm.trans hfn)).symm
      exact ⟨by kernel_rfl, fun j t ht => by
        rw [Tryz.params10] at ht
        have hm : t ∈ [28, 28, 51] := by simpa using Array.mem_of_getElem? ht
        have hall : ([28, 28, 51].all fun u => !Tryz.prog.wantsStandIn u) = true := by kernel_rfl
        exact (show Tryz.prog.wantsStandIn t = false by simpa using List.all_eq_true.1 hall t hm)⟩)
    (by kernel_rfl)
end Go.Proofs.YtoabhnofppledaaGreatDoor
