/- For every two numbers the law RationalArithmetic returns true: Add, Sub, Neg, Mul and Div return the specified numbers, the arguments keep their values, and the examples of the chapter hold. Condition: the five listed tables of Go's library hold what their initialisers lay (tied by the given card). -/
import Derived.Test.YtiioodgpkdbndaaGreatDoorM0
import Derived.Test.YtiioodgpkdbndaaGreatDoorM1
import Derived.Test.YtiioodgpkdbndaaGreatDoorM2
import Derived.Test.YtiioodgpkdbndaaGreatDoorM3
import Derived.Test.YtiioodgpkdbndaaGreatDoorM4
import Derived.Test.YtiioodgpkdbndaaGreatDoorM5
import Derived.Test.YtiioodgpkdbndaaGreatDoorM6
import Derived.Test.YtiioodgpkdbndaaGreatDoorM7
import Derived.Test.YtiioodgpkdbndaaGreatDoorM8
import Derived.Test.YtiioodgpkdbndaaGreatDoorM9
import Derived.Test.YtiioodgpkdbndaaGreatDoorMa0
import Derived.Test.YtiioodgpkdbndaaGreatDoorMa1
import Derived.Laws.BytesArg
import Derived.Test.YtiioodgpkdbndaaGreatDoorRows
import Derived.ProofKit
import Derived.Lib.SmallJoins
import Derived.Test.YtiioodgpkdbndaaGreatDoorCards
import Derived.Test.YtiioodgpkdbndaaGreatDoorTie
import Derived.LaidMore
import Derived.OpenShut
import Derived.LaidLaws
import Derived.Lay
import Derived.Lib.LaidTab
import Derived.SevenTiedAt
import Derived.Stop.Joined
import Derived.Stop.LaidErr
namespace Go.Proofs.YtiioodgpkdbndaaGreatDoor
open Go.RowKit
attribute [local go_sem ↓] Go.wp_at_zero Go.wp_at_succ
section
variable {w w' : World} {z y : Int} {q p : Rat} {L M : Nat} {s t s' t' : Bool} {A B A' B' : Option Addr} {n c m d n' c' m' d' : Nat}
set_option maxHeartbeats 2000000 in
theorem q_SameInt (h : NI w z L s A n c) (k : NI w z M t B m d) : Calls Tryz.prog 42 #[.agg #[.bool s, .slice A n c], .agg #[.bool t, .slice B m d]] w fun e w' => e = .returned (.bool true) ∧ Ext w w' := by
  obtain ⟨xs, hn, hx, hc, hcm, hi, hl⟩ := h.out
  obtain ⟨ys, hm, hy, hd, hdm, hj, hk⟩ := k.out
  obtain ⟨rfl, rfl⟩ := hi.unique hj
  obtain rfl : n = m := by omega
  have hN9 : n ≤ 9223372036854775807 := by unfold maxLen at hcm; omega
  have Hn := Lib.hid hn
  clear h k hi hj hl hk hn hm
  go_enter Tryz.func42, Tryz.ntmps42
  go_upto_region 1 with (fail)
  obtain ⟨W, hW, extW, bx, by_, hz⟩ := box2 w 24 24 #[.bool s, .slice A n c] #[.bool s, .slice B n d]
  rw [← hW]
  clear hW
  replace hx := hx.ext extW
  replace hy := hy.ext extW
  have x0 := bx.cell 0 (.bool s) rfl
  have x1 := bx.cell 1 (.slice A n c) rfl
  have y0 := by_.cell 0 (.bool s) rfl
  have y1 := by_.cell 1 (.slice B n d) rfl
  have hss : (s != s) = false := by simp
  have hnn : ((n : Int) != (n : Int)) = false := by simp
  go_wp2
  clear x0 x1 y0 y1 hss hnn
  go_loopw [5] (fun i V => ∃ k : Nat, i = .int .i64 (k : Int) ∧ k ≤ n ∧ Ext W V) (fun i _ => n - (intOf i).toNat)
  case atStart => exact ⟨0, rfl, by omega, Ext.refl _⟩
  case round =>
    obtain ⟨k, rfl, hk, hext⟩ := hrel
    have x1 := (bx.ext hext).cell 1 (.slice A n c) rfl
    have y1 := (by_.ext hext).cell 1 (.slice B n d) rfl
    by_cases hlt : k < n
    · have hlx : k < xs.length := by rw [Hn.out]; exact hlt
      obtain ⟨b1, o1, rfl, hb1, hc1⟩ := (hx.ext hext).at_ hlx
      obtain ⟨b2, o2, rfl, hb2, hc2⟩ := (hy.ext hext).at_ hlx
      generalize xs[k] = v at hc1 hc2
      have hne : ((v : Int) != (v : Int)) = false := by simp
      have i1 : (k : Int) < (n : Int) := by omega
      go_upto_region 6 with (fail)
      go_quiet (fail)
      go_wp2_with fail
      go_roundw
      case rel => exact ⟨k + 1, by go_num, by omega, hext.drewN _⟩
      case measure => simp [intOf]; omega
    · have hlt2 : decide ((k : Int) < (n : Int)) = false := decide_eq_false (by omega)
      go_wp2
      go_ret
      exact ⟨rfl, extW.trans hext⟩
set_option maxHeartbeats 2000000 in
theorem q_Same (h : NR w q L s A n c t B m d) (k : NR w q M s' A' n' c' t' B' m' d') : Calls Tryz.prog 16 #[.agg #[.bool s, .slice A n c, .bool t, .slice B m d], .agg #[.bool s', .slice A' n' c', .bool t', .slice B' m' d']] w fun e w' => e = .returned (.bool true) ∧ Ext w w' := by
  go_enter Tryz.func16, Tryz.ntmps16
  go_upto_region 1 with (fail)
  obtain ⟨W, hW, extW, bx, by_, hz⟩ := box2 w 27 27 #[.bool s, .slice A n c, .bool t, .slice B m d] #[.bool s', .slice A' n' c', .bool t', .slice B' m' d']
  rw [← hW]
  clear hW
  replace h := h.ext extW
  replace k := k.ext extW
  have x0 := bx.cell 0 (.bool s) rfl
  have x1 := bx.cell 1 (.slice A n c) rfl
  have x2 := bx.cell 2 (.bool t) rfl
  have x3 := bx.cell 3 (.slice B m d) rfl
  have y0 := by_.cell 0 (.bool s') rfl
  have y1 := by_.cell 1 (.slice A' n' c') rfl
  have y2 := by_.cell 2 (.bool t') rfl
  have y3 := by_.cell 3 (.slice B' m' d') rfl
  go_wp2_with fail
  refine (q_SameInt h.num k.num).mono ?_
  rintro e wb ⟨rfl, hxb⟩
  replace bx := bx.ext hxb
  replace by_ := by_.ext hxb
  replace h := h.ext hxb
  replace k := k.ext hxb
  replace extW := extW.trans hxb
  clear hxb x0 x1 x2 x3 y0 y1 y2 y3
  have x0 := bx.cell 0 (.bool s) rfl
  have x1 := bx.cell 1 (.slice A n c) rfl
  have x2 := bx.cell 2 (.bool t) rfl
  have x3 := bx.cell 3 (.slice B m d) rfl
  have y0 := by_.cell 0 (.bool s') rfl
  have y1 := by_.cell 1 (.slice A' n' c') rfl
  have y2 := by_.cell 2 (.bool t') rfl
  have y3 := by_.cell 3 (.slice B' m' d') rfl
  go_wp2_with fail
  refine (q_SameInt h.den k.den).mono ?_
  rintro e wc ⟨rfl, hxc⟩
  go_wp2_with fail
  go_ret
  exact ⟨rfl, extW.trans hxc⟩
set_option maxHeartbeats 2000000 in
theorem q_SubR (h : NR w q L s A n c t B m d) (k : NR w p M s' A' n' c' t' B' m' d') (hL : L ≤ 1000) (hM : M ≤ 1000) : Calls Tryz.prog 31 #[.agg #[.bool s, .slice A n c, .bool t, .slice B m d], .agg #[.bool s', .slice A' n' c', .bool t', .slice B' m' d']] w (RetNR (q - p) (L + M + 1) w) := by
  go_enter Tryz.func31, Tryz.ntmps31
  go_upto_region 1 with (fail)
  obtain ⟨W, hW, extW, bx, by_, bz, hz⟩ := box3 w 27 27 27 #[.bool s, .slice A n c, .bool t, .slice B m d] #[.bool s', .slice A' n' c', .bool t', .slice B' m' d'] #[Value.bool false, Value.slice none 0 0, Value.bool false, Value.slice none 0 0]
  rw [← hW]
  clear hW
  replace h := h.ext extW
  replace k := k.ext extW
  refine wpL.start 4 (by kernel_rfl) (fun _ _ _ _ _ => ⟨fun h => h, fun h => h⟩) (fun hQ ES => ?_)
  refine wpL.take (i := 0) (d := some 5) (v := ?v0_101) rfl rfl (by kernel_rfl) (by kernel_rfl) (by kernel_rfl) (by kernel_rfl) hQ (Or.inl ⟨by rfl, ?y0_101⟩) ES ?r0_101
  case y0_101 =>
    intro w' hSw
    have k00 := (bx.ext hSw).c4
    have k10 := (by_.ext hSw).c4
    go_simp
    try with_reducible rfl
  try simp only [Act.put]
  try simp only [List.setIfInBounds_toArray]
  try simp only [List.set_cons_succ]
  try simp only [List.set_cons_zero]
  refine wpL.take (i := 1) (d := some 6) (v := ?v1_102) rfl rfl (by kernel_rfl) (by kernel_rfl) (by kernel_rfl) (by kernel_rfl) hQ (Or.inl ⟨by rfl, ?y1_102⟩) ES ?r1_102
  case y1_102 =>
    intro w' hSw
    have k00 := (bx.ext hSw).c4
    have k10 := (by_.ext hSw).c4
    go_simp
    try with_reducible rfl
  try simp only [Act.put]
  try simp only [List.setIfInBounds_toArray]
  try simp only [List.set_cons_succ]
  try simp only [List.set_cons_zero]
  refine wpL.call (i := 2) rfl (by kernel_rfl) (fun K hK => ?_)
  go_simp
  (go_at_call 33; refine (q_NegR (k.ext ES) (by omega)).mono ?_; rintro e wa ⟨s1, A1, n1, c1, t1, B1, m1, d1, rfl, h1, hx0⟩; have E0_1 := Ext.trans ES hx0)
  refine hK.out _ _ E0_1 ?_
  clear hK K
  try simp only [Act.put]
  try simp only [List.setIfInBounds_toArray]
  try simp only [List.set_cons_succ]
  try simp only [List.set_cons_zero]
  refine wpL.call (i := 3) rfl (by kernel_rfl) (fun K hK => ?_)
  go_simp
  (go_at_call 29; refine (q_AddR (h.ext E0_1) h1 hL hM).mono ?_; rintro e wb ⟨s2, A2, n2, c2, t2, B2, m2, d2, rfl, hr, hx1⟩; have E1_1 := Ext.trans E0_1 hx1)
  refine hK.out _ _ E1_1 ?_
  clear hK K
  try simp only [Act.put]
  try simp only [List.setIfInBounds_toArray]
  try simp only [List.set_cons_succ]
  try simp only [List.set_cons_zero]
  have z0 := (bz.ext E1_1).cell 0 _ rfl
  have z1 := (bz.ext E1_1).cell 1 _ rfl
  have z2 := (bz.ext E1_1).cell 2 _ rfl
  have z3 := (bz.ext E1_1).cell 3 _ rfl
  have f0 := (bz.ext E1_1).frozen 0
  have f1 := (bz.ext E1_1).frozen 1
  have f2 := (bz.ext E1_1).frozen 2
  have f3 := (bz.ext E1_1).frozen 3
  refine wpL.tail (i := 4) rfl (by kernel_rfl) (by kernel_rfl) (fun K hK => ?_)
  go_simp
  refine hK.out _ _ ?_
  clear hK K
  try simp only [Act.put]
  try simp only [List.setIfInBounds_toArray]
  try simp only [List.set_cons_succ]
  try simp only [List.set_cons_zero]
  refine wpL.done (by kernel_rfl) ?_ _
  clear hQ
  go_wp2_with fail
  rw [← Rat.sub_eq_add_neg] at hr
  obtain ⟨b1, b2, b3, b4⟩ := fin_quad (s := s2) (A := A2) (n := n2) (c := c2) (t := t2) (B := B2) (m := m2) (d := d2) (bz.ext E1_1)
  have r0 := b1.cell 0 (.bool s2) rfl
  have r1 := b1.cell 1 (.slice A2 n2 c2) rfl
  have r2 := b1.cell 2 (.bool t2) rfl
  have r3 := b1.cell 3 (.slice B2 m2 d2) rfl
  unfold set4 at r0 r1 r2 r3
  refine bodyPost_ret (v := .agg #[.bool s2, .slice A2 n2 c2, .bool t2, .slice B2 m2 d2]) (by simp [results, Tryz.results31, go_sem, r0, r1, r2, r3]) rfl ⟨s2, A2, n2, c2, t2, B2, m2, d2, rfl, ⟨?_, ?_⟩, b3 _ (extW.trans E1_1) (by omega)⟩
  · exact b2 _ _ _ _ _ _ hr.num
  · exact b2 _ _ _ _ _ _ hr.den
set_option maxHeartbeats 2000000 in
theorem q_Div_0 (h : NR w q L s A n c t B m d) (k : NR w p M s' A' n' c' t' B' m' d') (hp : p = 0) : Calls Tryz.prog 27 #[.agg #[.bool s, .slice A n c, .bool t, .slice B m d], .agg #[.bool s', .slice A' n' c', .bool t', .slice B' m' d']] w (RetZE 6 w) := by
  have hz2 := k.num.zero
  have hm2 : ((n' : Int) == 0) = true := by rw [beq_iff_eq]; have := hz2.2 (by rw [hp]; rfl); omega
  go_enter Tryz.func27, Tryz.ntmps27
  go_upto_region 1 with (fail)
  obtain ⟨W, hW, extW, bx, by_, bz, hz⟩ := box3 w 27 27 27 #[.bool s, .slice A n c, .bool t, .slice B m d] #[.bool s', .slice A' n' c', .bool t', .slice B' m' d'] #[Value.bool false, Value.slice none 0 0, Value.bool false, Value.slice none 0 0]
  rw [← hW]
  clear hW
  replace h := h.ext extW
  replace k := k.ext extW
  have hE := Ext.refl W
  have y1 := by_.cell 1 (.slice A' n' c') rfl
  have z0 := (bz.ext hE).cell 0 _ rfl
  have z1 := (bz.ext hE).cell 1 _ rfl
  have z2 := (bz.ext hE).cell 2 _ rfl
  have z3 := (bz.ext hE).cell 3 _ rfl
  have f0 := (bz.ext hE).frozen 0
  have f1 := (bz.ext hE).frozen 1
  have f2 := (bz.ext hE).frozen 2
  have f3 := (bz.ext hE).frozen 3
  go_wp2_with fail
  obtain ⟨b1, b2, b3, b4⟩ := fin_quad (s := false) (A := none) (n := 0) (c := 0) (t := false) (B := none) (m := 0) (d := 0) (bz.ext hE)
  have r0 := b1.cell 0 (.bool false) rfl
  have r1 := b1.cell 1 (.slice none 0 0) rfl
  have r2 := b1.cell 2 (.bool false) rfl
  have r3 := b1.cell 3 (.slice none 0 0) rfl
  unfold set4 at r0 r1 r2 r3
  refine bodyPost_ret (v := .tuple #[.agg #[.bool false, .slice none 0 0, .bool false, .slice none 0 0], .int .i64 6]) (by simp [results, Tryz.results27, go_sem, r0, r1, r2, r3]) rfl ⟨rfl, b3 _ (extW.trans hE) (by omega)⟩
set_option maxHeartbeats 2000000 in
theorem q_Div_nz (h : NR w q L s A n c t B m d) (k : NR w p M s' A' n' c' t' B' m' d') (hL : L ≤ 1000) (hM : M ≤ 1000) (hp : p ≠ 0) : Calls Tryz.prog 27 #[.agg #[.bool s, .slice A n c, .bool t, .slice B m d], .agg #[.bool s', .slice A' n' c', .bool t', .slice B' m' d']] w (RetNRE (q / p) (L + M) w) := by
  have hz2 := k.num.zero
  have hm2 : ((n' : Int) == 0) = false := by rw [beq_eq_false_iff_ne]; intro h0; exact hp (Rat.num_eq_zero.1 (hz2.1 (by omega)))
  have Hp := Lib.hid hp
  clear hp hz2
  go_enter Tryz.func27, Tryz.ntmps27
  go_upto_region 1 with (fail)
  obtain ⟨W, hW, extW, bx, by_, bz, hz⟩ := box3 w 27 27 27 #[.bool s, .slice A n c, .bool t, .slice B m d] #[.bool s', .slice A' n' c', .bool t', .slice B' m' d'] #[Value.bool false, Value.slice none 0 0, Value.bool false, Value.slice none 0 0]
  rw [← hW]
  clear hW
  replace h := h.ext extW
  replace k := k.ext extW
  have y1 := by_.cell 1 (.slice A' n' c') rfl
  go_upto_region 3 with (fail)
  clear y1
  refine wpL.start 4 (by kernel_rfl) (fun _ _ _ _ _ => ⟨fun h => h, fun h => h⟩) (fun hQ ES => ?_)
  refine wpL.take (i := 0) (d := some 12) (v := ?v0_103) rfl rfl (by kernel_rfl) (by kernel_rfl) (by kernel_rfl) (by kernel_rfl) hQ (Or.inl ⟨by rfl, ?y0_103⟩) ES ?r0_103
  case y0_103 =>
    intro w' hSw
    have k00 := (bx.ext hSw).c4
    have k10 := (by_.ext hSw).c4
    go_simp
    try with_reducible rfl
  try simp only [Act.put]
  try simp only [List.setIfInBounds_toArray]
  try simp only [List.set_cons_succ]
  try simp only [List.set_cons_zero]
  refine wpL.take (i := 1) (d := some 13) (v := ?v1_104) rfl rfl (by kernel_rfl) (by kernel_rfl) (by kernel_rfl) (by kernel_rfl) hQ (Or.inl ⟨by rfl, ?y1_104⟩) ES ?r1_104
  case y1_104 =>
    intro w' hSw
    have k00 := (bx.ext hSw).c4
    have k10 := (by_.ext hSw).c4
    go_simp
    try with_reducible rfl
  try simp only [Act.put]
  try simp only [List.setIfInBounds_toArray]
  try simp only [List.set_cons_succ]
  try simp only [List.set_cons_zero]
  refine wpL.call (i := 2) rfl (by kernel_rfl) (fun K hK => ?_)
  go_simp
  (go_at_call 68; refine (q_Inv (k.ext ES) (by omega) Hp.out).mono ?_; rintro e wa ⟨s1, A1, n1, c1, t1, B1, m1, d1, rfl, h1, hx0⟩; have E0_3 := Ext.trans ES hx0)
  refine hK.out _ _ E0_3 ?_
  clear hK K
  try simp only [Act.put]
  try simp only [List.setIfInBounds_toArray]
  try simp only [List.set_cons_succ]
  try simp only [List.set_cons_zero]
  refine wpL.call (i := 3) rfl (by kernel_rfl) (fun K hK => ?_)
  go_simp
  (go_at_call 35; refine (q_MulR (h.ext E0_3) h1 hL hM).mono ?_; rintro e wb ⟨s2, A2, n2, c2, t2, B2, m2, d2, rfl, hr, hx1⟩; have E1_3 := Ext.trans E0_3 hx1)
  refine hK.out _ _ E1_3 ?_
  clear hK K
  try simp only [Act.put]
  try simp only [List.setIfInBounds_toArray]
  try simp only [List.set_cons_succ]
  try simp only [List.set_cons_zero]
  have z0 := (bz.ext E1_3).cell 0 _ rfl
  have z1 := (bz.ext E1_3).cell 1 _ rfl
  have z2 := (bz.ext E1_3).cell 2 _ rfl
  have z3 := (bz.ext E1_3).cell 3 _ rfl
  have f0 := (bz.ext E1_3).frozen 0
  have f1 := (bz.ext E1_3).frozen 1
  have f2 := (bz.ext E1_3).frozen 2
  have f3 := (bz.ext E1_3).frozen 3
  refine wpL.tail (i := 4) rfl (by kernel_rfl) (by kernel_rfl) (fun K hK => ?_)
  go_simp
  refine hK.out _ _ ?_
  clear hK K
  try simp only [Act.put]
  try simp only [List.setIfInBounds_toArray]
  try simp only [List.set_cons_succ]
  try simp only [List.set_cons_zero]
  refine wpL.tail (i := 5) rfl (by kernel_rfl) (by kernel_rfl) (fun K hK => ?_)
  go_simp
  refine hK.out _ _ ?_
  clear hK K
  try simp only [Act.put]
  try simp only [List.setIfInBounds_toArray]
  try simp only [List.set_cons_succ]
  try simp only [List.set_cons_zero]
  refine wpL.done (by kernel_rfl) ?_ _
  clear hQ
  go_wp2_with fail
  rw [← Rat.div_def] at hr
  obtain ⟨b1, b2, b3, b4⟩ := fin_quad (s := s2) (A := A2) (n := n2) (c := c2) (t := t2) (B := B2) (m := m2) (d := d2) (bz.ext E1_3)
  have r0 := b1.cell 0 (.bool s2) rfl
  have r1 := b1.cell 1 (.slice A2 n2 c2) rfl
  have r2 := b1.cell 2 (.bool t2) rfl
  have r3 := b1.cell 3 (.slice B2 m2 d2) rfl
  unfold set4 at r0 r1 r2 r3
  refine bodyPost_ret (v := .tuple #[.agg #[.bool s2, .slice A2 n2 c2, .bool t2, .slice B2 m2 d2], .int .i64 0]) (by simp [results, Tryz.results27, go_sem, r0, r1, r2, r3]) rfl ⟨s2, A2, n2, c2, t2, B2, m2, d2, rfl, ⟨b2 _ _ _ _ _ _ hr.num, b2 _ _ _ _ _ _ hr.den⟩, b3 _ (extW.trans E1_3) (by omega)⟩
end
end Go.Proofs.YtiioodgpkdbndaaGreatDoor
namespace Go.Proofs.YtiioodgpkdbndaaGreatDoor
open Go.RowKit
attribute [local go_sem ↓] Go.wp_at_zero Go.wp_at_succ
theorem rdset4 {w2 : World} {g : Nat} {T : TypeId} {x y : Bool} {P Q : Option Addr} {k l i j : Nat} {A : Option Addr} {xs : List Nat} (hb : Box w2 g T #[.bool x, .slice P k l, .bool y, .slice Q i j]) (s : Bool) (v1 : Value) (t : Bool) (v2 : Value) {P1 Q1 : Option Addr} {k1 l1 i1 j1 : Nat}
    (h : Rd w2 A xs) (e1 : v1 = .slice P1 k1 l1 := by rfl) (e2 : v2 = .slice Q1 i1 j1 := by rfl) : Rd (set4 w2 g (.bool s) v1 (.bool t) v2) A xs := by
  subst e1
  subst e2
  unfold set4
  have h1 : Box (w2.setCell ⟨g, 0, none⟩ (.bool s)) g T #[.bool s, .slice P k l, .bool y, .slice Q i j] := hb.set 0 (.bool s)
  have h2 : Box ((w2.setCell ⟨g, 0, none⟩ (.bool s)).setCell ⟨g, 1, none⟩ (.slice P1 k1 l1)) g T #[.bool s, .slice P1 k1 l1, .bool y, .slice Q i j] := h1.set 1 (.slice P1 k1 l1)
  have h3 : Box (((w2.setCell ⟨g, 0, none⟩ (.bool s)).setCell ⟨g, 1, none⟩ (.slice P1 k1 l1)).setCell ⟨g, 2, none⟩ (.bool t)) g T #[.bool s, .slice P1 k1 l1, .bool t, .slice Q i j] := h2.set 2 (.bool t)
  exact (((h.setBox hb NoWord.four 0 _).setBox h1 NoWord.four 1 _).setBox h2 NoWord.four 2 _).setBox h3 NoWord.four 3 _
/-- the words of a number in lowest terms. -/
theorem NR.raw {w : World} {q : Rat} {L : Nat} {s : Bool} {A : Option Addr} {n c : Nat} {t : Bool} {B : Option Addr} {m d : Nat} (h : NR w q L s A n c t B m d) :
    ∃ xs ys, RI w A n c xs ∧ RI w B m d ys ∧ validQ s xs t ys = true ∧ n ≤ L ∧ m ≤ L ∧ (∀ w' A' c' B' d', RI w' A' n c' xs → RI w' B' m d' ys → NR w' q L s A' n c' t B' m d') := by
  obtain ⟨xs, h1, h2, h3, h4, h5, h6⟩ := h.num.out
  obtain ⟨ys, k1, k2, k3, k4, k5, k6⟩ := h.den.out
  refine ⟨xs, ys, ⟨h1, h2, h3, h4⟩, ⟨k1, k2, k3, k4⟩, ?_, h6, k6, fun w' A' c' B' d' r1 r2 => ⟨⟨xs, r1.len, r1.rd, r1.cap, r1.top, h5, h6⟩, ⟨ys, r2.len, r2.rd, r2.cap, r2.top, k5, k6⟩⟩⟩
  unfold validQ
  rw [validB_int h5, validB_int k5, h5.abs, k5.abs, k5.eq]
  have hd := q.den_pos
  have hr := q.reduced
  unfold Nat.Coprime at hr
  simp [hr]
  omega
section
variable {w w' : World} {z y : Int} {q p : Rat} {L M : Nat} {s t s' t' : Bool} {A B A' B' : Option Addr} {n c m d n' c' m' d' : Nat} {xs ys xs' ys' : List Nat}
set_option maxHeartbeats 4000000 in
theorem q_ValidRaw (h : RI w A n c xs) (k : RI w B m d ys) (h1 : n ≤ 3000) (h2 : m ≤ 3000) : Calls Tryz.prog 24 #[.agg #[.bool s, .slice A n c, .bool t, .slice B m d]] w fun e w' => e = .returned (.bool (validQ s xs t ys)) ∧ Ext w w' := by
  obtain ⟨r, hr⟩ : ∃ r, validQ s xs t ys = r := ⟨_, rfl⟩
  have HR := Lib.hid hr
  rw [hr]
  clear hr
  go_enter Tryz.func24, Tryz.ntmps24
  go_upto_region 1 with (fail)
  obtain ⟨W, hW, extW, bx, hz⟩ := box1 w 27 #[.bool s, .slice A n c, .bool t, .slice B m d]
  rw [← hW]
  clear hW
  replace h := h.ext extW
  replace k := k.ext extW
  have x0 := bx.cell 0 (.bool s) rfl
  have x1 := bx.cell 1 (.slice A n c) rfl
  have x2 := bx.cell 2 (.bool t) rfl
  have x3 := bx.cell 3 (.slice B m d) rfl
  go_wp2_with fail
  refine (ref_Valid h.len h.rd h.cap h.top (by omega)).mono ?_
  rintro e wa ⟨rfl, hxa⟩
  replace bx := bx.ext hxa
  replace h := h.ext hxa
  replace k := k.ext hxa
  replace extW := extW.trans hxa
  clear hxa x0 x1 x2 x3
  have x0 := bx.cell 0 (.bool s) rfl
  have x1 := bx.cell 1 (.slice A n c) rfl
  have x2 := bx.cell 2 (.bool t) rfl
  have x3 := bx.cell 3 (.slice B m d) rfl
  cases hv1 : validB s xs with
  | false =>
    go_wp2_with fail
    go_ret
    exact ⟨by rw [← HR.out]; unfold validQ; rw [hv1]; rfl, extW⟩
  | true =>
    go_wp2_with fail
    refine (ref_Valid k.len k.rd k.cap k.top (by omega)).mono ?_
    rintro e wb ⟨rfl, hxb⟩
    replace bx := bx.ext hxb
    replace h := h.ext hxb
    replace k := k.ext hxb
    replace extW := extW.trans hxb
    clear hxb x0 x1 x2 x3
    have x0 := bx.cell 0 (.bool s) rfl
    have x1 := bx.cell 1 (.slice A n c) rfl
    have x2 := bx.cell 2 (.bool t) rfl
    have x3 := bx.cell 3 (.slice B m d) rfl
    cases hv2 : validB t ys with
    | false =>
      go_wp2_with fail
      go_ret
      exact ⟨by rw [← HR.out]; unfold validQ; rw [hv1, hv2]; rfl, extW⟩
    | true =>
      have H1 := NI.of_raw (L := 3000) h hv1 h1
      have H2 := NI.of_raw (L := 3000) k hv2 h2
      have hvq : validQ s xs t ys = (decide (0 < ival t ys) && decide (((Nat.gcd (val xs) (val ys) : Nat) : Int) = 1)) := by unfold validQ; rw [hv1, hv2]; rfl
      rw [HR.out] at hvq
      have HVQ := Lib.hid hvq
      clear hv1 hv2 hvq HR
      go_wp2_with fail
      refine (q_Sign H2 (by omega)).mono ?_
      rintro e wc ⟨rfl, hxc⟩
      replace bx := bx.ext hxc
      replace H1 := H1.ext hxc
      replace H2 := H2.ext hxc
      replace extW := extW.trans hxc
      clear hxc x0 x1 x2 x3 h k
      have x0 := bx.cell 0 (.bool s) rfl
      have x1 := bx.cell 1 (.slice A n c) rfl
      have x2 := bx.cell 2 (.bool t) rfl
      have x3 := bx.cell 3 (.slice B m d) rfl
      by_cases hp : 0 < ival t ys
      · rw [Int.sign_eq_one_of_pos hp]
        have hvr : r = decide (((Nat.gcd (val xs) (val ys) : Nat) : Int) = 1) := by rw [HVQ.out, decide_eq_true hp, Bool.true_and]
        have HP := Lib.hid hvr
        clear HVQ hvr
        have ab1 := ival_ab s xs
        have ab2 := ival_ab t ys
        clear hp
        go_wp2_with fail
        refine (q_GCD H1 H2 (by omega) (by omega)).mono ?_
        rintro e wd ⟨s1, A1, n1, c1, rfl, hg, hxd⟩
        rw [ab1, ab2] at hg
        go_wp2_with fail
        refine (q_one hg).mono ?_
        rintro e we ⟨rfl, hxe⟩
        go_wp2_with fail
        go_ret
        exact ⟨by rw [HP.out]; rfl, extW.trans (hxd.trans hxe)⟩
      · have hvr : r = false := by rw [HVQ.out, decide_eq_false hp, Bool.false_and]
        subst hvr
        clear HVQ
        have hs : (ival t ys).sign = 0 ∨ (ival t ys).sign = -1 := by
          rcases Int.lt_trichotomy (ival t ys) 0 with h | h | h
          · exact Or.inr (Int.sign_eq_neg_one_of_neg h)
          · exact Or.inl (by rw [h]; rfl)
          · exact absurd h hp
        clear hp
        rcases hs with hs | hs
        · rw [hs]
          go_wp2_with fail
          go_ret
          exact ⟨rfl, extW⟩
        · rw [hs]
          go_wp2_with fail
          go_ret
          exact ⟨rfl, extW⟩
def fewB (n m : Nat) (s : Bool) (xs : List Nat) (t : Bool) (ys : List Nat) : Bool := decide (n ≤ 20) && (decide (m ≤ 20) && validQ s xs t ys)
set_option maxHeartbeats 2000000 in
theorem q_Few (h : RI w A n c xs) (k : RI w B m d ys) : Calls Tryz.prog 67 #[.agg #[.bool s, .slice A n c, .bool t, .slice B m d], .int .i64 20] w fun e w' => e = .returned (.bool (fewB n m s xs t ys)) ∧ Ext w w' := by
  by_cases h1 : n ≤ 20
  · have d1 : decide ((n : Int) ≤ (20 : Int)) = true := decide_eq_true (by omega)
    by_cases h2 : m ≤ 20
    · have d2 : decide ((m : Int) ≤ (20 : Int)) = true := decide_eq_true (by omega)
      have hf : fewB n m s xs t ys = validQ s xs t ys := by unfold fewB; rw [decide_eq_true h1, decide_eq_true h2]; rfl
      rw [hf]
      clear hf
      go_enter Tryz.func67, Tryz.ntmps67
      go_upto_region 1 with (fail)
      obtain ⟨W, hW, extW, bx, hz⟩ := box1 w 27 #[.bool s, .slice A n c, .bool t, .slice B m d]
      rw [← hW]
      clear hW
      replace h := h.ext extW
      replace k := k.ext extW
      have x0 := bx.cell 0 (.bool s) rfl
      have x1 := bx.cell 1 (.slice A n c) rfl
      have x2 := bx.cell 2 (.bool t) rfl
      have x3 := bx.cell 3 (.slice B m d) rfl
      go_wp2_with fail
      refine (q_ValidRaw h k (by omega) (by omega)).mono ?_
      rintro e wd ⟨rfl, hxd⟩
      go_wp2_with fail
      go_ret
      exact ⟨rfl, extW.trans hxd⟩
    · have d2 : decide ((m : Int) ≤ (20 : Int)) = false := decide_eq_false (by omega)
      have hf : fewB n m s xs t ys = false := by unfold fewB; rw [decide_eq_true h1, decide_eq_false h2]; rfl
      rw [hf]
      clear hf
      go_enter Tryz.func67, Tryz.ntmps67
      go_upto_region 1 with (fail)
      obtain ⟨W, hW, extW, bx, hz⟩ := box1 w 27 #[.bool s, .slice A n c, .bool t, .slice B m d]
      rw [← hW]
      clear hW
      replace h := h.ext extW
      replace k := k.ext extW
      have x0 := bx.cell 0 (.bool s) rfl
      have x1 := bx.cell 1 (.slice A n c) rfl
      have x2 := bx.cell 2 (.bool t) rfl
      have x3 := bx.cell 3 (.slice B m d) rfl
      go_wp2_with fail
      go_ret
      exact ⟨rfl, extW⟩
  · have d1 : decide ((n : Int) ≤ (20 : Int)) = false := decide_eq_false (by omega)
    have hf : fewB n m s xs t ys = false := by unfold fewB; rw [decide_eq_false h1]; rfl
    rw [hf]
    clear hf
    go_enter Tryz.func67, Tryz.ntmps67
    go_upto_region 1 with (fail)
    obtain ⟨W, hW, extW, bx, hz⟩ := box1 w 27 #[.bool s, .slice A n c, .bool t, .slice B m d]
    rw [← hW]
    clear hW
    replace h := h.ext extW
    replace k := k.ext extW
    have x0 := bx.cell 0 (.bool s) rfl
    have x1 := bx.cell 1 (.slice A n c) rfl
    have x2 := bx.cell 2 (.bool t) rfl
    have x3 := bx.cell 3 (.slice B m d) rfl
    go_wp2_with fail
    go_ret
    exact ⟨rfl, extW⟩
set_option maxHeartbeats 4000000 in
theorem few2 {g : Nat} (hb : Box w g 27 #[.bool s, .slice A n c, .bool t, .slice B m d, .bool s', .slice A' n' c', .bool t', .slice B' m' d']) (h0 : RI w A n c xs) (k0 : RI w B m d ys) (h1 : RI w A' n' c' xs') (k1 : RI w B' m' d' ys') :
    Calls Tryz.prog 25 #[.slice (some ⟨g, 0, none⟩) 2 2] w fun e w' => e = .returned (.bool (fewB n m s xs t ys && (fewB n' m' s' xs' t' ys'))) ∧ Ext w w' := by
  go_enter Tryz.func25, Tryz.ntmps25
  go_wp2_with fail
  go_loopw [7] (fun i wr => ∃ k : Nat, k ≤ 2 ∧ i = .int .i64 (k : Int) ∧ Ext w wr ∧ ((0 < k → fewB n m s xs t ys = true) ∧ (1 < k → fewB n' m' s' xs' t' ys' = true))) (fun i _ => 2 - (intOf i).toNat)
  case atStart => exact ⟨0, by omega, rfl, Ext.refl _, by simp⟩
  case round =>
    obtain ⟨k, hk, rfl, hext, hall⟩ := hrel
    have HA := Lib.hid hall
    clear hall
    have c0 := (hb.ext hext).cell 0 (.bool s) rfl
    have c1 := (hb.ext hext).cell 1 (.slice A n c) rfl
    have c2 := (hb.ext hext).cell 2 (.bool t) rfl
    have c3 := (hb.ext hext).cell 3 (.slice B m d) rfl
    have c4 := (hb.ext hext).cell 4 (.bool s') rfl
    have c5 := (hb.ext hext).cell 5 (.slice A' n' c') rfl
    have c6 := (hb.ext hext).cell 6 (.bool t') rfl
    have c7 := (hb.ext hext).cell 7 (.slice B' m' d') rfl
    have hk2 : k = 0 ∨ k = 1 ∨ k = 2 := by omega
    rcases hk2 with rfl | rfl | rfl
    · go_wp2_with (fail)
      refine (q_Few (h0.ext (hext.alloc _)) (k0.ext (hext.alloc _))).mono ?_
      rintro e V ⟨rfl, hxv⟩
      replace hext := (hext.alloc _).trans hxv
      cases hf : fewB n m s xs t ys with
      | true =>
        have HF := Lib.hid hf
        clear hf
        go_wp2_with fail
        go_roundw
        case rel => exact ⟨1, by omega, rfl, hext, by have := HA.out; simp [HF.out] at this ⊢⟩
        case measure => simp [intOf]
      | false =>
        have HF := Lib.hid hf
        clear hf
        go_wp2_with fail
        go_ret
        exact ⟨by have := HA.out; simp [HF.out] at this ⊢, hext⟩
    · go_wp2_with (fail)
      refine (q_Few (h1.ext (hext.alloc _)) (k1.ext (hext.alloc _))).mono ?_
      rintro e V ⟨rfl, hxv⟩
      replace hext := (hext.alloc _).trans hxv
      cases hf : fewB n' m' s' xs' t' ys' with
      | true =>
        have HF := Lib.hid hf
        clear hf
        go_wp2_with fail
        go_roundw
        case rel => exact ⟨2, by omega, rfl, hext, by have := HA.out; simp [HF.out] at this ⊢; exact this⟩
        case measure => simp [intOf]
      | false =>
        have HF := Lib.hid hf
        clear hf
        go_wp2_with fail
        go_ret
        exact ⟨by have := HA.out; simp [HF.out] at this ⊢, hext⟩
    · go_wp2_with fail
      go_ret
      exact ⟨by have := HA.out; simp at this; simp [this], hext⟩
end
section
variable {A : Option Addr} {c n : Nat} {xs : List Nat} {w : World} {s : Bool}
/-- a copy, word for word. -/
def RetOw (s : Bool) (xs : List Nat) (w : World) (e : Ending) (w' : World) : Prop :=
  ∃ A' c', e = .returned (.agg #[.bool s, .slice A' xs.length c']) ∧ Rd w' A' xs ∧ xs.length ≤ c' ∧ c' ≤ maxLen ∧ Ext w w'
set_option maxHeartbeats 1000000 in
theorem law_ownInt (hn : xs.length = n) (hx : Rd w A xs) (hl : n ≤ 1000) :
    Calls Tryz.prog 14 #[.agg #[.bool s, .slice A n c]] w (RetOw s xs w) := by
  have Hn := Lib.hid hn
  clear hn
  go_enter Tryz.func14, Tryz.ntmps14
  go_upto_region 1 with (fail)
  obtain ⟨W, hW, extW, bx, bz, hz⟩ := box2 w 24 24 #[.bool s, .slice A n c] #[.bool false, .slice none 0 0]
  rw [← hW]
  clear hW
  have x0 := bx.cell 0 (.bool s) rfl
  have x1 := bx.cell 1 (.slice A n c) rfl
  have z0 := bz.cell 0 (.bool false) rfl
  have z1 := bz.cell 1 (.slice none 0 0) rfl
  have f0 := bz.frozen 0
  have f1 := bz.frozen 1
  go_region_held3 (fun w' => w'.cell? ⟨w.heap.size, 0, none⟩ = some (.bool s) ∧ w'.cell? ⟨w.heap.size, 1, none⟩ = some (.slice A n c)) (first | (go_split_ands; refine ⟨?_, ?_⟩ <;> first | (exact Ext.cellv (by assumption) (by assumption)) | (refine (cell_far2 (by omega)).trans ?_; assumption)) | go_keep)
    ((refine step_append_words (w0 := W) (by rfl) _ _ _ (by rfl) Tryz.underlying22 (((Ext.refl W).drew).alloc _) W.heap.size (by rfl) (heap_alloc_new W.drew _) (Nat.le_refl _) (by rfl) Hn.out (hx.ext (extW.drew.alloc _)) (by omega) ?_; intro A2 c2 w2 ho2 hc2 hm2 ext2; have bz2 := bz.ext ext2; have z20 := bz2.cell 0 (.bool false) rfl; have z21 := bz2.cell 1 (.slice none 0 0) rfl; have f20 := bz2.frozen 0; have f21 := bz2.frozen 1))
  go_wp2_with fail
  obtain ⟨r1, r2, r3, r4⟩ := fin_pair (b := s) (n := n) (c := c2) (extW.trans ext2) (by omega) bz2 ho2.rd
  refine bodyPost_ret (v := .agg #[.bool s, .slice A2 n c2]) (by simp [results, Tryz.results14, go_sem, r3, r4]) rfl ?_
  have hn := Hn.out
  subst hn
  exact ⟨A2, c2, rfl, r1, hc2, hm2, r2⟩
end
section
variable {w w' : World} {z y : Int} {q p : Rat} {L M : Nat} {s t s' t' : Bool} {A B A' B' : Option Addr} {n c m d n' c' m' d' : Nat} {xs ys xs' ys' : List Nat}
set_option maxHeartbeats 2000000 in
theorem law_own (h : RI w A n c xs) (k : RI w B m d ys) (h1 : n ≤ 1000) (h2 : m ≤ 1000) : Calls Tryz.prog 23 #[.agg #[.bool s, .slice A n c, .bool t, .slice B m d]] w fun e w' => ∃ A' c' B' d', e = .returned (.agg #[.bool s, .slice A' n c', .bool t, .slice B' m d']) ∧ RI w' A' n c' xs ∧ RI w' B' m d' ys ∧ Ext w w' := by
  go_enter Tryz.func23, Tryz.ntmps23
  go_upto_region 1 with (fail)
  obtain ⟨W, hW, extW, bx, bz, hz⟩ := box2 w 27 27 #[.bool s, .slice A n c, .bool t, .slice B m d] #[Value.bool false, Value.slice none 0 0, Value.bool false, Value.slice none 0 0]
  rw [← hW]
  clear hW
  replace h := h.ext extW
  replace k := k.ext extW
  refine wpL.start 7 (by kernel_rfl) (fun _ _ _ _ _ => ⟨fun h => h, fun h => h⟩) (fun hQ ES => ?_)
  refine wpL.take (i := 0) (d := some 3) (v := ?v0_29) rfl rfl (by kernel_rfl) (by kernel_rfl) (by kernel_rfl) (by kernel_rfl) hQ (Or.inl ⟨by rfl, ?y0_29⟩) ES ?r0_29
  case y0_29 =>
    intro w' hSw
    have k00 := (bx.ext hSw).c4
    go_simp
    try with_reducible rfl
  try simp only [Act.put]
  try simp only [List.setIfInBounds_toArray]
  try simp only [List.set_cons_succ]
  try simp only [List.set_cons_zero]
  refine wpL.take (i := 3) (d := some 6) (v := ?v3_30) rfl rfl (by kernel_rfl) (by kernel_rfl) (by kernel_rfl) (by kernel_rfl) hQ (Or.inl ⟨by rfl, ?y3_30⟩) ES ?r3_30
  case y3_30 =>
    intro w' hSw
    have k00 := (bx.ext hSw).c4
    go_simp
    try with_reducible rfl
  try simp only [Act.put]
  try simp only [List.setIfInBounds_toArray]
  try simp only [List.set_cons_succ]
  try simp only [List.set_cons_zero]
  refine wpL.take (i := 1) (d := some 4) (v := ?v1_31) rfl rfl (by kernel_rfl) (by kernel_rfl) (by kernel_rfl) (by kernel_rfl) hQ (Or.inl ⟨by rfl, ?y1_31⟩) ES ?r1_31
  case y1_31 =>
    intro w' hSw
    have k00 := (bx.ext hSw).c4
    go_simp
    try with_reducible rfl
  try simp only [Act.put]
  try simp only [List.setIfInBounds_toArray]
  try simp only [List.set_cons_succ]
  try simp only [List.set_cons_zero]
  refine wpL.take (i := 4) (d := some 7) (v := ?v4_32) rfl rfl (by kernel_rfl) (by kernel_rfl) (by kernel_rfl) (by kernel_rfl) hQ (Or.inl ⟨by rfl, ?y4_32⟩) ES ?r4_32
  case y4_32 =>
    intro w' hSw
    have k00 := (bx.ext hSw).c4
    go_simp
    try with_reducible rfl
  try simp only [Act.put]
  try simp only [List.setIfInBounds_toArray]
  try simp only [List.set_cons_succ]
  try simp only [List.set_cons_zero]
  refine wpL.call (i := 2) rfl (by kernel_rfl) (fun K hK => ?_)
  go_simp
  (go_at_call 14; refine (law_ownInt (s := s) (h.ext ES).len (h.ext ES).rd h1).mono ?_; rintro e wa ⟨A1, c1, rfl, g1, g2, g3, hx0⟩; have E0_1 := Ext.trans ES hx0)
  refine hK.out _ _ E0_1 ?_
  clear hK K
  try simp only [Act.put]
  try simp only [List.setIfInBounds_toArray]
  try simp only [List.set_cons_succ]
  try simp only [List.set_cons_zero]
  refine wpL.call (i := 5) rfl (by kernel_rfl) (fun K hK => ?_)
  go_simp
  (go_at_call 14; refine (law_ownInt (s := t) (k.ext E0_1).len (k.ext E0_1).rd h2).mono ?_; rintro e wb ⟨A2, c2, rfl, g4, g5, g6, hx1⟩; have E1_1 := Ext.trans E0_1 hx1)
  refine hK.out _ _ E1_1 ?_
  clear hK K
  try simp only [Act.put]
  try simp only [List.setIfInBounds_toArray]
  try simp only [List.set_cons_succ]
  try simp only [List.set_cons_zero]
  refine wpL.take (i := 6) (d := some 9) (v := ?v6_33) rfl rfl (by kernel_rfl) (by kernel_rfl) (by kernel_rfl) (by kernel_rfl) hQ (Or.inl ⟨by rfl, ?y6_33⟩) E1_1 ?r6_33
  case y6_33 =>
    intro w' hSw
    have k00 := (bx.ext hSw).c4
    go_simp
    try with_reducible rfl
  try simp only [Act.put]
  try simp only [List.setIfInBounds_toArray]
  try simp only [List.set_cons_succ]
  try simp only [List.set_cons_zero]
  have z0 := (bz.ext E1_1).cell 0 _ rfl
  have z1 := (bz.ext E1_1).cell 1 _ rfl
  have z2 := (bz.ext E1_1).cell 2 _ rfl
  have z3 := (bz.ext E1_1).cell 3 _ rfl
  have f0 := (bz.ext E1_1).frozen 0
  have f1 := (bz.ext E1_1).frozen 1
  have f2 := (bz.ext E1_1).frozen 2
  have f3 := (bz.ext E1_1).frozen 3
  refine wpL.tail (i := 7) rfl (by kernel_rfl) (by kernel_rfl) (fun K hK => ?_)
  go_simp
  refine hK.out _ _ ?_
  clear hK K
  try simp only [Act.put]
  try simp only [List.setIfInBounds_toArray]
  try simp only [List.set_cons_succ]
  try simp only [List.set_cons_zero]
  refine wpL.done (by kernel_rfl) ?_ _
  clear hQ
  go_wp2_with fail
  obtain ⟨hn, _, _, _⟩ := h
  obtain ⟨hm, _, _, _⟩ := k
  subst hn
  subst hm
  obtain ⟨b1, b2, b3, b4⟩ := fin_quad (s := s) (A := A1) (n := xs.length) (c := c1) (t := t) (B := A2) (m := ys.length) (d := c2) (bz.ext E1_1)
  have r0 := b1.cell 0 (.bool s) rfl
  have r1 := b1.cell 1 (.slice A1 xs.length c1) rfl
  have r2 := b1.cell 2 (.bool t) rfl
  have r3 := b1.cell 3 (.slice A2 ys.length c2) rfl
  unfold set4 at r0 r1 r2 r3
  refine bodyPost_ret (v := .agg #[.bool s, .slice A1 xs.length c1, .bool t, .slice A2 ys.length c2]) (by simp [results, Tryz.results23, go_sem, r0, r1, r2, r3]) rfl ⟨A1, c1, A2, c2, rfl, ⟨rfl, rdset4 (bz.ext E1_1) _ _ _ _ (g1.ext hx1), g2, g3⟩, ⟨rfl, rdset4 (bz.ext E1_1) _ _ _ _ g4, g5, g6⟩, b3 _ (extW.trans E1_1) (by omega)⟩
theorem law_ownR (h : NR w q L s A n c t B m d) (hL : L ≤ 1000) : Calls Tryz.prog 23 #[.agg #[.bool s, .slice A n c, .bool t, .slice B m d]] w (RetNR q L w) := by
  obtain ⟨xs, ys, h1, h2, _, h4, h5, h6⟩ := h.raw
  refine (law_own h1 h2 (by omega) (by omega)).mono ?_
  rintro e w' ⟨A', c', B', d', rfl, r1, r2, hx⟩
  exact ⟨s, A', n, c', t, B', m, d', rfl, h6 _ _ _ _ _ r1 r2, hx⟩
end
end Go.Proofs.YtiioodgpkdbndaaGreatDoor
namespace Go.Proofs.YtiioodgpkdbndaaGreatDoor
open Go.RowKit
attribute [local go_sem ↓] Go.wp_at_zero Go.wp_at_succ
/-- numbers that few accepts. -/
theorem few_nr {w : World} {A B : Option Addr} {n c m d : Nat} {s t : Bool} {xs ys : List Nat} (h : RI w A n c xs) (k : RI w B m d ys) (hf : fewB n m s xs t ys = true) : ∃ q : Rat, NR w q 20 s A n c t B m d := by
  unfold fewB at hf
  simp only [Bool.and_eq_true, decide_eq_true_eq] at hf
  exact NR.of_raw h k hf.2.2 hf.1 hf.2.1
section
variable {w w' : World} {q p r : Rat} {L : Nat} {s t s' t' u u' : Bool} {A B A' B' C D : Option Addr} {n c m d n' c' m' d' l e0 l' e' : Nat} {xs ys xs' ys' zs zs' : List Nat}
variable {z y : Int} {M : Nat}
theorem p_Div_nz (h : NR w q L s A n c t B m d) (k : NR w p M s' A' n' c' t' B' m' d') (hL : L ≤ 1000) (hM : M ≤ 1000) (h64 : min L M < 64) (hT : Tab w) (hp : p ≠ 0) : Calls Tryz.prog 26 #[.agg #[.bool s, .slice A n c, .bool t, .slice B m d], .agg #[.bool s', .slice A' n' c', .bool t', .slice B' m' d']] w (RetNRE (q / p) (L + M) w) := by
  rcases Int.lt_trichotomy p.num 0 with h1 | h1 | h1
  · exact p_Div_neg h k hL hM h64 hT h1
  · exact absurd (Rat.num_eq_zero.1 h1) hp
  · exact p_Div_pos h k hL hM h64 hT h1
end
end Go.Proofs.YtiioodgpkdbndaaGreatDoor
namespace Go.Proofs.YtiioodgpkdbndaaGreatDoor
open Go.RowKit
attribute [local go_sem ↓] Go.wp_at_zero Go.wp_at_succ
section
variable {w w' : World} {q p r : Rat} {L : Nat} {s t s' t' u u' : Bool} {A B A' B' C D : Option Addr} {n c m d n' c' m' d' l e0 l' e' : Nat} {xs ys xs' ys' zs zs' : List Nat}
set_option maxHeartbeats 16000000 in
set_option maxRecDepth 100000 in
theorem arith_z (hA : Awake2) (hT : Tab w) (hP : TabP w) (h : NR w q 20 s A n c t B m d) (k : NR w p 20 s' A' n' c' t' B' m' d') (hp : p = 0) :
    Calls Tryz.prog 5 #[.agg #[.bool s, .slice A n c, .bool t, .slice B m d], .agg #[.bool s', .slice A' n' c', .bool t', .slice B' m' d']] w fun e w' => e = .returned (.bool true) ∧ Ext w w' := by
  have Hp := Lib.hid hp
  clear hp
  obtain ⟨xs, ys, ra0, rb0, hv0, hn0, hm0, _⟩ := h.raw
  obtain ⟨xs', ys', ra1, rb1, hv1, hn1, hm1, _⟩ := k.raw
  have HF := Lib.hid (show (fewB n m s xs t ys && (fewB n' m' s' xs' t' ys')) = true by unfold fewB; rw [decide_eq_true hn0, decide_eq_true hm0, hv0, decide_eq_true hn1, decide_eq_true hm1, hv1]; rfl)
  have hr0 := And.intro ra0 rb0
  have hr1 := And.intro ra1 rb1
  clear ra0 rb0 hv0 hn0 hm0 ra1 rb1 hv1 hn1 hm1
  have HA := Lib.hid hA
  clear hA
  go_enter Tryz.func5, Tryz.ntmps5
  go_upto_region 1 with (fail)
  obtain ⟨W0, hW, extW, bx, by_, hzz⟩ := box2 w 27 27 #[.bool s, .slice A n c, .bool t, .slice B m d] #[.bool s', .slice A' n' c', .bool t', .slice B' m' d']
  rw [← hW]
  clear hW hzz
  go_wp2_with fail
  refine (HA.out _ (hT.ext extW) (hP.ext extW)).mono ?_
  rintro e W ⟨rfl, hxt⟩
  replace extW := extW.trans hxt
  replace bx := bx.ext hxt
  replace by_ := by_.ext hxt
  clear hxt
  have bx0 := bx.cell 0 (.bool s) rfl
  have bx1 := bx.cell 1 (.slice A n c) rfl
  have bx2 := bx.cell 2 (.bool t) rfl
  have bx3 := bx.cell 3 (.slice B m d) rfl
  have by_0 := by_.cell 0 (.bool s') rfl
  have by_1 := by_.cell 1 (.slice A' n' c') rfl
  have by_2 := by_.cell 2 (.bool t') rfl
  have by_3 := by_.cell 3 (.slice B' m' d') rfl
  have hnb := Box.new W 27 #[.bool s, .slice A n c, .bool t, .slice B m d, .bool s', .slice A' n' c', .bool t', .slice B' m' d']
  have e1 := (Ext.refl W).alloc (.cells #[.bool s, .slice A n c, .bool t, .slice B m d, .bool s', .slice A' n' c', .bool t', .slice B' m' d'] 27)
  go_wp2_with fail
  refine (few2 hnb (hr0.1.ext (extW.trans e1)) (hr0.2.ext (extW.trans e1)) (hr1.1.ext (extW.trans e1)) (hr1.2.ext (extW.trans e1))).mono ?_
  rintro e W1 ⟨rfl, hxt⟩
  rw [HF.out]
  have ES := e1.trans hxt
  clear hnb e1 hxt
  clear bx0 bx1 bx2 bx3 by_0 by_1 by_2 by_3
  clear hr0 hr1 HF
  replace bx := bx.ext ES
  replace by_ := by_.ext ES
  replace extW := extW.trans ES
  replace h := h.ext extW
  replace k := k.ext extW
  clear ES
  go_wp2_with fail
  have ES0 := Ext.refl W1
  refine wp_region_held_drew (S := Ext W1) (by kernel_rfl) ES0.drew (fun ES => ?_)
  clear ES0
  refine Late.start2 (x := ⟨4, 5, 27, #[Value.bool false, Value.slice none 0 0, Value.bool false, Value.slice none 0 0]⟩) (y := ⟨5, 6, 27, #[Value.bool false, Value.slice none 0 0, Value.bool false, Value.slice none 0 0]⟩) (n := 6) ⟨_, rfl, rfl, rfl, fun a w => by go_simp⟩ ⟨_, rfl, rfl, rfl, fun a w => by go_simp⟩ (fun _ _ _ _ _ => ⟨fun h => h, fun h => h⟩) ES rfl (fun hAl hQ => ?_)
  refine Late.take (i := 0) (d := some 21) (v := ?v0_58) rfl rfl (by kernel_rfl) (by kernel_rfl) (by kernel_rfl) (by kernel_rfl) hQ (Or.inl ⟨by rfl, ?y0_58⟩) ?r0_58
  case y0_58 =>
    intro w' hSw
    have k00 := (bx.ext hSw).c4
    go_simp
    try with_reducible rfl
  try simp only [Act.put]
  try simp only [List.setIfInBounds_toArray]
  try simp only [List.set_cons_succ]
  try simp only [List.set_cons_zero]
  refine Late.take (i := 2) (d := some 23) (v := ?v2_59) rfl rfl (by kernel_rfl) (by kernel_rfl) (by kernel_rfl) (by kernel_rfl) hQ (Or.inl ⟨by rfl, ?y2_59⟩) ?r2_59
  case y2_59 =>
    intro w' hSw
    have k00 := (by_.ext hSw).c4
    go_simp
    try with_reducible rfl
  try simp only [Act.put]
  try simp only [List.setIfInBounds_toArray]
  try simp only [List.set_cons_succ]
  try simp only [List.set_cons_zero]
  refine Late.call (i := 1) rfl (by kernel_rfl) hAl (by kernel_rfl) (by kernel_rfl) (by kernel_rfl) hQ (fun w1 e1 E1 K hK => ?_)
  go_simp
  (go_at_call 23; refine (law_ownR (h.ext E1) (by omega)).mono ?_; rintro e wa ⟨s1, A1, n1, c1, t1, B1, m1, d1, rfl, h1, hx1⟩)
  refine hK.out _ _ hx1 ?_
  clear hK K
  try simp only [Act.put]
  try simp only [List.setIfInBounds_toArray]
  try simp only [List.set_cons_succ]
  try simp only [List.set_cons_zero]
  refine Late.call (i := 3) rfl (by kernel_rfl) hAl (by kernel_rfl) (by kernel_rfl) (by kernel_rfl) hQ (fun w3 e3 E3 K hK => ?_)
  go_simp
  (go_at_call 23; refine (law_ownR (k.ext E3) (by omega)).mono ?_; rintro e wb ⟨s2, A2, n2, c2, t2, B2, m2, d2, rfl, k1, hx3⟩; replace h1 := (h1.ext e3).ext hx3)
  refine hK.out _ _ hx3 ?_
  clear hK K
  try simp only [Act.put]
  try simp only [List.setIfInBounds_toArray]
  try simp only [List.set_cons_succ]
  try simp only [List.set_cons_zero]
  refine Late.finish2 (hAl _ (by simp)) (hAl _ (by simp)) (by decide) (by decide) (by kernel_rfl) (by kernel_rfl) (by kernel_rfl) (fun wz g5 g6 ez Ez lg5 lg6 hne xb1 xb2 => ?_)
  clear hAl hQ ES
  try simp only [Act.put]
  try simp only [List.setIfInBounds_toArray]
  try simp only [List.set_cons_succ]
  try simp only [List.set_cons_zero]
  have e4 := fin_quad (s := s1) (A := A1) (n := n1) (c := c1) (t := t1) (B := B1) (m := m1) (d := d1) xb1
  have f10 := xb1.frozen 0
  have f11 := xb1.frozen 1
  have f12 := xb1.frozen 2
  have f13 := xb1.frozen 3
  have p10 := xb1.cell 0 (Value.bool false) rfl
  have p11 := xb1.cell 1 (Value.slice none 0 0) rfl
  have p12 := xb1.cell 2 (Value.bool false) rfl
  have p13 := xb1.cell 3 (Value.slice none 0 0) rfl
  refine wpAnyH_ready (rs := [6]) (by kernel_rfl) (by simp) (AllReadyH.cons rfl (fun K hK => ?_) AllReadyH.nil)
  go_simp
  refine hK.out _ _ (e4.2.2.1 _ Ez lg5) (fun _ => ?_)
  clear hK K
  try simp only [Act.put]
  try simp only [List.setIfInBounds_toArray]
  try simp only [List.set_cons_succ]
  try simp only [List.set_cons_zero]
  refine any_world (fun U => Ext W1 U ∧ Box U g5 27 #[.bool s1, .slice A1 n1 c1, .bool t1, .slice B1 m1 d1] ∧ Box U g6 27 #[Value.bool false, Value.slice none 0 0, Value.bool false, Value.slice none 0 0] ∧ NR U q 20 s1 A1 n1 c1 t1 B1 m1 d1 ∧ NR U p 20 s2 A2 n2 c2 t2 B2 m2 d2) ⟨e4.2.2.1 _ Ez lg5, e4.1, e4.2.2.2 _ _ _ (Ne.symm hne) xb2, ⟨e4.2.1 _ _ _ _ _ _ (h1.ext ez).num, e4.2.1 _ _ _ _ _ _ (h1.ext ez).den⟩, ⟨e4.2.1 _ _ _ _ _ _ (k1.ext ez).num, e4.2.1 _ _ _ _ _ _ (k1.ext ez).den⟩⟩ ?_
  clear e4 f10 f11 f12 f13 p10 p11 p12 p13 xb1 xb2 h1 k1
  rintro U ⟨EU, xb1, xb2, h1, k1⟩
  have e4 := fin_quad (s := s2) (A := A2) (n := n2) (c := c2) (t := t2) (B := B2) (m := m2) (d := d2) xb2
  have f20 := xb2.frozen 0
  have f21 := xb2.frozen 1
  have f22 := xb2.frozen 2
  have f23 := xb2.frozen 3
  have p20 := xb2.cell 0 (Value.bool false) rfl
  have p21 := xb2.cell 1 (Value.slice none 0 0) rfl
  have p22 := xb2.cell 2 (Value.bool false) rfl
  have p23 := xb2.cell 3 (Value.slice none 0 0) rfl
  refine wpAnyH_ready (rs := [7]) (by kernel_rfl) (by simp) (AllReadyH.cons rfl (fun K hK => ?_) AllReadyH.nil)
  go_simp
  refine hK.out _ _ (e4.2.2.1 _ EU lg6) (fun _ => ?_)
  clear hK K
  try simp only [Act.put]
  try simp only [List.setIfInBounds_toArray]
  try simp only [List.set_cons_succ]
  try simp only [List.set_cons_zero]
  refine any_world (fun X => Ext W1 X ∧ Box X g5 27 #[.bool s1, .slice A1 n1 c1, .bool t1, .slice B1 m1 d1] ∧ Box X g6 27 #[.bool s2, .slice A2 n2 c2, .bool t2, .slice B2 m2 d2] ∧ NR X q 20 s1 A1 n1 c1 t1 B1 m1 d1 ∧ NR X p 20 s2 A2 n2 c2 t2 B2 m2 d2) ⟨e4.2.2.1 _ EU lg6, e4.2.2.2 _ _ _ hne xb1, e4.1, ⟨e4.2.1 _ _ _ _ _ _ h1.num, e4.2.1 _ _ _ _ _ _ h1.den⟩, ⟨e4.2.1 _ _ _ _ _ _ k1.num, e4.2.1 _ _ _ _ _ _ k1.den⟩⟩ ?_
  clear e4 f20 f21 f22 f23 p20 p21 p22 p23 xb1 xb2 h1 k1 EU
  rintro X ⟨EX, xb1, xb2, h1, k1⟩
  refine wpAnyH_done (by kernel_rfl) ?_ _
  replace bx := bx.ext EX
  replace by_ := by_.ext EX
  replace h := h.ext EX
  replace k := k.ext EX
  replace extW := extW.trans EX
  clear EX Ez ez
  have xb10 := xb1.cell 0 (.bool s1) rfl
  have xb11 := xb1.cell 1 (.slice A1 n1 c1) rfl
  have xb12 := xb1.cell 2 (.bool t1) rfl
  have xb13 := xb1.cell 3 (.slice B1 m1 d1) rfl
  have xb20 := xb2.cell 0 (.bool s2) rfl
  have xb21 := xb2.cell 1 (.slice A2 n2 c2) rfl
  have xb22 := xb2.cell 2 (.bool t2) rfl
  have xb23 := xb2.cell 3 (.slice B2 m2 d2) rfl
  go_wp2_with fail
  refine (p_Div_0 h1 k1 (by omega) (by omega) Hp.out).mono ?_
  rintro e wd ⟨rfl, hxd⟩
  clear xb10 xb11 xb12 xb13 xb20 xb21 xb22 xb23
  go_upto_region 5 with (fail)
  refine at_world (fun X2 => Ext X X2 ∧ Box X2 wd.heap.size 27 #[Value.bool false, Value.slice none 0 0, Value.bool false, Value.slice none 0 0]) ⟨hxd.alloc _, Box.new wd _ _⟩ ?_
  generalize wd.heap.size = g7
  clear hxd
  rintro X2 ⟨EV, xb3⟩
  replace bx := bx.ext EV
  replace by_ := by_.ext EV
  replace xb1 := xb1.ext EV
  replace xb2 := xb2.ext EV
  replace h := h.ext EV
  replace k := k.ext EV
  replace h1 := h1.ext EV
  replace k1 := k1.ext EV
  replace extW := extW.trans EV
  clear EV
  have bx0 := bx.cell 0 (.bool s) rfl
  have bx1 := bx.cell 1 (.slice A n c) rfl
  have bx2 := bx.cell 2 (.bool t) rfl
  have bx3 := bx.cell 3 (.slice B m d) rfl
  have by_0 := by_.cell 0 (.bool s') rfl
  have by_1 := by_.cell 1 (.slice A' n' c') rfl
  have by_2 := by_.cell 2 (.bool t') rfl
  have by_3 := by_.cell 3 (.slice B' m' d') rfl
  go_wp2_with fail
  refine (q_Div_0 h k Hp.out).mono ?_
  rintro e we ⟨rfl, hxe⟩
  clear bx0 bx1 bx2 bx3 by_0 by_1 by_2 by_3
  go_upto_region 6 with (fail)
  refine at_world (fun V => Ext X2 V ∧ Box V we.heap.size 27 #[Value.bool false, Value.slice none 0 0, Value.bool false, Value.slice none 0 0]) ⟨hxe.alloc _, Box.new we _ _⟩ ?_
  generalize we.heap.size = g9
  clear hxe
  rintro V ⟨EV, xb4⟩
  replace bx := bx.ext EV
  replace by_ := by_.ext EV
  replace xb1 := xb1.ext EV
  replace xb2 := xb2.ext EV
  replace xb3 := xb3.ext EV
  replace h := h.ext EV
  replace k := k.ext EV
  replace h1 := h1.ext EV
  replace k1 := k1.ext EV
  replace extW := extW.trans EV
  clear EV
  go_upto_region 8 with (fail)
  have ES0 := Ext.refl V
  refine wp_region_held_drew (S := Ext V) (by kernel_rfl) ES0.drew (fun ES => ?_)
  clear ES0
  refine Late.start0 (fun _ _ _ _ _ => ⟨fun h => h, fun h => h⟩) ES (fun hAl hQ => ?_)
  refine Late.take (i := 0) (d := some 50) (v := ?v0_29) rfl rfl (by kernel_rfl) (by kernel_rfl) (by kernel_rfl) (by kernel_rfl) hQ (Or.inl ⟨by rfl, ?y0_29⟩) ?r0_29
  case y0_29 =>
    intro w' hSw
    have k00 := (xb1.ext hSw).c4
    have k10 := (xb2.ext hSw).c4
    have k20 := (bx.ext hSw).c4
    have k30 := (by_.ext hSw).c4
    go_simp
    try with_reducible rfl
  try simp only [Act.put]
  try simp only [List.setIfInBounds_toArray]
  try simp only [List.set_cons_succ]
  try simp only [List.set_cons_zero]
  refine Late.take (i := 1) (d := some 51) (v := ?v1_30) rfl rfl (by kernel_rfl) (by kernel_rfl) (by kernel_rfl) (by kernel_rfl) hQ (Or.inl ⟨by rfl, ?y1_30⟩) ?r1_30
  case y1_30 =>
    intro w' hSw
    have k00 := (xb1.ext hSw).c4
    have k10 := (xb2.ext hSw).c4
    have k20 := (bx.ext hSw).c4
    have k30 := (by_.ext hSw).c4
    go_simp
    try with_reducible rfl
  try simp only [Act.put]
  try simp only [List.setIfInBounds_toArray]
  try simp only [List.set_cons_succ]
  try simp only [List.set_cons_zero]
  refine Late.take (i := 3) (d := some 53) (v := ?v3_31) rfl rfl (by kernel_rfl) (by kernel_rfl) (by kernel_rfl) (by kernel_rfl) hQ (Or.inl ⟨by rfl, ?y3_31⟩) ?r3_31
  case y3_31 =>
    intro w' hSw
    have k00 := (xb1.ext hSw).c4
    have k10 := (xb2.ext hSw).c4
    have k20 := (bx.ext hSw).c4
    have k30 := (by_.ext hSw).c4
    go_simp
    try with_reducible rfl
  try simp only [Act.put]
  try simp only [List.setIfInBounds_toArray]
  try simp only [List.set_cons_succ]
  try simp only [List.set_cons_zero]
  refine Late.take (i := 4) (d := some 54) (v := ?v4_32) rfl rfl (by kernel_rfl) (by kernel_rfl) (by kernel_rfl) (by kernel_rfl) hQ (Or.inl ⟨by rfl, ?y4_32⟩) ?r4_32
  case y4_32 =>
    intro w' hSw
    have k00 := (xb1.ext hSw).c4
    have k10 := (xb2.ext hSw).c4
    have k20 := (bx.ext hSw).c4
    have k30 := (by_.ext hSw).c4
    go_simp
    try with_reducible rfl
  try simp only [Act.put]
  try simp only [List.setIfInBounds_toArray]
  try simp only [List.set_cons_succ]
  try simp only [List.set_cons_zero]
  refine Late.call (i := 2) rfl (by kernel_rfl) hAl (by kernel_rfl) (by kernel_rfl) (by kernel_rfl) hQ (fun w2 e2 E2 K hK => ?_)
  go_simp
  (go_at_call 28; refine (p_AddR (h1.ext E2) (k1.ext E2) (by omega) (by omega) (by omega) (hT.ext (extW.trans E2))).mono ?_; rintro e wk2 ⟨s1_, A1_, n1_, c1_, t1_, B1_, m1_, d1_, rfl, r1, hx2⟩)
  refine hK.out _ _ hx2 ?_
  clear hK K
  try simp only [Act.put]
  try simp only [List.setIfInBounds_toArray]
  try simp only [List.set_cons_succ]
  try simp only [List.set_cons_zero]
  refine Late.call (i := 5) rfl (by kernel_rfl) hAl (by kernel_rfl) (by kernel_rfl) (by kernel_rfl) hQ (fun w5 e5 E5 K hK => ?_)
  go_simp
  (replace r1 := r1.ext e5; go_at_call 29; refine (q_AddR (h.ext E5) (k.ext E5) (by omega) (by omega)).mono ?_; rintro e wk5 ⟨s2_, A2_, n2_, c2_, t2_, B2_, m2_, d2_, rfl, r2, hx5⟩; replace r1 := r1.ext hx5)
  refine hK.out _ _ hx5 ?_
  clear hK K
  try simp only [Act.put]
  try simp only [List.setIfInBounds_toArray]
  try simp only [List.set_cons_succ]
  try simp only [List.set_cons_zero]
  refine Late.call (i := 6) rfl (by kernel_rfl) hAl (by kernel_rfl) (by kernel_rfl) (by kernel_rfl) hQ (fun w6 e6 E6 K hK => ?_)
  go_simp
  (replace r1 := r1.ext e6; replace r2 := r2.ext e6; go_at_call 16; refine (q_Same r1 r2).mono ?_; rintro e wk6 ⟨rfl, hx6⟩; replace r1 := r1.ext hx6; replace r2 := r2.ext hx6)
  refine hK.out _ _ hx6 ?_
  clear hK K
  try simp only [Act.put]
  try simp only [List.setIfInBounds_toArray]
  try simp only [List.set_cons_succ]
  try simp only [List.set_cons_zero]
  refine Late.take (i := 7) (d := some 57) (v := ?v7_33) rfl rfl (by kernel_rfl) (by kernel_rfl) (by kernel_rfl) (by kernel_rfl) hQ (Or.inl ⟨by rfl, ?y7_33⟩) ?r7_33
  case y7_33 =>
    intro w' hSw
    have k00 := (xb1.ext hSw).c4
    have k10 := (xb2.ext hSw).c4
    have k20 := (bx.ext hSw).c4
    have k30 := (by_.ext hSw).c4
    go_simp
    try with_reducible rfl
  try simp only [Act.put]
  try simp only [List.setIfInBounds_toArray]
  try simp only [List.set_cons_succ]
  try simp only [List.set_cons_zero]
  refine Late.take (i := 8) (d := some 58) (v := ?v8_34) rfl rfl (by kernel_rfl) (by kernel_rfl) (by kernel_rfl) (by kernel_rfl) hQ (Or.inl ⟨by rfl, ?y8_34⟩) ?r8_34
  case y8_34 =>
    intro w' hSw
    have k00 := (xb1.ext hSw).c4
    have k10 := (xb2.ext hSw).c4
    have k20 := (bx.ext hSw).c4
    have k30 := (by_.ext hSw).c4
    go_simp
    try with_reducible rfl
  try simp only [Act.put]
  try simp only [List.setIfInBounds_toArray]
  try simp only [List.set_cons_succ]
  try simp only [List.set_cons_zero]
  refine Late.take (i := 9) (d := some 59) (v := ?v9_35) rfl rfl (by kernel_rfl) (by kernel_rfl) (by kernel_rfl) (by kernel_rfl) hQ (Or.inl ⟨by rfl, ?y9_35⟩) ?r9_35
  case y9_35 =>
    intro w' hSw
    have k00 := (xb1.ext hSw).c4
    have k10 := (xb2.ext hSw).c4
    have k20 := (bx.ext hSw).c4
    have k30 := (by_.ext hSw).c4
    go_simp
    try with_reducible rfl
  try simp only [Act.put]
  try simp only [List.setIfInBounds_toArray]
  try simp only [List.set_cons_succ]
  try simp only [List.set_cons_zero]
  refine Late.take (i := 11) (d := some 61) (v := ?v11_36) rfl rfl (by kernel_rfl) (by kernel_rfl) (by kernel_rfl) (by kernel_rfl) hQ (Or.inl ⟨by rfl, ?y11_36⟩) ?r11_36
  case y11_36 =>
    intro w' hSw
    have k00 := (xb1.ext hSw).c4
    have k10 := (xb2.ext hSw).c4
    have k20 := (bx.ext hSw).c4
    have k30 := (by_.ext hSw).c4
    go_simp
    try with_reducible rfl
  try simp only [Act.put]
  try simp only [List.setIfInBounds_toArray]
  try simp only [List.set_cons_succ]
  try simp only [List.set_cons_zero]
  refine Late.take (i := 12) (d := some 62) (v := ?v12_37) rfl rfl (by kernel_rfl) (by kernel_rfl) (by kernel_rfl) (by kernel_rfl) hQ (Or.inl ⟨by rfl, ?y12_37⟩) ?r12_37
  case y12_37 =>
    intro w' hSw
    have k00 := (xb1.ext hSw).c4
    have k10 := (xb2.ext hSw).c4
    have k20 := (bx.ext hSw).c4
    have k30 := (by_.ext hSw).c4
    go_simp
    try with_reducible rfl
  try simp only [Act.put]
  try simp only [List.setIfInBounds_toArray]
  try simp only [List.set_cons_succ]
  try simp only [List.set_cons_zero]
  refine Late.call (i := 10) rfl (by kernel_rfl) hAl (by kernel_rfl) (by kernel_rfl) (by kernel_rfl) hQ (fun w10 e10 E10 K hK => ?_)
  go_simp
  (replace r1 := r1.ext e10; replace r2 := r2.ext e10; go_at_call 30; refine (p_SubR (h1.ext E10) (k1.ext E10) (by omega) (by omega) (by omega) (hT.ext (extW.trans E10))).mono ?_; rintro e wk10 ⟨s3_, A3_, n3_, c3_, t3_, B3_, m3_, d3_, rfl, r3, hx10⟩; replace r1 := r1.ext hx10; replace r2 := r2.ext hx10)
  refine hK.out _ _ hx10 ?_
  clear hK K
  try simp only [Act.put]
  try simp only [List.setIfInBounds_toArray]
  try simp only [List.set_cons_succ]
  try simp only [List.set_cons_zero]
  refine Late.call (i := 13) rfl (by kernel_rfl) hAl (by kernel_rfl) (by kernel_rfl) (by kernel_rfl) hQ (fun w13 e13 E13 K hK => ?_)
  go_simp
  (replace r1 := r1.ext e13; replace r2 := r2.ext e13; replace r3 := r3.ext e13; go_at_call 31; refine (q_SubR (h.ext E13) (k.ext E13) (by omega) (by omega)).mono ?_; rintro e wk13 ⟨s4_, A4_, n4_, c4_, t4_, B4_, m4_, d4_, rfl, r4, hx13⟩; replace r1 := r1.ext hx13; replace r2 := r2.ext hx13; replace r3 := r3.ext hx13)
  refine hK.out _ _ hx13 ?_
  clear hK K
  try simp only [Act.put]
  try simp only [List.setIfInBounds_toArray]
  try simp only [List.set_cons_succ]
  try simp only [List.set_cons_zero]
  refine Late.call (i := 14) rfl (by kernel_rfl) hAl (by kernel_rfl) (by kernel_rfl) (by kernel_rfl) hQ (fun w14 e14 E14 K hK => ?_)
  go_simp
  (replace r1 := r1.ext e14; replace r2 := r2.ext e14; replace r3 := r3.ext e14; replace r4 := r4.ext e14; go_at_call 16; refine (q_Same r3 r4).mono ?_; rintro e wk14 ⟨rfl, hx14⟩; replace r1 := r1.ext hx14; replace r2 := r2.ext hx14; replace r3 := r3.ext hx14; replace r4 := r4.ext hx14)
  refine hK.out _ _ hx14 ?_
  clear hK K
  try simp only [Act.put]
  try simp only [List.setIfInBounds_toArray]
  try simp only [List.set_cons_succ]
  try simp only [List.set_cons_zero]
  refine Late.take (i := 15) (d := some 65) (v := ?v15_38) rfl rfl (by kernel_rfl) (by kernel_rfl) (by kernel_rfl) (by kernel_rfl) hQ (Or.inl ⟨by rfl, ?y15_38⟩) ?r15_38
  case y15_38 =>
    intro w' hSw
    have k00 := (xb1.ext hSw).c4
    have k10 := (xb2.ext hSw).c4
    have k20 := (bx.ext hSw).c4
    have k30 := (by_.ext hSw).c4
    go_simp
    try with_reducible rfl
  try simp only [Act.put]
  try simp only [List.setIfInBounds_toArray]
  try simp only [List.set_cons_succ]
  try simp only [List.set_cons_zero]
  refine Late.take (i := 16) (d := some 66) (v := ?v16_39) rfl rfl (by kernel_rfl) (by kernel_rfl) (by kernel_rfl) (by kernel_rfl) hQ (Or.inl ⟨by rfl, ?y16_39⟩) ?r16_39
  case y16_39 =>
    intro w' hSw
    have k00 := (xb1.ext hSw).c4
    have k10 := (xb2.ext hSw).c4
    have k20 := (bx.ext hSw).c4
    have k30 := (by_.ext hSw).c4
    go_simp
    try with_reducible rfl
  try simp only [Act.put]
  try simp only [List.setIfInBounds_toArray]
  try simp only [List.set_cons_succ]
  try simp only [List.set_cons_zero]
  refine Late.take (i := 17) (d := some 67) (v := ?v17_40) rfl rfl (by kernel_rfl) (by kernel_rfl) (by kernel_rfl) (by kernel_rfl) hQ (Or.inl ⟨by rfl, ?y17_40⟩) ?r17_40
  case y17_40 =>
    intro w' hSw
    have k00 := (xb1.ext hSw).c4
    have k10 := (xb2.ext hSw).c4
    have k20 := (bx.ext hSw).c4
    have k30 := (by_.ext hSw).c4
    go_simp
    try with_reducible rfl
  try simp only [Act.put]
  try simp only [List.setIfInBounds_toArray]
  try simp only [List.set_cons_succ]
  try simp only [List.set_cons_zero]
  refine Late.take (i := 19) (d := some 69) (v := ?v19_41) rfl rfl (by kernel_rfl) (by kernel_rfl) (by kernel_rfl) (by kernel_rfl) hQ (Or.inl ⟨by rfl, ?y19_41⟩) ?r19_41
  case y19_41 =>
    intro w' hSw
    have k00 := (xb1.ext hSw).c4
    have k10 := (xb2.ext hSw).c4
    have k20 := (bx.ext hSw).c4
    have k30 := (by_.ext hSw).c4
    go_simp
    try with_reducible rfl
  try simp only [Act.put]
  try simp only [List.setIfInBounds_toArray]
  try simp only [List.set_cons_succ]
  try simp only [List.set_cons_zero]
  refine Late.call (i := 18) rfl (by kernel_rfl) hAl (by kernel_rfl) (by kernel_rfl) (by kernel_rfl) hQ (fun w18 e18 E18 K hK => ?_)
  go_simp
  (replace r1 := r1.ext e18; replace r2 := r2.ext e18; replace r3 := r3.ext e18; replace r4 := r4.ext e18; go_at_call 32; refine (p_NegR (h1.ext E18) (by omega)).mono ?_; rintro e wk18 ⟨s5_, A5_, n5_, c5_, t5_, B5_, m5_, d5_, rfl, r5, hx18⟩; replace r1 := r1.ext hx18; replace r2 := r2.ext hx18; replace r3 := r3.ext hx18; replace r4 := r4.ext hx18)
  refine hK.out _ _ hx18 ?_
  clear hK K
  try simp only [Act.put]
  try simp only [List.setIfInBounds_toArray]
  try simp only [List.set_cons_succ]
  try simp only [List.set_cons_zero]
  refine Late.call (i := 20) rfl (by kernel_rfl) hAl (by kernel_rfl) (by kernel_rfl) (by kernel_rfl) hQ (fun w20 e20 E20 K hK => ?_)
  go_simp
  (replace r1 := r1.ext e20; replace r2 := r2.ext e20; replace r3 := r3.ext e20; replace r4 := r4.ext e20; replace r5 := r5.ext e20; go_at_call 33; refine (q_NegR (h.ext E20) (by omega)).mono ?_; rintro e wk20 ⟨s6_, A6_, n6_, c6_, t6_, B6_, m6_, d6_, rfl, r6, hx20⟩; replace r1 := r1.ext hx20; replace r2 := r2.ext hx20; replace r3 := r3.ext hx20; replace r4 := r4.ext hx20; replace r5 := r5.ext hx20)
  refine hK.out _ _ hx20 ?_
  clear hK K
  try simp only [Act.put]
  try simp only [List.setIfInBounds_toArray]
  try simp only [List.set_cons_succ]
  try simp only [List.set_cons_zero]
  refine Late.call (i := 21) rfl (by kernel_rfl) hAl (by kernel_rfl) (by kernel_rfl) (by kernel_rfl) hQ (fun w21 e21 E21 K hK => ?_)
  go_simp
  (replace r1 := r1.ext e21; replace r2 := r2.ext e21; replace r3 := r3.ext e21; replace r4 := r4.ext e21; replace r5 := r5.ext e21; replace r6 := r6.ext e21; go_at_call 16; refine (q_Same r5 r6).mono ?_; rintro e wk21 ⟨rfl, hx21⟩; replace r1 := r1.ext hx21; replace r2 := r2.ext hx21; replace r3 := r3.ext hx21; replace r4 := r4.ext hx21; replace r5 := r5.ext hx21; replace r6 := r6.ext hx21)
  refine hK.out _ _ hx21 ?_
  clear hK K
  try simp only [Act.put]
  try simp only [List.setIfInBounds_toArray]
  try simp only [List.set_cons_succ]
  try simp only [List.set_cons_zero]
  refine Late.take (i := 22) (d := some 72) (v := ?v22_42) rfl rfl (by kernel_rfl) (by kernel_rfl) (by kernel_rfl) (by kernel_rfl) hQ (Or.inl ⟨by rfl, ?y22_42⟩) ?r22_42
  case y22_42 =>
    intro w' hSw
    have k00 := (xb1.ext hSw).c4
    have k10 := (xb2.ext hSw).c4
    have k20 := (bx.ext hSw).c4
    have k30 := (by_.ext hSw).c4
    go_simp
    try with_reducible rfl
  try simp only [Act.put]
  try simp only [List.setIfInBounds_toArray]
  try simp only [List.set_cons_succ]
  try simp only [List.set_cons_zero]
  refine Late.take (i := 23) (d := some 73) (v := ?v23_43) rfl rfl (by kernel_rfl) (by kernel_rfl) (by kernel_rfl) (by kernel_rfl) hQ (Or.inl ⟨by rfl, ?y23_43⟩) ?r23_43
  case y23_43 =>
    intro w' hSw
    have k00 := (xb1.ext hSw).c4
    have k10 := (xb2.ext hSw).c4
    have k20 := (bx.ext hSw).c4
    have k30 := (by_.ext hSw).c4
    go_simp
    try with_reducible rfl
  try simp only [Act.put]
  try simp only [List.setIfInBounds_toArray]
  try simp only [List.set_cons_succ]
  try simp only [List.set_cons_zero]
  refine Late.take (i := 24) (d := some 74) (v := ?v24_44) rfl rfl (by kernel_rfl) (by kernel_rfl) (by kernel_rfl) (by kernel_rfl) hQ (Or.inl ⟨by rfl, ?y24_44⟩) ?r24_44
  case y24_44 =>
    intro w' hSw
    have k00 := (xb1.ext hSw).c4
    have k10 := (xb2.ext hSw).c4
    have k20 := (bx.ext hSw).c4
    have k30 := (by_.ext hSw).c4
    go_simp
    try with_reducible rfl
  try simp only [Act.put]
  try simp only [List.setIfInBounds_toArray]
  try simp only [List.set_cons_succ]
  try simp only [List.set_cons_zero]
  refine Late.take (i := 25) (d := some 75) (v := ?v25_45) rfl rfl (by kernel_rfl) (by kernel_rfl) (by kernel_rfl) (by kernel_rfl) hQ (Or.inl ⟨by rfl, ?y25_45⟩) ?r25_45
  case y25_45 =>
    intro w' hSw
    have k00 := (xb1.ext hSw).c4
    have k10 := (xb2.ext hSw).c4
    have k20 := (bx.ext hSw).c4
    have k30 := (by_.ext hSw).c4
    go_simp
    try with_reducible rfl
  try simp only [Act.put]
  try simp only [List.setIfInBounds_toArray]
  try simp only [List.set_cons_succ]
  try simp only [List.set_cons_zero]
  refine Late.take (i := 27) (d := some 77) (v := ?v27_46) rfl rfl (by kernel_rfl) (by kernel_rfl) (by kernel_rfl) (by kernel_rfl) hQ (Or.inl ⟨by rfl, ?y27_46⟩) ?r27_46
  case y27_46 =>
    intro w' hSw
    have k00 := (xb1.ext hSw).c4
    have k10 := (xb2.ext hSw).c4
    have k20 := (bx.ext hSw).c4
    have k30 := (by_.ext hSw).c4
    go_simp
    try with_reducible rfl
  try simp only [Act.put]
  try simp only [List.setIfInBounds_toArray]
  try simp only [List.set_cons_succ]
  try simp only [List.set_cons_zero]
  refine Late.take (i := 28) (d := some 78) (v := ?v28_47) rfl rfl (by kernel_rfl) (by kernel_rfl) (by kernel_rfl) (by kernel_rfl) hQ (Or.inl ⟨by rfl, ?y28_47⟩) ?r28_47
  case y28_47 =>
    intro w' hSw
    have k00 := (xb1.ext hSw).c4
    have k10 := (xb2.ext hSw).c4
    have k20 := (bx.ext hSw).c4
    have k30 := (by_.ext hSw).c4
    go_simp
    try with_reducible rfl
  try simp only [Act.put]
  try simp only [List.setIfInBounds_toArray]
  try simp only [List.set_cons_succ]
  try simp only [List.set_cons_zero]
  refine Late.call (i := 26) rfl (by kernel_rfl) hAl (by kernel_rfl) (by kernel_rfl) (by kernel_rfl) hQ (fun w26 e26 E26 K hK => ?_)
  go_simp
  (replace r1 := r1.ext e26; replace r2 := r2.ext e26; replace r3 := r3.ext e26; replace r4 := r4.ext e26; replace r5 := r5.ext e26; replace r6 := r6.ext e26; go_at_call 34; refine (p_MulR (h1.ext E26) (k1.ext E26) (by omega) (by omega) (by omega) (hT.ext (extW.trans E26))).mono ?_; rintro e wk26 ⟨s7_, A7_, n7_, c7_, t7_, B7_, m7_, d7_, rfl, r7, hx26⟩; replace r1 := r1.ext hx26; replace r2 := r2.ext hx26; replace r3 := r3.ext hx26; replace r4 := r4.ext hx26; replace r5 := r5.ext hx26; replace r6 := r6.ext hx26)
  refine hK.out _ _ hx26 ?_
  clear hK K
  try simp only [Act.put]
  try simp only [List.setIfInBounds_toArray]
  try simp only [List.set_cons_succ]
  try simp only [List.set_cons_zero]
  refine Late.call (i := 29) rfl (by kernel_rfl) hAl (by kernel_rfl) (by kernel_rfl) (by kernel_rfl) hQ (fun w29 e29 E29 K hK => ?_)
  go_simp
  (replace r1 := r1.ext e29; replace r2 := r2.ext e29; replace r3 := r3.ext e29; replace r4 := r4.ext e29; replace r5 := r5.ext e29; replace r6 := r6.ext e29; replace r7 := r7.ext e29; go_at_call 35; refine (q_MulR (h.ext E29) (k.ext E29) (by omega) (by omega)).mono ?_; rintro e wk29 ⟨s8_, A8_, n8_, c8_, t8_, B8_, m8_, d8_, rfl, r8, hx29⟩; replace r1 := r1.ext hx29; replace r2 := r2.ext hx29; replace r3 := r3.ext hx29; replace r4 := r4.ext hx29; replace r5 := r5.ext hx29; replace r6 := r6.ext hx29; replace r7 := r7.ext hx29)
  refine hK.out _ _ hx29 ?_
  clear hK K
  try simp only [Act.put]
  try simp only [List.setIfInBounds_toArray]
  try simp only [List.set_cons_succ]
  try simp only [List.set_cons_zero]
  refine Late.call (i := 30) rfl (by kernel_rfl) hAl (by kernel_rfl) (by kernel_rfl) (by kernel_rfl) hQ (fun w30 e30 E30 K hK => ?_)
  go_simp
  (replace r1 := r1.ext e30; replace r2 := r2.ext e30; replace r3 := r3.ext e30; replace r4 := r4.ext e30; replace r5 := r5.ext e30; replace r6 := r6.ext e30; replace r7 := r7.ext e30; replace r8 := r8.ext e30; go_at_call 16; refine (q_Same r7 r8).mono ?_; rintro e wk30 ⟨rfl, hx30⟩; replace r1 := r1.ext hx30; replace r2 := r2.ext hx30; replace r3 := r3.ext hx30; replace r4 := r4.ext hx30; replace r5 := r5.ext hx30; replace r6 := r6.ext hx30; replace r7 := r7.ext hx30; replace r8 := r8.ext hx30)
  refine hK.out _ _ hx30 ?_
  clear hK K
  try simp only [Act.put]
  try simp only [List.setIfInBounds_toArray]
  try simp only [List.set_cons_succ]
  try simp only [List.set_cons_zero]
  refine Late.take (i := 31) (d := some 81) (v := ?v31_48) rfl rfl (by kernel_rfl) (by kernel_rfl) (by kernel_rfl) (by kernel_rfl) hQ (Or.inl ⟨by rfl, ?y31_48⟩) ?r31_48
  case y31_48 =>
    intro w' hSw
    have k00 := (xb1.ext hSw).c4
    have k10 := (xb2.ext hSw).c4
    have k20 := (bx.ext hSw).c4
    have k30 := (by_.ext hSw).c4
    go_simp
    try with_reducible rfl
  try simp only [Act.put]
  try simp only [List.setIfInBounds_toArray]
  try simp only [List.set_cons_succ]
  try simp only [List.set_cons_zero]
  refine Late.take (i := 32) (d := some 82) (v := ?v32_49) rfl rfl (by kernel_rfl) (by kernel_rfl) (by kernel_rfl) (by kernel_rfl) hQ (Or.inl ⟨by rfl, ?y32_49⟩) ?r32_49
  case y32_49 =>
    intro w' hSw
    have k00 := (xb1.ext hSw).c4
    have k10 := (xb2.ext hSw).c4
    have k20 := (bx.ext hSw).c4
    have k30 := (by_.ext hSw).c4
    go_simp
    try with_reducible rfl
  try simp only [Act.put]
  try simp only [List.setIfInBounds_toArray]
  try simp only [List.set_cons_succ]
  try simp only [List.set_cons_zero]
  refine Late.take (i := 33) (d := some 83) (v := ?v33_50) rfl rfl (by kernel_rfl) (by kernel_rfl) (by kernel_rfl) (by kernel_rfl) hQ (Or.inl ⟨by rfl, ?y33_50⟩) ?r33_50
  case y33_50 =>
    intro w' hSw
    have k00 := (xb1.ext hSw).c4
    have k10 := (xb2.ext hSw).c4
    have k20 := (bx.ext hSw).c4
    have k30 := (by_.ext hSw).c4
    go_simp
    try with_reducible rfl
  try simp only [Act.put]
  try simp only [List.setIfInBounds_toArray]
  try simp only [List.set_cons_succ]
  try simp only [List.set_cons_zero]
  refine Late.take (i := 34) (d := some 84) (v := ?v34_51) rfl rfl (by kernel_rfl) (by kernel_rfl) (by kernel_rfl) (by kernel_rfl) hQ (Or.inl ⟨by rfl, ?y34_51⟩) ?r34_51
  case y34_51 =>
    intro w' hSw
    have k00 := (xb1.ext hSw).c4
    have k10 := (xb2.ext hSw).c4
    have k20 := (bx.ext hSw).c4
    have k30 := (by_.ext hSw).c4
    go_simp
    try with_reducible rfl
  try simp only [Act.put]
  try simp only [List.setIfInBounds_toArray]
  try simp only [List.set_cons_succ]
  try simp only [List.set_cons_zero]
  refine Late.call (i := 35) rfl (by kernel_rfl) hAl (by kernel_rfl) (by kernel_rfl) (by kernel_rfl) hQ (fun w35 e35 E35 K hK => ?_)
  go_simp
  (replace r1 := r1.ext e35; replace r2 := r2.ext e35; replace r3 := r3.ext e35; replace r4 := r4.ext e35; replace r5 := r5.ext e35; replace r6 := r6.ext e35; replace r7 := r7.ext e35; replace r8 := r8.ext e35; go_at_call 16; refine (q_Same (h1.ext E35) (h.ext E35)).mono ?_; rintro e wk35 ⟨rfl, hx35⟩; replace r1 := r1.ext hx35; replace r2 := r2.ext hx35; replace r3 := r3.ext hx35; replace r4 := r4.ext hx35; replace r5 := r5.ext hx35; replace r6 := r6.ext hx35; replace r7 := r7.ext hx35; replace r8 := r8.ext hx35)
  refine hK.out _ _ hx35 ?_
  clear hK K
  try simp only [Act.put]
  try simp only [List.setIfInBounds_toArray]
  try simp only [List.set_cons_succ]
  try simp only [List.set_cons_zero]
  refine Late.take (i := 36) (d := some 86) (v := ?v36_52) rfl rfl (by kernel_rfl) (by kernel_rfl) (by kernel_rfl) (by kernel_rfl) hQ (Or.inl ⟨by rfl, ?y36_52⟩) ?r36_52
  case y36_52 =>
    intro w' hSw
    have k00 := (xb1.ext hSw).c4
    have k10 := (xb2.ext hSw).c4
    have k20 := (bx.ext hSw).c4
    have k30 := (by_.ext hSw).c4
    go_simp
    try with_reducible rfl
  try simp only [Act.put]
  try simp only [List.setIfInBounds_toArray]
  try simp only [List.set_cons_succ]
  try simp only [List.set_cons_zero]
  refine Late.take (i := 37) (d := some 87) (v := ?v37_53) rfl rfl (by kernel_rfl) (by kernel_rfl) (by kernel_rfl) (by kernel_rfl) hQ (Or.inl ⟨by rfl, ?y37_53⟩) ?r37_53
  case y37_53 =>
    intro w' hSw
    have k00 := (xb1.ext hSw).c4
    have k10 := (xb2.ext hSw).c4
    have k20 := (bx.ext hSw).c4
    have k30 := (by_.ext hSw).c4
    go_simp
    try with_reducible rfl
  try simp only [Act.put]
  try simp only [List.setIfInBounds_toArray]
  try simp only [List.set_cons_succ]
  try simp only [List.set_cons_zero]
  refine Late.take (i := 38) (d := some 88) (v := ?v38_54) rfl rfl (by kernel_rfl) (by kernel_rfl) (by kernel_rfl) (by kernel_rfl) hQ (Or.inl ⟨by rfl, ?y38_54⟩) ?r38_54
  case y38_54 =>
    intro w' hSw
    have k00 := (xb1.ext hSw).c4
    have k10 := (xb2.ext hSw).c4
    have k20 := (bx.ext hSw).c4
    have k30 := (by_.ext hSw).c4
    go_simp
    try with_reducible rfl
  try simp only [Act.put]
  try simp only [List.setIfInBounds_toArray]
  try simp only [List.set_cons_succ]
  try simp only [List.set_cons_zero]
  refine Late.take (i := 39) (d := some 89) (v := ?v39_55) rfl rfl (by kernel_rfl) (by kernel_rfl) (by kernel_rfl) (by kernel_rfl) hQ (Or.inl ⟨by rfl, ?y39_55⟩) ?r39_55
  case y39_55 =>
    intro w' hSw
    have k00 := (xb1.ext hSw).c4
    have k10 := (xb2.ext hSw).c4
    have k20 := (bx.ext hSw).c4
    have k30 := (by_.ext hSw).c4
    go_simp
    try with_reducible rfl
  try simp only [Act.put]
  try simp only [List.setIfInBounds_toArray]
  try simp only [List.set_cons_succ]
  try simp only [List.set_cons_zero]
  refine Late.call (i := 40) rfl (by kernel_rfl) hAl (by kernel_rfl) (by kernel_rfl) (by kernel_rfl) hQ (fun w40 e40 E40 K hK => ?_)
  go_simp
  (replace r1 := r1.ext e40; replace r2 := r2.ext e40; replace r3 := r3.ext e40; replace r4 := r4.ext e40; replace r5 := r5.ext e40; replace r6 := r6.ext e40; replace r7 := r7.ext e40; replace r8 := r8.ext e40; go_at_call 16; refine (q_Same (k1.ext E40) (k.ext E40)).mono ?_; rintro e wk40 ⟨rfl, hx40⟩; replace r1 := r1.ext hx40; replace r2 := r2.ext hx40; replace r3 := r3.ext hx40; replace r4 := r4.ext hx40; replace r5 := r5.ext hx40; replace r6 := r6.ext hx40; replace r7 := r7.ext hx40; replace r8 := r8.ext hx40)
  refine hK.out _ _ hx40 ?_
  clear hK K
  try simp only [Act.put]
  try simp only [List.setIfInBounds_toArray]
  try simp only [List.set_cons_succ]
  try simp only [List.set_cons_zero]
  refine Late.take (i := 41) (d := some 91) (v := ?v41_56) rfl rfl (by kernel_rfl) (by kernel_rfl) (by kernel_rfl) (by kernel_rfl) hQ (Or.inl ⟨by rfl, ?y41_56⟩) ?r41_56
  case y41_56 =>
    intro w' hSw
    have k00 := (xb1.ext hSw).c4
    have k10 := (xb2.ext hSw).c4
    have k20 := (bx.ext hSw).c4
    have k30 := (by_.ext hSw).c4
    go_simp
    try with_reducible rfl
  try simp only [Act.put]
  try simp only [List.setIfInBounds_toArray]
  try simp only [List.set_cons_succ]
  try simp only [List.set_cons_zero]
  refine Late.take (i := 42) (d := some 4) (v := ?v42_57) rfl rfl (by kernel_rfl) (by kernel_rfl) (by kernel_rfl) (by kernel_rfl) hQ (Or.inl ⟨by rfl, ?y42_57⟩) ?r42_57
  case y42_57 =>
    intro w' hSw
    have k00 := (xb1.ext hSw).c4
    have k10 := (xb2.ext hSw).c4
    have k20 := (bx.ext hSw).c4
    have k30 := (by_.ext hSw).c4
    go_simp
    try with_reducible rfl
  try simp only [Act.put]
  try simp only [List.setIfInBounds_toArray]
  try simp only [List.set_cons_succ]
  try simp only [List.set_cons_zero]
  refine Late.done0 (by kernel_rfl) (fun wz ez Ez => ?_)
  clear hAl hQ ES
  go_wp2_with fail
  go_ret
  exact ⟨rfl, extW.trans Ez⟩
set_option maxHeartbeats 16000000 in
set_option maxRecDepth 100000 in
theorem arith_nz (hA : Awake2) (hT : Tab w) (hP : TabP w) (h : NR w q 20 s A n c t B m d) (k : NR w p 20 s' A' n' c' t' B' m' d') (hp : p ≠ 0) :
    Calls Tryz.prog 5 #[.agg #[.bool s, .slice A n c, .bool t, .slice B m d], .agg #[.bool s', .slice A' n' c', .bool t', .slice B' m' d']] w fun e w' => e = .returned (.bool true) ∧ Ext w w' := by
  have Hp := Lib.hid hp
  clear hp
  obtain ⟨xs, ys, ra0, rb0, hv0, hn0, hm0, _⟩ := h.raw
  obtain ⟨xs', ys', ra1, rb1, hv1, hn1, hm1, _⟩ := k.raw
  have HF := Lib.hid (show (fewB n m s xs t ys && (fewB n' m' s' xs' t' ys')) = true by unfold fewB; rw [decide_eq_true hn0, decide_eq_true hm0, hv0, decide_eq_true hn1, decide_eq_true hm1, hv1]; rfl)
  have hr0 := And.intro ra0 rb0
  have hr1 := And.intro ra1 rb1
  clear ra0 rb0 hv0 hn0 hm0 ra1 rb1 hv1 hn1 hm1
  have HA := Lib.hid hA
  clear hA
  go_enter Tryz.func5, Tryz.ntmps5
  go_upto_region 1 with (fail)
  obtain ⟨W0, hW, extW, bx, by_, hzz⟩ := box2 w 27 27 #[.bool s, .slice A n c, .bool t, .slice B m d] #[.bool s', .slice A' n' c', .bool t', .slice B' m' d']
  rw [← hW]
  clear hW hzz
  go_wp2_with fail
  refine (HA.out _ (hT.ext extW) (hP.ext extW)).mono ?_
  rintro e W ⟨rfl, hxt⟩
  replace extW := extW.trans hxt
  replace bx := bx.ext hxt
  replace by_ := by_.ext hxt
  clear hxt
  have bx0 := bx.cell 0 (.bool s) rfl
  have bx1 := bx.cell 1 (.slice A n c) rfl
  have bx2 := bx.cell 2 (.bool t) rfl
  have bx3 := bx.cell 3 (.slice B m d) rfl
  have by_0 := by_.cell 0 (.bool s') rfl
  have by_1 := by_.cell 1 (.slice A' n' c') rfl
  have by_2 := by_.cell 2 (.bool t') rfl
  have by_3 := by_.cell 3 (.slice B' m' d') rfl
  have hnb := Box.new W 27 #[.bool s, .slice A n c, .bool t, .slice B m d, .bool s', .slice A' n' c', .bool t', .slice B' m' d']
  have e1 := (Ext.refl W).alloc (.cells #[.bool s, .slice A n c, .bool t, .slice B m d, .bool s', .slice A' n' c', .bool t', .slice B' m' d'] 27)
  go_wp2_with fail
  refine (few2 hnb (hr0.1.ext (extW.trans e1)) (hr0.2.ext (extW.trans e1)) (hr1.1.ext (extW.trans e1)) (hr1.2.ext (extW.trans e1))).mono ?_
  rintro e W1 ⟨rfl, hxt⟩
  rw [HF.out]
  have ES := e1.trans hxt
  clear hnb e1 hxt
  clear bx0 bx1 bx2 bx3 by_0 by_1 by_2 by_3
  clear hr0 hr1 HF
  replace bx := bx.ext ES
  replace by_ := by_.ext ES
  replace extW := extW.trans ES
  replace h := h.ext extW
  replace k := k.ext extW
  clear ES
  go_wp2_with fail
  have ES0 := Ext.refl W1
  refine wp_region_held_drew (S := Ext W1) (by kernel_rfl) ES0.drew (fun ES => ?_)
  clear ES0
  refine Late.start2 (x := ⟨4, 5, 27, #[Value.bool false, Value.slice none 0 0, Value.bool false, Value.slice none 0 0]⟩) (y := ⟨5, 6, 27, #[Value.bool false, Value.slice none 0 0, Value.bool false, Value.slice none 0 0]⟩) (n := 6) ⟨_, rfl, rfl, rfl, fun a w => by go_simp⟩ ⟨_, rfl, rfl, rfl, fun a w => by go_simp⟩ (fun _ _ _ _ _ => ⟨fun h => h, fun h => h⟩) ES rfl (fun hAl hQ => ?_)
  refine Late.take (i := 0) (d := some 21) (v := ?v0_60) rfl rfl (by kernel_rfl) (by kernel_rfl) (by kernel_rfl) (by kernel_rfl) hQ (Or.inl ⟨by rfl, ?y0_60⟩) ?r0_60
  case y0_60 =>
    intro w' hSw
    have k00 := (bx.ext hSw).c4
    go_simp
    try with_reducible rfl
  try simp only [Act.put]
  try simp only [List.setIfInBounds_toArray]
  try simp only [List.set_cons_succ]
  try simp only [List.set_cons_zero]
  refine Late.take (i := 2) (d := some 23) (v := ?v2_61) rfl rfl (by kernel_rfl) (by kernel_rfl) (by kernel_rfl) (by kernel_rfl) hQ (Or.inl ⟨by rfl, ?y2_61⟩) ?r2_61
  case y2_61 =>
    intro w' hSw
    have k00 := (by_.ext hSw).c4
    go_simp
    try with_reducible rfl
  try simp only [Act.put]
  try simp only [List.setIfInBounds_toArray]
  try simp only [List.set_cons_succ]
  try simp only [List.set_cons_zero]
  refine Late.call (i := 1) rfl (by kernel_rfl) hAl (by kernel_rfl) (by kernel_rfl) (by kernel_rfl) hQ (fun w1 e1 E1 K hK => ?_)
  go_simp
  (go_at_call 23; refine (law_ownR (h.ext E1) (by omega)).mono ?_; rintro e wa ⟨s1, A1, n1, c1, t1, B1, m1, d1, rfl, h1, hx1⟩)
  refine hK.out _ _ hx1 ?_
  clear hK K
  try simp only [Act.put]
  try simp only [List.setIfInBounds_toArray]
  try simp only [List.set_cons_succ]
  try simp only [List.set_cons_zero]
  refine Late.call (i := 3) rfl (by kernel_rfl) hAl (by kernel_rfl) (by kernel_rfl) (by kernel_rfl) hQ (fun w3 e3 E3 K hK => ?_)
  go_simp
  (go_at_call 23; refine (law_ownR (k.ext E3) (by omega)).mono ?_; rintro e wb ⟨s2, A2, n2, c2, t2, B2, m2, d2, rfl, k1, hx3⟩; replace h1 := (h1.ext e3).ext hx3)
  refine hK.out _ _ hx3 ?_
  clear hK K
  try simp only [Act.put]
  try simp only [List.setIfInBounds_toArray]
  try simp only [List.set_cons_succ]
  try simp only [List.set_cons_zero]
  refine Late.finish2 (hAl _ (by simp)) (hAl _ (by simp)) (by decide) (by decide) (by kernel_rfl) (by kernel_rfl) (by kernel_rfl) (fun wz g5 g6 ez Ez lg5 lg6 hne xb1 xb2 => ?_)
  clear hAl hQ ES
  try simp only [Act.put]
  try simp only [List.setIfInBounds_toArray]
  try simp only [List.set_cons_succ]
  try simp only [List.set_cons_zero]
  have e4 := fin_quad (s := s1) (A := A1) (n := n1) (c := c1) (t := t1) (B := B1) (m := m1) (d := d1) xb1
  have f10 := xb1.frozen 0
  have f11 := xb1.frozen 1
  have f12 := xb1.frozen 2
  have f13 := xb1.frozen 3
  have p10 := xb1.cell 0 (Value.bool false) rfl
  have p11 := xb1.cell 1 (Value.slice none 0 0) rfl
  have p12 := xb1.cell 2 (Value.bool false) rfl
  have p13 := xb1.cell 3 (Value.slice none 0 0) rfl
  refine wpAnyH_ready (rs := [6]) (by kernel_rfl) (by simp) (AllReadyH.cons rfl (fun K hK => ?_) AllReadyH.nil)
  go_simp
  refine hK.out _ _ (e4.2.2.1 _ Ez lg5) (fun _ => ?_)
  clear hK K
  try simp only [Act.put]
  try simp only [List.setIfInBounds_toArray]
  try simp only [List.set_cons_succ]
  try simp only [List.set_cons_zero]
  refine any_world (fun U => Ext W1 U ∧ Box U g5 27 #[.bool s1, .slice A1 n1 c1, .bool t1, .slice B1 m1 d1] ∧ Box U g6 27 #[Value.bool false, Value.slice none 0 0, Value.bool false, Value.slice none 0 0] ∧ NR U q 20 s1 A1 n1 c1 t1 B1 m1 d1 ∧ NR U p 20 s2 A2 n2 c2 t2 B2 m2 d2) ⟨e4.2.2.1 _ Ez lg5, e4.1, e4.2.2.2 _ _ _ (Ne.symm hne) xb2, ⟨e4.2.1 _ _ _ _ _ _ (h1.ext ez).num, e4.2.1 _ _ _ _ _ _ (h1.ext ez).den⟩, ⟨e4.2.1 _ _ _ _ _ _ (k1.ext ez).num, e4.2.1 _ _ _ _ _ _ (k1.ext ez).den⟩⟩ ?_
  clear e4 f10 f11 f12 f13 p10 p11 p12 p13 xb1 xb2 h1 k1
  rintro U ⟨EU, xb1, xb2, h1, k1⟩
  have e4 := fin_quad (s := s2) (A := A2) (n := n2) (c := c2) (t := t2) (B := B2) (m := m2) (d := d2) xb2
  have f20 := xb2.frozen 0
  have f21 := xb2.frozen 1
  have f22 := xb2.frozen 2
  have f23 := xb2.frozen 3
  have p20 := xb2.cell 0 (Value.bool false) rfl
  have p21 := xb2.cell 1 (Value.slice none 0 0) rfl
  have p22 := xb2.cell 2 (Value.bool false) rfl
  have p23 := xb2.cell 3 (Value.slice none 0 0) rfl
  refine wpAnyH_ready (rs := [7]) (by kernel_rfl) (by simp) (AllReadyH.cons rfl (fun K hK => ?_) AllReadyH.nil)
  go_simp
  refine hK.out _ _ (e4.2.2.1 _ EU lg6) (fun _ => ?_)
  clear hK K
  try simp only [Act.put]
  try simp only [List.setIfInBounds_toArray]
  try simp only [List.set_cons_succ]
  try simp only [List.set_cons_zero]
  refine any_world (fun X => Ext W1 X ∧ Box X g5 27 #[.bool s1, .slice A1 n1 c1, .bool t1, .slice B1 m1 d1] ∧ Box X g6 27 #[.bool s2, .slice A2 n2 c2, .bool t2, .slice B2 m2 d2] ∧ NR X q 20 s1 A1 n1 c1 t1 B1 m1 d1 ∧ NR X p 20 s2 A2 n2 c2 t2 B2 m2 d2) ⟨e4.2.2.1 _ EU lg6, e4.2.2.2 _ _ _ hne xb1, e4.1, ⟨e4.2.1 _ _ _ _ _ _ h1.num, e4.2.1 _ _ _ _ _ _ h1.den⟩, ⟨e4.2.1 _ _ _ _ _ _ k1.num, e4.2.1 _ _ _ _ _ _ k1.den⟩⟩ ?_
  clear e4 f20 f21 f22 f23 p20 p21 p22 p23 xb1 xb2 h1 k1 EU
  rintro X ⟨EX, xb1, xb2, h1, k1⟩
  refine wpAnyH_done (by kernel_rfl) ?_ _
  replace bx := bx.ext EX
  replace by_ := by_.ext EX
  replace h := h.ext EX
  replace k := k.ext EX
  replace extW := extW.trans EX
  clear EX Ez ez
  have xb10 := xb1.cell 0 (.bool s1) rfl
  have xb11 := xb1.cell 1 (.slice A1 n1 c1) rfl
  have xb12 := xb1.cell 2 (.bool t1) rfl
  have xb13 := xb1.cell 3 (.slice B1 m1 d1) rfl
  have xb20 := xb2.cell 0 (.bool s2) rfl
  have xb21 := xb2.cell 1 (.slice A2 n2 c2) rfl
  have xb22 := xb2.cell 2 (.bool t2) rfl
  have xb23 := xb2.cell 3 (.slice B2 m2 d2) rfl
  go_wp2_with fail
  refine (p_Div_nz h1 k1 (by omega) (by omega) (by omega) (hT.ext extW) Hp.out).mono ?_
  rintro e wd ⟨s3, A3, n3, c3, t3, B3, m3, d3, rfl, r1, hxd⟩
  clear xb10 xb11 xb12 xb13 xb20 xb21 xb22 xb23
  go_upto_region 5 with (fail)
  refine at_world (fun X2 => Ext X X2 ∧ Box X2 wd.heap.size 27 #[.bool s3, .slice A3 n3 c3, .bool t3, .slice B3 m3 d3] ∧ NR X2 (q / p) (20 + 20) s3 A3 n3 c3 t3 B3 m3 d3) ⟨hxd.alloc _, Box.new wd _ _, r1.ext ((Ext.refl wd).alloc _)⟩ ?_
  generalize wd.heap.size = g7
  clear hxd r1
  rintro X2 ⟨EV, xb3, r1⟩
  replace bx := bx.ext EV
  replace by_ := by_.ext EV
  replace xb1 := xb1.ext EV
  replace xb2 := xb2.ext EV
  replace h := h.ext EV
  replace k := k.ext EV
  replace h1 := h1.ext EV
  replace k1 := k1.ext EV
  replace extW := extW.trans EV
  clear EV
  have bx0 := bx.cell 0 (.bool s) rfl
  have bx1 := bx.cell 1 (.slice A n c) rfl
  have bx2 := bx.cell 2 (.bool t) rfl
  have bx3 := bx.cell 3 (.slice B m d) rfl
  have by_0 := by_.cell 0 (.bool s') rfl
  have by_1 := by_.cell 1 (.slice A' n' c') rfl
  have by_2 := by_.cell 2 (.bool t') rfl
  have by_3 := by_.cell 3 (.slice B' m' d') rfl
  go_wp2_with fail
  refine (q_Div_nz h k (by omega) (by omega) Hp.out).mono ?_
  rintro e we ⟨s4, A4, n4, c4, t4, B4, m4, d4, rfl, r2, hxe⟩
  clear bx0 bx1 bx2 bx3 by_0 by_1 by_2 by_3
  go_upto_region 6 with (fail)
  refine at_world (fun V => Ext X2 V ∧ Box V we.heap.size 27 #[.bool s4, .slice A4 n4 c4, .bool t4, .slice B4 m4 d4] ∧ NR V (q / p) (20 + 20) s4 A4 n4 c4 t4 B4 m4 d4) ⟨hxe.alloc _, Box.new we _ _, r2.ext ((Ext.refl we).alloc _)⟩ ?_
  generalize we.heap.size = g9
  clear hxe r2
  rintro V ⟨EV, xb4, r2⟩
  replace bx := bx.ext EV
  replace by_ := by_.ext EV
  replace xb1 := xb1.ext EV
  replace xb2 := xb2.ext EV
  replace xb3 := xb3.ext EV
  replace h := h.ext EV
  replace k := k.ext EV
  replace h1 := h1.ext EV
  replace k1 := k1.ext EV
  replace r1 := r1.ext EV
  replace extW := extW.trans EV
  clear EV
  have xb30 := xb3.cell 0 (.bool s3) rfl
  have xb31 := xb3.cell 1 (.slice A3 n3 c3) rfl
  have xb32 := xb3.cell 2 (.bool t3) rfl
  have xb33 := xb3.cell 3 (.slice B3 m3 d3) rfl
  have xb40 := xb4.cell 0 (.bool s4) rfl
  have xb41 := xb4.cell 1 (.slice A4 n4 c4) rfl
  have xb42 := xb4.cell 2 (.bool t4) rfl
  have xb43 := xb4.cell 3 (.slice B4 m4 d4) rfl
  go_wp2_with fail
  refine (q_Same r1 r2).mono ?_
  rintro e V2 ⟨rfl, hxf⟩
  replace bx := bx.ext hxf
  replace by_ := by_.ext hxf
  replace xb1 := xb1.ext hxf
  replace xb2 := xb2.ext hxf
  replace h := h.ext hxf
  replace k := k.ext hxf
  replace h1 := h1.ext hxf
  replace k1 := k1.ext hxf
  replace extW := extW.trans hxf
  clear hxf r1 r2 xb30 xb31 xb32 xb33 xb40 xb41 xb42 xb43
  go_upto_region 8 with (fail)
  have ES0 := Ext.refl V2
  refine wp_region_held_drew (S := Ext V2) (by kernel_rfl) ES0.drew (fun ES => ?_)
  clear ES0
  refine Late.start0 (fun _ _ _ _ _ => ⟨fun h => h, fun h => h⟩) ES (fun hAl hQ => ?_)
  refine Late.take (i := 0) (d := some 50) (v := ?v0_29) rfl rfl (by kernel_rfl) (by kernel_rfl) (by kernel_rfl) (by kernel_rfl) hQ (Or.inl ⟨by rfl, ?y0_29⟩) ?r0_29
  case y0_29 =>
    intro w' hSw
    have k00 := (xb1.ext hSw).c4
    have k10 := (xb2.ext hSw).c4
    have k20 := (bx.ext hSw).c4
    have k30 := (by_.ext hSw).c4
    go_simp
    try with_reducible rfl
  try simp only [Act.put]
  try simp only [List.setIfInBounds_toArray]
  try simp only [List.set_cons_succ]
  try simp only [List.set_cons_zero]
  refine Late.take (i := 1) (d := some 51) (v := ?v1_30) rfl rfl (by kernel_rfl) (by kernel_rfl) (by kernel_rfl) (by kernel_rfl) hQ (Or.inl ⟨by rfl, ?y1_30⟩) ?r1_30
  case y1_30 =>
    intro w' hSw
    have k00 := (xb1.ext hSw).c4
    have k10 := (xb2.ext hSw).c4
    have k20 := (bx.ext hSw).c4
    have k30 := (by_.ext hSw).c4
    go_simp
    try with_reducible rfl
  try simp only [Act.put]
  try simp only [List.setIfInBounds_toArray]
  try simp only [List.set_cons_succ]
  try simp only [List.set_cons_zero]
  refine Late.take (i := 3) (d := some 53) (v := ?v3_31) rfl rfl (by kernel_rfl) (by kernel_rfl) (by kernel_rfl) (by kernel_rfl) hQ (Or.inl ⟨by rfl, ?y3_31⟩) ?r3_31
  case y3_31 =>
    intro w' hSw
    have k00 := (xb1.ext hSw).c4
    have k10 := (xb2.ext hSw).c4
    have k20 := (bx.ext hSw).c4
    have k30 := (by_.ext hSw).c4
    go_simp
    try with_reducible rfl
  try simp only [Act.put]
  try simp only [List.setIfInBounds_toArray]
  try simp only [List.set_cons_succ]
  try simp only [List.set_cons_zero]
  refine Late.take (i := 4) (d := some 54) (v := ?v4_32) rfl rfl (by kernel_rfl) (by kernel_rfl) (by kernel_rfl) (by kernel_rfl) hQ (Or.inl ⟨by rfl, ?y4_32⟩) ?r4_32
  case y4_32 =>
    intro w' hSw
    have k00 := (xb1.ext hSw).c4
    have k10 := (xb2.ext hSw).c4
    have k20 := (bx.ext hSw).c4
    have k30 := (by_.ext hSw).c4
    go_simp
    try with_reducible rfl
  try simp only [Act.put]
  try simp only [List.setIfInBounds_toArray]
  try simp only [List.set_cons_succ]
  try simp only [List.set_cons_zero]
  refine Late.call (i := 2) rfl (by kernel_rfl) hAl (by kernel_rfl) (by kernel_rfl) (by kernel_rfl) hQ (fun w2 e2 E2 K hK => ?_)
  go_simp
  (go_at_call 28; refine (p_AddR (h1.ext E2) (k1.ext E2) (by omega) (by omega) (by omega) (hT.ext (extW.trans E2))).mono ?_; rintro e wk2 ⟨s1_, A1_, n1_, c1_, t1_, B1_, m1_, d1_, rfl, r1, hx2⟩)
  refine hK.out _ _ hx2 ?_
  clear hK K
  try simp only [Act.put]
  try simp only [List.setIfInBounds_toArray]
  try simp only [List.set_cons_succ]
  try simp only [List.set_cons_zero]
  refine Late.call (i := 5) rfl (by kernel_rfl) hAl (by kernel_rfl) (by kernel_rfl) (by kernel_rfl) hQ (fun w5 e5 E5 K hK => ?_)
  go_simp
  (replace r1 := r1.ext e5; go_at_call 29; refine (q_AddR (h.ext E5) (k.ext E5) (by omega) (by omega)).mono ?_; rintro e wk5 ⟨s2_, A2_, n2_, c2_, t2_, B2_, m2_, d2_, rfl, r2, hx5⟩; replace r1 := r1.ext hx5)
  refine hK.out _ _ hx5 ?_
  clear hK K
  try simp only [Act.put]
  try simp only [List.setIfInBounds_toArray]
  try simp only [List.set_cons_succ]
  try simp only [List.set_cons_zero]
  refine Late.call (i := 6) rfl (by kernel_rfl) hAl (by kernel_rfl) (by kernel_rfl) (by kernel_rfl) hQ (fun w6 e6 E6 K hK => ?_)
  go_simp
  (replace r1 := r1.ext e6; replace r2 := r2.ext e6; go_at_call 16; refine (q_Same r1 r2).mono ?_; rintro e wk6 ⟨rfl, hx6⟩; replace r1 := r1.ext hx6; replace r2 := r2.ext hx6)
  refine hK.out _ _ hx6 ?_
  clear hK K
  try simp only [Act.put]
  try simp only [List.setIfInBounds_toArray]
  try simp only [List.set_cons_succ]
  try simp only [List.set_cons_zero]
  refine Late.take (i := 7) (d := some 57) (v := ?v7_33) rfl rfl (by kernel_rfl) (by kernel_rfl) (by kernel_rfl) (by kernel_rfl) hQ (Or.inl ⟨by rfl, ?y7_33⟩) ?r7_33
  case y7_33 =>
    intro w' hSw
    have k00 := (xb1.ext hSw).c4
    have k10 := (xb2.ext hSw).c4
    have k20 := (bx.ext hSw).c4
    have k30 := (by_.ext hSw).c4
    go_simp
    try with_reducible rfl
  try simp only [Act.put]
  try simp only [List.setIfInBounds_toArray]
  try simp only [List.set_cons_succ]
  try simp only [List.set_cons_zero]
  refine Late.take (i := 8) (d := some 58) (v := ?v8_34) rfl rfl (by kernel_rfl) (by kernel_rfl) (by kernel_rfl) (by kernel_rfl) hQ (Or.inl ⟨by rfl, ?y8_34⟩) ?r8_34
  case y8_34 =>
    intro w' hSw
    have k00 := (xb1.ext hSw).c4
    have k10 := (xb2.ext hSw).c4
    have k20 := (bx.ext hSw).c4
    have k30 := (by_.ext hSw).c4
    go_simp
    try with_reducible rfl
  try simp only [Act.put]
  try simp only [List.setIfInBounds_toArray]
  try simp only [List.set_cons_succ]
  try simp only [List.set_cons_zero]
  refine Late.take (i := 9) (d := some 59) (v := ?v9_35) rfl rfl (by kernel_rfl) (by kernel_rfl) (by kernel_rfl) (by kernel_rfl) hQ (Or.inl ⟨by rfl, ?y9_35⟩) ?r9_35
  case y9_35 =>
    intro w' hSw
    have k00 := (xb1.ext hSw).c4
    have k10 := (xb2.ext hSw).c4
    have k20 := (bx.ext hSw).c4
    have k30 := (by_.ext hSw).c4
    go_simp
    try with_reducible rfl
  try simp only [Act.put]
  try simp only [List.setIfInBounds_toArray]
  try simp only [List.set_cons_succ]
  try simp only [List.set_cons_zero]
  refine Late.take (i := 11) (d := some 61) (v := ?v11_36) rfl rfl (by kernel_rfl) (by kernel_rfl) (by kernel_rfl) (by kernel_rfl) hQ (Or.inl ⟨by rfl, ?y11_36⟩) ?r11_36
  case y11_36 =>
    intro w' hSw
    have k00 := (xb1.ext hSw).c4
    have k10 := (xb2.ext hSw).c4
    have k20 := (bx.ext hSw).c4
    have k30 := (by_.ext hSw).c4
    go_simp
    try with_reducible rfl
  try simp only [Act.put]
  try simp only [List.setIfInBounds_toArray]
  try simp only [List.set_cons_succ]
  try simp only [List.set_cons_zero]
  refine Late.take (i := 12) (d := some 62) (v := ?v12_37) rfl rfl (by kernel_rfl) (by kernel_rfl) (by kernel_rfl) (by kernel_rfl) hQ (Or.inl ⟨by rfl, ?y12_37⟩) ?r12_37
  case y12_37 =>
    intro w' hSw
    have k00 := (xb1.ext hSw).c4
    have k10 := (xb2.ext hSw).c4
    have k20 := (bx.ext hSw).c4
    have k30 := (by_.ext hSw).c4
    go_simp
    try with_reducible rfl
  try simp only [Act.put]
  try simp only [List.setIfInBounds_toArray]
  try simp only [List.set_cons_succ]
  try simp only [List.set_cons_zero]
  refine Late.call (i := 10) rfl (by kernel_rfl) hAl (by kernel_rfl) (by kernel_rfl) (by kernel_rfl) hQ (fun w10 e10 E10 K hK => ?_)
  go_simp
  (replace r1 := r1.ext e10; replace r2 := r2.ext e10; go_at_call 30; refine (p_SubR (h1.ext E10) (k1.ext E10) (by omega) (by omega) (by omega) (hT.ext (extW.trans E10))).mono ?_; rintro e wk10 ⟨s3_, A3_, n3_, c3_, t3_, B3_, m3_, d3_, rfl, r3, hx10⟩; replace r1 := r1.ext hx10; replace r2 := r2.ext hx10)
  refine hK.out _ _ hx10 ?_
  clear hK K
  try simp only [Act.put]
  try simp only [List.setIfInBounds_toArray]
  try simp only [List.set_cons_succ]
  try simp only [List.set_cons_zero]
  refine Late.call (i := 13) rfl (by kernel_rfl) hAl (by kernel_rfl) (by kernel_rfl) (by kernel_rfl) hQ (fun w13 e13 E13 K hK => ?_)
  go_simp
  (replace r1 := r1.ext e13; replace r2 := r2.ext e13; replace r3 := r3.ext e13; go_at_call 31; refine (q_SubR (h.ext E13) (k.ext E13) (by omega) (by omega)).mono ?_; rintro e wk13 ⟨s4_, A4_, n4_, c4_, t4_, B4_, m4_, d4_, rfl, r4, hx13⟩; replace r1 := r1.ext hx13; replace r2 := r2.ext hx13; replace r3 := r3.ext hx13)
  refine hK.out _ _ hx13 ?_
  clear hK K
  try simp only [Act.put]
  try simp only [List.setIfInBounds_toArray]
  try simp only [List.set_cons_succ]
  try simp only [List.set_cons_zero]
  refine Late.call (i := 14) rfl (by kernel_rfl) hAl (by kernel_rfl) (by kernel_rfl) (by kernel_rfl) hQ (fun w14 e14 E14 K hK => ?_)
  go_simp
  (replace r1 := r1.ext e14; replace r2 := r2.ext e14; replace r3 := r3.ext e14; replace r4 := r4.ext e14; go_at_call 16; refine (q_Same r3 r4).mono ?_; rintro e wk14 ⟨rfl, hx14⟩; replace r1 := r1.ext hx14; replace r2 := r2.ext hx14; replace r3 := r3.ext hx14; replace r4 := r4.ext hx14)
  refine hK.out _ _ hx14 ?_
  clear hK K
  try simp only [Act.put]
  try simp only [List.setIfInBounds_toArray]
  try simp only [List.set_cons_succ]
  try simp only [List.set_cons_zero]
  refine Late.take (i := 15) (d := some 65) (v := ?v15_38) rfl rfl (by kernel_rfl) (by kernel_rfl) (by kernel_rfl) (by kernel_rfl) hQ (Or.inl ⟨by rfl, ?y15_38⟩) ?r15_38
  case y15_38 =>
    intro w' hSw
    have k00 := (xb1.ext hSw).c4
    have k10 := (xb2.ext hSw).c4
    have k20 := (bx.ext hSw).c4
    have k30 := (by_.ext hSw).c4
    go_simp
    try with_reducible rfl
  try simp only [Act.put]
  try simp only [List.setIfInBounds_toArray]
  try simp only [List.set_cons_succ]
  try simp only [List.set_cons_zero]
  refine Late.take (i := 16) (d := some 66) (v := ?v16_39) rfl rfl (by kernel_rfl) (by kernel_rfl) (by kernel_rfl) (by kernel_rfl) hQ (Or.inl ⟨by rfl, ?y16_39⟩) ?r16_39
  case y16_39 =>
    intro w' hSw
    have k00 := (xb1.ext hSw).c4
    have k10 := (xb2.ext hSw).c4
    have k20 := (bx.ext hSw).c4
    have k30 := (by_.ext hSw).c4
    go_simp
    try with_reducible rfl
  try simp only [Act.put]
  try simp only [List.setIfInBounds_toArray]
  try simp only [List.set_cons_succ]
  try simp only [List.set_cons_zero]
  refine Late.take (i := 17) (d := some 67) (v := ?v17_40) rfl rfl (by kernel_rfl) (by kernel_rfl) (by kernel_rfl) (by kernel_rfl) hQ (Or.inl ⟨by rfl, ?y17_40⟩) ?r17_40
  case y17_40 =>
    intro w' hSw
    have k00 := (xb1.ext hSw).c4
    have k10 := (xb2.ext hSw).c4
    have k20 := (bx.ext hSw).c4
    have k30 := (by_.ext hSw).c4
    go_simp
    try with_reducible rfl
  try simp only [Act.put]
  try simp only [List.setIfInBounds_toArray]
  try simp only [List.set_cons_succ]
  try simp only [List.set_cons_zero]
  refine Late.take (i := 19) (d := some 69) (v := ?v19_41) rfl rfl (by kernel_rfl) (by kernel_rfl) (by kernel_rfl) (by kernel_rfl) hQ (Or.inl ⟨by rfl, ?y19_41⟩) ?r19_41
  case y19_41 =>
    intro w' hSw
    have k00 := (xb1.ext hSw).c4
    have k10 := (xb2.ext hSw).c4
    have k20 := (bx.ext hSw).c4
    have k30 := (by_.ext hSw).c4
    go_simp
    try with_reducible rfl
  try simp only [Act.put]
  try simp only [List.setIfInBounds_toArray]
  try simp only [List.set_cons_succ]
  try simp only [List.set_cons_zero]
  refine Late.call (i := 18) rfl (by kernel_rfl) hAl (by kernel_rfl) (by kernel_rfl) (by kernel_rfl) hQ (fun w18 e18 E18 K hK => ?_)
  go_simp
  (replace r1 := r1.ext e18; replace r2 := r2.ext e18; replace r3 := r3.ext e18; replace r4 := r4.ext e18; go_at_call 32; refine (p_NegR (h1.ext E18) (by omega)).mono ?_; rintro e wk18 ⟨s5_, A5_, n5_, c5_, t5_, B5_, m5_, d5_, rfl, r5, hx18⟩; replace r1 := r1.ext hx18; replace r2 := r2.ext hx18; replace r3 := r3.ext hx18; replace r4 := r4.ext hx18)
  refine hK.out _ _ hx18 ?_
  clear hK K
  try simp only [Act.put]
  try simp only [List.setIfInBounds_toArray]
  try simp only [List.set_cons_succ]
  try simp only [List.set_cons_zero]
  refine Late.call (i := 20) rfl (by kernel_rfl) hAl (by kernel_rfl) (by kernel_rfl) (by kernel_rfl) hQ (fun w20 e20 E20 K hK => ?_)
  go_simp
  (replace r1 := r1.ext e20; replace r2 := r2.ext e20; replace r3 := r3.ext e20; replace r4 := r4.ext e20; replace r5 := r5.ext e20; go_at_call 33; refine (q_NegR (h.ext E20) (by omega)).mono ?_; rintro e wk20 ⟨s6_, A6_, n6_, c6_, t6_, B6_, m6_, d6_, rfl, r6, hx20⟩; replace r1 := r1.ext hx20; replace r2 := r2.ext hx20; replace r3 := r3.ext hx20; replace r4 := r4.ext hx20; replace r5 := r5.ext hx20)
  refine hK.out _ _ hx20 ?_
  clear hK K
  try simp only [Act.put]
  try simp only [List.setIfInBounds_toArray]
  try simp only [List.set_cons_succ]
  try simp only [List.set_cons_zero]
  refine Late.call (i := 21) rfl (by kernel_rfl) hAl (by kernel_rfl) (by kernel_rfl) (by kernel_rfl) hQ (fun w21 e21 E21 K hK => ?_)
  go_simp
  (replace r1 := r1.ext e21; replace r2 := r2.ext e21; replace r3 := r3.ext e21; replace r4 := r4.ext e21; replace r5 := r5.ext e21; replace r6 := r6.ext e21; go_at_call 16; refine (q_Same r5 r6).mono ?_; rintro e wk21 ⟨rfl, hx21⟩; replace r1 := r1.ext hx21; replace r2 := r2.ext hx21; replace r3 := r3.ext hx21; replace r4 := r4.ext hx21; replace r5 := r5.ext hx21; replace r6 := r6.ext hx21)
  refine hK.out _ _ hx21 ?_
  clear hK K
  try simp only [Act.put]
  try simp only [List.setIfInBounds_toArray]
  try simp only [List.set_cons_succ]
  try simp only [List.set_cons_zero]
  refine Late.take (i := 22) (d := some 72) (v := ?v22_42) rfl rfl (by kernel_rfl) (by kernel_rfl) (by kernel_rfl) (by kernel_rfl) hQ (Or.inl ⟨by rfl, ?y22_42⟩) ?r22_42
  case y22_42 =>
    intro w' hSw
    have k00 := (xb1.ext hSw).c4
    have k10 := (xb2.ext hSw).c4
    have k20 := (bx.ext hSw).c4
    have k30 := (by_.ext hSw).c4
    go_simp
    try with_reducible rfl
  try simp only [Act.put]
  try simp only [List.setIfInBounds_toArray]
  try simp only [List.set_cons_succ]
  try simp only [List.set_cons_zero]
  refine Late.take (i := 23) (d := some 73) (v := ?v23_43) rfl rfl (by kernel_rfl) (by kernel_rfl) (by kernel_rfl) (by kernel_rfl) hQ (Or.inl ⟨by rfl, ?y23_43⟩) ?r23_43
  case y23_43 =>
    intro w' hSw
    have k00 := (xb1.ext hSw).c4
    have k10 := (xb2.ext hSw).c4
    have k20 := (bx.ext hSw).c4
    have k30 := (by_.ext hSw).c4
    go_simp
    try with_reducible rfl
  try simp only [Act.put]
  try simp only [List.setIfInBounds_toArray]
  try simp only [List.set_cons_succ]
  try simp only [List.set_cons_zero]
  refine Late.take (i := 24) (d := some 74) (v := ?v24_44) rfl rfl (by kernel_rfl) (by kernel_rfl) (by kernel_rfl) (by kernel_rfl) hQ (Or.inl ⟨by rfl, ?y24_44⟩) ?r24_44
  case y24_44 =>
    intro w' hSw
    have k00 := (xb1.ext hSw).c4
    have k10 := (xb2.ext hSw).c4
    have k20 := (bx.ext hSw).c4
    have k30 := (by_.ext hSw).c4
    go_simp
    try with_reducible rfl
  try simp only [Act.put]
  try simp only [List.setIfInBounds_toArray]
  try simp only [List.set_cons_succ]
  try simp only [List.set_cons_zero]
  refine Late.take (i := 25) (d := some 75) (v := ?v25_45) rfl rfl (by kernel_rfl) (by kernel_rfl) (by kernel_rfl) (by kernel_rfl) hQ (Or.inl ⟨by rfl, ?y25_45⟩) ?r25_45
  case y25_45 =>
    intro w' hSw
    have k00 := (xb1.ext hSw).c4
    have k10 := (xb2.ext hSw).c4
    have k20 := (bx.ext hSw).c4
    have k30 := (by_.ext hSw).c4
    go_simp
    try with_reducible rfl
  try simp only [Act.put]
  try simp only [List.setIfInBounds_toArray]
  try simp only [List.set_cons_succ]
  try simp only [List.set_cons_zero]
  refine Late.take (i := 27) (d := some 77) (v := ?v27_46) rfl rfl (by kernel_rfl) (by kernel_rfl) (by kernel_rfl) (by kernel_rfl) hQ (Or.inl ⟨by rfl, ?y27_46⟩) ?r27_46
  case y27_46 =>
    intro w' hSw
    have k00 := (xb1.ext hSw).c4
    have k10 := (xb2.ext hSw).c4
    have k20 := (bx.ext hSw).c4
    have k30 := (by_.ext hSw).c4
    go_simp
    try with_reducible rfl
  try simp only [Act.put]
  try simp only [List.setIfInBounds_toArray]
  try simp only [List.set_cons_succ]
  try simp only [List.set_cons_zero]
  refine Late.take (i := 28) (d := some 78) (v := ?v28_47) rfl rfl (by kernel_rfl) (by kernel_rfl) (by kernel_rfl) (by kernel_rfl) hQ (Or.inl ⟨by rfl, ?y28_47⟩) ?r28_47
  case y28_47 =>
    intro w' hSw
    have k00 := (xb1.ext hSw).c4
    have k10 := (xb2.ext hSw).c4
    have k20 := (bx.ext hSw).c4
    have k30 := (by_.ext hSw).c4
    go_simp
    try with_reducible rfl
  try simp only [Act.put]
  try simp only [List.setIfInBounds_toArray]
  try simp only [List.set_cons_succ]
  try simp only [List.set_cons_zero]
  refine Late.call (i := 26) rfl (by kernel_rfl) hAl (by kernel_rfl) (by kernel_rfl) (by kernel_rfl) hQ (fun w26 e26 E26 K hK => ?_)
  go_simp
  (replace r1 := r1.ext e26; replace r2 := r2.ext e26; replace r3 := r3.ext e26; replace r4 := r4.ext e26; replace r5 := r5.ext e26; replace r6 := r6.ext e26; go_at_call 34; refine (p_MulR (h1.ext E26) (k1.ext E26) (by omega) (by omega) (by omega) (hT.ext (extW.trans E26))).mono ?_; rintro e wk26 ⟨s7_, A7_, n7_, c7_, t7_, B7_, m7_, d7_, rfl, r7, hx26⟩; replace r1 := r1.ext hx26; replace r2 := r2.ext hx26; replace r3 := r3.ext hx26; replace r4 := r4.ext hx26; replace r5 := r5.ext hx26; replace r6 := r6.ext hx26)
  refine hK.out _ _ hx26 ?_
  clear hK K
  try simp only [Act.put]
  try simp only [List.setIfInBounds_toArray]
  try simp only [List.set_cons_succ]
  try simp only [List.set_cons_zero]
  refine Late.call (i := 29) rfl (by kernel_rfl) hAl (by kernel_rfl) (by kernel_rfl) (by kernel_rfl) hQ (fun w29 e29 E29 K hK => ?_)
  go_simp
  (replace r1 := r1.ext e29; replace r2 := r2.ext e29; replace r3 := r3.ext e29; replace r4 := r4.ext e29; replace r5 := r5.ext e29; replace r6 := r6.ext e29; replace r7 := r7.ext e29; go_at_call 35; refine (q_MulR (h.ext E29) (k.ext E29) (by omega) (by omega)).mono ?_; rintro e wk29 ⟨s8_, A8_, n8_, c8_, t8_, B8_, m8_, d8_, rfl, r8, hx29⟩; replace r1 := r1.ext hx29; replace r2 := r2.ext hx29; replace r3 := r3.ext hx29; replace r4 := r4.ext hx29; replace r5 := r5.ext hx29; replace r6 := r6.ext hx29; replace r7 := r7.ext hx29)
  refine hK.out _ _ hx29 ?_
  clear hK K
  try simp only [Act.put]
  try simp only [List.setIfInBounds_toArray]
  try simp only [List.set_cons_succ]
  try simp only [List.set_cons_zero]
  refine Late.call (i := 30) rfl (by kernel_rfl) hAl (by kernel_rfl) (by kernel_rfl) (by kernel_rfl) hQ (fun w30 e30 E30 K hK => ?_)
  go_simp
  (replace r1 := r1.ext e30; replace r2 := r2.ext e30; replace r3 := r3.ext e30; replace r4 := r4.ext e30; replace r5 := r5.ext e30; replace r6 := r6.ext e30; replace r7 := r7.ext e30; replace r8 := r8.ext e30; go_at_call 16; refine (q_Same r7 r8).mono ?_; rintro e wk30 ⟨rfl, hx30⟩; replace r1 := r1.ext hx30; replace r2 := r2.ext hx30; replace r3 := r3.ext hx30; replace r4 := r4.ext hx30; replace r5 := r5.ext hx30; replace r6 := r6.ext hx30; replace r7 := r7.ext hx30; replace r8 := r8.ext hx30)
  refine hK.out _ _ hx30 ?_
  clear hK K
  try simp only [Act.put]
  try simp only [List.setIfInBounds_toArray]
  try simp only [List.set_cons_succ]
  try simp only [List.set_cons_zero]
  refine Late.take (i := 31) (d := some 81) (v := ?v31_48) rfl rfl (by kernel_rfl) (by kernel_rfl) (by kernel_rfl) (by kernel_rfl) hQ (Or.inl ⟨by rfl, ?y31_48⟩) ?r31_48
  case y31_48 =>
    intro w' hSw
    have k00 := (xb1.ext hSw).c4
    have k10 := (xb2.ext hSw).c4
    have k20 := (bx.ext hSw).c4
    have k30 := (by_.ext hSw).c4
    go_simp
    try with_reducible rfl
  try simp only [Act.put]
  try simp only [List.setIfInBounds_toArray]
  try simp only [List.set_cons_succ]
  try simp only [List.set_cons_zero]
  refine Late.take (i := 32) (d := some 82) (v := ?v32_49) rfl rfl (by kernel_rfl) (by kernel_rfl) (by kernel_rfl) (by kernel_rfl) hQ (Or.inl ⟨by rfl, ?y32_49⟩) ?r32_49
  case y32_49 =>
    intro w' hSw
    have k00 := (xb1.ext hSw).c4
    have k10 := (xb2.ext hSw).c4
    have k20 := (bx.ext hSw).c4
    have k30 := (by_.ext hSw).c4
    go_simp
    try with_reducible rfl
  try simp only [Act.put]
  try simp only [List.setIfInBounds_toArray]
  try simp only [List.set_cons_succ]
  try simp only [List.set_cons_zero]
  refine Late.take (i := 33) (d := some 83) (v := ?v33_50) rfl rfl (by kernel_rfl) (by kernel_rfl) (by kernel_rfl) (by kernel_rfl) hQ (Or.inl ⟨by rfl, ?y33_50⟩) ?r33_50
  case y33_50 =>
    intro w' hSw
    have k00 := (xb1.ext hSw).c4
    have k10 := (xb2.ext hSw).c4
    have k20 := (bx.ext hSw).c4
    have k30 := (by_.ext hSw).c4
    go_simp
    try with_reducible rfl
  try simp only [Act.put]
  try simp only [List.setIfInBounds_toArray]
  try simp only [List.set_cons_succ]
  try simp only [List.set_cons_zero]
  refine Late.take (i := 34) (d := some 84) (v := ?v34_51) rfl rfl (by kernel_rfl) (by kernel_rfl) (by kernel_rfl) (by kernel_rfl) hQ (Or.inl ⟨by rfl, ?y34_51⟩) ?r34_51
  case y34_51 =>
    intro w' hSw
    have k00 := (xb1.ext hSw).c4
    have k10 := (xb2.ext hSw).c4
    have k20 := (bx.ext hSw).c4
    have k30 := (by_.ext hSw).c4
    go_simp
    try with_reducible rfl
  try simp only [Act.put]
  try simp only [List.setIfInBounds_toArray]
  try simp only [List.set_cons_succ]
  try simp only [List.set_cons_zero]
  refine Late.call (i := 35) rfl (by kernel_rfl) hAl (by kernel_rfl) (by kernel_rfl) (by kernel_rfl) hQ (fun w35 e35 E35 K hK => ?_)
  go_simp
  (replace r1 := r1.ext e35; replace r2 := r2.ext e35; replace r3 := r3.ext e35; replace r4 := r4.ext e35; replace r5 := r5.ext e35; replace r6 := r6.ext e35; replace r7 := r7.ext e35; replace r8 := r8.ext e35; go_at_call 16; refine (q_Same (h1.ext E35) (h.ext E35)).mono ?_; rintro e wk35 ⟨rfl, hx35⟩; replace r1 := r1.ext hx35; replace r2 := r2.ext hx35; replace r3 := r3.ext hx35; replace r4 := r4.ext hx35; replace r5 := r5.ext hx35; replace r6 := r6.ext hx35; replace r7 := r7.ext hx35; replace r8 := r8.ext hx35)
  refine hK.out _ _ hx35 ?_
  clear hK K
  try simp only [Act.put]
  try simp only [List.setIfInBounds_toArray]
  try simp only [List.set_cons_succ]
  try simp only [List.set_cons_zero]
  refine Late.take (i := 36) (d := some 86) (v := ?v36_52) rfl rfl (by kernel_rfl) (by kernel_rfl) (by kernel_rfl) (by kernel_rfl) hQ (Or.inl ⟨by rfl, ?y36_52⟩) ?r36_52
  case y36_52 =>
    intro w' hSw
    have k00 := (xb1.ext hSw).c4
    have k10 := (xb2.ext hSw).c4
    have k20 := (bx.ext hSw).c4
    have k30 := (by_.ext hSw).c4
    go_simp
    try with_reducible rfl
  try simp only [Act.put]
  try simp only [List.setIfInBounds_toArray]
  try simp only [List.set_cons_succ]
  try simp only [List.set_cons_zero]
  refine Late.take (i := 37) (d := some 87) (v := ?v37_53) rfl rfl (by kernel_rfl) (by kernel_rfl) (by kernel_rfl) (by kernel_rfl) hQ (Or.inl ⟨by rfl, ?y37_53⟩) ?r37_53
  case y37_53 =>
    intro w' hSw
    have k00 := (xb1.ext hSw).c4
    have k10 := (xb2.ext hSw).c4
    have k20 := (bx.ext hSw).c4
    have k30 := (by_.ext hSw).c4
    go_simp
    try with_reducible rfl
  try simp only [Act.put]
  try simp only [List.setIfInBounds_toArray]
  try simp only [List.set_cons_succ]
  try simp only [List.set_cons_zero]
  refine Late.take (i := 38) (d := some 88) (v := ?v38_54) rfl rfl (by kernel_rfl) (by kernel_rfl) (by kernel_rfl) (by kernel_rfl) hQ (Or.inl ⟨by rfl, ?y38_54⟩) ?r38_54
  case y38_54 =>
    intro w' hSw
    have k00 := (xb1.ext hSw).c4
    have k10 := (xb2.ext hSw).c4
    have k20 := (bx.ext hSw).c4
    have k30 := (by_.ext hSw).c4
    go_simp
    try with_reducible rfl
  try simp only [Act.put]
  try simp only [List.setIfInBounds_toArray]
  try simp only [List.set_cons_succ]
  try simp only [List.set_cons_zero]
  refine Late.take (i := 39) (d := some 89) (v := ?v39_55) rfl rfl (by kernel_rfl) (by kernel_rfl) (by kernel_rfl) (by kernel_rfl) hQ (Or.inl ⟨by rfl, ?y39_55⟩) ?r39_55
  case y39_55 =>
    intro w' hSw
    have k00 := (xb1.ext hSw).c4
    have k10 := (xb2.ext hSw).c4
    have k20 := (bx.ext hSw).c4
    have k30 := (by_.ext hSw).c4
    go_simp
    try with_reducible rfl
  try simp only [Act.put]
  try simp only [List.setIfInBounds_toArray]
  try simp only [List.set_cons_succ]
  try simp only [List.set_cons_zero]
  refine Late.call (i := 40) rfl (by kernel_rfl) hAl (by kernel_rfl) (by kernel_rfl) (by kernel_rfl) hQ (fun w40 e40 E40 K hK => ?_)
  go_simp
  (replace r1 := r1.ext e40; replace r2 := r2.ext e40; replace r3 := r3.ext e40; replace r4 := r4.ext e40; replace r5 := r5.ext e40; replace r6 := r6.ext e40; replace r7 := r7.ext e40; replace r8 := r8.ext e40; go_at_call 16; refine (q_Same (k1.ext E40) (k.ext E40)).mono ?_; rintro e wk40 ⟨rfl, hx40⟩; replace r1 := r1.ext hx40; replace r2 := r2.ext hx40; replace r3 := r3.ext hx40; replace r4 := r4.ext hx40; replace r5 := r5.ext hx40; replace r6 := r6.ext hx40; replace r7 := r7.ext hx40; replace r8 := r8.ext hx40)
  refine hK.out _ _ hx40 ?_
  clear hK K
  try simp only [Act.put]
  try simp only [List.setIfInBounds_toArray]
  try simp only [List.set_cons_succ]
  try simp only [List.set_cons_zero]
  refine Late.take (i := 41) (d := some 91) (v := ?v41_56) rfl rfl (by kernel_rfl) (by kernel_rfl) (by kernel_rfl) (by kernel_rfl) hQ (Or.inl ⟨by rfl, ?y41_56⟩) ?r41_56
  case y41_56 =>
    intro w' hSw
    have k00 := (xb1.ext hSw).c4
    have k10 := (xb2.ext hSw).c4
    have k20 := (bx.ext hSw).c4
    have k30 := (by_.ext hSw).c4
    go_simp
    try with_reducible rfl
  try simp only [Act.put]
  try simp only [List.setIfInBounds_toArray]
  try simp only [List.set_cons_succ]
  try simp only [List.set_cons_zero]
  refine Late.take (i := 42) (d := some 4) (v := ?v42_57) rfl rfl (by kernel_rfl) (by kernel_rfl) (by kernel_rfl) (by kernel_rfl) hQ (Or.inl ⟨by rfl, ?y42_57⟩) ?r42_57
  case y42_57 =>
    intro w' hSw
    have k00 := (xb1.ext hSw).c4
    have k10 := (xb2.ext hSw).c4
    have k20 := (bx.ext hSw).c4
    have k30 := (by_.ext hSw).c4
    go_simp
    try with_reducible rfl
  try simp only [Act.put]
  try simp only [List.setIfInBounds_toArray]
  try simp only [List.set_cons_succ]
  try simp only [List.set_cons_zero]
  refine Late.done0 (by kernel_rfl) (fun wz ez Ez => ?_)
  clear hAl hQ ES
  go_wp2_with fail
  go_ret
  exact ⟨rfl, extW.trans Ez⟩
set_option maxHeartbeats 2000000 in
theorem arith_no (hA : Awake2) (hT : Tab w) (hP : TabP w) (hr0 : RI w A n c xs ∧ RI w B m d ys) (hr1 : RI w A' n' c' xs' ∧ RI w B' m' d' ys') (hf : (fewB n m s xs t ys && (fewB n' m' s' xs' t' ys')) = false) :
    Calls Tryz.prog 5 #[.agg #[.bool s, .slice A n c, .bool t, .slice B m d], .agg #[.bool s', .slice A' n' c', .bool t', .slice B' m' d']] w fun e w' => e = .returned (.bool true) ∧ Ext w w' := by
  have HF := Lib.hid hf
  clear hf
  have HA := Lib.hid hA
  clear hA
  go_enter Tryz.func5, Tryz.ntmps5
  go_upto_region 1 with (fail)
  obtain ⟨W0, hW, extW, bx, by_, hzz⟩ := box2 w 27 27 #[.bool s, .slice A n c, .bool t, .slice B m d] #[.bool s', .slice A' n' c', .bool t', .slice B' m' d']
  rw [← hW]
  clear hW hzz
  go_wp2_with fail
  refine (HA.out _ (hT.ext extW) (hP.ext extW)).mono ?_
  rintro e W ⟨rfl, hxt⟩
  replace extW := extW.trans hxt
  replace bx := bx.ext hxt
  replace by_ := by_.ext hxt
  clear hxt
  have bx0 := bx.cell 0 (.bool s) rfl
  have bx1 := bx.cell 1 (.slice A n c) rfl
  have bx2 := bx.cell 2 (.bool t) rfl
  have bx3 := bx.cell 3 (.slice B m d) rfl
  have by_0 := by_.cell 0 (.bool s') rfl
  have by_1 := by_.cell 1 (.slice A' n' c') rfl
  have by_2 := by_.cell 2 (.bool t') rfl
  have by_3 := by_.cell 3 (.slice B' m' d') rfl
  have hnb := Box.new W 27 #[.bool s, .slice A n c, .bool t, .slice B m d, .bool s', .slice A' n' c', .bool t', .slice B' m' d']
  have e1 := (Ext.refl W).alloc (.cells #[.bool s, .slice A n c, .bool t, .slice B m d, .bool s', .slice A' n' c', .bool t', .slice B' m' d'] 27)
  go_wp2_with fail
  refine (few2 hnb (hr0.1.ext (extW.trans e1)) (hr0.2.ext (extW.trans e1)) (hr1.1.ext (extW.trans e1)) (hr1.2.ext (extW.trans e1))).mono ?_
  rintro e W1 ⟨rfl, hxt⟩
  rw [HF.out]
  have ES := e1.trans hxt
  clear hnb e1 hxt
  clear bx0 bx1 bx2 bx3 by_0 by_1 by_2 by_3
  go_wp2_with fail
  refine (HA.out _ (hT.ext (extW.trans ES)) (hP.ext (extW.trans ES))).mono ?_
  rintro e W2 ⟨rfl, hxt⟩
  go_wp2_with fail
  go_ret
  exact ⟨rfl, (extW.trans ES).trans hxt⟩
theorem arith_any (hA : Awake2) (hT : Tab w) (hP : TabP w) (hr0 : RI w A n c xs ∧ RI w B m d ys) (hr1 : RI w A' n' c' xs' ∧ RI w B' m' d' ys') :
    Calls Tryz.prog 5 #[.agg #[.bool s, .slice A n c, .bool t, .slice B m d], .agg #[.bool s', .slice A' n' c', .bool t', .slice B' m' d']] w fun e w' => e = .returned (.bool true) ∧ Ext w w' := by
  cases hf : (fewB n m s xs t ys && (fewB n' m' s' xs' t' ys')) with
  | false => exact arith_no hA hT hP hr0 hr1 hf
  | true =>
    simp only [Bool.and_eq_true] at hf
    obtain ⟨f0, f1⟩ := hf
    obtain ⟨q, h⟩ := few_nr hr0.1 hr0.2 f0
    obtain ⟨p, k⟩ := few_nr hr1.1 hr1.2 f1
    exact (Classical.em (p = 0)).elim (fun hp => arith_z hA hT hP h k hp) (fun hp => arith_nz hA hT hP h k hp)
end
end Go.Proofs.YtiioodgpkdbndaaGreatDoor
namespace Go.Proofs.YtiioodgpkdbndaaGreatDoor
open Go.ChangeShapes Go.WideShapes Go.ChangeAt Go.RowKit Go.Joins
theorem Tryz.cellsI : Tryz.prog.cellsOf 24 = 2 := by kernel_rfl
theorem Tryz.cellsW : Tryz.prog.cellsOf 71 = 1 := by kernel_rfl
section
variable {H : Type} {enc : TypeId × Value → H} {W : World} {base : Nat} {held : Bool}
theorem open_words {m : Nat} {v : Value} {y : DataW H × List MemPlace} (h : DataW.trod enc Tryz.prog W base (fun _ => true) held m 22 [v] = some y) :
    ∃ A n c xs, v = .slice A n c ∧ List.length xs = n ∧ Rd W A xs ∧ n ≤ c ∧ c ≤ maxLen := by
  rcases open_ints Tryz.underlying22 Tryz.underlying71 Tryz.cellsW h with ⟨hcs, _⟩ | ⟨a, len, cap, zs, hcs, _, hl, hm, hz, _, hcell, hwf⟩
  · injection hcs with hcs _
    subst hcs
    exact ⟨none, 0, 0, [], rfl, rfl, Rd.nil _ _, Nat.le_refl _, Nat.zero_le _⟩
  · injection hcs with hcs _
    subst hcs
    simp only [if_true] at hz
    have hb : ∀ n ∈ zs, 0 ≤ n ∧ n ≤ 4294967295 := by
      intro n hn
      have := hwf n hn
      simp [Lit.wf, IntKind.min, IntKind.max, IntKind.bits, IntKind.signed] at this
      omega
    refine ⟨some a, len, cap, (zs.take len).map Int.toNat, rfl, by simp; omega, ⟨?_, ?_⟩, hl, hm⟩
    · intro x hx
      obtain ⟨n, hn, rfl⟩ := List.mem_map.1 hx
      have := hb n (List.mem_of_mem_take hn)
      omega
    · intro hne
      have hpos : 0 < zs.length := by
        rcases Nat.eq_zero_or_pos zs.length with h0 | h0
        · exfalso
          apply hne
          have : zs = [] := List.eq_nil_of_length_eq_zero h0
          rw [this]; simp
        · exact h0
      obtain ⟨b, off, spot⟩ := a
      have hc0 := hcell 0 hpos
      have hspot : spot = none := by
        cases spot with
        | none => rfl
        | some q => simp [Addr.add, World.cell?] at hc0; split at hc0 <;> simp at hc0
      subst hspot
      refine ⟨b, off, rfl, cell_lt (p := ⟨b, off, none⟩) (by simpa [Addr.add] using hc0), fun i hi => ?_⟩
      simp only [List.length_map, List.length_take] at hi
      have hc := hcell i (by omega)
      have e1 : (⟨b, off, none⟩ : Addr).add i = ⟨b, off + i, none⟩ := by unfold Addr.add; split <;> simp_all
      rw [e1] at hc
      rw [hc]
      simp only [List.getElem_map, List.getElem_take]
      have hi2 : i < zs.length := by omega
      have e2 : zs.getD i 0 = zs[i] := by simp [List.getD, hi2]
      rw [e2]
      have := hb zs[i] (List.getElem_mem hi2)
      congr 2
      omega
end
end Go.Proofs.YtiioodgpkdbndaaGreatDoor
namespace Go.Proofs.YtiioodgpkdbndaaGreatDoor
open Go.ChangeShapes Go.WideShapes Go.ChangeAt Go.RowKit Go.Joins
theorem cellsR : Tryz.prog.cellsOf 27 = 4 := by kernel_rfl
theorem cellsB : Tryz.prog.cellsOf 4 = 1 := by kernel_rfl
theorem cellsS : Tryz.prog.cellsOf 22 = 1 := by kernel_rfl
section
variable {H : Type} {enc : TypeId × Value → H} {W : World} {base : Nat} {held : Bool}
theorem open_intc {m : Nat} {c0 c1 : Value} {y : DataW H × List MemPlace} (h : DataW.trod enc Tryz.prog W base (fun _ => true) held m 24 [c0, c1] = some y) :
    ∃ s A n c xs, c0 = .bool s ∧ c1 = .slice A n c ∧ RI W A n c xs := by
  obtain ⟨y0, y1, k, _, _, h0, h1⟩ := trod_struct2 Tryz.underlying24 h
  rw [cellsB] at h0
  rw [cellsS] at h1
  simp only [List.drop_zero, List.drop_succ_cons, List.take_succ_cons, List.take_zero] at h0 h1
  obtain ⟨s, e0, _⟩ := DataW.trod_bool Tryz.underlying4 h0
  injection e0 with e0 _
  obtain ⟨A, n, c, xs, rfl, g1, g2, g3, g4⟩ := open_words h1
  exact ⟨s, A, n, c, xs, e0, rfl, g1, g2, g3, g4⟩
set_option maxRecDepth 100000 in
theorem open_rat {r : Reach} {b0 : Nat} {v : Value} {d : DataW H} {p : List MemPlace} (hv : Value.okWide Tryz.prog W r b0 27 v) (h : DataW.Trod enc Tryz.prog W base (fun _ => true) held 27 v d p) :
    ∃ s A n c t B m d xs ys, v = .agg #[.bool s, .slice A n c, .bool t, .slice B m d] ∧ RI W A n c xs ∧ RI W B m d ys := by
  obtain ⟨cs, rfl, hsz⟩ := okWide_struct Tryz.underlying27 hv
  obtain ⟨c0, c1, c2, c3, rfl⟩ := array4 (hsz.trans cellsR)
  obtain ⟨fuel, hf⟩ := h
  obtain ⟨y0, y1, k, _, _, h0, h1⟩ := trod_struct2 Tryz.underlying27 hf
  rw [Tryz.cellsI] at h0 h1
  simp only [Value.cells, List.drop_zero, List.drop_succ_cons, List.take_succ_cons, List.take_zero] at h0 h1
  obtain ⟨s, A, n, c, xs, rfl, rfl, r1⟩ := open_intc h0
  obtain ⟨t, B, m, d, ys, rfl, rfl, r2⟩ := open_intc h1
  exact ⟨s, A, n, c, t, B, m, d, xs, ys, rfl, r1, r2⟩
end
set_option maxRecDepth 100000
end Go.Proofs.YtiioodgpkdbndaaGreatDoor
namespace Go.Proofs.YtiioodgpkdbndaaGreatDoor
open Go.ChangeShapes Go.WideShapes Go.ChangeAt Go.RowKit Go.Joins
set_option maxRecDepth 100000
theorem arith_laid : Rows.rationalArithmeticRow.laid = laidR := by kernel_rfl
theorem arith_lifted (os : Os) (started : os.Started) (H : Type) (enc : TypeId × Value → H) :
    ReturnsInHanded {} Tryz.checked os 5 .any (fun w args => (Rows.rationalArithmeticSpec.pre enc Tryz.prog Tryz.f5 [] false w args ∧ laidMetH Tryz.prog Rows.rationalArithmeticRow.laid w) ∧ sizedMet enc Tryz.prog Tryz.f5 (OpenSpec.ofChange Rows.rationalArithmeticSpec) false w args)
      (Rows.rationalArithmeticSpec.post enc Tryz.prog Tryz.f5 false true false false) := by
  refine returnsInHanded_of_change_and (C := Tryz.checked) (X := fun w _ => laidMetH Tryz.prog Rows.rationalArithmeticRow.laid w) (fun _ _ _ hh h => h.of_heap hh) Tryz.own started (by kernel_rfl) Tryz.func5
    (ChangeSpec.witness_shaped (enc := enc) (C := Tryz.checked) (os := os) (X := fun w _ => laidMetH Tryz.prog Rows.rationalArithmeticRow.laid w) false (World.laidAll Tryz.prog os Rows.rationalArithmeticRow.laid) #[Value.agg #[.bool false, .slice none 0 0, .bool false, .slice none 0 0], Value.agg #[.bool false, .slice none 0 0, .bool false, .slice none 0 0]] 8 (World.laidAll_os _ _ _)
      (World.shaped_of_ZipB (by kernel_rfl) (by kernel_rfl)) (by kernel_rfl) (by kernel_rfl) (by kernel_rfl)
      (by rw [MakeChecks.laidMetH_plain _ _ _ (by kernel_rfl)]; exact laidMet_laidAll _ (by kernel_rfl) (by kernel_rfl))) ?_
  intro W base args ds gs before hval0 hW _ _ hL _
  have hval : ∀ (j : Nat) t v, Tryz.f5.params[j]? = some t → args[j]? = some v → Value.okWide Tryz.prog W .any base t v := hval0
  have hW' := hW
  have hlt : ∀ p ∈ before, p.block < W.heap.size := fun p hp => hW.lt p hp
  obtain ⟨p, q, hA0, hV, rfl, _, _⟩ := hW
  have hA : DataW.TrodAll enc Tryz.prog W 0 (fun _ => true) true Tryz.f5.params.toList args.toList ds p := hA0
  rw [Tryz.params5] at hA hval
  obtain ⟨v0, v1, d0, d1, p0, p1, rfl, rfl, rfl, h0, h1⟩ := trodAll_two hA
  obtain ⟨rfl, rfl⟩ := trodVars_none hV
  simp only [List.append_nil] at hW' hlt
  obtain ⟨s, A, n, c, t, B, m, d, xs, ys, rfl, hr0, hk0⟩ := open_rat (hval 0 27 v0 rfl rfl) h0
  obtain ⟨s', A', n', c', t', B', m', d', xs', ys', rfl, hr1, hk1⟩ := open_rat (hval 1 27 v1 rfl rfl) h1
  clear hA0 hval0
  rw [arith_laid] at hL
  obtain ⟨hT, hP⟩ := tabs_of_laid hL
  refine (arith_any awake2 hT hP ⟨hr0, hk0⟩ ⟨hr1, hk1⟩).mono fun e W' ⟨he, hext⟩ => ?_
  subst he
  have hb : Below W.heap.size W W' := hext
  have g0 := Below.trod Tryz.laidOut (by kernel_rfl) (of_decide_eq_true (by kernel_rfl)) h0 hb (fun p hp => hlt p (List.mem_append.2 (.inl hp)))
  have g1 := Below.trod Tryz.laidOut (by kernel_rfl) (of_decide_eq_true (by kernel_rfl)) h1 hb (fun p hp => hlt p (List.mem_append.2 (.inr hp)))
  exact ⟨_, rfl, _, _, _, [], (p0 ++ p1), [], hW', trodAll_mk1 (shut_bool Tryz.underlying4 true), trodAll_mk2 g0 g1, rfl, Below.frame hb _, fun h => by cases h⟩
theorem arith_row_holds : Rows.RationalArithmeticSaid :=
  OpenClaim.holds_of_wide 5 Tryz.f5 rfl rfl rfl rfl rfl rfl rfl ⟨rfl, rfl, rfl, rfl, rfl⟩ rfl rfl rfl rfl rfl (by kernel_rfl) Tryz.func5 (by kernel_rfl)
    (of_decide_eq_true (by kernel_rfl)) (by unfold Func.isWrapper; first | (rw [if_neg (of_decide_eq_false (by kernel_rfl))]; exact ⟨rfl, rfl⟩) | (rw [if_pos (by decide +kernel)]; kernel_rfl))
    (fun os started H enc _ => arith_lifted os started H enc)
theorem arith_holds : Rows.RationalArithmeticCardSaid :=
  Claim7.holds_tied_plain_at .later [] [.data, .data, .data, .data, .pinned] true Rows.rationalArithmeticCard.stood.harness false
    arith_row_holds (fun _ h => by cases h) (by kernel_rfl) (fun _ h => by cases h) rationalArithmetic_row_tie rfl ⟨rfl, rfl⟩ (by kernel_rfl) rfl
    (fun f fn hf hfn => by
      obtain rfl : f = 5 := Option.some.inj ((show Tryz.prog.funcNamed "setsquare/setsquarelaw02.RationalArithmetic" = some 5 by kernel_rfl).symm.trans hf) |>.symm
      obtain rfl : fn = Tryz.f5 := (Option.some.inj (Tryz.func5.symm.trans hfn)).symm
      exact ⟨by kernel_rfl, fun j t ht => by
        rw [Tryz.params5] at ht
        have hm : t ∈ [27, 27] := by simpa using Array.mem_of_getElem? ht
        have hall : ([27, 27].all fun u => !Tryz.prog.wantsStandIn u) = true := by kernel_rfl
        exact (show Tryz.prog.wantsStandIn t = false by simpa using List.all_eq_true.1 hall t hm)⟩)
    (by kernel_rfl)
end Go.Proofs.YtiioodgpkdbndaaGreatDoor
