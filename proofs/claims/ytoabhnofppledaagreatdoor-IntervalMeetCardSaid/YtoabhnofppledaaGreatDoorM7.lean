/- Walks and laws, a part. -/
import Derived.Test.YtoabhnofppledaaGreatDoorM5
import Derived.Test.YtoabhnofppledaaGreatDoorM6
import Derived.Test.YtoabhnofppledaaGreatDoorM4
namespace Go.Proofs.YtoabhnofppledaaGreatDoor
open Go.RowKit
section
variable {P : Program} {ops : Array Oper} {Q : Exit → Act → World → Prop} {md : Region.Mode} {W0 : World} {z : Nat}
theorem wpL.first2 {i m : Nat} {oi : Oper} {v : Value} (hi : ops[i]? = some oi) (hs : Region.noSelect ops = true) (hiz : i ≠ z) (him : i ≠ m) (hw1 : Waits md ops i m) (hw2 : Waits md ops m z) (hQ : QStill Q) :
    ∀ (f : Nat) (L : Array Bool) (a : Act) (w : World), L.size = ops.size → L.getD z false = false → L.getD m false = false → L.getD m true = false →
      (∀ j oj, ops[j]? = some oj → j ≠ i → L.getD j true = false → (∀ e ∈ oj.after, Region.binds md e = true → e.on ≠ i) → oi.apart ops oj = true) →
      i ∈ Region.ready md ops L → YieldsIf P ops (Ext W0) oi v a → Ext W0 w →
      wpL P md ops Q W0 z f (L.setIfInBounds i true) (a.put oi.dst v) w → wpL P md ops Q W0 z (f + 1) L a w := by
  have hsel := Region.noSelect_spec hs
  intro f
  induction f with
  | zero =>
    intro L a w _ _ _ _ _ hr hy hS H
    refine ⟨(fun h0 => by rw [h0] at hr; cases hr), fun j hj => ?_⟩
    by_cases hji : j = i
    · subst hji; exact hy.wpOp hi hS ⟨.inr hS, H⟩
    · have := ready_mono hj hji
      rw [H.1] at this
      cases this
  | succ f ih =>
    intro L a w hsz hzL hmL hmT hfree hr hy hS H
    refine ⟨(fun h0 => by rw [h0] at hr; cases hr), fun j hj => ?_⟩
    by_cases hji : j = i
    · subst hji; exact hy.wpOp hi hS ⟨.inr hS, H⟩
    · have hiL := (mem_ready.1 hr).1
      have hjz : j ≠ z := fun e => waits_not hw2 hmT hzL hsz (e ▸ hj)
      have hjm : j ≠ m := fun e => waits_not hw1 hiL hmL hsz (e ▸ hj)
      obtain ⟨hjun, oj, hoj, hall⟩ := mem_ready.1 hj
      have hnot : ∀ e ∈ oj.after, Region.binds md e = true → e.on ≠ i := fun e he hb hh => by
        have h1 := hall e he hb
        rw [hh] at h1
        have hlt : i < L.size := by
          rcases Nat.lt_or_ge i L.size with h | h
          · exact h
          · simp [h] at h1
        simp [hlt] at h1 hiL
        rw [h1] at hiL
        cases hiL
      have h1 := H.2 j (ready_mono hj hji)
      have h2 := wpOp_putIf hoj (hfree j oj hoj hji hjun hnot) (fun cs b => hsel i oi cs b hi) (fun cs b => hsel j oj cs b hoj) (fun c a w => (hQ.put c a _ _ w).1) hy h1
      refine wpOp_mono (fun a' w' h3 => ?_) h2
      obtain ⟨hy', hS', H'⟩ := h3
      have hzz : ((L.setIfInBounds i true).setIfInBounds j true).getD z false = false := by
        rw [getD_set_ne false hjz, getD_set_ne false hiz]; exact hzL
      have hE : Ext W0 w' := by
        rcases hS' with h | h
        · rw [hzz] at h; cases h
        · exact h
      refine ⟨.inr hE, ih (L.setIfInBounds j true) a' w' (by simpa using hsz) (by rw [getD_set_ne false hjz]; exact hzL) (by rw [getD_set_ne false hjm]; exact hmL) (by rw [getD_set_ne true hjm]; exact hmT) ?_ (ready_mono hr (Ne.symm hji)) hy' hE ?_⟩
      · intro k ok hk hki hun hno
        refine hfree k ok hk hki ?_ hno
        by_cases hjk : j = k
        · subst hjk; exact hjun
        · rwa [getD_set_ne true hjk] at hun
      · rw [Array.setIfInBounds_comm _ _ hji]
        exact H'
theorem wpL.take2 {f i : Nat} {oi : Oper} {d : Option Tmp} {v : Value} {L : Array Bool} {a : Act} {w : World} (m : Nat) (hi : ops[i]? = some oi) (hd : oi.dst = d) (hs : Region.noSelect ops = true) (hf : Region.free md ops L i = true)
    (hr : (Region.ready md ops L).contains i = true) (hz : (i != z && i != m && waitsB md ops i m && waitsB md ops m z && !L.getD z false && !L.getD m false && !L.getD m true && L.size == ops.size) = true) (hQ : QStill Q) (hy : YieldsIf P ops (Ext W0) oi v a) (hS : Ext W0 w)
    (h : wpL P md ops Q W0 z f (L.setIfInBounds i true) (a.put d v) w) : wpL P md ops Q W0 z (f + 1) L a w := by
  subst hd
  simp only [Bool.and_eq_true, bne_iff_ne, Bool.not_eq_true', beq_iff_eq] at hz
  obtain ⟨⟨⟨⟨⟨⟨⟨h1, h2⟩, h3⟩, h4⟩, h5⟩, h6⟩, h7⟩, h8⟩ := hz
  exact wpL.first2 hi hs h1 h2 (waitsB_spec h3) (waitsB_spec h4) hQ f L a w h8 h5 h6 h7 (fun j oj hj hne hun hno => Region.free_spec hi hf j oj hj hne hun hno) (by simpa using hr) hy hS h
end
end Go.Proofs.YtoabhnofppledaaGreatDoor
namespace Go.Proofs.YtoabhnofppledaaGreatDoor
open Go.RowKit
attribute [local go_sem ↓] Go.wp_at_zero Go.wp_at_succ
section
variable {w w' : World} {z y : Int} {q p : Rat} {L M : Nat} {s t s' t' : Bool} {A B A' B' : Option Addr} {n c m d n' c' m' d' : Nat}
theorem at_exit {F : Exit → Act → World → Prop} {e : Exit} {a : Act} {w : World} (C : World → Prop) (h : C w) (k : ∀ W, C W → F e a W) : F e a w := k w h
theorem NR.inv (h : NR w p M s A n c t B m d) (hp : 0 < p.num) : NR w p⁻¹ M t B m d s A n c := by
  refine ⟨?_, ?_⟩
  · rw [Rat.num_inv, Int.sign_eq_one_of_pos hp, Int.one_mul]; exact h.den
  · rw [Rat.den_inv, if_neg (by omega)]
    have : ((p.num.natAbs : Nat) : Int) = p.num := Int.natAbs_of_nonneg (by omega)
    rw [this]; exact h.num
theorem rat_neg_div (q p : Rat) (hp : p ≠ 0) : -q * (-p)⁻¹ = q / p := by
  have h1 : (-p)⁻¹ = -(p⁻¹) := by
    refine Rat.inv_eq_of_mul_eq_one ?_
    rw [Rat.neg_mul, Rat.mul_neg, Rat.neg_neg, Rat.mul_inv_cancel _ hp]
  rw [h1, Rat.neg_mul, Rat.mul_neg, Rat.neg_neg, Rat.div_def]
def RetNRE (q : Rat) (L : Nat) (w : World) (e : Ending) (w' : World) : Prop :=
  ∃ s A n c t B m d, e = .returned (.tuple #[.agg #[.bool s, .slice A n c, .bool t, .slice B m d], .int .i64 0]) ∧ NR w' q L s A n c t B m d ∧ Ext w w'
set_option maxHeartbeats 4000000 in
theorem p_Div_pos (h : NR w q L s A n c t B m d) (k : NR w p M s' A' n' c' t' B' m' d') (hL : L ≤ 1000) (hM : M ≤ 1000) (h64 : min L M < 64) (hT : Tab w) (hp : 0 < p.num) : Calls Tryz.prog 105 #[.agg #[.bool s, .slice A n c, .bool t, .slice B m d], .agg #[.bool s', .slice A' n' c', .bool t', .slice B' m' d']] w (RetNRE (q / p) (L + M) w) := by
  have hs : p.num.sign = 1 := Int.sign_eq_one_of_pos hp
  go_enter Tryz.func105, Tryz.ntmps105
  go_upto_region 1 with (fail)
  obtain ⟨W, hW, extW, bx, by_, bz, hz⟩ := box3 w 26 26 26 #[.bool s, .slice A n c, .bool t, .slice B m d] #[.bool s', .slice A' n' c', .bool t', .slice B' m' d'] #[Value.bool false, Value.slice none 0 0, Value.bool false, Value.slice none 0 0]
  rw [← hW]
  clear hW
  replace h := h.ext extW
  replace k := k.ext extW
  have y0 := by_.cell 0 (.bool s') rfl
  have y1 := by_.cell 1 (.slice A' n' c') rfl
  have y2 := by_.cell 2 (.bool t') rfl
  have y3 := by_.cell 3 (.slice B' m' d') rfl
  go_wp2_with fail
  refine (p_SignR k (by omega)).mono ?_
  rintro e V ⟨rfl, hxa⟩
  rw [hs]
  replace bx := bx.ext hxa
  replace by_ := by_.ext hxa
  replace bz := bz.ext hxa
  replace h := h.ext hxa
  replace k := k.ext hxa
  replace extW := extW.trans hxa
  clear hxa y0 y1 y2 y3
  have x0 := bx.cell 0 (.bool s) rfl
  have x1 := bx.cell 1 (.slice A n c) rfl
  have x2 := bx.cell 2 (.bool t) rfl
  have x3 := bx.cell 3 (.slice B m d) rfl
  have y0 := by_.cell 0 (.bool s') rfl
  have y1 := by_.cell 1 (.slice A' n' c') rfl
  have y2 := by_.cell 2 (.bool t') rfl
  have y3 := by_.cell 3 (.slice B' m' d') rfl
  go_wp2_with fail
  refine (p_MulR h (k.inv (by exact hp)) (by omega) (by omega) h64 (hT.ext extW)).mono ?_
  rintro e wm ⟨s9, A9, n9, c9, t9, B9, m9, d9, rfl, hr, hxm⟩
  have z0 := (bz.ext hxm).cell 0 _ rfl
  have z1 := (bz.ext hxm).cell 1 _ rfl
  have z2 := (bz.ext hxm).cell 2 _ rfl
  have z3 := (bz.ext hxm).cell 3 _ rfl
  have f0 := (bz.ext hxm).frozen 0
  have f1 := (bz.ext hxm).frozen 1
  have f2 := (bz.ext hxm).frozen 2
  have f3 := (bz.ext hxm).frozen 3
  go_wp2_with fail
  rw [← Rat.div_def] at hr
  obtain ⟨b1, b2, b3, b4⟩ := fin_quad (s := s9) (A := A9) (n := n9) (c := c9) (t := t9) (B := B9) (m := m9) (d := d9) (bz.ext hxm)
  have r0 := b1.cell 0 (.bool s9) rfl
  have r1 := b1.cell 1 (.slice A9 n9 c9) rfl
  have r2 := b1.cell 2 (.bool t9) rfl
  have r3 := b1.cell 3 (.slice B9 m9 d9) rfl
  unfold set4 at r0 r1 r2 r3
  refine bodyPost_ret (v := .tuple #[.agg #[.bool s9, .slice A9 n9 c9, .bool t9, .slice B9 m9 d9], .int .i64 0]) (by simp [results, Tryz.results105, go_sem, r0, r1, r2, r3]) rfl ⟨s9, A9, n9, c9, t9, B9, m9, d9, rfl, ⟨b2 _ _ _ _ _ _ hr.num, b2 _ _ _ _ _ _ hr.den⟩, b3 _ (extW.trans hxm) (by omega)⟩
set_option maxHeartbeats 8000000 in
theorem p_Div_neg (h : NR w q L s A n c t B m d) (k : NR w p M s' A' n' c' t' B' m' d') (hL : L ≤ 1000) (hM : M ≤ 1000) (h64 : min L M < 64) (hT : Tab w) (hp : p.num < 0) : Calls Tryz.prog 105 #[.agg #[.bool s, .slice A n c, .bool t, .slice B m d], .agg #[.bool s', .slice A' n' c', .bool t', .slice B' m' d']] w (RetNRE (q / p) (L + M) w) := by
  have hs : p.num.sign = -1 := Int.sign_eq_neg_one_of_neg hp
  have hp0 : p ≠ 0 := by rintro rfl; simp at hp
  go_enter Tryz.func105, Tryz.ntmps105
  go_upto_region 1 with (fail)
  obtain ⟨W, hW, extW, bx, by_, bz, hz⟩ := box3 w 26 26 26 #[.bool s, .slice A n c, .bool t, .slice B m d] #[.bool s', .slice A' n' c', .bool t', .slice B' m' d'] #[Value.bool false, Value.slice none 0 0, Value.bool false, Value.slice none 0 0]
  rw [← hW]
  clear hW
  replace h := h.ext extW
  replace k := k.ext extW
  have y0 := by_.cell 0 (.bool s') rfl
  have y1 := by_.cell 1 (.slice A' n' c') rfl
  have y2 := by_.cell 2 (.bool t') rfl
  have y3 := by_.cell 3 (.slice B' m' d') rfl
  go_wp2_with fail
  refine (p_SignR k (by omega)).mono ?_
  rintro e V ⟨rfl, hxa⟩
  rw [hs]
  replace bx := bx.ext hxa
  replace by_ := by_.ext hxa
  replace bz := bz.ext hxa
  replace h := h.ext hxa
  replace k := k.ext hxa
  replace extW := extW.trans hxa
  clear hxa y0 y1 y2 y3
  go_upto_region 5 with (fail)
  refine wpL.start 4 (by kernel_rfl) (fun _ _ _ _ _ => ⟨fun h => h, fun h => h⟩) (fun hQ ES => ?_)
  refine wpL.take (i := 0) (d := some 13) (v := ?v0_52) rfl rfl (by kernel_rfl) (by kernel_rfl) (by kernel_rfl) (by kernel_rfl) hQ (Or.inl ⟨by rfl, ?y0_52⟩) ES ?r0_52
  case y0_52 =>
    intro w' hSw
    have k00 := (bx.ext hSw).c4
    have k10 := (by_.ext hSw).c4
    go_simp
    try with_reducible rfl
  try simp only [Act.put]
  try simp only [List.setIfInBounds_toArray]
  try simp only [List.set_cons_succ]
  try simp only [List.set_cons_zero]
  refine wpL.take2 3 (i := 2) (d := some 15) (v := ?v2_53) rfl rfl (by kernel_rfl) (by kernel_rfl) (by kernel_rfl) (by kernel_rfl) hQ (Or.inl ⟨by rfl, ?y2_53⟩) ES ?r2_53
  case y2_53 =>
    intro w' hSw
    have k00 := (bx.ext hSw).c4
    have k10 := (by_.ext hSw).c4
    go_simp
    try with_reducible rfl
  try simp only [Act.put]
  try simp only [List.setIfInBounds_toArray]
  try simp only [List.set_cons_succ]
  try simp only [List.set_cons_zero]
  refine wpL.call (i := 1) rfl (by kernel_rfl) (fun K hK => ?_)
  go_simp
  (go_at_call 103; refine (p_NegR (h.ext ES) (by omega)).mono ?_; rintro e wk1 ⟨s1, A1, n1, c1, t1, B1, m1, d1, rfl, h1, hx0⟩; have E0_5 := Ext.trans ES hx0)
  refine hK.out _ _ E0_5 ?_
  clear hK K
  try simp only [Act.put]
  try simp only [List.setIfInBounds_toArray]
  try simp only [List.set_cons_succ]
  try simp only [List.set_cons_zero]
  refine wpL.call (i := 3) rfl (by kernel_rfl) (fun K hK => ?_)
  go_simp
  (go_at_call 103; refine (p_NegR (k.ext E0_5) (by omega)).mono ?_; rintro e wk2 ⟨s2, A2, n2, c2, t2, B2, m2, d2, rfl, h2, hx1⟩; have E1_5 := Ext.trans E0_5 hx1)
  refine hK.out _ _ E1_5 ?_
  clear hK K
  try simp only [Act.put]
  try simp only [List.setIfInBounds_toArray]
  try simp only [List.set_cons_succ]
  try simp only [List.set_cons_zero]
  have z0 := (bx.ext E1_5).cell 0 _ rfl
  have z1 := (bx.ext E1_5).cell 1 _ rfl
  have z2 := (bx.ext E1_5).cell 2 _ rfl
  have z3 := (bx.ext E1_5).cell 3 _ rfl
  have f0 := (bx.ext E1_5).frozen 0
  have f1 := (bx.ext E1_5).frozen 1
  have f2 := (bx.ext E1_5).frozen 2
  have f3 := (bx.ext E1_5).frozen 3
  have u0 := (by_.ext E1_5).cell 0 _ rfl
  have u1 := (by_.ext E1_5).cell 1 _ rfl
  have u2 := (by_.ext E1_5).cell 2 _ rfl
  have u3 := (by_.ext E1_5).cell 3 _ rfl
  have v0 := (by_.ext E1_5).frozen 0
  have v1 := (by_.ext E1_5).frozen 1
  have v2 := (by_.ext E1_5).frozen 2
  have v3 := (by_.ext E1_5).frozen 3
  refine wpL.tail (i := 4) rfl (by kernel_rfl) (by kernel_rfl) (fun K hK => ?_)
  go_simp
  refine hK.out _ _ ?_
  clear hK K
  try simp only [Act.put]
  try simp only [List.setIfInBounds_toArray]
  try simp only [List.set_cons_succ]
  try simp only [List.set_cons_zero]
  refine wpL.tail (i := 5) rfl (by kernel_rfl) (by kernel_rfl) (fun K hK => ?_)
  go_simp
  refine hK.out _ _ ?_
  clear hK K
  try simp only [Act.put]
  try simp only [List.setIfInBounds_toArray]
  try simp only [List.set_cons_succ]
  try simp only [List.set_cons_zero]
  refine wpL.done (by kernel_rfl) ?_ _
  clear hQ
  refine at_exit (fun U => Ext w U ∧ Box U w.heap.size 26 #[.bool s1, .slice A1 n1 c1, .bool t1, .slice B1 m1 d1] ∧ Box U (w.heap.size + 1) 26 #[.bool s2, .slice A2 n2 c2, .bool t2, .slice B2 m2 d2] ∧ Box U (w.heap.size + 1 + 1) 26 #[Value.bool false, Value.slice none 0 0, Value.bool false, Value.slice none 0 0] ∧ NR U (-q) L s1 A1 n1 c1 t1 B1 m1 d1 ∧ NR U (-p) M s2 A2 n2 c2 t2 B2 m2 d2) ?_ ?_
  · have q1 := fin_quad (s := s1) (A := A1) (n := n1) (c := c1) (t := t1) (B := B1) (m := m1) (d := d1) (bx.ext E1_5)
    have q2 := fin_quad (s := s2) (A := A2) (n := n2) (c := c2) (t := t2) (B := B2) (m := m2) (d := d2) (q1.2.2.2 _ _ _ (by omega) (by_.ext E1_5))
    have hn1 : NR wk2 (-q) L s1 A1 n1 c1 t1 B1 m1 d1 := h1.ext hx1
    exact ⟨q2.2.2.1 _ (q1.2.2.1 _ (extW.trans E1_5) (by omega)) (by omega), q2.2.2.2 _ _ _ (by omega) q1.1, q2.1, q2.2.2.2 _ _ _ (by omega) (q1.2.2.2 _ _ _ (by omega) (bz.ext E1_5)), ⟨q2.2.1 _ _ _ _ _ _ (q1.2.1 _ _ _ _ _ _ hn1.num), q2.2.1 _ _ _ _ _ _ (q1.2.1 _ _ _ _ _ _ hn1.den)⟩, ⟨q2.2.1 _ _ _ _ _ _ (q1.2.1 _ _ _ _ _ _ h2.num), q2.2.1 _ _ _ _ _ _ (q1.2.1 _ _ _ _ _ _ h2.den)⟩⟩
  clear extW bx by_ bz h k
  rintro U ⟨extW, bx, by_, bz, h, k⟩
  have x0 := bx.cell 0 (.bool s1) rfl
  have x1 := bx.cell 1 (.slice A1 n1 c1) rfl
  have x2 := bx.cell 2 (.bool t1) rfl
  have x3 := bx.cell 3 (.slice B1 m1 d1) rfl
  have y0 := by_.cell 0 (.bool s2) rfl
  have y1 := by_.cell 1 (.slice A2 n2 c2) rfl
  have y2 := by_.cell 2 (.bool t2) rfl
  have y3 := by_.cell 3 (.slice B2 m2 d2) rfl
  go_wp2_with fail
  refine (p_MulR h (k.inv (by rw [Rat.neg_num]; omega)) (by omega) (by omega) h64 (hT.ext extW)).mono ?_
  rintro e wm ⟨s9, A9, n9, c9, t9, B9, m9, d9, rfl, hr, hxm⟩
  have z0 := (bz.ext hxm).cell 0 _ rfl
  have z1 := (bz.ext hxm).cell 1 _ rfl
  have z2 := (bz.ext hxm).cell 2 _ rfl
  have z3 := (bz.ext hxm).cell 3 _ rfl
  have f0 := (bz.ext hxm).frozen 0
  have f1 := (bz.ext hxm).frozen 1
  have f2 := (bz.ext hxm).frozen 2
  have f3 := (bz.ext hxm).frozen 3
  go_wp2_with fail
  rw [rat_neg_div q p hp0] at hr
  obtain ⟨b1, b2, b3, b4⟩ := fin_quad (s := s9) (A := A9) (n := n9) (c := c9) (t := t9) (B := B9) (m := m9) (d := d9) (bz.ext hxm)
  have r0 := b1.cell 0 (.bool s9) rfl
  have r1 := b1.cell 1 (.slice A9 n9 c9) rfl
  have r2 := b1.cell 2 (.bool t9) rfl
  have r3 := b1.cell 3 (.slice B9 m9 d9) rfl
  unfold set4 at r0 r1 r2 r3
  refine bodyPost_ret (v := .tuple #[.agg #[.bool s9, .slice A9 n9 c9, .bool t9, .slice B9 m9 d9], .int .i64 0]) (by simp [results, Tryz.results105, go_sem, r0, r1, r2, r3]) rfl ⟨s9, A9, n9, c9, t9, B9, m9, d9, rfl, ⟨b2 _ _ _ _ _ _ hr.num, b2 _ _ _ _ _ _ hr.den⟩, b3 _ (extW.trans hxm) (by omega)⟩
end
end Go.Proofs.YtoabhnofppledaaGreatDoor
namespace Go.Proofs.YtoabhnofppledaaGreatDoor
open Go.RowKit
attribute [local go_sem ↓] Go.wp_at_zero Go.wp_at_succ
section
variable {w w' : World} {z y : Int} {q p : Rat} {L M : Nat} {s t s' t' : Bool} {A B A' B' : Option Addr} {n c m d n' c' m' d' : Nat}
set_option maxHeartbeats 1000000 in
theorem q_one (h : NI w z L s A n c) : Calls Tryz.prog 83 #[.agg #[.bool s, .slice A n c]] w fun e w' => e = .returned (.bool (decide (z = 1))) ∧ Ext w w' := by
  have h1 := h.one_iff
  by_cases hn : n = 1
  · subst hn
    obtain ⟨xs, hl, hx, _⟩ := h.out
    obtain ⟨b, off, rfl, hb, hc⟩ := hx.at_ (i := 0) (by omega)
    simp only [Nat.add_zero] at hc
    cases s with
    | true =>
      have hd : decide (z = 1) = false := decide_eq_false fun hz => by have := (h1.1 hz).1; cases this
      rw [hd]
      generalize (xs[0]'(by omega) : Nat) = k at hc
      have hc2 := ((Ext.refl w).alloc (.cells #[.bool true, .slice (some ⟨b, off, none⟩) 1 c] 24)).cellv hc
      clear h1 h hx hl
      by_cases hk : (k : Int) = 1
      · have hb1 : ((k : Int) == 1) = true := beq_iff_eq.2 hk
        go_enter Tryz.func83, Tryz.ntmps83
        go_wp2
        all_goals (go_ret; exact ⟨rfl, (Ext.refl w).alloc _⟩)
      · have hb1 : ((k : Int) == 1) = false := beq_eq_false_iff_ne.2 hk
        go_enter Tryz.func83, Tryz.ntmps83
        go_wp2
        all_goals (go_ret; exact ⟨rfl, (Ext.refl w).alloc _⟩)
    | false =>
      have hv : (decide (z = 1)) = (((xs[0]'(by omega) : Nat) : Int) == 1) := by
        by_cases hz : z = 1
        · obtain ⟨_, _, b', off', hA, hc'⟩ := h1.1 hz
          injection hA with hA
          injection hA with e1 e2
          subst e1; subst e2
          rw [hc] at hc'
          injection hc' with hc'
          injection hc' with _ hc'
          rw [hc']
          simp [hz]
        · have : ¬ ((xs[0]'(by omega) : Nat) : Int) = 1 := fun h2 => hz (h1.2 ⟨rfl, rfl, b, off, rfl, by rw [hc, h2]⟩)
          rw [decide_eq_false hz]
          exact (beq_eq_false_iff_ne.2 this).symm
      rw [hv]
      generalize (xs[0]'(by omega) : Nat) = k at hc
      have hc2 := ((Ext.refl w).alloc (.cells #[.bool false, .slice (some ⟨b, off, none⟩) 1 c] 24)).cellv hc
      clear h1 h hv hx hl
      by_cases hk : (k : Int) = 1
      · have hb1 : ((k : Int) == 1) = true := beq_iff_eq.2 hk
        rw [hb1]
        go_enter Tryz.func83, Tryz.ntmps83
        go_wp2
        all_goals (go_ret; exact ⟨rfl, (Ext.refl w).alloc _⟩)
      · have hb1 : ((k : Int) == 1) = false := beq_eq_false_iff_ne.2 hk
        rw [hb1]
        go_enter Tryz.func83, Tryz.ntmps83
        go_wp2
        all_goals (go_ret; exact ⟨rfl, (Ext.refl w).alloc _⟩)
  · have hd : decide (z = 1) = false := decide_eq_false fun hz => hn (h1.1 hz).2.1
    have hn2 : ((n : Int) == 1) = false := by rw [beq_eq_false_iff_ne]; omega
    rw [hd]
    go_enter Tryz.func83, Tryz.ntmps83
    go_wp2
    all_goals (go_ret; exact ⟨rfl, (Ext.refl w).alloc _⟩)
set_option maxHeartbeats 1000000 in
theorem q_quo_dm (h : NI w z L s A n c) (k : NI w y M t B m d) (hL : L ≤ 9000) (hM : M ≤ 9000) (h0 : y ≠ 0) : Calls Tryz.prog 85 #[.agg #[.bool s, .slice A n c], .agg #[.bool t, .slice B m d]] w fun e w' => ∃ q r : Int, IsDM z y q r ∧ RetNI q 60000 w e w' := by
  go_enter Tryz.func85, Tryz.ntmps85
  go_upto_region 1 with (fail)
  obtain ⟨W, hW, extW, bx, by_, bz, hz⟩ := box3 w 24 24 24 #[.bool s, .slice A n c] #[.bool t, .slice B m d] #[Value.bool false, Value.slice none 0 0]
  rw [← hW]
  clear hW
  have x0 := bx.cell 0 (.bool s) rfl
  have x1 := bx.cell 1 (.slice A n c) rfl
  have y2 := by_.cell 0 (.bool t) rfl
  have y3 := by_.cell 1 (.slice B m d) rfl
  go_wp2_with fail
  refine (q_DivMod (h.ext extW) (k.ext extW) (by omega) (by omega) h0).mono ?_
  rintro e wb ⟨s1, A1, n1, c1, s2, A2, n2, c2, q, r, rfl, hq, hr, hdm, hx1⟩
  clear x0 x1 y2 y3
  go_upto_region 2 with (fail)
  refine at_world (fun V => Ext W V ∧ Box V wb.heap.size 24 #[.bool s1, .slice A1 n1 c1] ∧ NI V q 60000 s1 A1 n1 c1) ?_ ?_
  · obtain ⟨e1, e2, e3⟩ := two_new wb 24 #[.bool s1, .slice A1 n1 c1] #[.bool s2, .slice A2 n2 c2]
    exact ⟨hx1.trans e1, e2, hq.ext e1⟩
  generalize wb.heap.size = g5
  rintro V ⟨EV, b5, hqV⟩
  have x0 := b5.cell 0 _ rfl
  have x1 := b5.cell 1 _ rfl
  have z0 := (bz.ext EV).cell 0 _ rfl
  have z1 := (bz.ext EV).cell 1 _ rfl
  have f0 := (bz.ext EV).frozen 0
  have f1 := (bz.ext EV).frozen 1
  go_wp2_with fail
  obtain ⟨b1, b2, b3, b4⟩ := fin_dual (s := s1) (A := A1) (n := n1) (c := c1) (bz.ext EV)
  have r0 := b1.cell 0 (.bool s1) rfl
  have r1 := b1.cell 1 (.slice A1 n1 c1) rfl
  unfold set2 at r0 r1
  refine bodyPost_ret (v := .agg #[.bool s1, .slice A1 n1 c1]) (by simp [results, Tryz.results85, go_sem, r0, r1]) rfl ⟨q, r, hdm, s1, A1, n1, c1, rfl, ?_, b3 _ (extW.trans EV) (by omega)⟩
  exact b2 _ _ _ _ _ _ hqV
theorem q_quo (h : NI w z L s A n c) (k : NI w y M t B m d) (hL : L ≤ 9000) (hM : M ≤ 9000) (h0 : y ≠ 0) (hd : y ∣ z) : Calls Tryz.prog 85 #[.agg #[.bool s, .slice A n c], .agg #[.bool t, .slice B m d]] w (RetNI (z / y) L w) := by
  refine (q_quo_dm h k hL hM h0).mono ?_
  rintro e w' ⟨q, r, hdm, s1, A1, n1, c1, rfl, hq, hx⟩
  obtain ⟨_, hqe, hql⟩ := (dm_q_le hdm h0).2.2 hd
  rw [hqe] at hq hql
  exact ⟨s1, A1, n1, c1, rfl, hq.tight (h.ext hx) (by simpa using hql), hx⟩
end
end Go.Proofs.YtoabhnofppledaaGreatDoor
namespace Go.Proofs.YtoabhnofppledaaGreatDoor
open Go.RowKit
attribute [local go_sem ↓] Go.wp_at_zero Go.wp_at_succ
section
variable {w w' : World} {z y : Int} {q p : Rat} {L M : Nat} {s t s' t' : Bool} {A B A' B' : Option Addr} {n c m d n' c' m' d' : Nat}
set_option maxHeartbeats 1000000 in
theorem q_FromIntR (k : Int) (h0 : -9223372036854775808 ≤ k) (h1 : k < 9223372036854775808) : Calls Tryz.prog 48 #[.int .i64 k] w (RetNR (k : Rat) 2 w) := by
  go_enter Tryz.func48, Tryz.ntmps48
  go_upto_region 1 with (fail)
  obtain ⟨W, hW, extW, bz, hz⟩ := box1 w 26 #[Value.bool false, Value.slice none 0 0, Value.bool false, Value.slice none 0 0]
  rw [← hW]
  clear hW
  go_wp2_with fail
  refine (q_FromInt k h0 h1).mono ?_
  rintro e wa ⟨s1, A1, n1, c1, rfl, hk, hx0⟩
  go_wp2_with fail
  refine (q_FromInt 1 (by omega) (by omega)).mono ?_
  rintro e wb ⟨s2, A2, n2, c2, rfl, hr, hx1⟩
  have hE := hx0.trans hx1
  have z0 := (bz.ext hE).cell 0 _ rfl
  have z1 := (bz.ext hE).cell 1 _ rfl
  have z2 := (bz.ext hE).cell 2 _ rfl
  have z3 := (bz.ext hE).cell 3 _ rfl
  have f0 := (bz.ext hE).frozen 0
  have f1 := (bz.ext hE).frozen 1
  have f2 := (bz.ext hE).frozen 2
  have f3 := (bz.ext hE).frozen 3
  go_wp2_with fail
  obtain ⟨b1, b2, b3, b4⟩ := fin_quad (s := s1) (A := A1) (n := n1) (c := c1) (t := s2) (B := A2) (m := n2) (d := c2) (bz.ext hE)
  have r0 := b1.cell 0 (.bool s1) rfl
  have r1 := b1.cell 1 (.slice A1 n1 c1) rfl
  have r2 := b1.cell 2 (.bool s2) rfl
  have r3 := b1.cell 3 (.slice A2 n2 c2) rfl
  unfold set4 at r0 r1 r2 r3
  refine bodyPost_ret (v := .agg #[.bool s1, .slice A1 n1 c1, .bool s2, .slice A2 n2 c2]) (by simp [results, Tryz.results48, go_sem, r0, r1, r2, r3]) rfl ⟨s1, A1, n1, c1, s2, A2, n2, c2, rfl, ⟨?_, ?_⟩, b3 _ (extW.trans hE) (by omega)⟩
  · exact b2 _ _ _ _ _ _ (hk.ext hx1)
  · exact b2 _ _ _ _ _ _ hr
set_option maxHeartbeats 2000000 in
theorem q_CmpR (h : NR w q L s A n c t B m d) (k : NR w p M s' A' n' c' t' B' m' d') (hL : L ≤ 1000) (hM : M ≤ 1000) : Calls Tryz.prog 53 #[.agg #[.bool s, .slice A n c, .bool t, .slice B m d], .agg #[.bool s', .slice A' n' c', .bool t', .slice B' m' d']] w fun e w' => e = .returned (.int .i64 (ratCmp q p)) ∧ Ext w w' := by
  go_enter Tryz.func53, Tryz.ntmps53
  go_upto_region 1 with (fail)
  obtain ⟨W, hW, extW, bx, by_, hz⟩ := box2 w 26 26 #[.bool s, .slice A n c, .bool t, .slice B m d] #[.bool s', .slice A' n' c', .bool t', .slice B' m' d']
  rw [← hW]
  clear hW
  have ES0 := Ext.refl W
  refine wp_region_held_drew (S := Ext W) (by kernel_rfl) ES0.drew (fun ES => ?_)
  clear ES0
  refine Late.start0 (fun _ _ _ _ _ => ⟨fun h => h, fun h => h⟩) ES (fun hAl hQ => ?_)
  refine Late.take (i := 0) (d := some 5) (v := ?v0_39) rfl rfl (by kernel_rfl) (by kernel_rfl) (by kernel_rfl) (by kernel_rfl) hQ (Or.inl ⟨by rfl, ?y0_39⟩) ?r0_39
  case y0_39 =>
    intro w' hSw
    have k00 := (bx.ext hSw).c4
    have k10 := (by_.ext hSw).c4
    go_simp
    try with_reducible rfl
  try simp only [Act.put]
  try simp only [List.setIfInBounds_toArray]
  try simp only [List.set_cons_succ]
  try simp only [List.set_cons_zero]
  refine Late.take (i := 2) (d := some 7) (v := ?v2_40) rfl rfl (by kernel_rfl) (by kernel_rfl) (by kernel_rfl) (by kernel_rfl) hQ (Or.inl ⟨by rfl, ?y2_40⟩) ?r2_40
  case y2_40 =>
    intro w' hSw
    have k00 := (bx.ext hSw).c4
    have k10 := (by_.ext hSw).c4
    go_simp
    try with_reducible rfl
  try simp only [Act.put]
  try simp only [List.setIfInBounds_toArray]
  try simp only [List.set_cons_succ]
  try simp only [List.set_cons_zero]
  refine Late.take (i := 5) (d := some 10) (v := ?v5_41) rfl rfl (by kernel_rfl) (by kernel_rfl) (by kernel_rfl) (by kernel_rfl) hQ (Or.inl ⟨by rfl, ?y5_41⟩) ?r5_41
  case y5_41 =>
    intro w' hSw
    have k00 := (bx.ext hSw).c4
    have k10 := (by_.ext hSw).c4
    go_simp
    try with_reducible rfl
  try simp only [Act.put]
  try simp only [List.setIfInBounds_toArray]
  try simp only [List.set_cons_succ]
  try simp only [List.set_cons_zero]
  refine Late.take (i := 7) (d := some 12) (v := ?v7_42) rfl rfl (by kernel_rfl) (by kernel_rfl) (by kernel_rfl) (by kernel_rfl) hQ (Or.inl ⟨by rfl, ?y7_42⟩) ?r7_42
  case y7_42 =>
    intro w' hSw
    have k00 := (bx.ext hSw).c4
    have k10 := (by_.ext hSw).c4
    go_simp
    try with_reducible rfl
  try simp only [Act.put]
  try simp only [List.setIfInBounds_toArray]
  try simp only [List.set_cons_succ]
  try simp only [List.set_cons_zero]
  refine Late.take (i := 1) (d := some 6) (v := ?v1_43) rfl rfl (by kernel_rfl) (by kernel_rfl) (by kernel_rfl) (by kernel_rfl) hQ (Or.inl ⟨by rfl, ?y1_43⟩) ?r1_43
  case y1_43 =>
    intro w' hSw
    have k00 := (bx.ext hSw).c4
    have k10 := (by_.ext hSw).c4
    go_simp
    try with_reducible rfl
  try simp only [Act.put]
  try simp only [List.setIfInBounds_toArray]
  try simp only [List.set_cons_succ]
  try simp only [List.set_cons_zero]
  refine Late.take (i := 3) (d := some 8) (v := ?v3_44) rfl rfl (by kernel_rfl) (by kernel_rfl) (by kernel_rfl) (by kernel_rfl) hQ (Or.inl ⟨by rfl, ?y3_44⟩) ?r3_44
  case y3_44 =>
    intro w' hSw
    have k00 := (bx.ext hSw).c4
    have k10 := (by_.ext hSw).c4
    go_simp
    try with_reducible rfl
  try simp only [Act.put]
  try simp only [List.setIfInBounds_toArray]
  try simp only [List.set_cons_succ]
  try simp only [List.set_cons_zero]
  refine Late.take (i := 6) (d := some 11) (v := ?v6_45) rfl rfl (by kernel_rfl) (by kernel_rfl) (by kernel_rfl) (by kernel_rfl) hQ (Or.inl ⟨by rfl, ?y6_45⟩) ?r6_45
  case y6_45 =>
    intro w' hSw
    have k00 := (bx.ext hSw).c4
    have k10 := (by_.ext hSw).c4
    go_simp
    try with_reducible rfl
  try simp only [Act.put]
  try simp only [List.setIfInBounds_toArray]
  try simp only [List.set_cons_succ]
  try simp only [List.set_cons_zero]
  refine Late.take (i := 8) (d := some 13) (v := ?v8_46) rfl rfl (by kernel_rfl) (by kernel_rfl) (by kernel_rfl) (by kernel_rfl) hQ (Or.inl ⟨by rfl, ?y8_46⟩) ?r8_46
  case y8_46 =>
    intro w' hSw
    have k00 := (bx.ext hSw).c4
    have k10 := (by_.ext hSw).c4
    go_simp
    try with_reducible rfl
  try simp only [Act.put]
  try simp only [List.setIfInBounds_toArray]
  try simp only [List.set_cons_succ]
  try simp only [List.set_cons_zero]
  refine Late.call (i := 4) rfl (by kernel_rfl) hAl (by kernel_rfl) (by kernel_rfl) (by kernel_rfl) hQ (fun w4 e4 E4 K hK => ?_)
  go_simp
  (go_at_call 77; refine (q_Mul (h.num.ext (extW.trans E4)) (k.den.ext (extW.trans E4)) (by omega) (by omega)).mono ?_; rintro e m1 ⟨s1, A1, n1, c1, rfl, h1, hx4⟩)
  refine hK.out _ _ hx4 ?_
  clear hK K
  try simp only [Act.put]
  try simp only [List.setIfInBounds_toArray]
  try simp only [List.set_cons_succ]
  try simp only [List.set_cons_zero]
  refine Late.call (i := 9) rfl (by kernel_rfl) hAl (by kernel_rfl) (by kernel_rfl) (by kernel_rfl) hQ (fun w9 e9 E9 K hK => ?_)
  go_simp
  (go_at_call 77; refine (q_Mul (k.num.ext (extW.trans E9)) (h.den.ext (extW.trans E9)) (by omega) (by omega)).mono ?_; rintro e m2 ⟨s2, A2, n2, c2, rfl, h2, hx9⟩)
  refine hK.out _ _ hx9 ?_
  clear hK K
  try simp only [Act.put]
  try simp only [List.setIfInBounds_toArray]
  try simp only [List.set_cons_succ]
  try simp only [List.set_cons_zero]
  refine Late.call (i := 10) rfl (by kernel_rfl) hAl (by kernel_rfl) (by kernel_rfl) (by kernel_rfl) hQ (fun w10 e10 E10 K hK => ?_)
  go_simp
  (go_at_call 96; refine (q_Cmp (h1.ext (e9.trans (hx9.trans e10))) (h2.ext e10) (by omega) (by omega)).mono ?_; rintro e m3 ⟨rfl, hx10⟩)
  refine hK.out _ _ hx10 ?_
  clear hK K
  try simp only [Act.put]
  try simp only [List.setIfInBounds_toArray]
  try simp only [List.set_cons_succ]
  try simp only [List.set_cons_zero]
  refine Late.take (i := 11) (d := some 4) (v := ?v11_47) rfl rfl (by kernel_rfl) (by kernel_rfl) (by kernel_rfl) (by kernel_rfl) hQ (Or.inl ⟨by rfl, ?y11_47⟩) ?r11_47
  case y11_47 =>
    intro w' hSw
    have k00 := (bx.ext hSw).c4
    have k10 := (by_.ext hSw).c4
    go_simp
    try with_reducible rfl
  try simp only [Act.put]
  try simp only [List.setIfInBounds_toArray]
  try simp only [List.set_cons_succ]
  try simp only [List.set_cons_zero]
  refine Late.done0 (by kernel_rfl) (fun wz ez Ez => ?_)
  clear hAl hQ ES
  go_wp2_with fail
  go_ret
  exact ⟨rfl, extW.trans Ez⟩
end
end Go.Proofs.YtoabhnofppledaaGreatDoor
namespace Go.Proofs.YtoabhnofppledaaGreatDoor
open Go.RowKit
attribute [local go_sem ↓] Go.wp_at_zero Go.wp_at_succ
section
variable {w w' : World} {z y : Int} {q p : Rat} {L M : Nat} {s t s' t' : Bool} {A B A' B' : Option Addr} {n c m d n' c' m' d' : Nat}
set_option maxHeartbeats 2000000 in
theorem q_SameInt (h : NI w z L s A n c) (k : NI w z M t B m d) : Calls Tryz.prog 60 #[.agg #[.bool s, .slice A n c], .agg #[.bool t, .slice B m d]] w fun e w' => e = .returned (.bool true) ∧ Ext w w' := by
  obtain ⟨xs, hn, hx, hc, hcm, hi, hl⟩ := h.out
  obtain ⟨ys, hm, hy, hd, hdm, hj, hk⟩ := k.out
  obtain ⟨rfl, rfl⟩ := hi.unique hj
  obtain rfl : n = m := by omega
  have hN9 : n ≤ 9223372036854775807 := by unfold maxLen at hcm; omega
  have Hn := Lib.hid hn
  clear h k hi hj hl hk hn hm
  go_enter Tryz.func60, Tryz.ntmps60
  go_upto_region 1 with (fail)
  obtain ⟨W, hW, extW, bx, by_, hz⟩ := box2 w 24 24 #[.bool s, .slice A n c] #[.bool s, .slice B n d]
  rw [← hW]
  clear hW
  replace hx := hx.ext extW
  replace hy := hy.ext extW
  have x0 := bx.cell 0 (.bool s) rfl
  have x1 := bx.cell 1 (.slice A n c) rfl
  have y0 := by_.cell 0 (.bool s) rfl
  have y1 := by_.cell 1 (.slice B n d) rfl
  have hss : (s != s) = false := by simp
  have hnn : ((n : Int) != (n : Int)) = false := by simp
  go_wp2
  clear x0 x1 y0 y1 hss hnn
  go_loopw [5] (fun i V => ∃ k : Nat, i = .int .i64 (k : Int) ∧ k ≤ n ∧ Ext W V) (fun i _ => n - (intOf i).toNat)
  case atStart => exact ⟨0, rfl, by omega, Ext.refl _⟩
  case round =>
    obtain ⟨k, rfl, hk, hext⟩ := hrel
    have x1 := (bx.ext hext).cell 1 (.slice A n c) rfl
    have y1 := (by_.ext hext).cell 1 (.slice B n d) rfl
    by_cases hlt : k < n
    · have hlx : k < xs.length := by rw [Hn.out]; exact hlt
      obtain ⟨b1, o1, rfl, hb1, hc1⟩ := (hx.ext hext).at_ hlx
      obtain ⟨b2, o2, rfl, hb2, hc2⟩ := (hy.ext hext).at_ hlx
      generalize xs[k] = v at hc1 hc2
      have hne : ((v : Int) != (v : Int)) = false := by simp
      have i1 : (k : Int) < (n : Int) := by omega
      go_upto_region 6 with (fail)
      go_quiet (fail)
      go_wp2_with fail
      go_roundw
      case rel => exact ⟨k + 1, by go_num, by omega, hext.drewN _⟩
      case measure => simp [intOf]; omega
    · have hlt2 : decide ((k : Int) < (n : Int)) = false := decide_eq_false (by omega)
      go_wp2
      go_ret
      exact ⟨rfl, extW.trans hext⟩
set_option maxHeartbeats 2000000 in
theorem q_Same (h : NR w q L s A n c t B m d) (k : NR w q M s' A' n' c' t' B' m' d') : Calls Tryz.prog 21 #[.agg #[.bool s, .slice A n c, .bool t, .slice B m d], .agg #[.bool s', .slice A' n' c', .bool t', .slice B' m' d']] w fun e w' => e = .returned (.bool true) ∧ Ext w w' := by
  go_enter Tryz.func21, Tryz.ntmps21
  go_upto_region 1 with (fail)
  obtain ⟨W, hW, extW, bx, by_, hz⟩ := box2 w 26 26 #[.bool s, .slice A n c, .bool t, .slice B m d] #[.bool s', .slice A' n' c', .bool t', .slice B' m' d']
  rw [← hW]
  clear hW
  replace h := h.ext extW
  replace k := k.ext extW
  have x0 := bx.cell 0 (.bool s) rfl
  have x1 := bx.cell 1 (.slice A n c) rfl
  have x2 := bx.cell 2 (.bool t) rfl
  have x3 := bx.cell 3 (.slice B m d) rfl
  have y0 := by_.cell 0 (.bool s') rfl
  have y1 := by_.cell 1 (.slice A' n' c') rfl
  have y2 := by_.cell 2 (.bool t') rfl
  have y3 := by_.cell 3 (.slice B' m' d') rfl
  go_wp2_with fail
  refine (q_SameInt h.num k.num).mono ?_
  rintro e wb ⟨rfl, hxb⟩
  replace bx := bx.ext hxb
  replace by_ := by_.ext hxb
  replace h := h.ext hxb
  replace k := k.ext hxb
  replace extW := extW.trans hxb
  clear hxb x0 x1 x2 x3 y0 y1 y2 y3
  have x0 := bx.cell 0 (.bool s) rfl
  have x1 := bx.cell 1 (.slice A n c) rfl
  have x2 := bx.cell 2 (.bool t) rfl
  have x3 := bx.cell 3 (.slice B m d) rfl
  have y0 := by_.cell 0 (.bool s') rfl
  have y1 := by_.cell 1 (.slice A' n' c') rfl
  have y2 := by_.cell 2 (.bool t') rfl
  have y3 := by_.cell 3 (.slice B' m' d') rfl
  go_wp2_with fail
  refine (q_SameInt h.den k.den).mono ?_
  rintro e wc ⟨rfl, hxc⟩
  go_wp2_with fail
  go_ret
  exact ⟨rfl, extW.trans hxc⟩
end
end Go.Proofs.YtoabhnofppledaaGreatDoor
namespace Go.Proofs.YtoabhnofppledaaGreatDoor
open Go.RowKit
theorem bitLen_L {L : Nat} (h : L < 9223372036854775808) : (L ≠ 0 → 2 ^ (Lib.bitLen L - 1) ≤ L) ∧ L / 2 ^ Lib.bitLen L = 0 ∧ Lib.bitLen L ≤ 64 ∧ (L = 0 → Lib.bitLen L = 0) := by
  refine ⟨fun h0 => (Lib.bitLenAux_bounds 64 L (by omega) h0).2.1, ?_, Lib.bitLen_le L 64 (by omega) (by omega), fun h0 => by rw [h0]; exact bitLen_zero⟩
  by_cases h0 : L = 0
  · subst h0; simp
  · exact Nat.div_eq_of_lt (Lib.bitLenAux_bounds 64 L (by omega) h0).2.2
section
variable {A B : Option Addr} {c d n m : Nat} {xs ys : List Nat} {w : World} {s t : Bool}
set_option maxRecDepth 100000 in
set_option maxHeartbeats 8000000 in
theorem int_squareRoot (hn : xs.length = n) (hx : Rd w A xs) (hnx : Nrm xs) (hc : n ≤ c) (hcm : c ≤ maxLen) (h1 : n ≤ 50) :
    Calls Tryz.prog 138 #[.slice A n c] w (RetN (fun zs => val zs * val zs ≤ val xs ∧ val xs < (val zs + 1) * (val zs + 1) ∧ Nrm zs ∧ zs.length ≤ n + 1) w) := by
  rcases Nat.eq_zero_or_pos n with h0 | hpos
  · obtain rfl : xs = [] := List.length_eq_zero_iff.1 (by omega)
    subst h0
    go_enter Tryz.func138, Tryz.ntmps138
    go_wp2_with fail
    go_ret
    exact ⟨none, 0, [], rfl, ⟨W32.nil, .inl rfl⟩, by simp, by unfold maxLen; omega, ⟨by simp [val], by simp [val], Nrm.nil, by simp⟩, Ext.refl _⟩
  · obtain ⟨b1, b2, b3, b4⟩ := bitsN_spec hx.1 hnx (by omega)
    obtain ⟨hge, hI0⟩ := root_start b1 b2 b3
    have hbits := int_bits hn hx (c := c) (by omega)
    generalize bitsN xs = b at *
    have hvlt := val_lt hx.1
    rw [hn] at hvlt
    have hbl : b ≤ 1600 := by omega
    generalize hLL : (b - 1) / 2 = L at *
    have hL : L ≤ 800 := by omega
    obtain ⟨l1, l2, l3, l4⟩ := bitLen_L (L := L) (by omega)
    have hLen : ∀ W : World, Calls Tryz.prog 158 #[.int .u64 (L : Int)] W fun e w' => e = .returned (.int .i64 ((Lib.bitLen L : Nat) : Int)) ∧ W = w' := fun W =>
      (lenU (L : Int) W (by omega) (by omega)).mono fun e w' ⟨h1, h2⟩ => ⟨by rw [h1]; simp, h2⟩
    generalize Lib.bitLen L = K at *
    have hq : (((b : Int) - 1) / 2) = (L : Int) := by omega
    have Hbits := Lib.hid hbits
    have HLen := Lib.hid hLen
    have Hl1 := Lib.hid l1
    have Hl2 := Lib.hid l2
    have Hge := Lib.hid hge
    have HI0 := Lib.hid hI0
    have Hvlt := Lib.hid hvlt
    have Hn := Lib.hid hn
    clear hbits hLen l1 l2 hge hI0 hvlt b2 b3 hn hLL
    have hnew := BlkN.lit w [1] #[.int .u32 1] rfl
    have hne : ¬ n = 0 := by omega
    go_enter Tryz.func138, Tryz.ntmps138
    go_wp2_with (first | (go_at_call 159; refine Hbits.out.mono ?_; rintro e w2 ⟨rfl, rfl⟩) | (go_at_call 158; refine (HLen.out _).mono ?_; rintro e w2 ⟨rfl, rfl⟩))
    go_loopw [4, 5, 6] (fun r kn i wr => ∃ (k : Nat) (A1 : Option Addr) (c1 : Nat) (rs : List Nat), k ≤ K ∧ i = .int .i64 ((k : Int) - 1) ∧ kn = .int .i64 ((L / 2 ^ k : Nat) : Int) ∧ r = .slice A1 rs.length c1 ∧ SqInv (val xs) L (L / 2 ^ k) (val rs) ∧ Own wr w.heap.size A1 rs ∧ rs.length ≤ c1 ∧ c1 ≤ maxLen ∧ Nrm rs ∧ Ext w wr) (fun _ _ i _ => (intOf i + 1).toNat)
    case atStart => exact ⟨K, _, 1, [1], Nat.le_refl _, rfl, by rw [Hl2.out]; rfl, rfl, by rw [Hl2.out, val_one]; exact HI0.out, Own.of_blk hnew (W32.one (by omega)) (Nat.le_refl _), by simp, by unfold maxLen; omega, Nrm.one (by omega), (Ext.refl w).alloc _⟩
    case round =>
      obtain ⟨k, A1, c1, rs, hk, rfl, rfl, rfl, hI, ho1, hc1, hm1, hnr, hext⟩ := hrel
      have hlen := root_len hI Hvlt.out hnr
      have hrpos : 0 < rs.length := by
        rcases Nat.eq_zero_or_pos rs.length with h | h
        · have h0 : rs = [] := List.length_eq_zero_iff.1 h
          subst h0
          have h2 := hI.ge
          have := Nat.two_pow_pos (L / 2 ^ k)
          simp [val] at h2
        · exact h
      rcases k with _ | j
      · rw [show (((0 : Nat) : Int) - 1) = -1 from rfl]
        rw [Nat.pow_zero, Nat.div_one] at hI
        obtain ⟨f1, f2, f3⟩ := hI.done
        have hcmp := fun (A2 : Option Addr) (c2 : Nat) (us : List Nat) (W : World) (h1 : Rd W A2 us) (h2 : Rd W A xs) (h3 : us.length ≤ 1000) => int_compare A2 A c2 c us xs W h1 h2 (by unfold maxLen; omega) (by have := Hn.out; unfold maxLen; omega)
        rw [Hn.out] at hcmp
        have Hcmp := Lib.hid hcmp
        have Hf := Lib.hid (And.intro f1 (And.intro f2 f3))
        clear hcmp hI f1 f2 f3
        go_wp2_with (go_at_call 129; refine (int_multiply_s rfl rfl ho1.rd ho1.rd (by omega) (by omega)).mono ?_; rintro e w2 ⟨A2, c2, s2, rfl, ho2, hc2, hm2, ⟨hv2, hn2, hl2⟩, hxt2⟩; replace hv2 := Lib.hid hv2)
        refine (Hcmp.out A2 c2 s2 _ ho2.rd (hx.ext (hext.trans hxt2)) (by omega)).mono ?_
        rintro e w3 ⟨rfl, hxt3⟩
        obtain ⟨f1, f2, f3⟩ := Hf.out
        rcases Nat.lt_trichotomy (val rs * val rs) (val xs) with hgt | hgt | hgt
        · have hcv : cmpL s2 xs = -1 := by
            rw [cmpL_nrm ho2.rd.1 hx.1 hn2 hnx, hv2.out]
            exact cmpI_of_lt hgt
          rw [hcv]
          clear hcv
          go_wp2_with fail
          go_ret
          exact ⟨A1, c1, rs, rfl, ho1.ext (hxt2.trans hxt3), hc1, hm1, ⟨by omega, f3, hnr, hlen⟩, hext.trans (hxt2.trans hxt3)⟩
        · have hcv : cmpL s2 xs = 0 := by
            rw [cmpL_nrm ho2.rd.1 hx.1 hn2 hnx, hv2.out]
            exact cmpI_of_eq hgt
          rw [hcv]
          clear hcv
          go_wp2_with fail
          go_ret
          exact ⟨A1, c1, rs, rfl, ho1.ext (hxt2.trans hxt3), hc1, hm1, ⟨by omega, f3, hnr, hlen⟩, hext.trans (hxt2.trans hxt3)⟩
        · have hcv : cmpL s2 xs = 1 := by
            rw [cmpL_nrm ho2.rd.1 hx.1 hn2 hnx, hv2.out]
            exact cmpI_of_gt hgt
          rw [hcv]
          clear hcv
          have hnew3 := BlkN.lit w3 [1] #[.int .u32 1] rfl
          have hext3 := (hext.trans (hxt2.trans hxt3)).alloc (.cells #[.int .u32 1] 93)
          go_wp2_with fail
          refine (int_subtract (xs := rs) (ys := [1]) rfl rfl (ho1.rd.ext ((hxt2.trans hxt3).alloc _)) (hnew3.rd0 (W32.one (by omega))) hrpos (by rw [val_one]; exact f1) (by omega)).mono ?_
          rintro e w4 ⟨A4, c4, s4, rfl, ho4, hc4, hm4, ⟨hv4, hn4, hl4⟩, hxt4⟩
          rw [val_one] at hv4
          replace hv4 := Lib.hid hv4
          go_wp2_with fail
          go_ret
          exact ⟨A4, c4, s4, rfl, ho4.mono hext3.size, hc4, hm4, ⟨by rw [hv4.out]; exact f2, by rw [hv4.out, Nat.sub_add_cancel f1]; exact hgt, hn4, by omega⟩, hext3.trans hxt4⟩
      · rw [show (((j + 1 : Nat) : Int) - 1) = (j : Int) by omega]
        have hL0 : L ≠ 0 := fun h => by have := l4 h; omega
        obtain ⟨k1, k2, k3⟩ := known_step Hl1.out hL0 (show j < K by omega)
        have hst := hI.step k1 k2 k3 Hge.out
        have hdq : (L : Int) / 2 ^ j = ((L / 2 ^ j : Nat) : Int) := by simp
        generalize L / 2 ^ (j + 1) = e at *
        generalize hd : L / 2 ^ j = d at *
        have Hst := Lib.hid hst
        have Hdq := Lib.hid hdq
        have Hd := Lib.hid hd
        clear hst hdq hd hI
        have hj64 : j < 64 := by omega
        go_upto_region 10 with fail
        rw [Hdq.out]
        go_wp2_with (first | (go_at_call 160; rw [show (2 * (L : Int) - (e : Int) - (d : Int) + 1) = ((2 * L - e - d + 1 : Nat) : Int) by omega]; refine (int_shiftRight (k := 2 * L - e - d + 1) Hn.out (hx.ext hext) hc hcm (by omega) (by omega)).mono ?_; rintro e2 w2 ⟨A2, c2, s2, rfl, ho2, hc2, hm2, ⟨hv2, hn2, hl2⟩, hxt2⟩; replace hv2 := Lib.hid hv2) | (go_at_call 139; refine (divide_ok _ _ _ _ _ _ _ _ _ rfl rfl ho2.rd (ho1.rd.ext hxt2) hc2 hm2 hc1 hm1 hn2 hnr hrpos (by omega) (by omega)).mono ?_; rintro e3 w3 ⟨A3, c3, q3, A4, c4, r4, rfl, ho3, ho4, hc3, hm3, hc4, hm4, ⟨hv3, hv4, hn3, hn4, hl3, hl4⟩, hxt3⟩; replace hv3 := Lib.hid hv3; replace hv4 := Lib.hid hv4) | (go_at_call 161; rw [show ((d : Int) - (e : Int) - 1) = ((d - e - 1 : Nat) : Int) by omega]; refine (int_shiftLeft (k := d - e - 1) rfl (ho1.rd.ext (hxt2.trans hxt3)) (by omega) (by omega)).mono ?_; rintro e4 w4 ⟨A5, c5, s5, rfl, ho5, hc5, hm5, ⟨hv5, hn5, hl5⟩, hxt5⟩; replace hv5 := Lib.hid hv5) | (go_at_call 133; refine (int_add rfl rfl ho5.rd (ho3.rd.ext hxt5) (by omega) (by omega)).mono ?_; rintro e5 w5 ⟨A6, c6, s6, rfl, ho6, hc6, hm6, ⟨hv6, hn6, hl6⟩, hxt6⟩; replace hv6 := Lib.hid hv6))
        go_roundw
        case rel =>
          have e6 := hv6.out
          rw [hv5.out, hv3.out, hv2.out] at e6
          exact ⟨j, A6, c6, s6, by omega, rfl, by rw [Hd.out], rfl, by rw [Hd.out, e6]; exact Hst.out, ho6.mono (hext.trans (hxt2.trans (hxt3.trans hxt5))).size, hc6, hm6, hn6, hext.trans (hxt2.trans (hxt3.trans (hxt5.trans hxt6)))⟩
        case measure => simp [intOf]
end
end Go.Proofs.YtoabhnofppledaaGreatDoor
namespace Go.Proofs.YtoabhnofppledaaGreatDoor
open Go.RowKit
attribute [local go_sem ↓] Go.wp_at_zero Go.wp_at_succ
theorem sign_ge {z : Int} (h : 0 ≤ z) : z.sign = 0 ∨ z.sign = 1 := by
  rcases Int.lt_or_eq_of_le h with h | h
  · exact .inr (Int.sign_eq_one_of_pos h)
  · exact .inl (by rw [← h]; rfl)
theorem ival_abs {s : Bool} {xs : List Nat} (h : 0 ≤ ival s xs) : ival s xs = (val xs : Int) := by
  unfold ival at *
  cases s <;> simp at h ⊢ <;> omega
theorem validB_int {z : Int} {b : Bool} {rs : List Nat} (h : IsInt z b rs) : validB b rs = true := by
  have hn := h.nrm
  unfold Nrm at hn
  have hs := h.sgn
  unfold validB
  rw [hn]
  cases rs with
  | nil => rw [hs rfl]; rfl
  | cons a l => simp
section
variable {A B : Option Addr} {c d n m : Nat} {xs ys : List Nat} {w : World} {s t : Bool}
set_option maxHeartbeats 4000000 in
theorem int_Sqrt_pos (hn : xs.length = n) (hx : Rd w A xs) (hc : n ≤ c) (hcm : c ≤ maxLen) (h1 : n ≤ 50) (hpos : 0 ≤ ival s xs) :
    Calls Tryz.prog 109 #[.agg #[.bool s, .slice A n c]] w fun e w' => ∃ z : Nat, z * z ≤ val xs ∧ val xs < (z + 1) * (z + 1) ∧ RetIE (z : Int) (n + 1) 0 w e w' := by
  have lx := trimL_len xs
  have hxt : Rd w A (trimL xs) := by rw [trimL_take]; exact hx.take _
  have Hn := Lib.hid hn
  clear hn
  rcases sign_ge hpos with hsg | hsg
  all_goals
    clear hpos
    go_enter Tryz.func109, Tryz.ntmps109
    go_upto_region 1 with (fail)
    obtain ⟨W, hW, extW, bx, bz, hz⟩ := box2 w 24 24 #[.bool s, .slice A n c] #[.bool false, .slice none 0 0]
    rw [← hW]
    clear hW
    have x0 := bx.cell 0 (.bool s) rfl
    have x1 := bx.cell 1 (.slice A n c) rfl
    go_wp2_with fail
    refine (int_Sign Hn.out (hx.ext extW) hc hcm (by omega)).mono ?_
    rintro e w1 ⟨rfl, ext1⟩
    rw [hsg]
    replace bx := bx.ext ext1
    replace bz := bz.ext ext1
    replace extW := extW.trans ext1
    have x1 := bx.cell 1 (.slice A n c) rfl
    go_wp2_with fail
    refine (int_trimN Hn.out (hx.ext extW) hc hcm).mono ?_
    rintro e w2 ⟨rfl, rfl⟩
    go_wp2_with fail
    refine (int_squareRoot (xs := trimL xs) rfl (hxt.ext extW) (Nrm.trimL _) (by have := Hn.out; omega) hcm (by have := Hn.out; omega)).mono ?_
    rintro e w2 ⟨A2, c2, zs, rfl, ho2, hc2, hm2, ⟨hv2, hv3, hn2, hl2⟩, hext2⟩
    rw [val_trimL] at hv2 hv3
    have Hv2 := Lib.hid hv2
    have Hv3 := Lib.hid hv3
    clear hv2 hv3
    go_wp2_with fail
    refine (int_signed rfl ho2.rd hc2 hm2 hn2).mono ?_
    rintro e w3 ⟨b3, A3, c3, rs, rfl, hr3, hc3, hm3, hi3, hl3, hext3⟩
    have ext3 := hext2.trans hext3
    have bz3 := bz.ext ext3
    have z0 := bz3.cell 0 (.bool false) rfl
    have z1 := bz3.cell 1 (.slice none 0 0) rfl
    have f0 := bz3.frozen 0
    have f1 := bz3.frozen 1
    go_wp2_with fail
    obtain ⟨r1, r2, r3, r4⟩ := fin_pair (b := b3) (n := rs.length) (c := c3) (extW.trans ext3) (by omega) bz3 hr3
    have e9 : ival false zs = (val zs : Int) := by simp [ival]
    rw [e9] at hi3
    exact bodyPost_ret (v := .tuple #[.agg #[.bool b3, .slice A3 rs.length c3], .int .i64 0]) (by simp [results, Tryz.results109, go_sem, r3, r4]) rfl ⟨val zs, Hv2.out, Hv3.out, b3, A3, c3, rs, rfl, r1, hc3, hm3, hi3, by have := Hn.out; omega, r2⟩
end
end Go.Proofs.YtoabhnofppledaaGreatDoor
namespace Go.Proofs.YtoabhnofppledaaGreatDoor
open Go.RowKit
attribute [local go_sem ↓] Go.wp_at_zero Go.wp_at_succ
/-- words of an argument of any form. -/
structure RI (w : World) (A : Option Addr) (n c : Nat) (xs : List Nat) : Prop where
  len : xs.length = n
  rd : Rd w A xs
  cap : n ≤ c
  top : c ≤ maxLen
theorem RI.ext {w w' : World} {A : Option Addr} {n c : Nat} {xs : List Nat} (h : RI w A n c xs) (e : Ext w w') : RI w' A n c xs := ⟨h.len, h.rd.ext e, h.cap, h.top⟩
def validQ (s : Bool) (xs : List Nat) (t : Bool) (ys : List Nat) : Bool := validB s xs && (validB t ys && (decide (0 < ival t ys) && decide (((Nat.gcd (val xs) (val ys) : Nat) : Int) = 1)))
theorem validB_is {s : Bool} {xs : List Nat} (h : validB s xs = true) (hw : W32 xs) : IsInt (ival s xs) s xs := by
  unfold validB at h
  rw [Bool.and_eq_true, decide_eq_true_eq] at h
  obtain ⟨h1, h2⟩ := h
  have hn : Nrm xs := by unfold Nrm; rw [trimL_take, h1, List.take_length]
  refine ⟨hw, hn, fun h0 => ?_, rfl⟩
  subst h0
  simpa using h2
theorem NI.of_raw {w : World} {s : Bool} {A : Option Addr} {n c : Nat} {xs : List Nat} {L : Nat} (h : RI w A n c xs) (hv : validB s xs = true) (hl : n ≤ L) : NI w (ival s xs) L s A n c :=
  ⟨xs, h.len, h.rd, h.cap, h.top, validB_is hv h.rd.1, hl⟩
theorem NR.of_raw {w : World} {s : Bool} {A : Option Addr} {n c : Nat} {xs : List Nat} {t : Bool} {B : Option Addr} {m d : Nat} {ys : List Nat} {L : Nat} (h : RI w A n c xs) (k : RI w B m d ys) (hv : validQ s xs t ys = true) (hn : n ≤ L) (hm : m ≤ L) :
    ∃ q : Rat, NR w q L s A n c t B m d := by
  unfold validQ at hv
  simp only [Bool.and_eq_true, decide_eq_true_eq] at hv
  obtain ⟨h1, h2, h3, h4⟩ := hv
  have hg : Nat.gcd (val xs) (val ys) = 1 := by omega
  have hy : ival t ys = (val ys : Int) := ival_abs (by omega)
  refine ⟨⟨ival s xs, val ys, by omega, by rw [ival_ab]; exact hg⟩, NI.of_raw h h1 hn, ?_⟩
  show NI w ((val ys : Nat) : Int) L t B m d
  rw [← hy]
  exact NI.of_raw k h2 hm
/-- the words of a number in lowest terms. -/
theorem NR.raw {w : World} {q : Rat} {L : Nat} {s : Bool} {A : Option Addr} {n c : Nat} {t : Bool} {B : Option Addr} {m d : Nat} (h : NR w q L s A n c t B m d) :
    ∃ xs ys, RI w A n c xs ∧ RI w B m d ys ∧ validQ s xs t ys = true ∧ n ≤ L ∧ m ≤ L ∧ (∀ w' A' c' B' d', RI w' A' n c' xs → RI w' B' m d' ys → NR w' q L s A' n c' t B' m d') := by
  obtain ⟨xs, h1, h2, h3, h4, h5, h6⟩ := h.num.out
  obtain ⟨ys, k1, k2, k3, k4, k5, k6⟩ := h.den.out
  refine ⟨xs, ys, ⟨h1, h2, h3, h4⟩, ⟨k1, k2, k3, k4⟩, ?_, h6, k6, fun w' A' c' B' d' r1 r2 => ⟨⟨xs, r1.len, r1.rd, r1.cap, r1.top, h5, h6⟩, ⟨ys, r2.len, r2.rd, r2.cap, r2.top, k5, k6⟩⟩⟩
  unfold validQ
  rw [validB_int h5, validB_int k5, h5.abs, k5.abs, k5.eq]
  have hd := q.den_pos
  have hr := q.reduced
  unfold Nat.Coprime at hr
  simp [hr]
  omega
section
variable {w w' : World} {z y : Int} {q p : Rat} {L M : Nat} {s t s' t' : Bool} {A B A' B' : Option Addr} {n c m d n' c' m' d' : Nat} {xs ys xs' ys' : List Nat}
set_option maxHeartbeats 4000000 in
theorem q_ValidRaw (h : RI w A n c xs) (k : RI w B m d ys) (h1 : n ≤ 3000) (h2 : m ≤ 3000) : Calls Tryz.prog 52 #[.agg #[.bool s, .slice A n c, .bool t, .slice B m d]] w fun e w' => e = .returned (.bool (validQ s xs t ys)) ∧ Ext w w' := by
  obtain ⟨r, hr⟩ : ∃ r, validQ s xs t ys = r := ⟨_, rfl⟩
  have HR := Lib.hid hr
  rw [hr]
  clear hr
  go_enter Tryz.func52, Tryz.ntmps52
  go_upto_region 1 with (fail)
  obtain ⟨W, hW, extW, bx, hz⟩ := box1 w 26 #[.bool s, .slice A n c, .bool t, .slice B m d]
  rw [← hW]
  clear hW
  replace h := h.ext extW
  replace k := k.ext extW
  have x0 := bx.cell 0 (.bool s) rfl
  have x1 := bx.cell 1 (.slice A n c) rfl
  have x2 := bx.cell 2 (.bool t) rfl
  have x3 := bx.cell 3 (.slice B m d) rfl
  go_wp2_with fail
  refine (ref_Valid h.len h.rd h.cap h.top (by omega)).mono ?_
  rintro e wa ⟨rfl, hxa⟩
  replace bx := bx.ext hxa
  replace h := h.ext hxa
  replace k := k.ext hxa
  replace extW := extW.trans hxa
  clear hxa x0 x1 x2 x3
  have x0 := bx.cell 0 (.bool s) rfl
  have x1 := bx.cell 1 (.slice A n c) rfl
  have x2 := bx.cell 2 (.bool t) rfl
  have x3 := bx.cell 3 (.slice B m d) rfl
  cases hv1 : validB s xs with
  | false =>
    go_wp2_with fail
    go_ret
    exact ⟨by rw [← HR.out]; unfold validQ; rw [hv1]; rfl, extW⟩
  | true =>
    go_wp2_with fail
    refine (ref_Valid k.len k.rd k.cap k.top (by omega)).mono ?_
    rintro e wb ⟨rfl, hxb⟩
    replace bx := bx.ext hxb
    replace h := h.ext hxb
    replace k := k.ext hxb
    replace extW := extW.trans hxb
    clear hxb x0 x1 x2 x3
    have x0 := bx.cell 0 (.bool s) rfl
    have x1 := bx.cell 1 (.slice A n c) rfl
    have x2 := bx.cell 2 (.bool t) rfl
    have x3 := bx.cell 3 (.slice B m d) rfl
    cases hv2 : validB t ys with
    | false =>
      go_wp2_with fail
      go_ret
      exact ⟨by rw [← HR.out]; unfold validQ; rw [hv1, hv2]; rfl, extW⟩
    | true =>
      have H1 := NI.of_raw (L := 3000) h hv1 h1
      have H2 := NI.of_raw (L := 3000) k hv2 h2
      have hvq : validQ s xs t ys = (decide (0 < ival t ys) && decide (((Nat.gcd (val xs) (val ys) : Nat) : Int) = 1)) := by unfold validQ; rw [hv1, hv2]; rfl
      rw [HR.out] at hvq
      have HVQ := Lib.hid hvq
      clear hv1 hv2 hvq HR
      go_wp2_with fail
      refine (q_Sign H2 (by omega)).mono ?_
      rintro e wc ⟨rfl, hxc⟩
      replace bx := bx.ext hxc
      replace H1 := H1.ext hxc
      replace H2 := H2.ext hxc
      replace extW := extW.trans hxc
      clear hxc x0 x1 x2 x3 h k
      have x0 := bx.cell 0 (.bool s) rfl
      have x1 := bx.cell 1 (.slice A n c) rfl
      have x2 := bx.cell 2 (.bool t) rfl
      have x3 := bx.cell 3 (.slice B m d) rfl
      by_cases hp : 0 < ival t ys
      · rw [Int.sign_eq_one_of_pos hp]
        have hvr : r = decide (((Nat.gcd (val xs) (val ys) : Nat) : Int) = 1) := by rw [HVQ.out, decide_eq_true hp, Bool.true_and]
        have HP := Lib.hid hvr
        clear HVQ hvr
        have ab1 := ival_ab s xs
        have ab2 := ival_ab t ys
        clear hp
        go_wp2_with fail
        refine (q_GCD H1 H2 (by omega) (by omega)).mono ?_
        rintro e wd ⟨s1, A1, n1, c1, rfl, hg, hxd⟩
        rw [ab1, ab2] at hg
        go_wp2_with fail
        refine (q_one hg).mono ?_
        rintro e we ⟨rfl, hxe⟩
        go_wp2_with fail
        go_ret
        exact ⟨by rw [HP.out]; rfl, extW.trans (hxd.trans hxe)⟩
      · have hvr : r = false := by rw [HVQ.out, decide_eq_false hp, Bool.false_and]
        subst hvr
        clear HVQ
        have hs : (ival t ys).sign = 0 ∨ (ival t ys).sign = -1 := by
          rcases Int.lt_trichotomy (ival t ys) 0 with h | h | h
          · exact Or.inr (Int.sign_eq_neg_one_of_neg h)
          · exact Or.inl (by rw [h]; rfl)
          · exact absurd h hp
        clear hp
        rcases hs with hs | hs
        · rw [hs]
          go_wp2_with fail
          go_ret
          exact ⟨rfl, extW⟩
        · rw [hs]
          go_wp2_with fail
          go_ret
          exact ⟨rfl, extW⟩
end
section
variable {A : Option Addr} {c n : Nat} {xs : List Nat} {w : World} {s : Bool}
end
section
variable {w w' : World} {z y : Int} {q p : Rat} {L M : Nat} {s t s' t' : Bool} {A B A' B' : Option Addr} {n c m d n' c' m' d' : Nat} {xs ys xs' ys' : List Nat}
end
end Go.Proofs.YtoabhnofppledaaGreatDoor
namespace Go.Proofs.YtoabhnofppledaaGreatDoor
open Go.RowKit
attribute [local go_sem ↓] Go.wp_at_zero Go.wp_at_succ
section
variable {w w' : World} {z y : Int} {q p : Rat} {L M : Nat} {s t s' t' : Bool} {A B A' B' : Option Addr} {n c m d n' c' m' d' : Nat} {xs ys xs' ys' : List Nat}
/-- the quotient, in lowest terms; 0 if the second number is 0. -/
def mkQ (z y : Int) : Rat := if y < 0 then mkRat (-z) (-y).natAbs else mkRat z y.natAbs
set_option maxHeartbeats 8000000 in
theorem p_Make_pos (h : NI w z L s A n c) (k : NI w y M t B m d) (hL : L ≤ 3000) (hM : M ≤ 3000) (hy : 0 < y) (hT : Tab w) : Calls Tryz.prog 108 #[.agg #[.bool s, .slice A n c], .agg #[.bool t, .slice B m d]] w (RetNRE (mkQ z y) (max L M) w) := by
  have hs : y.sign = 1 := Int.sign_eq_one_of_pos hy
  have hq : mkQ z y = mkRat z y.natAbs := if_neg (by omega)
  rw [hq]
  clear hq
  go_enter Tryz.func108, Tryz.ntmps108
  go_upto_region 1 with (fail)
  obtain ⟨W, hW, extW, bx, by_, bz, hz⟩ := box3 w 24 24 26 #[.bool s, .slice A n c] #[.bool t, .slice B m d] #[Value.bool false, Value.slice none 0 0, Value.bool false, Value.slice none 0 0]
  rw [← hW]
  clear hW
  replace h := h.ext extW
  replace k := k.ext extW
  refine wpL.start 4 (by kernel_rfl) (fun _ _ _ _ _ => ⟨fun h => h, fun h => h⟩) (fun hQ ES => ?_)
  refine wpL.take (i := 0) (d := some 7) (v := ?v0_110) rfl rfl (by kernel_rfl) (by kernel_rfl) (by kernel_rfl) (by kernel_rfl) hQ (Or.inl ⟨by rfl, ?y0_110⟩) ES ?r0_110
  case y0_110 =>
    intro w' hSw
    have k00 := (bx.ext hSw).c2
    have k10 := (by_.ext hSw).c2
    go_simp
    try with_reducible rfl
  try simp only [Act.put]
  try simp only [List.setIfInBounds_toArray]
  try simp only [List.set_cons_succ]
  try simp only [List.set_cons_zero]
  refine wpL.take2 3 (i := 2) (d := some 9) (v := ?v2_111) rfl rfl (by kernel_rfl) (by kernel_rfl) (by kernel_rfl) (by kernel_rfl) hQ (Or.inl ⟨by rfl, ?y2_111⟩) ES ?r2_111
  case y2_111 =>
    intro w' hSw
    have k00 := (bx.ext hSw).c2
    have k10 := (by_.ext hSw).c2
    go_simp
    try with_reducible rfl
  try simp only [Act.put]
  try simp only [List.setIfInBounds_toArray]
  try simp only [List.set_cons_succ]
  try simp only [List.set_cons_zero]
  refine wpL.call (i := 1) rfl (by kernel_rfl) (fun K hK => ?_)
  go_simp
  (go_at_call 135; refine (p_Norm (h.ext ES) (by omega)).mono ?_; rintro e wk1 ⟨s1, A1, n1, c1, rfl, h1, hx0⟩; have E0_1 := Ext.trans ES hx0)
  refine hK.out _ _ E0_1 ?_
  clear hK K
  try simp only [Act.put]
  try simp only [List.setIfInBounds_toArray]
  try simp only [List.set_cons_succ]
  try simp only [List.set_cons_zero]
  refine wpL.call (i := 3) rfl (by kernel_rfl) (fun K hK => ?_)
  go_simp
  (go_at_call 135; refine (p_Norm (k.ext E0_1) (by omega)).mono ?_; rintro e wk2 ⟨s2, A2, n2, c2, rfl, h2, hx1⟩; have E1_1 := Ext.trans E0_1 hx1)
  refine hK.out _ _ E1_1 ?_
  clear hK K
  try simp only [Act.put]
  try simp only [List.setIfInBounds_toArray]
  try simp only [List.set_cons_succ]
  try simp only [List.set_cons_zero]
  have z0 := (bx.ext E1_1).cell 0 _ rfl
  have z1 := (bx.ext E1_1).cell 1 _ rfl
  have f0 := (bx.ext E1_1).frozen 0
  have f1 := (bx.ext E1_1).frozen 1
  have u0 := (by_.ext E1_1).cell 0 _ rfl
  have u1 := (by_.ext E1_1).cell 1 _ rfl
  have v0 := (by_.ext E1_1).frozen 0
  have v1 := (by_.ext E1_1).frozen 1
  refine wpL.tail (i := 4) rfl (by kernel_rfl) (by kernel_rfl) (fun K hK => ?_)
  go_simp
  refine hK.out _ _ ?_
  clear hK K
  try simp only [Act.put]
  try simp only [List.setIfInBounds_toArray]
  try simp only [List.set_cons_succ]
  try simp only [List.set_cons_zero]
  refine wpL.tail (i := 5) rfl (by kernel_rfl) (by kernel_rfl) (fun K hK => ?_)
  go_simp
  refine hK.out _ _ ?_
  clear hK K
  try simp only [Act.put]
  try simp only [List.setIfInBounds_toArray]
  try simp only [List.set_cons_succ]
  try simp only [List.set_cons_zero]
  refine wpL.done (by kernel_rfl) ?_ _
  clear hQ
  refine at_exit (fun U => Ext w U ∧ Box U w.heap.size 24 #[.bool s1, .slice A1 n1 c1] ∧ Box U (w.heap.size + 1) 24 #[.bool s2, .slice A2 n2 c2] ∧ Box U (w.heap.size + 1 + 1) 26 #[Value.bool false, Value.slice none 0 0, Value.bool false, Value.slice none 0 0] ∧ NI U (z) L s1 A1 n1 c1 ∧ NI U (y) M s2 A2 n2 c2) ?_ ?_
  · have q1 := fin_dual (s := s1) (A := A1) (n := n1) (c := c1) (bx.ext E1_1)
    have q2 := fin_dual (s := s2) (A := A2) (n := n2) (c := c2) (q1.2.2.2 _ _ _ (by omega) (by_.ext E1_1))
    exact ⟨q2.2.2.1 _ (q1.2.2.1 _ (extW.trans E1_1) (by omega)) (by omega), q2.2.2.2 _ _ _ (by omega) q1.1, q2.1, q2.2.2.2 _ _ _ (by omega) (q1.2.2.2 _ _ _ (by omega) (bz.ext E1_1)), q2.2.1 _ _ _ _ _ _ (q1.2.1 _ _ _ _ _ _ (h1.ext hx1)), q2.2.1 _ _ _ _ _ _ (q1.2.1 _ _ _ _ _ _ h2)⟩
  clear extW bx by_ bz h k
  rintro U ⟨extW, bx, by_, bz, h, k⟩
  have y0 := by_.cell 0 (.bool s2) rfl
  have y1 := by_.cell 1 (.slice A2 n2 c2) rfl
  go_wp2_with fail
  refine (p_Sign k (by omega)).mono ?_
  rintro e V ⟨rfl, hxa⟩
  replace bx := bx.ext hxa
  replace by_ := by_.ext hxa
  replace bz := bz.ext hxa
  replace h := h.ext hxa
  replace k := k.ext hxa
  replace extW := extW.trans hxa
  clear hxa y0 y1
  rw [hs]
  have x0 := bx.cell 0 (.bool s1) rfl
  have x1 := bx.cell 1 (.slice A1 n1 c1) rfl
  have y0 := by_.cell 0 (.bool s2) rfl
  have y1 := by_.cell 1 (.slice A2 n2 c2) rfl
  go_wp2_with fail
  refine (p_GCD h k (by omega) (by omega) (hT.ext extW)).mono ?_
  rintro e we ⟨s4, A4, n4, c4, rfl, hg, hxe⟩
  obtain ⟨g, hge⟩ : ∃ g, Nat.gcd (z).natAbs (y).natAbs = g := ⟨_, rfl⟩
  rw [hge] at hg
  have hgz : g ∣ (z).natAbs := by rw [← hge]; exact Nat.gcd_dvd_left _ _
  have hgy : g ∣ (y).natAbs := by rw [← hge]; exact Nat.gcd_dvd_right _ _
  have hy0 : (y).natAbs ≠ 0 := by omega
  have hg0 : (g : Int) ≠ 0 := by
    intro h0
    have : g = 0 := by omega
    rw [this] at hgy
    exact hy0 (Nat.eq_zero_of_zero_dvd hgy)
  obtain ⟨m1, m2⟩ := mkRat_parts (z) (D := (y).natAbs) hy0
  rw [hge] at m1 m2
  have Hm1 := Lib.hid m1
  have Hm2 := Lib.hid m2
  have Hg0 := Lib.hid hg0
  have Hgz := Lib.hid (Int.ofNat_dvd_left.2 hgz)
  have Hgy := Lib.hid (Int.ofNat_dvd_left.2 hgy)
  have Hya := Lib.hid (show (((y).natAbs : Nat) : Int) = y from Int.natAbs_of_nonneg (by omega))
  clear hge hg0 hgz hgy m1 m2 hy0 x0 x1 y0 y1
  go_upto_region 8 with (fail)
  refine at_world (fun V9 => Ext V V9 ∧ Box V9 we.heap.size 24 #[.bool s4, .slice A4 n4 c4] ∧ NI V9 (g : Int) (max L M) s4 A4 n4 c4) ⟨hxe.alloc _, Box.new we _ _, hg.ext ((Ext.refl we).alloc _)⟩ ?_
  generalize we.heap.size = g8
  clear hxe hg
  rintro V9 ⟨EV, b8, hg⟩
  replace bx := bx.ext EV
  replace by_ := by_.ext EV
  replace bz := bz.ext EV
  replace h := h.ext EV
  replace k := k.ext EV
  replace extW := extW.trans EV
  clear EV
  go_wp2_with fail
  refine wpL.start 7 (by kernel_rfl) (fun _ _ _ _ _ => ⟨fun h => h, fun h => h⟩) (fun hQ ES => ?_)
  refine wpL.take (i := 0) (d := some 25) (v := ?v0_112) rfl rfl (by kernel_rfl) (by kernel_rfl) (by kernel_rfl) (by kernel_rfl) hQ (Or.inl ⟨by rfl, ?y0_112⟩) ES ?r0_112
  case y0_112 =>
    intro w' hSw
    have k00 := (bx.ext hSw).c2
    have k10 := (by_.ext hSw).c2
    have k20 := (b8.ext hSw).c2
    go_simp
    try with_reducible rfl
  try simp only [Act.put]
  try simp only [List.setIfInBounds_toArray]
  try simp only [List.set_cons_succ]
  try simp only [List.set_cons_zero]
  refine wpL.take (i := 1) (d := some 26) (v := ?v1_113) rfl rfl (by kernel_rfl) (by kernel_rfl) (by kernel_rfl) (by kernel_rfl) hQ (Or.inl ⟨by rfl, ?y1_113⟩) ES ?r1_113
  case y1_113 =>
    intro w' hSw
    have k00 := (bx.ext hSw).c2
    have k10 := (by_.ext hSw).c2
    have k20 := (b8.ext hSw).c2
    go_simp
    try with_reducible rfl
  try simp only [Act.put]
  try simp only [List.setIfInBounds_toArray]
  try simp only [List.set_cons_succ]
  try simp only [List.set_cons_zero]
  refine wpL.take (i := 3) (d := some 28) (v := ?v3_114) rfl rfl (by kernel_rfl) (by kernel_rfl) (by kernel_rfl) (by kernel_rfl) hQ (Or.inl ⟨by rfl, ?y3_114⟩) ES ?r3_114
  case y3_114 =>
    intro w' hSw
    have k00 := (bx.ext hSw).c2
    have k10 := (by_.ext hSw).c2
    have k20 := (b8.ext hSw).c2
    go_simp
    try with_reducible rfl
  try simp only [Act.put]
  try simp only [List.setIfInBounds_toArray]
  try simp only [List.set_cons_succ]
  try simp only [List.set_cons_zero]
  refine wpL.take (i := 4) (d := some 29) (v := ?v4_115) rfl rfl (by kernel_rfl) (by kernel_rfl) (by kernel_rfl) (by kernel_rfl) hQ (Or.inl ⟨by rfl, ?y4_115⟩) ES ?r4_115
  case y4_115 =>
    intro w' hSw
    have k00 := (bx.ext hSw).c2
    have k10 := (by_.ext hSw).c2
    have k20 := (b8.ext hSw).c2
    go_simp
    try with_reducible rfl
  try simp only [Act.put]
  try simp only [List.setIfInBounds_toArray]
  try simp only [List.set_cons_succ]
  try simp only [List.set_cons_zero]
  refine wpL.call (i := 2) rfl (by kernel_rfl) (fun K hK => ?_)
  go_simp
  (go_at_call 102; refine (p_divide (h.ext ES) (hg.ext ES) (by omega) (by omega) Hg0.out Hgz.out).mono ?_; rintro e wk5 ⟨s5, A5, n5, c5, rfl, h5, hx0⟩; have E0_8 := Ext.trans ES hx0)
  refine hK.out _ _ E0_8 ?_
  clear hK K
  try simp only [Act.put]
  try simp only [List.setIfInBounds_toArray]
  try simp only [List.set_cons_succ]
  try simp only [List.set_cons_zero]
  refine wpL.call (i := 5) rfl (by kernel_rfl) (fun K hK => ?_)
  go_simp
  (go_at_call 102; refine (p_divide (k.ext E0_8) (hg.ext E0_8) (by omega) (by omega) Hg0.out Hgy.out).mono ?_; rintro e wk6 ⟨s6, A6, n6, c6, rfl, h6, hx1⟩; have E1_8 := Ext.trans E0_8 hx1)
  refine hK.out _ _ E1_8 ?_
  clear hK K
  try simp only [Act.put]
  try simp only [List.setIfInBounds_toArray]
  try simp only [List.set_cons_succ]
  try simp only [List.set_cons_zero]
  refine wpL.take (i := 6) (d := some 31) (v := ?v6_116) rfl rfl (by kernel_rfl) (by kernel_rfl) (by kernel_rfl) (by kernel_rfl) hQ (Or.inl ⟨by rfl, ?y6_116⟩) E1_8 ?r6_116
  case y6_116 =>
    intro w' hSw
    have k00 := (bx.ext hSw).c2
    have k10 := (by_.ext hSw).c2
    have k20 := (b8.ext hSw).c2
    go_simp
    try with_reducible rfl
  try simp only [Act.put]
  try simp only [List.setIfInBounds_toArray]
  try simp only [List.set_cons_succ]
  try simp only [List.set_cons_zero]
  have z0 := (bz.ext E1_8).cell 0 _ rfl
  have z1 := (bz.ext E1_8).cell 1 _ rfl
  have z2 := (bz.ext E1_8).cell 2 _ rfl
  have z3 := (bz.ext E1_8).cell 3 _ rfl
  have f0 := (bz.ext E1_8).frozen 0
  have f1 := (bz.ext E1_8).frozen 1
  have f2 := (bz.ext E1_8).frozen 2
  have f3 := (bz.ext E1_8).frozen 3
  refine wpL.tail (i := 7) rfl (by kernel_rfl) (by kernel_rfl) (fun K hK => ?_)
  go_simp
  refine hK.out _ _ ?_
  clear hK K
  try simp only [Act.put]
  try simp only [List.setIfInBounds_toArray]
  try simp only [List.set_cons_succ]
  try simp only [List.set_cons_zero]
  refine wpL.tail (i := 8) rfl (by kernel_rfl) (by kernel_rfl) (fun K hK => ?_)
  go_simp
  refine hK.out _ _ ?_
  clear hK K
  try simp only [Act.put]
  try simp only [List.setIfInBounds_toArray]
  try simp only [List.set_cons_succ]
  try simp only [List.set_cons_zero]
  refine wpL.done (by kernel_rfl) ?_ _
  clear hQ
  go_wp2_with fail
  have hk1 : (y) / (g : Int) = ((mkRat (z) (y).natAbs).den : Int) := by rw [Hm2.out, Int.natCast_ediv, Hya.out]
  rw [hk1] at h6
  rw [← Hm1.out] at h5
  obtain ⟨b1, b2, b3, b4⟩ := fin_quad (s := s5) (A := A5) (n := n5) (c := c5) (t := s6) (B := A6) (m := n6) (d := c6) (bz.ext E1_8)
  have r0 := b1.cell 0 (.bool s5) rfl
  have r1 := b1.cell 1 (.slice A5 n5 c5) rfl
  have r2 := b1.cell 2 (.bool s6) rfl
  have r3 := b1.cell 3 (.slice A6 n6 c6) rfl
  unfold set4 at r0 r1 r2 r3
  refine bodyPost_ret (v := .tuple #[.agg #[.bool s5, .slice A5 n5 c5, .bool s6, .slice A6 n6 c6], .int .i64 0]) (by simp [results, Tryz.results108, go_sem, r0, r1, r2, r3]) rfl ⟨s5, A5, n5, c5, s6, A6, n6, c6, rfl, ⟨(b2 _ _ _ _ _ _ (h5.ext hx1)).le (by omega), (b2 _ _ _ _ _ _ h6).le (by omega)⟩, b3 _ (extW.trans E1_8) (by omega)⟩
set_option maxHeartbeats 8000000 in
theorem p_Make_neg (h : NI w z L s A n c) (k : NI w y M t B m d) (hL : L ≤ 3000) (hM : M ≤ 3000) (hy : y < 0) (hT : Tab w) : Calls Tryz.prog 108 #[.agg #[.bool s, .slice A n c], .agg #[.bool t, .slice B m d]] w (RetNRE (mkQ z y) (max L M) w) := by
  have hs : y.sign = -1 := Int.sign_eq_neg_one_of_neg hy
  have hq : mkQ z y = mkRat (-z) (-y).natAbs := if_pos hy
  rw [hq]
  clear hq
  go_enter Tryz.func108, Tryz.ntmps108
  go_upto_region 1 with (fail)
  obtain ⟨W, hW, extW, bx, by_, bz, hz⟩ := box3 w 24 24 26 #[.bool s, .slice A n c] #[.bool t, .slice B m d] #[Value.bool false, Value.slice none 0 0, Value.bool false, Value.slice none 0 0]
  rw [← hW]
  clear hW
  replace h := h.ext extW
  replace k := k.ext extW
  refine wpL.start 4 (by kernel_rfl) (fun _ _ _ _ _ => ⟨fun h => h, fun h => h⟩) (fun hQ ES => ?_)
  refine wpL.take (i := 0) (d := some 7) (v := ?v0_117) rfl rfl (by kernel_rfl) (by kernel_rfl) (by kernel_rfl) (by kernel_rfl) hQ (Or.inl ⟨by rfl, ?y0_117⟩) ES ?r0_117
  case y0_117 =>
    intro w' hSw
    have k00 := (bx.ext hSw).c2
    have k10 := (by_.ext hSw).c2
    go_simp
    try with_reducible rfl
  try simp only [Act.put]
  try simp only [List.setIfInBounds_toArray]
  try simp only [List.set_cons_succ]
  try simp only [List.set_cons_zero]
  refine wpL.take2 3 (i := 2) (d := some 9) (v := ?v2_118) rfl rfl (by kernel_rfl) (by kernel_rfl) (by kernel_rfl) (by kernel_rfl) hQ (Or.inl ⟨by rfl, ?y2_118⟩) ES ?r2_118
  case y2_118 =>
    intro w' hSw
    have k00 := (bx.ext hSw).c2
    have k10 := (by_.ext hSw).c2
    go_simp
    try with_reducible rfl
  try simp only [Act.put]
  try simp only [List.setIfInBounds_toArray]
  try simp only [List.set_cons_succ]
  try simp only [List.set_cons_zero]
  refine wpL.call (i := 1) rfl (by kernel_rfl) (fun K hK => ?_)
  go_simp
  (go_at_call 135; refine (p_Norm (h.ext ES) (by omega)).mono ?_; rintro e wk1 ⟨s1, A1, n1, c1, rfl, h1, hx0⟩; have E0_1 := Ext.trans ES hx0)
  refine hK.out _ _ E0_1 ?_
  clear hK K
  try simp only [Act.put]
  try simp only [List.setIfInBounds_toArray]
  try simp only [List.set_cons_succ]
  try simp only [List.set_cons_zero]
  refine wpL.call (i := 3) rfl (by kernel_rfl) (fun K hK => ?_)
  go_simp
  (go_at_call 135; refine (p_Norm (k.ext E0_1) (by omega)).mono ?_; rintro e wk2 ⟨s2, A2, n2, c2, rfl, h2, hx1⟩; have E1_1 := Ext.trans E0_1 hx1)
  refine hK.out _ _ E1_1 ?_
  clear hK K
  try simp only [Act.put]
  try simp only [List.setIfInBounds_toArray]
  try simp only [List.set_cons_succ]
  try simp only [List.set_cons_zero]
  have z0 := (bx.ext E1_1).cell 0 _ rfl
  have z1 := (bx.ext E1_1).cell 1 _ rfl
  have f0 := (bx.ext E1_1).frozen 0
  have f1 := (bx.ext E1_1).frozen 1
  have u0 := (by_.ext E1_1).cell 0 _ rfl
  have u1 := (by_.ext E1_1).cell 1 _ rfl
  have v0 := (by_.ext E1_1).frozen 0
  have v1 := (by_.ext E1_1).frozen 1
  refine wpL.tail (i := 4) rfl (by kernel_rfl) (by kernel_rfl) (fun K hK => ?_)
  go_simp
  refine hK.out _ _ ?_
  clear hK K
  try simp only [Act.put]
  try simp only [List.setIfInBounds_toArray]
  try simp only [List.set_cons_succ]
  try simp only [List.set_cons_zero]
  refine wpL.tail (i := 5) rfl (by kernel_rfl) (by kernel_rfl) (fun K hK => ?_)
  go_simp
  refine hK.out _ _ ?_
  clear hK K
  try simp only [Act.put]
  try simp only [List.setIfInBounds_toArray]
  try simp only [List.set_cons_succ]
  try simp only [List.set_cons_zero]
  refine wpL.done (by kernel_rfl) ?_ _
  clear hQ
  refine at_exit (fun U => Ext w U ∧ Box U w.heap.size 24 #[.bool s1, .slice A1 n1 c1] ∧ Box U (w.heap.size + 1) 24 #[.bool s2, .slice A2 n2 c2] ∧ Box U (w.heap.size + 1 + 1) 26 #[Value.bool false, Value.slice none 0 0, Value.bool false, Value.slice none 0 0] ∧ NI U (z) L s1 A1 n1 c1 ∧ NI U (y) M s2 A2 n2 c2) ?_ ?_
  · have q1 := fin_dual (s := s1) (A := A1) (n := n1) (c := c1) (bx.ext E1_1)
    have q2 := fin_dual (s := s2) (A := A2) (n := n2) (c := c2) (q1.2.2.2 _ _ _ (by omega) (by_.ext E1_1))
    exact ⟨q2.2.2.1 _ (q1.2.2.1 _ (extW.trans E1_1) (by omega)) (by omega), q2.2.2.2 _ _ _ (by omega) q1.1, q2.1, q2.2.2.2 _ _ _ (by omega) (q1.2.2.2 _ _ _ (by omega) (bz.ext E1_1)), q2.2.1 _ _ _ _ _ _ (q1.2.1 _ _ _ _ _ _ (h1.ext hx1)), q2.2.1 _ _ _ _ _ _ (q1.2.1 _ _ _ _ _ _ h2)⟩
  clear extW bx by_ bz h k
  rintro U ⟨extW, bx, by_, bz, h, k⟩
  have y0 := by_.cell 0 (.bool s2) rfl
  have y1 := by_.cell 1 (.slice A2 n2 c2) rfl
  go_wp2_with fail
  refine (p_Sign k (by omega)).mono ?_
  rintro e V ⟨rfl, hxa⟩
  replace bx := bx.ext hxa
  replace by_ := by_.ext hxa
  replace bz := bz.ext hxa
  replace h := h.ext hxa
  replace k := k.ext hxa
  replace extW := extW.trans hxa
  clear hxa y0 y1
  rw [hs]
  go_upto_region 6 with (fail)
  refine wpL.start 4 (by kernel_rfl) (fun _ _ _ _ _ => ⟨fun h => h, fun h => h⟩) (fun hQ ES => ?_)
  refine wpL.take (i := 0) (d := some 18) (v := ?v0_106) rfl rfl (by kernel_rfl) (by kernel_rfl) (by kernel_rfl) (by kernel_rfl) hQ (Or.inl ⟨by rfl, ?y0_106⟩) ES ?r0_106
  case y0_106 =>
    intro w' hSw
    have k00 := (bx.ext hSw).c2
    have k10 := (by_.ext hSw).c2
    go_simp
    try with_reducible rfl
  try simp only [Act.put]
  try simp only [List.setIfInBounds_toArray]
  try simp only [List.set_cons_succ]
  try simp only [List.set_cons_zero]
  refine wpL.take2 3 (i := 2) (d := some 20) (v := ?v2_107) rfl rfl (by kernel_rfl) (by kernel_rfl) (by kernel_rfl) (by kernel_rfl) hQ (Or.inl ⟨by rfl, ?y2_107⟩) ES ?r2_107
  case y2_107 =>
    intro w' hSw
    have k00 := (bx.ext hSw).c2
    have k10 := (by_.ext hSw).c2
    go_simp
    try with_reducible rfl
  try simp only [Act.put]
  try simp only [List.setIfInBounds_toArray]
  try simp only [List.set_cons_succ]
  try simp only [List.set_cons_zero]
  refine wpL.call (i := 1) rfl (by kernel_rfl) (fun K hK => ?_)
  go_simp
  (go_at_call 111; refine (p_Neg (h.ext ES) (by omega)).mono ?_; rintro e wk3 ⟨s3, A3, n3, c3, rfl, h1, hx0⟩; have E0_6 := Ext.trans ES hx0)
  refine hK.out _ _ E0_6 ?_
  clear hK K
  try simp only [Act.put]
  try simp only [List.setIfInBounds_toArray]
  try simp only [List.set_cons_succ]
  try simp only [List.set_cons_zero]
  refine wpL.call (i := 3) rfl (by kernel_rfl) (fun K hK => ?_)
  go_simp
  (go_at_call 111; refine (p_Neg (k.ext E0_6) (by omega)).mono ?_; rintro e wk4 ⟨s3', A3', n3', c3', rfl, h2, hx1⟩; have E1_6 := Ext.trans E0_6 hx1)
  refine hK.out _ _ E1_6 ?_
  clear hK K
  try simp only [Act.put]
  try simp only [List.setIfInBounds_toArray]
  try simp only [List.set_cons_succ]
  try simp only [List.set_cons_zero]
  have z0 := (bx.ext E1_6).cell 0 _ rfl
  have z1 := (bx.ext E1_6).cell 1 _ rfl
  have f0 := (bx.ext E1_6).frozen 0
  have f1 := (bx.ext E1_6).frozen 1
  have u0 := (by_.ext E1_6).cell 0 _ rfl
  have u1 := (by_.ext E1_6).cell 1 _ rfl
  have v0 := (by_.ext E1_6).frozen 0
  have v1 := (by_.ext E1_6).frozen 1
  refine wpL.tail (i := 4) rfl (by kernel_rfl) (by kernel_rfl) (fun K hK => ?_)
  go_simp
  refine hK.out _ _ ?_
  clear hK K
  try simp only [Act.put]
  try simp only [List.setIfInBounds_toArray]
  try simp only [List.set_cons_succ]
  try simp only [List.set_cons_zero]
  refine wpL.tail (i := 5) rfl (by kernel_rfl) (by kernel_rfl) (fun K hK => ?_)
  go_simp
  refine hK.out _ _ ?_
  clear hK K
  try simp only [Act.put]
  try simp only [List.setIfInBounds_toArray]
  try simp only [List.set_cons_succ]
  try simp only [List.set_cons_zero]
  refine wpL.done (by kernel_rfl) ?_ _
  clear hQ
  refine at_exit (fun V2 => Ext w V2 ∧ Box V2 w.heap.size 24 #[.bool s3, .slice A3 n3 c3] ∧ Box V2 (w.heap.size + 1) 24 #[.bool s3', .slice A3' n3' c3'] ∧ Box V2 (w.heap.size + 1 + 1) 26 #[Value.bool false, Value.slice none 0 0, Value.bool false, Value.slice none 0 0] ∧ NI V2 (-z) L s3 A3 n3 c3 ∧ NI V2 (-y) M s3' A3' n3' c3') ?_ ?_
  · have q1 := fin_dual (s := s3) (A := A3) (n := n3) (c := c3) (bx.ext E1_6)
    have q2 := fin_dual (s := s3') (A := A3') (n := n3') (c := c3') (q1.2.2.2 _ _ _ (by omega) (by_.ext E1_6))
    exact ⟨q2.2.2.1 _ (q1.2.2.1 _ (extW.trans E1_6) (by omega)) (by omega), q2.2.2.2 _ _ _ (by omega) q1.1, q2.1, q2.2.2.2 _ _ _ (by omega) (q1.2.2.2 _ _ _ (by omega) (bz.ext E1_6)), q2.2.1 _ _ _ _ _ _ (q1.2.1 _ _ _ _ _ _ (h1.ext hx1)), q2.2.1 _ _ _ _ _ _ (q1.2.1 _ _ _ _ _ _ h2)⟩
  clear extW bx by_ bz h k
  rintro V2 ⟨extW, bx, by_, bz, h, k⟩
  have x0 := bx.cell 0 (.bool s3) rfl
  have x1 := bx.cell 1 (.slice A3 n3 c3) rfl
  have y0 := by_.cell 0 (.bool s3') rfl
  have y1 := by_.cell 1 (.slice A3' n3' c3') rfl
  go_wp2_with fail
  refine (p_GCD h k (by omega) (by omega) (hT.ext extW)).mono ?_
  rintro e we ⟨s4, A4, n4, c4, rfl, hg, hxe⟩
  obtain ⟨g, hge⟩ : ∃ g, Nat.gcd (-z).natAbs (-y).natAbs = g := ⟨_, rfl⟩
  rw [hge] at hg
  have hgz : g ∣ (-z).natAbs := by rw [← hge]; exact Nat.gcd_dvd_left _ _
  have hgy : g ∣ (-y).natAbs := by rw [← hge]; exact Nat.gcd_dvd_right _ _
  have hy0 : (-y).natAbs ≠ 0 := by omega
  have hg0 : (g : Int) ≠ 0 := by
    intro h0
    have : g = 0 := by omega
    rw [this] at hgy
    exact hy0 (Nat.eq_zero_of_zero_dvd hgy)
  obtain ⟨m1, m2⟩ := mkRat_parts (-z) (D := (-y).natAbs) hy0
  rw [hge] at m1 m2
  have Hm1 := Lib.hid m1
  have Hm2 := Lib.hid m2
  have Hg0 := Lib.hid hg0
  have Hgz := Lib.hid (Int.ofNat_dvd_left.2 hgz)
  have Hgy := Lib.hid (Int.ofNat_dvd_left.2 hgy)
  have Hya := Lib.hid (show (((-y).natAbs : Nat) : Int) = -y from Int.natAbs_of_nonneg (by omega))
  clear hge hg0 hgz hgy m1 m2 hy0 x0 x1 y0 y1
  go_upto_region 8 with (fail)
  refine at_world (fun V9 => Ext V2 V9 ∧ Box V9 we.heap.size 24 #[.bool s4, .slice A4 n4 c4] ∧ NI V9 (g : Int) (max L M) s4 A4 n4 c4) ⟨hxe.alloc _, Box.new we _ _, hg.ext ((Ext.refl we).alloc _)⟩ ?_
  generalize we.heap.size = g8
  clear hxe hg
  rintro V9 ⟨EV, b8, hg⟩
  replace bx := bx.ext EV
  replace by_ := by_.ext EV
  replace bz := bz.ext EV
  replace h := h.ext EV
  replace k := k.ext EV
  replace extW := extW.trans EV
  clear EV
  go_wp2_with fail
  refine wpL.start 7 (by kernel_rfl) (fun _ _ _ _ _ => ⟨fun h => h, fun h => h⟩) (fun hQ ES => ?_)
  refine wpL.take (i := 0) (d := some 25) (v := ?v0_119) rfl rfl (by kernel_rfl) (by kernel_rfl) (by kernel_rfl) (by kernel_rfl) hQ (Or.inl ⟨by rfl, ?y0_119⟩) ES ?r0_119
  case y0_119 =>
    intro w' hSw
    have k00 := (bx.ext hSw).c2
    have k10 := (by_.ext hSw).c2
    have k20 := (b8.ext hSw).c2
    go_simp
    try with_reducible rfl
  try simp only [Act.put]
  try simp only [List.setIfInBounds_toArray]
  try simp only [List.set_cons_succ]
  try simp only [List.set_cons_zero]
  refine wpL.take (i := 1) (d := some 26) (v := ?v1_120) rfl rfl (by kernel_rfl) (by kernel_rfl) (by kernel_rfl) (by kernel_rfl) hQ (Or.inl ⟨by rfl, ?y1_120⟩) ES ?r1_120
  case y1_120 =>
    intro w' hSw
    have k00 := (bx.ext hSw).c2
    have k10 := (by_.ext hSw).c2
    have k20 := (b8.ext hSw).c2
    go_simp
    try with_reducible rfl
  try simp only [Act.put]
  try simp only [List.setIfInBounds_toArray]
  try simp only [List.set_cons_succ]
  try simp only [List.set_cons_zero]
  refine wpL.take (i := 3) (d := some 28) (v := ?v3_121) rfl rfl (by kernel_rfl) (by kernel_rfl) (by kernel_rfl) (by kernel_rfl) hQ (Or.inl ⟨by rfl, ?y3_121⟩) ES ?r3_121
  case y3_121 =>
    intro w' hSw
    have k00 := (bx.ext hSw).c2
    have k10 := (by_.ext hSw).c2
    have k20 := (b8.ext hSw).c2
    go_simp
    try with_reducible rfl
  try simp only [Act.put]
  try simp only [List.setIfInBounds_toArray]
  try simp only [List.set_cons_succ]
  try simp only [List.set_cons_zero]
  refine wpL.take (i := 4) (d := some 29) (v := ?v4_122) rfl rfl (by kernel_rfl) (by kernel_rfl) (by kernel_rfl) (by kernel_rfl) hQ (Or.inl ⟨by rfl, ?y4_122⟩) ES ?r4_122
  case y4_122 =>
    intro w' hSw
    have k00 := (bx.ext hSw).c2
    have k10 := (by_.ext hSw).c2
    have k20 := (b8.ext hSw).c2
    go_simp
    try with_reducible rfl
  try simp only [Act.put]
  try simp only [List.setIfInBounds_toArray]
  try simp only [List.set_cons_succ]
  try simp only [List.set_cons_zero]
  refine wpL.call (i := 2) rfl (by kernel_rfl) (fun K hK => ?_)
  go_simp
  (go_at_call 102; refine (p_divide (h.ext ES) (hg.ext ES) (by omega) (by omega) Hg0.out Hgz.out).mono ?_; rintro e wk5 ⟨s5, A5, n5, c5, rfl, h5, hx0⟩; have E0_8 := Ext.trans ES hx0)
  refine hK.out _ _ E0_8 ?_
  clear hK K
  try simp only [Act.put]
  try simp only [List.setIfInBounds_toArray]
  try simp only [List.set_cons_succ]
  try simp only [List.set_cons_zero]
  refine wpL.call (i := 5) rfl (by kernel_rfl) (fun K hK => ?_)
  go_simp
  (go_at_call 102; refine (p_divide (k.ext E0_8) (hg.ext E0_8) (by omega) (by omega) Hg0.out Hgy.out).mono ?_; rintro e wk6 ⟨s6, A6, n6, c6, rfl, h6, hx1⟩; have E1_8 := Ext.trans E0_8 hx1)
  refine hK.out _ _ E1_8 ?_
  clear hK K
  try simp only [Act.put]
  try simp only [List.setIfInBounds_toArray]
  try simp only [List.set_cons_succ]
  try simp only [List.set_cons_zero]
  refine wpL.take (i := 6) (d := some 31) (v := ?v6_123) rfl rfl (by kernel_rfl) (by kernel_rfl) (by kernel_rfl) (by kernel_rfl) hQ (Or.inl ⟨by rfl, ?y6_123⟩) E1_8 ?r6_123
  case y6_123 =>
    intro w' hSw
    have k00 := (bx.ext hSw).c2
    have k10 := (by_.ext hSw).c2
    have k20 := (b8.ext hSw).c2
    go_simp
    try with_reducible rfl
  try simp only [Act.put]
  try simp only [List.setIfInBounds_toArray]
  try simp only [List.set_cons_succ]
  try simp only [List.set_cons_zero]
  have z0 := (bz.ext E1_8).cell 0 _ rfl
  have z1 := (bz.ext E1_8).cell 1 _ rfl
  have z2 := (bz.ext E1_8).cell 2 _ rfl
  have z3 := (bz.ext E1_8).cell 3 _ rfl
  have f0 := (bz.ext E1_8).frozen 0
  have f1 := (bz.ext E1_8).frozen 1
  have f2 := (bz.ext E1_8).frozen 2
  have f3 := (bz.ext E1_8).frozen 3
  refine wpL.tail (i := 7) rfl (by kernel_rfl) (by kernel_rfl) (fun K hK => ?_)
  go_simp
  refine hK.out _ _ ?_
  clear hK K
  try simp only [Act.put]
  try simp only [List.setIfInBounds_toArray]
  try simp only [List.set_cons_succ]
  try simp only [List.set_cons_zero]
  refine wpL.tail (i := 8) rfl (by kernel_rfl) (by kernel_rfl) (fun K hK => ?_)
  go_simp
  refine hK.out _ _ ?_
  clear hK K
  try simp only [Act.put]
  try simp only [List.setIfInBounds_toArray]
  try simp only [List.set_cons_succ]
  try simp only [List.set_cons_zero]
  refine wpL.done (by kernel_rfl) ?_ _
  clear hQ
  go_wp2_with fail
  have hk1 : (-y) / (g : Int) = ((mkRat (-z) (-y).natAbs).den : Int) := by rw [Hm2.out, Int.natCast_ediv, Hya.out]
  rw [hk1] at h6
  rw [← Hm1.out] at h5
  obtain ⟨b1, b2, b3, b4⟩ := fin_quad (s := s5) (A := A5) (n := n5) (c := c5) (t := s6) (B := A6) (m := n6) (d := c6) (bz.ext E1_8)
  have r0 := b1.cell 0 (.bool s5) rfl
  have r1 := b1.cell 1 (.slice A5 n5 c5) rfl
  have r2 := b1.cell 2 (.bool s6) rfl
  have r3 := b1.cell 3 (.slice A6 n6 c6) rfl
  unfold set4 at r0 r1 r2 r3
  refine bodyPost_ret (v := .tuple #[.agg #[.bool s5, .slice A5 n5 c5, .bool s6, .slice A6 n6 c6], .int .i64 0]) (by simp [results, Tryz.results108, go_sem, r0, r1, r2, r3]) rfl ⟨s5, A5, n5, c5, s6, A6, n6, c6, rfl, ⟨(b2 _ _ _ _ _ _ (h5.ext hx1)).le (by omega), (b2 _ _ _ _ _ _ h6).le (by omega)⟩, b3 _ (extW.trans E1_8) (by omega)⟩
theorem p_Make_nz (h : NI w z L s A n c) (k : NI w y M t B m d) (hL : L ≤ 3000) (hM : M ≤ 3000) (hy : y ≠ 0) (hT : Tab w) : Calls Tryz.prog 108 #[.agg #[.bool s, .slice A n c], .agg #[.bool t, .slice B m d]] w (RetNRE (mkQ z y) (max L M) w) := by
  rcases Int.lt_trichotomy y 0 with h1 | h1 | h1
  · exact p_Make_neg h k hL hM h1 hT
  · exact absurd h1 hy
  · exact p_Make_pos h k hL hM h1 hT
end
end Go.Proofs.YtoabhnofppledaaGreatDoor
namespace Go.Proofs.YtoabhnofppledaaGreatDoor
open Go.RowKit
attribute [local go_sem ↓] Go.wp_at_zero Go.wp_at_succ
section
variable {w w' : World} {z y : Int} {q p : Rat} {L M : Nat} {s t s' t' : Bool} {A B A' B' : Option Addr} {n c m d n' c' m' d' : Nat} {xs ys xs' ys' : List Nat}
set_option maxHeartbeats 4000000 in
theorem q_Make_pos (h : NI w z L s A n c) (k : NI w y M t B m d) (hL : L ≤ 3000) (hM : M ≤ 3000) (hy : 0 < y) : Calls Tryz.prog 76 #[.agg #[.bool s, .slice A n c], .agg #[.bool t, .slice B m d]] w (RetNR (mkQ z y) (max L M) w) := by
  have hs : y.sign = 1 := Int.sign_eq_one_of_pos hy
  have hq : mkQ z y = mkRat z y.natAbs := if_neg (by omega)
  rw [hq]
  clear hq
  go_enter Tryz.func76, Tryz.ntmps76
  go_upto_region 1 with (fail)
  obtain ⟨W, hW, extW, bx, by_, bz, hz⟩ := box3 w 24 24 26 #[.bool s, .slice A n c] #[.bool t, .slice B m d] #[Value.bool false, Value.slice none 0 0, Value.bool false, Value.slice none 0 0]
  rw [← hW]
  clear hW
  replace h := h.ext extW
  replace k := k.ext extW
  have x0 := bx.cell 0 (.bool s) rfl
  have x1 := bx.cell 1 (.slice A n c) rfl
  have y0 := by_.cell 0 (.bool t) rfl
  have y1 := by_.cell 1 (.slice B m d) rfl
  go_wp2_with fail
  refine (q_GCD h k (by omega) (by omega)).mono ?_
  rintro e we ⟨s4, A4, n4, c4, rfl, hg, hxe⟩
  obtain ⟨g, hge⟩ : ∃ g, Nat.gcd z.natAbs y.natAbs = g := ⟨_, rfl⟩
  rw [hge] at hg
  have hgz : g ∣ z.natAbs := by rw [← hge]; exact Nat.gcd_dvd_left _ _
  have hgy : g ∣ y.natAbs := by rw [← hge]; exact Nat.gcd_dvd_right _ _
  have hg0 : (g : Int) ≠ 0 := by
    intro h0
    have : g = 0 := by omega
    rw [this] at hgy
    have := Nat.eq_zero_of_zero_dvd hgy
    omega
  clear x0 x1 y0 y1
  go_upto_region 2 with (fail)
  refine at_world (fun V => Ext W V ∧ Box V we.heap.size 24 #[.bool s4, .slice A4 n4 c4] ∧ NI V (g : Int) (max L M) s4 A4 n4 c4) ⟨hxe.alloc _, Box.new we _ _, hg.ext ((Ext.refl we).alloc _)⟩ ?_
  have hsz : W.heap.size ≤ we.heap.size := hxe.size
  generalize we.heap.size = g8 at *
  clear hxe hg
  rintro V ⟨EV, b8, hg⟩
  replace bx := bx.ext EV
  replace by_ := by_.ext EV
  replace bz := bz.ext EV
  replace h := h.ext EV
  replace k := k.ext EV
  replace extW := extW.trans EV
  clear EV
  have y0 := by_.cell 0 (.bool t) rfl
  have y1 := by_.cell 1 (.slice B m d) rfl
  go_wp2_with fail
  refine (q_Sign k (by omega)).mono ?_
  rintro e V2 ⟨rfl, hxa⟩
  replace bx := bx.ext hxa
  replace by_ := by_.ext hxa
  replace bz := bz.ext hxa
  replace b8 := b8.ext hxa
  replace h := h.ext hxa
  replace k := k.ext hxa
  replace hg := hg.ext hxa
  replace extW := extW.trans hxa
  clear hxa y0 y1
  rw [hs]
  obtain ⟨m1, m2⟩ := mkRat_parts z (D := y.natAbs) (by omega)
  rw [hge] at m1 m2
  have Hm1 := Lib.hid m1
  have Hm2 := Lib.hid m2
  have Hg0 := Lib.hid hg0
  have Hgz := Lib.hid (Int.ofNat_dvd_left.2 hgz)
  have Hgy := Lib.hid (Int.ofNat_dvd_left.2 hgy)
  have Hya := Lib.hid (show ((y.natAbs : Nat) : Int) = y from Int.natAbs_of_nonneg (by omega))
  clear hge hg0 hgz hgy m1 m2 hs
  go_upto_region 4 with (fail)
  refine wpL.start 7 (by kernel_rfl) (fun _ _ _ _ _ => ⟨fun h => h, fun h => h⟩) (fun hQ ES => ?_)
  refine wpL.take (i := 0) (d := some 14) (v := ?v0_124) rfl rfl (by kernel_rfl) (by kernel_rfl) (by kernel_rfl) (by kernel_rfl) hQ (Or.inl ⟨by rfl, ?y0_124⟩) ES ?r0_124
  case y0_124 =>
    intro w' hSw
    have k00 := (bx.ext hSw).c2
    have k10 := (by_.ext hSw).c2
    have k20 := (b8.ext hSw).c2
    go_simp
    try with_reducible rfl
  try simp only [Act.put]
  try simp only [List.setIfInBounds_toArray]
  try simp only [List.set_cons_succ]
  try simp only [List.set_cons_zero]
  refine wpL.take (i := 1) (d := some 15) (v := ?v1_125) rfl rfl (by kernel_rfl) (by kernel_rfl) (by kernel_rfl) (by kernel_rfl) hQ (Or.inl ⟨by rfl, ?y1_125⟩) ES ?r1_125
  case y1_125 =>
    intro w' hSw
    have k00 := (bx.ext hSw).c2
    have k10 := (by_.ext hSw).c2
    have k20 := (b8.ext hSw).c2
    go_simp
    try with_reducible rfl
  try simp only [Act.put]
  try simp only [List.setIfInBounds_toArray]
  try simp only [List.set_cons_succ]
  try simp only [List.set_cons_zero]
  refine wpL.take (i := 3) (d := some 17) (v := ?v3_126) rfl rfl (by kernel_rfl) (by kernel_rfl) (by kernel_rfl) (by kernel_rfl) hQ (Or.inl ⟨by rfl, ?y3_126⟩) ES ?r3_126
  case y3_126 =>
    intro w' hSw
    have k00 := (bx.ext hSw).c2
    have k10 := (by_.ext hSw).c2
    have k20 := (b8.ext hSw).c2
    go_simp
    try with_reducible rfl
  try simp only [Act.put]
  try simp only [List.setIfInBounds_toArray]
  try simp only [List.set_cons_succ]
  try simp only [List.set_cons_zero]
  refine wpL.take (i := 4) (d := some 18) (v := ?v4_127) rfl rfl (by kernel_rfl) (by kernel_rfl) (by kernel_rfl) (by kernel_rfl) hQ (Or.inl ⟨by rfl, ?y4_127⟩) ES ?r4_127
  case y4_127 =>
    intro w' hSw
    have k00 := (bx.ext hSw).c2
    have k10 := (by_.ext hSw).c2
    have k20 := (b8.ext hSw).c2
    go_simp
    try with_reducible rfl
  try simp only [Act.put]
  try simp only [List.setIfInBounds_toArray]
  try simp only [List.set_cons_succ]
  try simp only [List.set_cons_zero]
  refine wpL.call (i := 2) rfl (by kernel_rfl) (fun K hK => ?_)
  go_simp
  (go_at_call 85; refine (q_quo (h.ext ES) (hg.ext ES) (by omega) (by omega) Hg0.out Hgz.out).mono ?_; rintro e wk5 ⟨s5, A5, n5, c5, rfl, h5, hx0⟩; have E0_4 := Ext.trans ES hx0)
  refine hK.out _ _ E0_4 ?_
  clear hK K
  try simp only [Act.put]
  try simp only [List.setIfInBounds_toArray]
  try simp only [List.set_cons_succ]
  try simp only [List.set_cons_zero]
  refine wpL.call (i := 5) rfl (by kernel_rfl) (fun K hK => ?_)
  go_simp
  (go_at_call 85; refine (q_quo (k.ext E0_4) (hg.ext E0_4) (by omega) (by omega) Hg0.out Hgy.out).mono ?_; rintro e wk6 ⟨s6, A6, n6, c6, rfl, h6, hx1⟩; have E1_4 := Ext.trans E0_4 hx1)
  refine hK.out _ _ E1_4 ?_
  clear hK K
  try simp only [Act.put]
  try simp only [List.setIfInBounds_toArray]
  try simp only [List.set_cons_succ]
  try simp only [List.set_cons_zero]
  refine wpL.take (i := 6) (d := some 20) (v := ?v6_128) rfl rfl (by kernel_rfl) (by kernel_rfl) (by kernel_rfl) (by kernel_rfl) hQ (Or.inl ⟨by rfl, ?y6_128⟩) E1_4 ?r6_128
  case y6_128 =>
    intro w' hSw
    have k00 := (bx.ext hSw).c2
    have k10 := (by_.ext hSw).c2
    have k20 := (b8.ext hSw).c2
    go_simp
    try with_reducible rfl
  try simp only [Act.put]
  try simp only [List.setIfInBounds_toArray]
  try simp only [List.set_cons_succ]
  try simp only [List.set_cons_zero]
  have z0 := (bz.ext E1_4).cell 0 _ rfl
  have z1 := (bz.ext E1_4).cell 1 _ rfl
  have z2 := (bz.ext E1_4).cell 2 _ rfl
  have z3 := (bz.ext E1_4).cell 3 _ rfl
  have f0 := (bz.ext E1_4).frozen 0
  have f1 := (bz.ext E1_4).frozen 1
  have f2 := (bz.ext E1_4).frozen 2
  have f3 := (bz.ext E1_4).frozen 3
  refine wpL.tail (i := 7) rfl (by kernel_rfl) (by kernel_rfl) (fun K hK => ?_)
  go_simp
  refine hK.out _ _ ?_
  clear hK K
  try simp only [Act.put]
  try simp only [List.setIfInBounds_toArray]
  try simp only [List.set_cons_succ]
  try simp only [List.set_cons_zero]
  refine wpL.done (by kernel_rfl) ?_ _
  clear hQ
  go_wp2_with fail
  have hk1 : y / (g : Int) = ((mkRat z y.natAbs).den : Int) := by rw [Hm2.out, Int.natCast_ediv, Hya.out]
  rw [hk1] at h6
  rw [← Hm1.out] at h5
  obtain ⟨b1, b2, b3, b4⟩ := fin_quad (s := s5) (A := A5) (n := n5) (c := c5) (t := s6) (B := A6) (m := n6) (d := c6) (bz.ext E1_4)
  have r0 := b1.cell 0 (.bool s5) rfl
  have r1 := b1.cell 1 (.slice A5 n5 c5) rfl
  have r2 := b1.cell 2 (.bool s6) rfl
  have r3 := b1.cell 3 (.slice A6 n6 c6) rfl
  unfold set4 at r0 r1 r2 r3
  refine bodyPost_ret (v := .agg #[.bool s5, .slice A5 n5 c5, .bool s6, .slice A6 n6 c6]) (by simp [results, Tryz.results76, go_sem, r0, r1, r2, r3]) rfl ⟨s5, A5, n5, c5, s6, A6, n6, c6, rfl, ⟨?_, ?_⟩, b3 _ (extW.trans E1_4) (by omega)⟩
  · exact (b2 _ _ _ _ _ _ (h5.ext hx1)).le (by omega)
  · exact (b2 _ _ _ _ _ _ h6).le (by omega)
set_option maxHeartbeats 4000000 in
theorem q_Make_neg (h : NI w z L s A n c) (k : NI w y M t B m d) (hL : L ≤ 3000) (hM : M ≤ 3000) (hy : y < 0) : Calls Tryz.prog 76 #[.agg #[.bool s, .slice A n c], .agg #[.bool t, .slice B m d]] w (RetNR (mkQ z y) (max L M) w) := by
  have hs : y.sign = -1 := Int.sign_eq_neg_one_of_neg hy
  have hq : mkQ z y = mkRat (-z) (-y).natAbs := if_pos hy
  rw [hq, Int.natAbs_neg]
  clear hq
  go_enter Tryz.func76, Tryz.ntmps76
  go_upto_region 1 with (fail)
  obtain ⟨W, hW, extW, bx, by_, bz, hz⟩ := box3 w 24 24 26 #[.bool s, .slice A n c] #[.bool t, .slice B m d] #[Value.bool false, Value.slice none 0 0, Value.bool false, Value.slice none 0 0]
  rw [← hW]
  clear hW
  replace h := h.ext extW
  replace k := k.ext extW
  have x0 := bx.cell 0 (.bool s) rfl
  have x1 := bx.cell 1 (.slice A n c) rfl
  have y0 := by_.cell 0 (.bool t) rfl
  have y1 := by_.cell 1 (.slice B m d) rfl
  go_wp2_with fail
  refine (q_GCD h k (by omega) (by omega)).mono ?_
  rintro e we ⟨s4, A4, n4, c4, rfl, hg, hxe⟩
  obtain ⟨g, hge⟩ : ∃ g, Nat.gcd z.natAbs y.natAbs = g := ⟨_, rfl⟩
  rw [hge] at hg
  have hgz : g ∣ z.natAbs := by rw [← hge]; exact Nat.gcd_dvd_left _ _
  have hgy : g ∣ y.natAbs := by rw [← hge]; exact Nat.gcd_dvd_right _ _
  have hg0 : (g : Int) ≠ 0 := by
    intro h0
    have : g = 0 := by omega
    rw [this] at hgy
    have := Nat.eq_zero_of_zero_dvd hgy
    omega
  clear x0 x1 y0 y1
  go_upto_region 2 with (fail)
  refine at_world (fun V => Ext W V ∧ Box V we.heap.size 24 #[.bool s4, .slice A4 n4 c4] ∧ NI V (g : Int) (max L M) s4 A4 n4 c4) ⟨hxe.alloc _, Box.new we _ _, hg.ext ((Ext.refl we).alloc _)⟩ ?_
  have hsz : W.heap.size ≤ we.heap.size := hxe.size
  generalize we.heap.size = g8 at *
  clear hxe hg
  rintro V ⟨EV, b8, hg⟩
  replace bx := bx.ext EV
  replace by_ := by_.ext EV
  replace bz := bz.ext EV
  replace h := h.ext EV
  replace k := k.ext EV
  replace extW := extW.trans EV
  clear EV
  have y0 := by_.cell 0 (.bool t) rfl
  have y1 := by_.cell 1 (.slice B m d) rfl
  go_wp2_with fail
  refine (q_Sign k (by omega)).mono ?_
  rintro e V2 ⟨rfl, hxa⟩
  replace bx := bx.ext hxa
  replace by_ := by_.ext hxa
  replace bz := bz.ext hxa
  replace b8 := b8.ext hxa
  replace h := h.ext hxa
  replace k := k.ext hxa
  replace hg := hg.ext hxa
  replace extW := extW.trans hxa
  clear hxa y0 y1
  rw [hs]
  obtain ⟨m1, m2⟩ := mkRat_parts (-z) (D := (-y).natAbs) (by omega)
  rw [Int.natAbs_neg, Int.natAbs_neg, hge] at m1 m2
  have e1 : z / (-(g : Int)) = (-z) / (g : Int) := by rw [Int.ediv_neg, Int.neg_ediv_of_dvd (Int.ofNat_dvd_left.2 hgz)]
  have e2 : y / (-(g : Int)) = (-y) / (g : Int) := by rw [Int.ediv_neg, Int.neg_ediv_of_dvd (Int.ofNat_dvd_left.2 hgy)]
  have He1 := Lib.hid (show z / (-(g : Int)) = (mkRat (-z) y.natAbs).num by rw [e1, m1])
  have He2 := Lib.hid (show y / (-(g : Int)) = ((mkRat (-z) y.natAbs).den : Int) by rw [e2, m2, Int.natCast_ediv]; congr 1; omega)
  have Hg0 := Lib.hid (show -(g : Int) ≠ 0 by omega)
  have Hgz := Lib.hid (Int.neg_dvd.2 (Int.ofNat_dvd_left.2 hgz))
  have Hgy := Lib.hid (Int.neg_dvd.2 (Int.ofNat_dvd_left.2 hgy))
  clear hge hg0 hgz hgy m1 m2 hs e1 e2
  have x0 := b8.cell 0 (.bool s4) rfl
  have x1 := b8.cell 1 (.slice A4 n4 c4) rfl
  go_wp2_with fail
  refine (q_Neg hg (by omega)).mono ?_
  rintro e V3 ⟨s3, A3, n3, c3, rfl, hg2, hxb⟩
  replace bx := bx.ext hxb
  replace by_ := by_.ext hxb
  replace bz := bz.ext hxb
  replace b8 := b8.ext hxb
  replace h := h.ext hxb
  replace k := k.ext hxb
  replace extW := extW.trans hxb
  clear x0 x1 hg
  have z0 := b8.cell 0 _ rfl
  have z1 := b8.cell 1 _ rfl
  have f0 := b8.frozen 0
  have f1 := b8.frozen 1
  go_upto_region 4 with (fail)
  refine at_world (fun U => Ext w U ∧ Box U w.heap.size 24 #[.bool s, .slice A n c] ∧ Box U (w.heap.size + 1) 24 #[.bool t, .slice B m d] ∧ Box U (w.heap.size + 1 + 1) 26 #[Value.bool false, Value.slice none 0 0, Value.bool false, Value.slice none 0 0] ∧ Box U g8 24 #[.bool s3, .slice A3 n3 c3] ∧ NI U z L s A n c ∧ NI U y M t B m d ∧ NI U (-(g : Int)) (max L M) s3 A3 n3 c3) ?_ ?_
  · have q1 := fin_dual (s := s3) (A := A3) (n := n3) (c := c3) b8
    exact ⟨q1.2.2.1 _ extW (by omega), q1.2.2.2 _ _ _ (by omega) bx, q1.2.2.2 _ _ _ (by omega) by_, q1.2.2.2 _ _ _ (by omega) bz, q1.1, q1.2.1 _ _ _ _ _ _ h, q1.2.1 _ _ _ _ _ _ k, q1.2.1 _ _ _ _ _ _ hg2⟩
  clear extW bx by_ bz b8 h k hg2 z0 z1 f0 f1
  rintro U ⟨extW, bx, by_, bz, b8, h, k, hg⟩
  refine wpL.start 7 (by kernel_rfl) (fun _ _ _ _ _ => ⟨fun h => h, fun h => h⟩) (fun hQ ES => ?_)
  refine wpL.take (i := 0) (d := some 14) (v := ?v0_129) rfl rfl (by kernel_rfl) (by kernel_rfl) (by kernel_rfl) (by kernel_rfl) hQ (Or.inl ⟨by rfl, ?y0_129⟩) ES ?r0_129
  case y0_129 =>
    intro w' hSw
    have k00 := (bx.ext hSw).c2
    have k10 := (by_.ext hSw).c2
    have k20 := (b8.ext hSw).c2
    go_simp
    try with_reducible rfl
  try simp only [Act.put]
  try simp only [List.setIfInBounds_toArray]
  try simp only [List.set_cons_succ]
  try simp only [List.set_cons_zero]
  refine wpL.take (i := 1) (d := some 15) (v := ?v1_130) rfl rfl (by kernel_rfl) (by kernel_rfl) (by kernel_rfl) (by kernel_rfl) hQ (Or.inl ⟨by rfl, ?y1_130⟩) ES ?r1_130
  case y1_130 =>
    intro w' hSw
    have k00 := (bx.ext hSw).c2
    have k10 := (by_.ext hSw).c2
    have k20 := (b8.ext hSw).c2
    go_simp
    try with_reducible rfl
  try simp only [Act.put]
  try simp only [List.setIfInBounds_toArray]
  try simp only [List.set_cons_succ]
  try simp only [List.set_cons_zero]
  refine wpL.take (i := 3) (d := some 17) (v := ?v3_131) rfl rfl (by kernel_rfl) (by kernel_rfl) (by kernel_rfl) (by kernel_rfl) hQ (Or.inl ⟨by rfl, ?y3_131⟩) ES ?r3_131
  case y3_131 =>
    intro w' hSw
    have k00 := (bx.ext hSw).c2
    have k10 := (by_.ext hSw).c2
    have k20 := (b8.ext hSw).c2
    go_simp
    try with_reducible rfl
  try simp only [Act.put]
  try simp only [List.setIfInBounds_toArray]
  try simp only [List.set_cons_succ]
  try simp only [List.set_cons_zero]
  refine wpL.take (i := 4) (d := some 18) (v := ?v4_132) rfl rfl (by kernel_rfl) (by kernel_rfl) (by kernel_rfl) (by kernel_rfl) hQ (Or.inl ⟨by rfl, ?y4_132⟩) ES ?r4_132
  case y4_132 =>
    intro w' hSw
    have k00 := (bx.ext hSw).c2
    have k10 := (by_.ext hSw).c2
    have k20 := (b8.ext hSw).c2
    go_simp
    try with_reducible rfl
  try simp only [Act.put]
  try simp only [List.setIfInBounds_toArray]
  try simp only [List.set_cons_succ]
  try simp only [List.set_cons_zero]
  refine wpL.call (i := 2) rfl (by kernel_rfl) (fun K hK => ?_)
  go_simp
  (go_at_call 85; refine (q_quo (h.ext ES) (hg.ext ES) (by omega) (by omega) Hg0.out Hgz.out).mono ?_; rintro e wk5 ⟨s5, A5, n5, c5, rfl, h5, hx0⟩; have E0_4 := Ext.trans ES hx0)
  refine hK.out _ _ E0_4 ?_
  clear hK K
  try simp only [Act.put]
  try simp only [List.setIfInBounds_toArray]
  try simp only [List.set_cons_succ]
  try simp only [List.set_cons_zero]
  refine wpL.call (i := 5) rfl (by kernel_rfl) (fun K hK => ?_)
  go_simp
  (go_at_call 85; refine (q_quo (k.ext E0_4) (hg.ext E0_4) (by omega) (by omega) Hg0.out Hgy.out).mono ?_; rintro e wk6 ⟨s6, A6, n6, c6, rfl, h6, hx1⟩; have E1_4 := Ext.trans E0_4 hx1)
  refine hK.out _ _ E1_4 ?_
  clear hK K
  try simp only [Act.put]
  try simp only [List.setIfInBounds_toArray]
  try simp only [List.set_cons_succ]
  try simp only [List.set_cons_zero]
  refine wpL.take (i := 6) (d := some 20) (v := ?v6_133) rfl rfl (by kernel_rfl) (by kernel_rfl) (by kernel_rfl) (by kernel_rfl) hQ (Or.inl ⟨by rfl, ?y6_133⟩) E1_4 ?r6_133
  case y6_133 =>
    intro w' hSw
    have k00 := (bx.ext hSw).c2
    have k10 := (by_.ext hSw).c2
    have k20 := (b8.ext hSw).c2
    go_simp
    try with_reducible rfl
  try simp only [Act.put]
  try simp only [List.setIfInBounds_toArray]
  try simp only [List.set_cons_succ]
  try simp only [List.set_cons_zero]
  have z0 := (bz.ext E1_4).cell 0 _ rfl
  have z1 := (bz.ext E1_4).cell 1 _ rfl
  have z2 := (bz.ext E1_4).cell 2 _ rfl
  have z3 := (bz.ext E1_4).cell 3 _ rfl
  have f0 := (bz.ext E1_4).frozen 0
  have f1 := (bz.ext E1_4).frozen 1
  have f2 := (bz.ext E1_4).frozen 2
  have f3 := (bz.ext E1_4).frozen 3
  refine wpL.tail (i := 7) rfl (by kernel_rfl) (by kernel_rfl) (fun K hK => ?_)
  go_simp
  refine hK.out _ _ ?_
  clear hK K
  try simp only [Act.put]
  try simp only [List.setIfInBounds_toArray]
  try simp only [List.set_cons_succ]
  try simp only [List.set_cons_zero]
  refine wpL.done (by kernel_rfl) ?_ _
  clear hQ
  go_wp2_with fail
  rw [He2.out] at h6
  rw [He1.out] at h5
  obtain ⟨b1, b2, b3, b4⟩ := fin_quad (s := s5) (A := A5) (n := n5) (c := c5) (t := s6) (B := A6) (m := n6) (d := c6) (bz.ext E1_4)
  have r0 := b1.cell 0 (.bool s5) rfl
  have r1 := b1.cell 1 (.slice A5 n5 c5) rfl
  have r2 := b1.cell 2 (.bool s6) rfl
  have r3 := b1.cell 3 (.slice A6 n6 c6) rfl
  unfold set4 at r0 r1 r2 r3
  refine bodyPost_ret (v := .agg #[.bool s5, .slice A5 n5 c5, .bool s6, .slice A6 n6 c6]) (by simp [results, Tryz.results76, go_sem, r0, r1, r2, r3]) rfl ⟨s5, A5, n5, c5, s6, A6, n6, c6, rfl, ⟨?_, ?_⟩, b3 _ (extW.trans E1_4) (by omega)⟩
  · exact (b2 _ _ _ _ _ _ (h5.ext hx1)).le (by omega)
  · exact (b2 _ _ _ _ _ _ h6).le (by omega)
theorem q_Make_nz (h : NI w z L s A n c) (k : NI w y M t B m d) (hL : L ≤ 3000) (hM : M ≤ 3000) (hy : y ≠ 0) : Calls Tryz.prog 76 #[.agg #[.bool s, .slice A n c], .agg #[.bool t, .slice B m d]] w (RetNR (mkQ z y) (max L M) w) := by
  rcases Int.lt_trichotomy y 0 with h1 | h1 | h1
  · exact q_Make_neg h k hL hM h1
  · exact absurd h1 hy
  · exact q_Make_pos h k hL hM h1
set_option maxHeartbeats 4000000 in
theorem q_Frac (a b : Int) (ha : -9223372036854775808 ≤ a) (ha' : a < 9223372036854775808) (hb : -9223372036854775808 ≤ b) (hb' : b < 9223372036854775808) : Calls Tryz.prog 88 #[.int .i64 a, .int .i64 b] w (RetNR (mkQ a b) 2 w) := by
  by_cases h0 : b = 0
  · have hq : ((0 : Int) : Rat) = mkQ a b := by rw [h0]; unfold mkQ; rw [if_neg (by omega)]; exact (Rat.mkRat_zero a).symm
    rw [← hq]
    subst h0
    clear hq
    go_enter Tryz.func88, Tryz.ntmps88
    go_upto_region 1 with (fail)
    obtain ⟨W, hW, extW, bz, hz⟩ := box1 w 26 #[Value.bool false, Value.slice none 0 0, Value.bool false, Value.slice none 0 0]
    rw [← hW]
    clear hW
    go_wp2_with fail
    refine (q_FromIntR 0 (by omega) (by omega)).mono ?_
    rintro e wd ⟨s3, A3, n3, c3, s4, A4, n4, c4, rfl, hr, hx3⟩
    have z0 := (bz.ext hx3).cell 0 _ rfl
    have z1 := (bz.ext hx3).cell 1 _ rfl
    have z2 := (bz.ext hx3).cell 2 _ rfl
    have z3 := (bz.ext hx3).cell 3 _ rfl
    have f0 := (bz.ext hx3).frozen 0
    have f1 := (bz.ext hx3).frozen 1
    have f2 := (bz.ext hx3).frozen 2
    have f3 := (bz.ext hx3).frozen 3
    go_wp2_with fail
    obtain ⟨b1, b2, b3, b4⟩ := fin_quad (s := s3) (A := A3) (n := n3) (c := c3) (t := s4) (B := A4) (m := n4) (d := c4) (bz.ext hx3)
    have r0 := b1.cell 0 (.bool s3) rfl
    have r1 := b1.cell 1 (.slice A3 n3 c3) rfl
    have r2 := b1.cell 2 (.bool s4) rfl
    have r3 := b1.cell 3 (.slice A4 n4 c4) rfl
    unfold set4 at r0 r1 r2 r3
    refine bodyPost_ret (v := .agg #[.bool s3, .slice A3 n3 c3, .bool s4, .slice A4 n4 c4]) (by simp [results, Tryz.results88, go_sem, r0, r1, r2, r3]) rfl ⟨s3, A3, n3, c3, s4, A4, n4, c4, rfl, ⟨?_, ?_⟩, b3 _ (extW.trans hx3) (by omega)⟩
    · exact b2 _ _ _ _ _ _ hr.num
    · exact b2 _ _ _ _ _ _ hr.den
  · have hb0 : (b == 0) = false := beq_eq_false_iff_ne.2 h0
    go_enter Tryz.func88, Tryz.ntmps88
    go_upto_region 1 with (fail)
    obtain ⟨W, hW, extW, bz, hz⟩ := box1 w 26 #[Value.bool false, Value.slice none 0 0, Value.bool false, Value.slice none 0 0]
    rw [← hW]
    clear hW
    go_wp2_with fail
    refine (q_FromInt a ha ha').mono ?_
    rintro e wa ⟨s1, A1, n1, c1, rfl, h1, hx0⟩
    go_wp2_with fail
    refine (q_FromInt b hb hb').mono ?_
    rintro e wb ⟨s2, A2, n2, c2, rfl, h2, hx1⟩
    go_wp2_with fail
    refine (q_Make_nz (h1.ext hx1) h2 (by omega) (by omega) h0).mono ?_
    rintro e wc ⟨s3, A3, n3, c3, s4, A4, n4, c4, rfl, hr, hx2⟩
    have hE := hx0.trans (hx1.trans hx2)
    have z0 := (bz.ext hE).cell 0 _ rfl
    have z1 := (bz.ext hE).cell 1 _ rfl
    have z2 := (bz.ext hE).cell 2 _ rfl
    have z3 := (bz.ext hE).cell 3 _ rfl
    have f0 := (bz.ext hE).frozen 0
    have f1 := (bz.ext hE).frozen 1
    have f2 := (bz.ext hE).frozen 2
    have f3 := (bz.ext hE).frozen 3
    go_wp2_with fail
    obtain ⟨b1, b2, b3, b4⟩ := fin_quad (s := s3) (A := A3) (n := n3) (c := c3) (t := s4) (B := A4) (m := n4) (d := c4) (bz.ext hE)
    have r0 := b1.cell 0 (.bool s3) rfl
    have r1 := b1.cell 1 (.slice A3 n3 c3) rfl
    have r2 := b1.cell 2 (.bool s4) rfl
    have r3 := b1.cell 3 (.slice A4 n4 c4) rfl
    unfold set4 at r0 r1 r2 r3
    refine bodyPost_ret (v := .agg #[.bool s3, .slice A3 n3 c3, .bool s4, .slice A4 n4 c4]) (by simp [results, Tryz.results88, go_sem, r0, r1, r2, r3]) rfl ⟨s3, A3, n3, c3, s4, A4, n4, c4, rfl, ⟨?_, ?_⟩, b3 _ (extW.trans hE) (by omega)⟩
    · exact b2 _ _ _ _ _ _ hr.num
    · exact b2 _ _ _ _ _ _ hr.den
end
end Go.Proofs.YtoabhnofppledaaGreatDoor
