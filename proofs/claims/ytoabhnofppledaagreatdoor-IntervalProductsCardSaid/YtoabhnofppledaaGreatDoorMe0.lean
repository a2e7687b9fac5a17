/- Walks and laws, a part. -/
import Derived.Test.YtoabhnofppledaaGreatDoorM0
import Derived.Test.YtoabhnofppledaaGreatDoorM1
import Derived.Test.YtoabhnofppledaaGreatDoorM2
import Derived.Test.YtoabhnofppledaaGreatDoorM3
import Derived.Test.YtoabhnofppledaaGreatDoorM4
import Derived.Test.YtoabhnofppledaaGreatDoorM5
import Derived.Test.YtoabhnofppledaaGreatDoorM6
import Derived.Test.YtoabhnofppledaaGreatDoorM7
import Derived.Test.YtoabhnofppledaaGreatDoorM8
import Derived.Test.YtoabhnofppledaaGreatDoorM9
namespace Go.Proofs.YtoabhnofppledaaGreatDoor
open Go.RowKit
section
variable {w w' : World} {z y : Int} {L L' M : Nat} {s t : Bool} {A B : Option Addr} {n c m d : Nat}
theorem NI.neg (h : NI w z L s A n c) : s = decide (z < 0) := by
  obtain ⟨_, _, _, _, _, h5, _⟩ := h.out
  exact h5.neg
end
end Go.Proofs.YtoabhnofppledaaGreatDoor
namespace Go.Proofs.YtoabhnofppledaaGreatDoor
open Go.RowKit
section
variable {P : Program} {ops : Array Oper} {Q : Exit → Act → World → Prop} {md : Region.Mode} {W0 : World} {z : Nat}
/-- none of B may come up before i: each of them waits for i or for another one of B. -/
theorem wpL.firstB {i : Nat} {oi : Oper} {v : Value} (B : List Nat) (hi : ops[i]? = some oi) (hs : Region.noSelect ops = true) (hB : ∀ k ∈ B, ∃ k' ∈ i :: B, Waits md ops k' k) (hzB : z ∈ B) (hiB : i ∉ B) (hQ : QStill Q) :
    ∀ (f : Nat) (L : Array Bool) (a : Act) (w : World), L.size = ops.size → (∀ k ∈ B, L.getD k false = false ∧ L.getD k true = false) →
      (∀ j oj, ops[j]? = some oj → j ≠ i → L.getD j true = false → (∀ e ∈ oj.after, Region.binds md e = true → e.on ≠ i) → oi.apart ops oj = true) →
      i ∈ Region.ready md ops L → YieldsIf P ops (Ext W0) oi v a → Ext W0 w →
      wpL P md ops Q W0 z f (L.setIfInBounds i true) (a.put oi.dst v) w → wpL P md ops Q W0 z (f + 1) L a w := by
  have hsel := Region.noSelect_spec hs
  have hiz : i ≠ z := fun e => hiB (e ▸ hzB)
  intro f
  induction f with
  | zero =>
    intro L a w _ _ _ hr hy hS H
    refine ⟨(fun h0 => by rw [h0] at hr; cases hr), fun j hj => ?_⟩
    by_cases hji : j = i
    · subst hji; exact hy.wpOp hi hS ⟨.inr hS, H⟩
    · have := ready_mono hj hji
      rw [H.1] at this
      cases this
  | succ f ih =>
    intro L a w hsz hBL hfree hr hy hS H
    refine ⟨(fun h0 => by rw [h0] at hr; cases hr), fun j hj => ?_⟩
    by_cases hji : j = i
    · subst hji; exact hy.wpOp hi hS ⟨.inr hS, H⟩
    · have hiL := (mem_ready.1 hr).1
      have hjB : j ∉ B := fun hb => by
        obtain ⟨k', hk', hw⟩ := hB j hb
        have hk1 : L.getD k' true = false := by
          rcases List.mem_cons.1 hk' with rfl | hk'
          · exact hiL
          · exact (hBL k' hk').2
        exact waits_not hw hk1 (hBL j hb).1 hsz hj
      have hjz : j ≠ z := fun e => hjB (e ▸ hzB)
      obtain ⟨hjun, oj, hoj, hall⟩ := mem_ready.1 hj
      have hnot : ∀ e ∈ oj.after, Region.binds md e = true → e.on ≠ i := fun e he hb hh => by
        have h1 := hall e he hb
        rw [hh] at h1
        have hlt : i < L.size := by
          rcases Nat.lt_or_ge i L.size with h | h
          · exact h
          · simp [h] at h1
        simp [hlt] at h1 hiL
        rw [h1] at hiL
        cases hiL
      have h1 := H.2 j (ready_mono hj hji)
      have h2 := wpOp_putIf hoj (hfree j oj hoj hji hjun hnot) (fun cs b => hsel i oi cs b hi) (fun cs b => hsel j oj cs b hoj) (fun c a w => (hQ.put c a _ _ w).1) hy h1
      refine wpOp_mono (fun a' w' h3 => ?_) h2
      obtain ⟨hy', hS', H'⟩ := h3
      have hzz : ((L.setIfInBounds i true).setIfInBounds j true).getD z false = false := by
        rw [getD_set_ne false hjz, getD_set_ne false hiz]; exact (hBL z hzB).1
      have hE : Ext W0 w' := by
        rcases hS' with h | h
        · rw [hzz] at h; cases h
        · exact h
      refine ⟨.inr hE, ih (L.setIfInBounds j true) a' w' (by simpa using hsz) (fun k hk => ?_) ?_ (ready_mono hr (Ne.symm hji)) hy' hE ?_⟩
      · have hjk : j ≠ k := fun e => hjB (e ▸ hk)
        rw [getD_set_ne false hjk, getD_set_ne true hjk]
        exact hBL k hk
      · intro k ok hk hki hun hno
        refine hfree k ok hk hki ?_ hno
        by_cases hjk : j = k
        · subst hjk; exact hjun
        · rwa [getD_set_ne true hjk] at hun
      · rw [Array.setIfInBounds_comm _ _ hji]
        exact H'
theorem wpL.takeB {f i : Nat} {oi : Oper} {d : Option Tmp} {v : Value} {L : Array Bool} {a : Act} {w : World} (B : List Nat) (hi : ops[i]? = some oi) (hd : oi.dst = d) (hs : Region.noSelect ops = true) (hf : Region.free md ops L i = true)
    (hr : (Region.ready md ops L).contains i = true) (hz : (B.all (fun k => (i :: B).any (fun k' => waitsB md ops k' k)) && B.contains z && !B.contains i && B.all (fun k => !L.getD k false && !L.getD k true) && L.size == ops.size) = true) (hQ : QStill Q) (hy : YieldsIf P ops (Ext W0) oi v a) (hS : Ext W0 w)
    (h : wpL P md ops Q W0 z f (L.setIfInBounds i true) (a.put d v) w) : wpL P md ops Q W0 z (f + 1) L a w := by
  subst hd
  simp only [Bool.and_eq_true, Bool.not_eq_true', beq_iff_eq, List.all_eq_true, List.any_eq_true] at hz
  obtain ⟨⟨⟨⟨h1, h2⟩, h3⟩, h4⟩, h5⟩ := hz
  refine wpL.firstB B hi hs (fun k hk => ?_) (by simpa using h2) (by simpa using h3) hQ f L a w h5 (fun k hk => ?_) (fun j oj hj hne hun hno => Region.free_spec hi hf j oj hj hne hun hno) (by simpa using hr) hy hS h
  · obtain ⟨k', hk', hw⟩ := h1 k hk
    exact ⟨k', hk', waitsB_spec hw⟩
  · exact h4 k hk
end
end Go.Proofs.YtoabhnofppledaaGreatDoor
namespace Go.Proofs.YtoabhnofppledaaGreatDoor
open Go.RowKit
attribute [local go_sem ↓] Go.wp_at_zero Go.wp_at_succ
section
variable {w w' : World} {z y : Int} {q p : Rat} {L M : Nat} {s t s' t' : Bool} {A B A' B' : Option Addr} {n c m d n' c' m' d' : Nat}
set_option maxHeartbeats 1000000 in
theorem q_SignR (h : NR w q L s A n c t B m d) (hL : L ≤ 1000) : Calls Tryz.prog 46 #[.agg #[.bool s, .slice A n c, .bool t, .slice B m d]] w fun e w' => e = .returned (.int .i64 q.num.sign) ∧ Ext w w' := by
  go_enter Tryz.func46, Tryz.ntmps46
  go_upto_region 1 with (fail)
  obtain ⟨W, hW, extW, bx, hz⟩ := box1 w 26 #[.bool s, .slice A n c, .bool t, .slice B m d]
  rw [← hW]
  clear hW
  have x0 := bx.cell 0 (.bool s) rfl
  have x1 := bx.cell 1 (.slice A n c) rfl
  go_wp2_with fail
  refine (q_Sign (h.num.ext extW) (by omega)).mono ?_
  rintro e wa ⟨rfl, hx0⟩
  go_wp2_with fail
  go_ret
  exact ⟨rfl, extW.trans hx0⟩
theorem inv_parts {q : Rat} (hq : q ≠ 0) : (q.num < 0 → (q⁻¹).num = -(q.den : Int) ∧ ((q⁻¹).den : Int) = -q.num) ∧ (0 ≤ q.num → (q⁻¹).num = (q.den : Int) ∧ ((q⁻¹).den : Int) = q.num) := by
  have h0 : q.num ≠ 0 := fun h => hq (Rat.num_eq_zero.1 h)
  refine ⟨fun h => ⟨?_, ?_⟩, fun h => ⟨?_, ?_⟩⟩
  · rw [Rat.num_inv, Int.sign_eq_neg_one_of_neg h]; omega
  · rw [Rat.den_inv, if_neg h0]; omega
  · rw [Rat.num_inv, Int.sign_eq_one_of_pos (by omega)]; omega
  · rw [Rat.den_inv, if_neg h0]; omega
set_option maxHeartbeats 2000000 in
theorem q_Inv (h : NR w q L s A n c t B m d) (hL : L ≤ 1000) (hq : q ≠ 0) : Calls Tryz.prog 63 #[.agg #[.bool s, .slice A n c, .bool t, .slice B m d]] w (RetNR (q⁻¹) L w) := by
  obtain ⟨e1, e2⟩ := inv_parts hq
  by_cases hn : q.num < 0
  · obtain ⟨e3, e4⟩ := e1 hn
    have He3 := Lib.hid e3
    have He4 := Lib.hid e4
    obtain rfl : s = true := by rw [h.num.neg]; exact decide_eq_true hn
    clear e1 e2 e3 e4 hn
    go_enter Tryz.func63, Tryz.ntmps63
    go_upto_region 1 with (fail)
    obtain ⟨W, hW, extW, bx, bz, hz⟩ := box2 w 26 26 #[.bool true, .slice A n c, .bool t, .slice B m d] #[Value.bool false, Value.slice none 0 0, Value.bool false, Value.slice none 0 0]
    rw [← hW]
    clear hW
    have x0 := bx.cell 0 (.bool true) rfl
    go_upto_region 2 with (fail)
    refine wpL.start 7 (by kernel_rfl) (fun _ _ _ _ _ => ⟨fun h => h, fun h => h⟩) (fun hQ ES => ?_)
    refine wpL.take (i := 0) (d := some 6) (v := ?v0_34) rfl rfl (by kernel_rfl) (by kernel_rfl) (by kernel_rfl) (by kernel_rfl) hQ (Or.inl ⟨by rfl, ?y0_34⟩) ES ?r0_34
    case y0_34 =>
      intro w' hSw
      have k00 := (bx.ext hSw).c4
      go_simp
      try with_reducible rfl
    try simp only [Act.put]
    try simp only [List.setIfInBounds_toArray]
    try simp only [List.set_cons_succ]
    try simp only [List.set_cons_zero]
    refine wpL.take (i := 3) (d := some 9) (v := ?v3_35) rfl rfl (by kernel_rfl) (by kernel_rfl) (by kernel_rfl) (by kernel_rfl) hQ (Or.inl ⟨by rfl, ?y3_35⟩) ES ?r3_35
    case y3_35 =>
      intro w' hSw
      have k00 := (bx.ext hSw).c4
      go_simp
      try with_reducible rfl
    try simp only [Act.put]
    try simp only [List.setIfInBounds_toArray]
    try simp only [List.set_cons_succ]
    try simp only [List.set_cons_zero]
    refine wpL.take (i := 1) (d := some 7) (v := ?v1_36) rfl rfl (by kernel_rfl) (by kernel_rfl) (by kernel_rfl) (by kernel_rfl) hQ (Or.inl ⟨by rfl, ?y1_36⟩) ES ?r1_36
    case y1_36 =>
      intro w' hSw
      have k00 := (bx.ext hSw).c4
      go_simp
      try with_reducible rfl
    try simp only [Act.put]
    try simp only [List.setIfInBounds_toArray]
    try simp only [List.set_cons_succ]
    try simp only [List.set_cons_zero]
    refine wpL.take (i := 4) (d := some 10) (v := ?v4_37) rfl rfl (by kernel_rfl) (by kernel_rfl) (by kernel_rfl) (by kernel_rfl) hQ (Or.inl ⟨by rfl, ?y4_37⟩) ES ?r4_37
    case y4_37 =>
      intro w' hSw
      have k00 := (bx.ext hSw).c4
      go_simp
      try with_reducible rfl
    try simp only [Act.put]
    try simp only [List.setIfInBounds_toArray]
    try simp only [List.set_cons_succ]
    try simp only [List.set_cons_zero]
    refine wpL.call (i := 2) rfl (by kernel_rfl) (fun K hK => ?_)
    go_simp
    (go_at_call 87; refine (q_Neg (h.den.ext (extW.trans ES)) (by omega)).mono ?_; rintro e wa ⟨s1, A1, n1, c1, rfl, h1, hx0⟩; have E0_2 := Ext.trans ES hx0)
    refine hK.out _ _ E0_2 ?_
    clear hK K
    try simp only [Act.put]
    try simp only [List.setIfInBounds_toArray]
    try simp only [List.set_cons_succ]
    try simp only [List.set_cons_zero]
    refine wpL.call (i := 5) rfl (by kernel_rfl) (fun K hK => ?_)
    go_simp
    (go_at_call 87; refine (q_Neg (h.num.ext (extW.trans E0_2)) (by omega)).mono ?_; rintro e wb ⟨s2, A2, n2, c2, rfl, h2, hx1⟩; have E1_2 := Ext.trans E0_2 hx1)
    refine hK.out _ _ E1_2 ?_
    clear hK K
    try simp only [Act.put]
    try simp only [List.setIfInBounds_toArray]
    try simp only [List.set_cons_succ]
    try simp only [List.set_cons_zero]
    refine wpL.take (i := 6) (d := some 12) (v := ?v6_38) rfl rfl (by kernel_rfl) (by kernel_rfl) (by kernel_rfl) (by kernel_rfl) hQ (Or.inl ⟨by rfl, ?y6_38⟩) E1_2 ?r6_38
    case y6_38 =>
      intro w' hSw
      have k00 := (bx.ext hSw).c4
      go_simp
      try with_reducible rfl
    try simp only [Act.put]
    try simp only [List.setIfInBounds_toArray]
    try simp only [List.set_cons_succ]
    try simp only [List.set_cons_zero]
    have z0 := (bz.ext E1_2).cell 0 _ rfl
    have z1 := (bz.ext E1_2).cell 1 _ rfl
    have z2 := (bz.ext E1_2).cell 2 _ rfl
    have z3 := (bz.ext E1_2).cell 3 _ rfl
    have f0 := (bz.ext E1_2).frozen 0
    have f1 := (bz.ext E1_2).frozen 1
    have f2 := (bz.ext E1_2).frozen 2
    have f3 := (bz.ext E1_2).frozen 3
    refine wpL.tail (i := 7) rfl (by kernel_rfl) (by kernel_rfl) (fun K hK => ?_)
    go_simp
    refine hK.out _ _ ?_
    clear hK K
    try simp only [Act.put]
    try simp only [List.setIfInBounds_toArray]
    try simp only [List.set_cons_succ]
    try simp only [List.set_cons_zero]
    refine wpL.done (by kernel_rfl) ?_ _
    clear hQ
    go_wp2_with fail
    obtain ⟨b1, b2, b3, b4⟩ := fin_quad (s := s1) (A := A1) (n := n1) (c := c1) (t := s2) (B := A2) (m := n2) (d := c2) (bz.ext E1_2)
    have r0 := b1.cell 0 (.bool s1) rfl
    have r1 := b1.cell 1 (.slice A1 n1 c1) rfl
    have r2 := b1.cell 2 (.bool s2) rfl
    have r3 := b1.cell 3 (.slice A2 n2 c2) rfl
    unfold set4 at r0 r1 r2 r3
    refine bodyPost_ret (v := .agg #[.bool s1, .slice A1 n1 c1, .bool s2, .slice A2 n2 c2]) (by simp [results, Tryz.results63, go_sem, r0, r1, r2, r3]) rfl ⟨s1, A1, n1, c1, s2, A2, n2, c2, rfl, ⟨?_, ?_⟩, b3 _ (extW.trans E1_2) (by omega)⟩
    · rw [He3.out]; exact b2 _ _ _ _ _ _ (h1.ext hx1)
    · rw [He4.out]; exact b2 _ _ _ _ _ _ h2
  · obtain ⟨e3, e4⟩ := e2 (by omega)
    have He3 := Lib.hid e3
    have He4 := Lib.hid e4
    obtain rfl : s = false := by rw [h.num.neg]; exact decide_eq_false hn
    clear e1 e2 e3 e4 hn
    go_enter Tryz.func63, Tryz.ntmps63
    go_upto_region 1 with (fail)
    obtain ⟨W, hW, extW, bx, bz, hz⟩ := box2 w 26 26 #[.bool false, .slice A n c, .bool t, .slice B m d] #[Value.bool false, Value.slice none 0 0, Value.bool false, Value.slice none 0 0]
    rw [← hW]
    clear hW
    have x0 := bx.cell 0 (.bool false) rfl
    have x1 := bx.cell 1 (.slice A n c) rfl
    have x2 := bx.cell 2 (.bool t) rfl
    have x3 := bx.cell 3 (.slice B m d) rfl
    have hE := Ext.refl W
    have z0 := (bz.ext hE).cell 0 _ rfl
    have z1 := (bz.ext hE).cell 1 _ rfl
    have z2 := (bz.ext hE).cell 2 _ rfl
    have z3 := (bz.ext hE).cell 3 _ rfl
    have f0 := (bz.ext hE).frozen 0
    have f1 := (bz.ext hE).frozen 1
    have f2 := (bz.ext hE).frozen 2
    have f3 := (bz.ext hE).frozen 3
    go_wp2_with fail
    obtain ⟨b1, b2, b3, b4⟩ := fin_quad (s := t) (A := B) (n := m) (c := d) (t := false) (B := A) (m := n) (d := c) (bz.ext hE)
    have r0 := b1.cell 0 (.bool t) rfl
    have r1 := b1.cell 1 (.slice B m d) rfl
    have r2 := b1.cell 2 (.bool false) rfl
    have r3 := b1.cell 3 (.slice A n c) rfl
    unfold set4 at r0 r1 r2 r3
    refine bodyPost_ret (v := .agg #[.bool t, .slice B m d, .bool false, .slice A n c]) (by simp [results, Tryz.results63, go_sem, r0, r1, r2, r3]) rfl ⟨t, B, m, d, false, A, n, c, rfl, ⟨?_, ?_⟩, b3 _ (extW.trans hE) (by omega)⟩
    · rw [He3.out]; exact b2 _ _ _ _ _ _ (h.den.ext extW)
    · rw [He4.out]; exact b2 _ _ _ _ _ _ (h.num.ext extW)
end
end Go.Proofs.YtoabhnofppledaaGreatDoor
namespace Go.Proofs.YtoabhnofppledaaGreatDoor
open Go.RowKit
attribute [local go_sem ↓] Go.wp_at_zero Go.wp_at_succ
section
variable {w w' : World} {z y : Int} {q p : Rat} {L M : Nat} {s t s' t' : Bool} {A B A' B' : Option Addr} {n c m d n' c' m' d' : Nat}
theorem rat_mul_one {q p : Rat} (h1 : (q.den : Int) = 1) (h2 : (p.den : Int) = 1) : (q * p).num = q.num * p.num ∧ ((q * p).den : Int) = (q.den : Int) := by
  have e1 : q.den = 1 := by omega
  have e2 : p.den = 1 := by omega
  obtain ⟨a, b⟩ := rat_mul q p (g := 1) (h := 1) (by rw [e2]; simp) (by rw [e1]; simp)
  rw [a, b, e1, e2]
  simp
set_option maxHeartbeats 16000000 in
set_option maxRecDepth 100000 in
theorem q_MulR (h : NR w q L s A n c t B m d) (k : NR w p M s' A' n' c' t' B' m' d') (hL : L ≤ 1000) (hM : M ≤ 1000) : Calls Tryz.prog 44 #[.agg #[.bool s, .slice A n c, .bool t, .slice B m d], .agg #[.bool s', .slice A' n' c', .bool t', .slice B' m' d']] w (RetNR (q * p) (L + M) w) := by
  have hL1 := h.pos
  have hM1 := k.pos
  go_enter Tryz.func44, Tryz.ntmps44
  go_upto_region 1 with (fail)
  obtain ⟨W, hW, extW, bx, by_, bz, hz⟩ := box3 w 26 26 26 #[.bool s, .slice A n c, .bool t, .slice B m d] #[.bool s', .slice A' n' c', .bool t', .slice B' m' d'] #[Value.bool false, Value.slice none 0 0, Value.bool false, Value.slice none 0 0]
  rw [← hW]
  clear hW
  replace h := h.ext extW
  replace k := k.ext extW
  have hz1 := h.num.zero
  have hz2 := k.num.zero
  by_cases hq0 : q.num = 0
  · have hn2 : ((n : Int) == 0) = true := by rw [beq_iff_eq]; have := hz1.2 hq0; omega
    have hqp : q * p = ((0 : Int) : Rat) := by rw [Rat.num_eq_zero.1 hq0, Rat.zero_mul]; rfl
    clear hz1 hz2 hq0
    have x1 := bx.cell 1 (.slice A n c) rfl
    have y1 := by_.cell 1 (.slice A' n' c') rfl
    go_wp2_with fail
    refine (q_FromIntR 0 (by omega) (by omega)).mono ?_
    rintro e wb ⟨s1, A1, n1, c1', t1, B1, m1, d1, rfl, hr, hxb⟩
    have z0 := (bz.ext hxb).cell 0 _ rfl
    have z1 := (bz.ext hxb).cell 1 _ rfl
    have z2 := (bz.ext hxb).cell 2 _ rfl
    have z3 := (bz.ext hxb).cell 3 _ rfl
    have f0 := (bz.ext hxb).frozen 0
    have f1 := (bz.ext hxb).frozen 1
    have f2 := (bz.ext hxb).frozen 2
    have f3 := (bz.ext hxb).frozen 3
    go_wp2_with fail
    obtain ⟨b1, b2, b3, b4⟩ := fin_quad (s := s1) (A := A1) (n := n1) (c := c1') (t := t1) (B := B1) (m := m1) (d := d1) (bz.ext hxb)
    have r0 := b1.cell 0 (.bool s1) rfl
    have r1 := b1.cell 1 (.slice A1 n1 c1') rfl
    have r2 := b1.cell 2 (.bool t1) rfl
    have r3 := b1.cell 3 (.slice B1 m1 d1) rfl
    unfold set4 at r0 r1 r2 r3
    refine bodyPost_ret (v := .agg #[.bool s1, .slice A1 n1 c1', .bool t1, .slice B1 m1 d1]) (by simp [results, Tryz.results44, go_sem, r0, r1, r2, r3]) rfl ⟨s1, A1, n1, c1', t1, B1, m1, d1, rfl, ⟨?_, ?_⟩, b3 _ (extW.trans hxb) (by omega)⟩
    · rw [hqp]; exact (b2 _ _ _ _ _ _ hr.num).le (by omega)
    · rw [hqp]; exact (b2 _ _ _ _ _ _ hr.den).le (by omega)
  · have hn2 : ((n : Int) == 0) = false := by rw [beq_eq_false_iff_ne]; intro h0; exact hq0 (hz1.1 (by omega))
    by_cases hp0 : p.num = 0
    · have hm2 : ((n' : Int) == 0) = true := by rw [beq_iff_eq]; have := hz2.2 hp0; omega
      have hqp : q * p = ((0 : Int) : Rat) := by rw [Rat.num_eq_zero.1 hp0, Rat.mul_zero]; rfl
      clear hz1 hz2 hq0 hp0
      have x1 := bx.cell 1 (.slice A n c) rfl
      have y1 := by_.cell 1 (.slice A' n' c') rfl
      go_wp2_with fail
      refine (q_FromIntR 0 (by omega) (by omega)).mono ?_
      rintro e wb ⟨s1, A1, n1, c1', t1, B1, m1, d1, rfl, hr, hxb⟩
      have z0 := (bz.ext hxb).cell 0 _ rfl
      have z1 := (bz.ext hxb).cell 1 _ rfl
      have z2 := (bz.ext hxb).cell 2 _ rfl
      have z3 := (bz.ext hxb).cell 3 _ rfl
      have f0 := (bz.ext hxb).frozen 0
      have f1 := (bz.ext hxb).frozen 1
      have f2 := (bz.ext hxb).frozen 2
      have f3 := (bz.ext hxb).frozen 3
      go_wp2_with fail
      obtain ⟨b1, b2, b3, b4⟩ := fin_quad (s := s1) (A := A1) (n := n1) (c := c1') (t := t1) (B := B1) (m := m1) (d := d1) (bz.ext hxb)
      have r0 := b1.cell 0 (.bool s1) rfl
      have r1 := b1.cell 1 (.slice A1 n1 c1') rfl
      have r2 := b1.cell 2 (.bool t1) rfl
      have r3 := b1.cell 3 (.slice B1 m1 d1) rfl
      unfold set4 at r0 r1 r2 r3
      refine bodyPost_ret (v := .agg #[.bool s1, .slice A1 n1 c1', .bool t1, .slice B1 m1 d1]) (by simp [results, Tryz.results44, go_sem, r0, r1, r2, r3]) rfl ⟨s1, A1, n1, c1', t1, B1, m1, d1, rfl, ⟨?_, ?_⟩, b3 _ (extW.trans hxb) (by omega)⟩
      · rw [hqp]; exact (b2 _ _ _ _ _ _ hr.num).le (by omega)
      · rw [hqp]; exact (b2 _ _ _ _ _ _ hr.den).le (by omega)
    · have hm2 : ((n' : Int) == 0) = false := by rw [beq_eq_false_iff_ne]; intro h0; exact hp0 (hz2.1 (by omega))
      clear hz1 hz2 hq0 hp0
      have x1 := bx.cell 1 (.slice A n c) rfl
      have y1 := by_.cell 1 (.slice A' n' c') rfl
      go_upto_region 3 with (fail)
      clear x1 y1
      have x0 := bx.cell 0 (.bool s) rfl
      have x1 := bx.cell 1 (.slice A n c) rfl
      have x2 := bx.cell 2 (.bool t) rfl
      have x3 := bx.cell 3 (.slice B m d) rfl
      go_wp2_with fail
      refine (q_one h.den).mono ?_
      rintro e wb ⟨rfl, hxb⟩
      replace bx := bx.ext hxb
      replace by_ := by_.ext hxb
      replace bz := bz.ext hxb
      replace h := h.ext hxb
      replace k := k.ext hxb
      replace extW := extW.trans hxb
      clear hxb
      clear x0 x1 x2 x3
      by_cases h1 : (q.den : Int) = 1
      · rw [decide_eq_true h1]
        have H1 := Lib.hid h1
        clear h1
        have y2 := by_.cell 2 (.bool t') rfl
        have y3 := by_.cell 3 (.slice B' m' d') rfl
        go_wp2_with fail
        refine (q_one k.den).mono ?_
        rintro e V ⟨rfl, hxc⟩
        replace bx := bx.ext hxc
        replace by_ := by_.ext hxc
        replace bz := bz.ext hxc
        replace h := h.ext hxc
        replace k := k.ext hxc
        replace extW := extW.trans hxc
        clear hxc y2 y3
        by_cases h2 : (p.den : Int) = 1
        · rw [decide_eq_true h2]
          have H2 := Lib.hid h2
          clear h2
          go_wp2_with fail
          refine wpL.start 8 (by kernel_rfl) (fun _ _ _ _ _ => ⟨fun h => h, fun h => h⟩) (fun hQ ES => ?_)
          refine wpL.take (i := 0) (d := some 28) (v := ?v0_48) rfl rfl (by kernel_rfl) (by kernel_rfl) (by kernel_rfl) (by kernel_rfl) hQ (Or.inl ⟨by rfl, ?y0_48⟩) ES ?r0_48
          case y0_48 =>
            intro w' hSw
            have k00 := (bx.ext hSw).c4
            have k10 := (by_.ext hSw).c4
            go_simp
            try with_reducible rfl
          try simp only [Act.put]
          try simp only [List.setIfInBounds_toArray]
          try simp only [List.set_cons_succ]
          try simp only [List.set_cons_zero]
          refine wpL.take (i := 2) (d := some 30) (v := ?v2_49) rfl rfl (by kernel_rfl) (by kernel_rfl) (by kernel_rfl) (by kernel_rfl) hQ (Or.inl ⟨by rfl, ?y2_49⟩) ES ?r2_49
          case y2_49 =>
            intro w' hSw
            have k00 := (bx.ext hSw).c4
            have k10 := (by_.ext hSw).c4
            go_simp
            try with_reducible rfl
          try simp only [Act.put]
          try simp only [List.setIfInBounds_toArray]
          try simp only [List.set_cons_succ]
          try simp only [List.set_cons_zero]
          refine wpL.take (i := 5) (d := some 33) (v := ?v5_50) rfl rfl (by kernel_rfl) (by kernel_rfl) (by kernel_rfl) (by kernel_rfl) hQ (Or.inl ⟨by rfl, ?y5_50⟩) ES ?r5_50
          case y5_50 =>
            intro w' hSw
            have k00 := (bx.ext hSw).c4
            have k10 := (by_.ext hSw).c4
            go_simp
            try with_reducible rfl
          try simp only [Act.put]
          try simp only [List.setIfInBounds_toArray]
          try simp only [List.set_cons_succ]
          try simp only [List.set_cons_zero]
          refine wpL.take (i := 1) (d := some 29) (v := ?v1_51) rfl rfl (by kernel_rfl) (by kernel_rfl) (by kernel_rfl) (by kernel_rfl) hQ (Or.inl ⟨by rfl, ?y1_51⟩) ES ?r1_51
          case y1_51 =>
            intro w' hSw
            have k00 := (bx.ext hSw).c4
            have k10 := (by_.ext hSw).c4
            go_simp
            try with_reducible rfl
          try simp only [Act.put]
          try simp only [List.setIfInBounds_toArray]
          try simp only [List.set_cons_succ]
          try simp only [List.set_cons_zero]
          refine wpL.take (i := 3) (d := some 31) (v := ?v3_52) rfl rfl (by kernel_rfl) (by kernel_rfl) (by kernel_rfl) (by kernel_rfl) hQ (Or.inl ⟨by rfl, ?y3_52⟩) ES ?r3_52
          case y3_52 =>
            intro w' hSw
            have k00 := (bx.ext hSw).c4
            have k10 := (by_.ext hSw).c4
            go_simp
            try with_reducible rfl
          try simp only [Act.put]
          try simp only [List.setIfInBounds_toArray]
          try simp only [List.set_cons_succ]
          try simp only [List.set_cons_zero]
          refine wpL.take (i := 6) (d := some 34) (v := ?v6_53) rfl rfl (by kernel_rfl) (by kernel_rfl) (by kernel_rfl) (by kernel_rfl) hQ (Or.inl ⟨by rfl, ?y6_53⟩) ES ?r6_53
          case y6_53 =>
            intro w' hSw
            have k00 := (bx.ext hSw).c4
            have k10 := (by_.ext hSw).c4
            go_simp
            try with_reducible rfl
          try simp only [Act.put]
          try simp only [List.setIfInBounds_toArray]
          try simp only [List.set_cons_succ]
          try simp only [List.set_cons_zero]
          refine wpL.call (i := 4) rfl (by kernel_rfl) (fun K hK => ?_)
          go_simp
          (go_at_call 77; refine (q_Mul (h.num.ext ES) (k.num.ext ES) (by omega) (by omega)).mono ?_; rintro e wk1 ⟨s5, A5, n5, c5, rfl, h5, hx0⟩; have E0_4 := Ext.trans ES hx0)
          refine hK.out _ _ E0_4 ?_
          clear hK K
          try simp only [Act.put]
          try simp only [List.setIfInBounds_toArray]
          try simp only [List.set_cons_succ]
          try simp only [List.set_cons_zero]
          refine wpL.take (i := 7) (d := some 35) (v := ?v7_54) rfl rfl (by kernel_rfl) (by kernel_rfl) (by kernel_rfl) (by kernel_rfl) hQ (Or.inl ⟨by rfl, ?y7_54⟩) E0_4 ?r7_54
          case y7_54 =>
            intro w' hSw
            have k00 := (bx.ext hSw).c4
            have k10 := (by_.ext hSw).c4
            go_simp
            try with_reducible rfl
          try simp only [Act.put]
          try simp only [List.setIfInBounds_toArray]
          try simp only [List.set_cons_succ]
          try simp only [List.set_cons_zero]
          have z0 := (bz.ext E0_4).cell 0 _ rfl
          have z1 := (bz.ext E0_4).cell 1 _ rfl
          have z2 := (bz.ext E0_4).cell 2 _ rfl
          have z3 := (bz.ext E0_4).cell 3 _ rfl
          have f0 := (bz.ext E0_4).frozen 0
          have f1 := (bz.ext E0_4).frozen 1
          have f2 := (bz.ext E0_4).frozen 2
          have f3 := (bz.ext E0_4).frozen 3
          refine wpL.tail (i := 8) rfl (by kernel_rfl) (by kernel_rfl) (fun K hK => ?_)
          go_simp
          refine hK.out _ _ ?_
          clear hK K
          try simp only [Act.put]
          try simp only [List.setIfInBounds_toArray]
          try simp only [List.set_cons_succ]
          try simp only [List.set_cons_zero]
          refine wpL.done (by kernel_rfl) ?_ _
          clear hQ
          go_wp2_with fail
          obtain ⟨e5, e6⟩ := rat_mul_one H1.out H2.out
          obtain ⟨b1, b2, b3, b4⟩ := fin_quad (s := s5) (A := A5) (n := n5) (c := c5) (t := t) (B := B) (m := m) (d := d) (bz.ext E0_4)
          have r0 := b1.cell 0 (.bool s5) rfl
          have r1 := b1.cell 1 (.slice A5 n5 c5) rfl
          have r2 := b1.cell 2 (.bool t) rfl
          have r3 := b1.cell 3 (.slice B m d) rfl
          unfold set4 at r0 r1 r2 r3
          refine bodyPost_ret (v := .agg #[.bool s5, .slice A5 n5 c5, .bool t, .slice B m d]) (by simp [results, Tryz.results44, go_sem, r0, r1, r2, r3]) rfl ⟨s5, A5, n5, c5, t, B, m, d, rfl, ⟨?_, ?_⟩, b3 _ (extW.trans E0_4) (by omega)⟩
          · rw [e5]; exact b2 _ _ _ _ _ _ h5
          · rw [e6]; exact (b2 _ _ _ _ _ _ (h.den.ext E0_4)).le (by omega)
        · rw [decide_eq_false h2]
          clear h2
          go_wp2_with fail
          have ES0 := Ext.refl V
          refine wp_region_held_drew (S := Ext V) (by kernel_rfl) ES0.drew (fun ES => ?_)
          clear ES0
          refine Late.start2 (x := ⟨10, 5, 24, #[Value.bool false, Value.slice none 0 0]⟩) (y := ⟨11, 6, 24, #[Value.bool false, Value.slice none 0 0]⟩) (n := 12) ⟨_, rfl, rfl, rfl, fun a w => by go_simp⟩ ⟨_, rfl, rfl, rfl, fun a w => by go_simp⟩ (fun _ _ _ _ _ => ⟨fun h => h, fun h => h⟩) ES rfl (fun hAl hQ => ?_)
          refine Late.take (i := 0) (d := some 36) (v := ?v0_55a) rfl rfl (by kernel_rfl) (by kernel_rfl) (by kernel_rfl) (by kernel_rfl) hQ (Or.inl ⟨by rfl, ?y0_55a⟩) ?r0_55a
          case y0_55a =>
            intro w' hSw
            have k00 := (bx.ext hSw).c4
            have k10 := (by_.ext hSw).c4
            go_simp
            try with_reducible rfl
          try simp only [Act.put]
          try simp only [List.setIfInBounds_toArray]
          try simp only [List.set_cons_succ]
          try simp only [List.set_cons_zero]
          refine Late.take (i := 2) (d := some 38) (v := ?v2_56a) rfl rfl (by kernel_rfl) (by kernel_rfl) (by kernel_rfl) (by kernel_rfl) hQ (Or.inl ⟨by rfl, ?y2_56a⟩) ?r2_56a
          case y2_56a =>
            intro w' hSw
            have k00 := (bx.ext hSw).c4
            have k10 := (by_.ext hSw).c4
            go_simp
            try with_reducible rfl
          try simp only [Act.put]
          try simp only [List.setIfInBounds_toArray]
          try simp only [List.set_cons_succ]
          try simp only [List.set_cons_zero]
          refine Late.take (i := 5) (d := some 41) (v := ?v5_57a) rfl rfl (by kernel_rfl) (by kernel_rfl) (by kernel_rfl) (by kernel_rfl) hQ (Or.inl ⟨by rfl, ?y5_57a⟩) ?r5_57a
          case y5_57a =>
            intro w' hSw
            have k00 := (bx.ext hSw).c4
            have k10 := (by_.ext hSw).c4
            go_simp
            try with_reducible rfl
          try simp only [Act.put]
          try simp only [List.setIfInBounds_toArray]
          try simp only [List.set_cons_succ]
          try simp only [List.set_cons_zero]
          refine Late.take (i := 7) (d := some 43) (v := ?v7_58a) rfl rfl (by kernel_rfl) (by kernel_rfl) (by kernel_rfl) (by kernel_rfl) hQ (Or.inl ⟨by rfl, ?y7_58a⟩) ?r7_58a
          case y7_58a =>
            intro w' hSw
            have k00 := (bx.ext hSw).c4
            have k10 := (by_.ext hSw).c4
            go_simp
            try with_reducible rfl
          try simp only [Act.put]
          try simp only [List.setIfInBounds_toArray]
          try simp only [List.set_cons_succ]
          try simp only [List.set_cons_zero]
          refine Late.take (i := 1) (d := some 37) (v := ?v1_59a) rfl rfl (by kernel_rfl) (by kernel_rfl) (by kernel_rfl) (by kernel_rfl) hQ (Or.inl ⟨by rfl, ?y1_59a⟩) ?r1_59a
          case y1_59a =>
            intro w' hSw
            have k00 := (bx.ext hSw).c4
            have k10 := (by_.ext hSw).c4
            go_simp
            try with_reducible rfl
          try simp only [Act.put]
          try simp only [List.setIfInBounds_toArray]
          try simp only [List.set_cons_succ]
          try simp only [List.set_cons_zero]
          refine Late.take (i := 3) (d := some 39) (v := ?v3_60a) rfl rfl (by kernel_rfl) (by kernel_rfl) (by kernel_rfl) (by kernel_rfl) hQ (Or.inl ⟨by rfl, ?y3_60a⟩) ?r3_60a
          case y3_60a =>
            intro w' hSw
            have k00 := (bx.ext hSw).c4
            have k10 := (by_.ext hSw).c4
            go_simp
            try with_reducible rfl
          try simp only [Act.put]
          try simp only [List.setIfInBounds_toArray]
          try simp only [List.set_cons_succ]
          try simp only [List.set_cons_zero]
          refine Late.take (i := 6) (d := some 42) (v := ?v6_61a) rfl rfl (by kernel_rfl) (by kernel_rfl) (by kernel_rfl) (by kernel_rfl) hQ (Or.inl ⟨by rfl, ?y6_61a⟩) ?r6_61a
          case y6_61a =>
            intro w' hSw
            have k00 := (bx.ext hSw).c4
            have k10 := (by_.ext hSw).c4
            go_simp
            try with_reducible rfl
          try simp only [Act.put]
          try simp only [List.setIfInBounds_toArray]
          try simp only [List.set_cons_succ]
          try simp only [List.set_cons_zero]
          refine Late.take (i := 8) (d := some 44) (v := ?v8_62a) rfl rfl (by kernel_rfl) (by kernel_rfl) (by kernel_rfl) (by kernel_rfl) hQ (Or.inl ⟨by rfl, ?y8_62a⟩) ?r8_62a
          case y8_62a =>
            intro w' hSw
            have k00 := (bx.ext hSw).c4
            have k10 := (by_.ext hSw).c4
            go_simp
            try with_reducible rfl
          try simp only [Act.put]
          try simp only [List.setIfInBounds_toArray]
          try simp only [List.set_cons_succ]
          try simp only [List.set_cons_zero]
          refine Late.call (i := 4) rfl (by kernel_rfl) hAl (by kernel_rfl) (by kernel_rfl) (by kernel_rfl) hQ (fun w4 e4 E4 K hK => ?_)
          go_simp
          (go_at_call 84; refine (q_GCD (h.num.ext E4) (k.den.ext E4) (by omega) (by omega)).mono ?_; rintro e wk1 ⟨s1, A1, n1, c1', rfl, h1, hx4⟩; rw [Int.natAbs_natCast] at h1)
          refine hK.out _ _ hx4 ?_
          clear hK K
          try simp only [Act.put]
          try simp only [List.setIfInBounds_toArray]
          try simp only [List.set_cons_succ]
          try simp only [List.set_cons_zero]
          refine Late.call (i := 9) rfl (by kernel_rfl) hAl (by kernel_rfl) (by kernel_rfl) (by kernel_rfl) hQ (fun w9 e9 E9 K hK => ?_)
          go_simp
          (go_at_call 84; refine (q_GCD (k.num.ext E9) (h.den.ext E9) (by omega) (by omega)).mono ?_; rintro e wk2 ⟨s2, A2, n2, c2', rfl, h2, hx9⟩; rw [Int.natAbs_natCast] at h2)
          refine hK.out _ _ hx9 ?_
          clear hK K
          try simp only [Act.put]
          try simp only [List.setIfInBounds_toArray]
          try simp only [List.set_cons_succ]
          try simp only [List.set_cons_zero]
          refine Late.finish2 (hAl _ (by simp)) (hAl _ (by simp)) (by decide) (by decide) (by kernel_rfl) (by kernel_rfl) (by kernel_rfl) (fun wz g5 g6 ez Ez lg5 lg6 hne xb1 xb2 => ?_)
          clear hAl hQ ES
          have p10 := xb1.cell 0 (Value.bool false) rfl
          have p11 := xb1.cell 1 (Value.slice none 0 0) rfl
          have f10 := xb1.frozen 0
          have f11 := xb1.frozen 1
          have e4 := fin_dual (s := s1) (A := A1) (n := n1) (c := c1') xb1
          try simp only [Act.put]
          try simp only [List.setIfInBounds_toArray]
          try simp only [List.set_cons_succ]
          try simp only [List.set_cons_zero]
          refine wpAnyH_ready (rs := [12]) (by kernel_rfl) (by simp) (AllReadyH.cons rfl (fun K hK => ?_) AllReadyH.nil)
          go_simp
          refine hK.out _ _ (e4.2.2.1 _ Ez lg5) (fun _ => ?_)
          clear hK K
          try simp only [Act.put]
          try simp only [List.setIfInBounds_toArray]
          try simp only [List.set_cons_succ]
          try simp only [List.set_cons_zero]
          have e5 := e4.2.2.2 _ _ _ (Ne.symm hne) xb2
          refine any_world (fun U => Ext V U ∧ Box U g5 24 #[.bool s1, .slice A1 n1 c1'] ∧ Box U g6 24 #[Value.bool false, Value.slice none 0 0] ∧ NI U ((q.num.natAbs.gcd p.den : Nat) : Int) (max L M) s1 A1 n1 c1' ∧ NI U ((p.num.natAbs.gcd q.den : Nat) : Int) (max M L) s2 A2 n2 c2') ⟨e4.2.2.1 _ Ez lg5, e4.1, e5, e4.2.1 _ _ _ _ _ _ (h1.ext (e9.trans (hx9.trans ez))), e4.2.1 _ _ _ _ _ _ (h2.ext ez)⟩ ?_
          clear e4 e5 p10 p11 f10 f11 xb1 xb2
          rintro U ⟨EU, b8, xb2, h1, h2⟩
          have p10 := xb2.cell 0 (Value.bool false) rfl
          have p11 := xb2.cell 1 (Value.slice none 0 0) rfl
          have f10 := xb2.frozen 0
          have f11 := xb2.frozen 1
          have e4 := fin_dual (s := s2) (A := A2) (n := n2) (c := c2') xb2
          refine wpAnyH_ready (rs := [13]) (by kernel_rfl) (by simp) (AllReadyH.cons rfl (fun K hK => ?_) AllReadyH.nil)
          go_simp
          refine hK.out _ _ (e4.2.2.1 _ EU lg6) (fun _ => ?_)
          clear hK K
          try simp only [Act.put]
          try simp only [List.setIfInBounds_toArray]
          try simp only [List.set_cons_succ]
          try simp only [List.set_cons_zero]
          refine any_world (fun U2 => Ext V U2 ∧ Box U2 g5 24 #[.bool s1, .slice A1 n1 c1'] ∧ Box U2 g6 24 #[.bool s2, .slice A2 n2 c2'] ∧ NI U2 ((q.num.natAbs.gcd p.den : Nat) : Int) (max L M) s1 A1 n1 c1' ∧ NI U2 ((p.num.natAbs.gcd q.den : Nat) : Int) (max M L) s2 A2 n2 c2') ⟨e4.2.2.1 _ EU lg6, e4.2.2.2 _ _ _ hne b8, e4.1, e4.2.1 _ _ _ _ _ _ h1, e4.2.1 _ _ _ _ _ _ h2⟩ ?_
          clear e4 p10 p11 f10 f11 xb2 b8 h1 h2 lg5 lg6
          rintro U2 ⟨EU2, b8, b9, h1, h2⟩
          refine wpAnyH_done (by kernel_rfl) ?_ _
          replace bx := bx.ext EU2
          replace by_ := by_.ext EU2
          replace bz := bz.ext EU2
          replace h := h.ext EU2
          replace k := k.ext EU2
          replace extW := extW.trans EU2
          clear EU EU2 Ez ez
          obtain ⟨g, hge⟩ : ∃ g, q.num.natAbs.gcd p.den = g := ⟨_, rfl⟩
          obtain ⟨hq, hhe⟩ : ∃ g, p.num.natAbs.gcd q.den = g := ⟨_, rfl⟩
          rw [hge] at h1
          rw [hhe] at h2
          obtain ⟨q1, q2⟩ := rat_mul q p hge.symm hhe.symm
          have Hq1 := Lib.hid q1
          have Hq2 := Lib.hid q2
          have hgq : g ∣ q.num.natAbs := by rw [← hge]; exact Nat.gcd_dvd_left _ _
          have hgp : g ∣ p.den := by rw [← hge]; exact Nat.gcd_dvd_right _ _
          have hhp : hq ∣ p.num.natAbs := by rw [← hhe]; exact Nat.gcd_dvd_left _ _
          have hhq : hq ∣ q.den := by rw [← hhe]; exact Nat.gcd_dvd_right _ _
          have hg0 : (g : Int) ≠ 0 := by
            intro h0
            have : g = 0 := by omega
            rw [this] at hgp
            exact p.den_nz (Nat.eq_zero_of_zero_dvd hgp)
          have hh0 : (hq : Int) ≠ 0 := by
            intro h0
            have : hq = 0 := by omega
            rw [this] at hhq
            exact q.den_nz (Nat.eq_zero_of_zero_dvd hhq)
          have Hg0 := Lib.hid hg0
          have Hh0 := Lib.hid hh0
          have Hgq := Lib.hid (Int.ofNat_dvd_left.2 hgq)
          have Hgp := Lib.hid (Int.ofNat_dvd.2 hgp)
          have Hhp := Lib.hid (Int.ofNat_dvd_left.2 hhp)
          have Hhq := Lib.hid (Int.ofNat_dvd.2 hhq)
          have hg := h1
          have hh := h2
          clear hge hhe q1 q2 hgq hgp hhp hhq hg0 hh0 h1 h2
          go_wp2_with fail
          refine wpL.start 19 (by kernel_rfl) (fun _ _ _ _ _ => ⟨fun h => h, fun h => h⟩) (fun hQ ES => ?_)
          refine wpL.take (i := 0) (d := some 46) (v := ?v0_63a) rfl rfl (by kernel_rfl) (by kernel_rfl) (by kernel_rfl) (by kernel_rfl) hQ (Or.inl ⟨by rfl, ?y0_63a⟩) ES ?r0_63a
          case y0_63a =>
            intro w' hSw
            have k00 := (bx.ext hSw).c4
            have k10 := (by_.ext hSw).c4
            have k20 := (b8.ext hSw).c2
            have k30 := (b9.ext hSw).c2
            go_simp
            try with_reducible rfl
          try simp only [Act.put]
          try simp only [List.setIfInBounds_toArray]
          try simp only [List.set_cons_succ]
          try simp only [List.set_cons_zero]
          refine wpL.take (i := 2) (d := some 48) (v := ?v2_64a) rfl rfl (by kernel_rfl) (by kernel_rfl) (by kernel_rfl) (by kernel_rfl) hQ (Or.inl ⟨by rfl, ?y2_64a⟩) ES ?r2_64a
          case y2_64a =>
            intro w' hSw
            have k00 := (bx.ext hSw).c4
            have k10 := (by_.ext hSw).c4
            have k20 := (b8.ext hSw).c2
            have k30 := (b9.ext hSw).c2
            go_simp
            try with_reducible rfl
          try simp only [Act.put]
          try simp only [List.setIfInBounds_toArray]
          try simp only [List.set_cons_succ]
          try simp only [List.set_cons_zero]
          refine wpL.take (i := 4) (d := some 50) (v := ?v4_65a) rfl rfl (by kernel_rfl) (by kernel_rfl) (by kernel_rfl) (by kernel_rfl) hQ (Or.inl ⟨by rfl, ?y4_65a⟩) ES ?r4_65a
          case y4_65a =>
            intro w' hSw
            have k00 := (bx.ext hSw).c4
            have k10 := (by_.ext hSw).c4
            have k20 := (b8.ext hSw).c2
            have k30 := (b9.ext hSw).c2
            go_simp
            try with_reducible rfl
          try simp only [Act.put]
          try simp only [List.setIfInBounds_toArray]
          try simp only [List.set_cons_succ]
          try simp only [List.set_cons_zero]
          refine wpL.take (i := 6) (d := some 52) (v := ?v6_66a) rfl rfl (by kernel_rfl) (by kernel_rfl) (by kernel_rfl) (by kernel_rfl) hQ (Or.inl ⟨by rfl, ?y6_66a⟩) ES ?r6_66a
          case y6_66a =>
            intro w' hSw
            have k00 := (bx.ext hSw).c4
            have k10 := (by_.ext hSw).c4
            have k20 := (b8.ext hSw).c2
            have k30 := (b9.ext hSw).c2
            go_simp
            try with_reducible rfl
          try simp only [Act.put]
          try simp only [List.setIfInBounds_toArray]
          try simp only [List.set_cons_succ]
          try simp only [List.set_cons_zero]
          refine wpL.take (i := 9) (d := some 55) (v := ?v9_67a) rfl rfl (by kernel_rfl) (by kernel_rfl) (by kernel_rfl) (by kernel_rfl) hQ (Or.inl ⟨by rfl, ?y9_67a⟩) ES ?r9_67a
          case y9_67a =>
            intro w' hSw
            have k00 := (bx.ext hSw).c4
            have k10 := (by_.ext hSw).c4
            have k20 := (b8.ext hSw).c2
            have k30 := (b9.ext hSw).c2
            go_simp
            try with_reducible rfl
          try simp only [Act.put]
          try simp only [List.setIfInBounds_toArray]
          try simp only [List.set_cons_succ]
          try simp only [List.set_cons_zero]
          refine wpL.take (i := 11) (d := some 57) (v := ?v11_68a) rfl rfl (by kernel_rfl) (by kernel_rfl) (by kernel_rfl) (by kernel_rfl) hQ (Or.inl ⟨by rfl, ?y11_68a⟩) ES ?r11_68a
          case y11_68a =>
            intro w' hSw
            have k00 := (bx.ext hSw).c4
            have k10 := (by_.ext hSw).c4
            have k20 := (b8.ext hSw).c2
            have k30 := (b9.ext hSw).c2
            go_simp
            try with_reducible rfl
          try simp only [Act.put]
          try simp only [List.setIfInBounds_toArray]
          try simp only [List.set_cons_succ]
          try simp only [List.set_cons_zero]
          refine wpL.take (i := 13) (d := some 59) (v := ?v13_69a) rfl rfl (by kernel_rfl) (by kernel_rfl) (by kernel_rfl) (by kernel_rfl) hQ (Or.inl ⟨by rfl, ?y13_69a⟩) ES ?r13_69a
          case y13_69a =>
            intro w' hSw
            have k00 := (bx.ext hSw).c4
            have k10 := (by_.ext hSw).c4
            have k20 := (b8.ext hSw).c2
            have k30 := (b9.ext hSw).c2
            go_simp
            try with_reducible rfl
          try simp only [Act.put]
          try simp only [List.setIfInBounds_toArray]
          try simp only [List.set_cons_succ]
          try simp only [List.set_cons_zero]
          refine wpL.take (i := 15) (d := some 61) (v := ?v15_70a) rfl rfl (by kernel_rfl) (by kernel_rfl) (by kernel_rfl) (by kernel_rfl) hQ (Or.inl ⟨by rfl, ?y15_70a⟩) ES ?r15_70a
          case y15_70a =>
            intro w' hSw
            have k00 := (bx.ext hSw).c4
            have k10 := (by_.ext hSw).c4
            have k20 := (b8.ext hSw).c2
            have k30 := (b9.ext hSw).c2
            go_simp
            try with_reducible rfl
          try simp only [Act.put]
          try simp only [List.setIfInBounds_toArray]
          try simp only [List.set_cons_succ]
          try simp only [List.set_cons_zero]
          refine wpL.take (i := 1) (d := some 47) (v := ?v1_71a) rfl rfl (by kernel_rfl) (by kernel_rfl) (by kernel_rfl) (by kernel_rfl) hQ (Or.inl ⟨by rfl, ?y1_71a⟩) ES ?r1_71a
          case y1_71a =>
            intro w' hSw
            have k00 := (bx.ext hSw).c4
            have k10 := (by_.ext hSw).c4
            have k20 := (b8.ext hSw).c2
            have k30 := (b9.ext hSw).c2
            go_simp
            try with_reducible rfl
          try simp only [Act.put]
          try simp only [List.setIfInBounds_toArray]
          try simp only [List.set_cons_succ]
          try simp only [List.set_cons_zero]
          refine wpL.take (i := 5) (d := some 51) (v := ?v5_72a) rfl rfl (by kernel_rfl) (by kernel_rfl) (by kernel_rfl) (by kernel_rfl) hQ (Or.inl ⟨by rfl, ?y5_72a⟩) ES ?r5_72a
          case y5_72a =>
            intro w' hSw
            have k00 := (bx.ext hSw).c4
            have k10 := (by_.ext hSw).c4
            have k20 := (b8.ext hSw).c2
            have k30 := (b9.ext hSw).c2
            go_simp
            try with_reducible rfl
          try simp only [Act.put]
          try simp only [List.setIfInBounds_toArray]
          try simp only [List.set_cons_succ]
          try simp only [List.set_cons_zero]
          refine wpL.take (i := 10) (d := some 56) (v := ?v10_73a) rfl rfl (by kernel_rfl) (by kernel_rfl) (by kernel_rfl) (by kernel_rfl) hQ (Or.inl ⟨by rfl, ?y10_73a⟩) ES ?r10_73a
          case y10_73a =>
            intro w' hSw
            have k00 := (bx.ext hSw).c4
            have k10 := (by_.ext hSw).c4
            have k20 := (b8.ext hSw).c2
            have k30 := (b9.ext hSw).c2
            go_simp
            try with_reducible rfl
          try simp only [Act.put]
          try simp only [List.setIfInBounds_toArray]
          try simp only [List.set_cons_succ]
          try simp only [List.set_cons_zero]
          refine wpL.take (i := 14) (d := some 60) (v := ?v14_74a) rfl rfl (by kernel_rfl) (by kernel_rfl) (by kernel_rfl) (by kernel_rfl) hQ (Or.inl ⟨by rfl, ?y14_74a⟩) ES ?r14_74a
          case y14_74a =>
            intro w' hSw
            have k00 := (bx.ext hSw).c4
            have k10 := (by_.ext hSw).c4
            have k20 := (b8.ext hSw).c2
            have k30 := (b9.ext hSw).c2
            go_simp
            try with_reducible rfl
          try simp only [Act.put]
          try simp only [List.setIfInBounds_toArray]
          try simp only [List.set_cons_succ]
          try simp only [List.set_cons_zero]
          refine wpL.call (i := 3) rfl (by kernel_rfl) (fun K hK => ?_)
          go_simp
          (go_at_call 85; refine (q_quo (h.num.ext ES) (hg.ext ES) (by omega) (by omega) Hg0.out Hgq.out).mono ?_; rintro e wk1 ⟨s3, A3, n3, c3, rfl, h3, hx0⟩; have E0_6 := Ext.trans ES hx0)
          refine hK.out _ _ E0_6 ?_
          clear hK K
          try simp only [Act.put]
          try simp only [List.setIfInBounds_toArray]
          try simp only [List.set_cons_succ]
          try simp only [List.set_cons_zero]
          refine wpL.call (i := 7) rfl (by kernel_rfl) (fun K hK => ?_)
          go_simp
          (go_at_call 85; refine (q_quo (k.num.ext E0_6) (hh.ext E0_6) (by omega) (by omega) Hh0.out Hhp.out).mono ?_; rintro e wk2 ⟨s4, A4, n4, c4, rfl, h4, hx1⟩; have E1_6 := Ext.trans E0_6 hx1)
          refine hK.out _ _ E1_6 ?_
          clear hK K
          try simp only [Act.put]
          try simp only [List.setIfInBounds_toArray]
          try simp only [List.set_cons_succ]
          try simp only [List.set_cons_zero]
          refine wpL.call (i := 8) rfl (by kernel_rfl) (fun K hK => ?_)
          go_simp
          (go_at_call 77; refine (q_Mul (h3.ext hx1) h4 (by omega) (by omega)).mono ?_; rintro e wk3 ⟨s5, A5, n5, c5, rfl, h5, hx2⟩; have E2_6 := Ext.trans E1_6 hx2)
          refine hK.out _ _ E2_6 ?_
          clear hK K
          try simp only [Act.put]
          try simp only [List.setIfInBounds_toArray]
          try simp only [List.set_cons_succ]
          try simp only [List.set_cons_zero]
          refine wpL.call (i := 12) rfl (by kernel_rfl) (fun K hK => ?_)
          go_simp
          (go_at_call 85; refine (q_quo (h.den.ext E2_6) (hh.ext E2_6) (by omega) (by omega) Hh0.out Hhq.out).mono ?_; rintro e wk4 ⟨s6, A6, n6, c6, rfl, h6, hx3⟩; have E3_6 := Ext.trans E2_6 hx3)
          refine hK.out _ _ E3_6 ?_
          clear hK K
          try simp only [Act.put]
          try simp only [List.setIfInBounds_toArray]
          try simp only [List.set_cons_succ]
          try simp only [List.set_cons_zero]
          refine wpL.call (i := 16) rfl (by kernel_rfl) (fun K hK => ?_)
          go_simp
          (go_at_call 85; refine (q_quo (k.den.ext E3_6) (hg.ext E3_6) (by omega) (by omega) Hg0.out Hgp.out).mono ?_; rintro e wk5 ⟨s7, A7, n7, c7, rfl, h7, hx4⟩; have E4_6 := Ext.trans E3_6 hx4)
          refine hK.out _ _ E4_6 ?_
          clear hK K
          try simp only [Act.put]
          try simp only [List.setIfInBounds_toArray]
          try simp only [List.set_cons_succ]
          try simp only [List.set_cons_zero]
          refine wpL.call (i := 17) rfl (by kernel_rfl) (fun K hK => ?_)
          go_simp
          (go_at_call 77; refine (q_Mul (h6.ext hx4) h7 (by omega) (by omega)).mono ?_; rintro e wk6 ⟨s8, A8, n8, c8, rfl, h8, hx5⟩; have E5_6 := Ext.trans E4_6 hx5)
          refine hK.out _ _ E5_6 ?_
          clear hK K
          try simp only [Act.put]
          try simp only [List.setIfInBounds_toArray]
          try simp only [List.set_cons_succ]
          try simp only [List.set_cons_zero]
          refine wpL.take (i := 18) (d := some 64) (v := ?v18_75a) rfl rfl (by kernel_rfl) (by kernel_rfl) (by kernel_rfl) (by kernel_rfl) hQ (Or.inl ⟨by rfl, ?y18_75a⟩) E5_6 ?r18_75a
          case y18_75a =>
            intro w' hSw
            have k00 := (bx.ext hSw).c4
            have k10 := (by_.ext hSw).c4
            have k20 := (b8.ext hSw).c2
            have k30 := (b9.ext hSw).c2
            go_simp
            try with_reducible rfl
          try simp only [Act.put]
          try simp only [List.setIfInBounds_toArray]
          try simp only [List.set_cons_succ]
          try simp only [List.set_cons_zero]
          have z0 := (bz.ext E5_6).cell 0 _ rfl
          have z1 := (bz.ext E5_6).cell 1 _ rfl
          have z2 := (bz.ext E5_6).cell 2 _ rfl
          have z3 := (bz.ext E5_6).cell 3 _ rfl
          have f0 := (bz.ext E5_6).frozen 0
          have f1 := (bz.ext E5_6).frozen 1
          have f2 := (bz.ext E5_6).frozen 2
          have f3 := (bz.ext E5_6).frozen 3
          refine wpL.tail (i := 19) rfl (by kernel_rfl) (by kernel_rfl) (fun K hK => ?_)
          go_simp
          refine hK.out _ _ ?_
          clear hK K
          try simp only [Act.put]
          try simp only [List.setIfInBounds_toArray]
          try simp only [List.set_cons_succ]
          try simp only [List.set_cons_zero]
          refine wpL.done (by kernel_rfl) ?_ _
          clear hQ
          go_wp2_with fail
          have hk1 : ((q.den : Int) / (hq : Int)) * ((p.den : Int) / (g : Int)) = ((q * p).den : Int) := by rw [Hq2.out]; simp
          rw [hk1] at h8
          rw [← Hq1.out] at h5
          obtain ⟨b1, b2, b3, b4⟩ := fin_quad (s := s5) (A := A5) (n := n5) (c := c5) (t := s8) (B := A8) (m := n8) (d := c8) (bz.ext E5_6)
          have r0 := b1.cell 0 (.bool s5) rfl
          have r1 := b1.cell 1 (.slice A5 n5 c5) rfl
          have r2 := b1.cell 2 (.bool s8) rfl
          have r3 := b1.cell 3 (.slice A8 n8 c8) rfl
          unfold set4 at r0 r1 r2 r3
          refine bodyPost_ret (v := .agg #[.bool s5, .slice A5 n5 c5, .bool s8, .slice A8 n8 c8]) (by simp [results, Tryz.results44, go_sem, r0, r1, r2, r3]) rfl ⟨s5, A5, n5, c5, s8, A8, n8, c8, rfl, ⟨?_, ?_⟩, b3 _ (extW.trans E5_6) (by omega)⟩
          · exact b2 _ _ _ _ _ _ (h5.ext (hx3.trans (hx4.trans hx5)))
          · exact b2 _ _ _ _ _ _ h8
      · rw [decide_eq_false h1]
        clear h1
        go_wp2_with fail
        have ES0 := Ext.refl wb
        refine wp_region_held_drew (S := Ext wb) (by kernel_rfl) ES0.drew (fun ES => ?_)
        clear ES0
        refine Late.start2 (x := ⟨10, 5, 24, #[Value.bool false, Value.slice none 0 0]⟩) (y := ⟨11, 6, 24, #[Value.bool false, Value.slice none 0 0]⟩) (n := 12) ⟨_, rfl, rfl, rfl, fun a w => by go_simp⟩ ⟨_, rfl, rfl, rfl, fun a w => by go_simp⟩ (fun _ _ _ _ _ => ⟨fun h => h, fun h => h⟩) ES rfl (fun hAl hQ => ?_)
        refine Late.take (i := 0) (d := some 36) (v := ?v0_55b) rfl rfl (by kernel_rfl) (by kernel_rfl) (by kernel_rfl) (by kernel_rfl) hQ (Or.inl ⟨by rfl, ?y0_55b⟩) ?r0_55b
        case y0_55b =>
          intro w' hSw
          have k00 := (bx.ext hSw).c4
          have k10 := (by_.ext hSw).c4
          go_simp
          try with_reducible rfl
        try simp only [Act.put]
        try simp only [List.setIfInBounds_toArray]
        try simp only [List.set_cons_succ]
        try simp only [List.set_cons_zero]
        refine Late.take (i := 2) (d := some 38) (v := ?v2_56b) rfl rfl (by kernel_rfl) (by kernel_rfl) (by kernel_rfl) (by kernel_rfl) hQ (Or.inl ⟨by rfl, ?y2_56b⟩) ?r2_56b
        case y2_56b =>
          intro w' hSw
          have k00 := (bx.ext hSw).c4
          have k10 := (by_.ext hSw).c4
          go_simp
          try with_reducible rfl
        try simp only [Act.put]
        try simp only [List.setIfInBounds_toArray]
        try simp only [List.set_cons_succ]
        try simp only [List.set_cons_zero]
        refine Late.take (i := 5) (d := some 41) (v := ?v5_57b) rfl rfl (by kernel_rfl) (by kernel_rfl) (by kernel_rfl) (by kernel_rfl) hQ (Or.inl ⟨by rfl, ?y5_57b⟩) ?r5_57b
        case y5_57b =>
          intro w' hSw
          have k00 := (bx.ext hSw).c4
          have k10 := (by_.ext hSw).c4
          go_simp
          try with_reducible rfl
        try simp only [Act.put]
        try simp only [List.setIfInBounds_toArray]
        try simp only [List.set_cons_succ]
        try simp only [List.set_cons_zero]
        refine Late.take (i := 7) (d := some 43) (v := ?v7_58b) rfl rfl (by kernel_rfl) (by kernel_rfl) (by kernel_rfl) (by kernel_rfl) hQ (Or.inl ⟨by rfl, ?y7_58b⟩) ?r7_58b
        case y7_58b =>
          intro w' hSw
          have k00 := (bx.ext hSw).c4
          have k10 := (by_.ext hSw).c4
          go_simp
          try with_reducible rfl
        try simp only [Act.put]
        try simp only [List.setIfInBounds_toArray]
        try simp only [List.set_cons_succ]
        try simp only [List.set_cons_zero]
        refine Late.take (i := 1) (d := some 37) (v := ?v1_59b) rfl rfl (by kernel_rfl) (by kernel_rfl) (by kernel_rfl) (by kernel_rfl) hQ (Or.inl ⟨by rfl, ?y1_59b⟩) ?r1_59b
        case y1_59b =>
          intro w' hSw
          have k00 := (bx.ext hSw).c4
          have k10 := (by_.ext hSw).c4
          go_simp
          try with_reducible rfl
        try simp only [Act.put]
        try simp only [List.setIfInBounds_toArray]
        try simp only [List.set_cons_succ]
        try simp only [List.set_cons_zero]
        refine Late.take (i := 3) (d := some 39) (v := ?v3_60b) rfl rfl (by kernel_rfl) (by kernel_rfl) (by kernel_rfl) (by kernel_rfl) hQ (Or.inl ⟨by rfl, ?y3_60b⟩) ?r3_60b
        case y3_60b =>
          intro w' hSw
          have k00 := (bx.ext hSw).c4
          have k10 := (by_.ext hSw).c4
          go_simp
          try with_reducible rfl
        try simp only [Act.put]
        try simp only [List.setIfInBounds_toArray]
        try simp only [List.set_cons_succ]
        try simp only [List.set_cons_zero]
        refine Late.take (i := 6) (d := some 42) (v := ?v6_61b) rfl rfl (by kernel_rfl) (by kernel_rfl) (by kernel_rfl) (by kernel_rfl) hQ (Or.inl ⟨by rfl, ?y6_61b⟩) ?r6_61b
        case y6_61b =>
          intro w' hSw
          have k00 := (bx.ext hSw).c4
          have k10 := (by_.ext hSw).c4
          go_simp
          try with_reducible rfl
        try simp only [Act.put]
        try simp only [List.setIfInBounds_toArray]
        try simp only [List.set_cons_succ]
        try simp only [List.set_cons_zero]
        refine Late.take (i := 8) (d := some 44) (v := ?v8_62b) rfl rfl (by kernel_rfl) (by kernel_rfl) (by kernel_rfl) (by kernel_rfl) hQ (Or.inl ⟨by rfl, ?y8_62b⟩) ?r8_62b
        case y8_62b =>
          intro w' hSw
          have k00 := (bx.ext hSw).c4
          have k10 := (by_.ext hSw).c4
          go_simp
          try with_reducible rfl
        try simp only [Act.put]
        try simp only [List.setIfInBounds_toArray]
        try simp only [List.set_cons_succ]
        try simp only [List.set_cons_zero]
        refine Late.call (i := 4) rfl (by kernel_rfl) hAl (by kernel_rfl) (by kernel_rfl) (by kernel_rfl) hQ (fun w4 e4 E4 K hK => ?_)
        go_simp
        (go_at_call 84; refine (q_GCD (h.num.ext E4) (k.den.ext E4) (by omega) (by omega)).mono ?_; rintro e wk1 ⟨s1, A1, n1, c1', rfl, h1, hx4⟩; rw [Int.natAbs_natCast] at h1)
        refine hK.out _ _ hx4 ?_
        clear hK K
        try simp only [Act.put]
        try simp only [List.setIfInBounds_toArray]
        try simp only [List.set_cons_succ]
        try simp only [List.set_cons_zero]
        refine Late.call (i := 9) rfl (by kernel_rfl) hAl (by kernel_rfl) (by kernel_rfl) (by kernel_rfl) hQ (fun w9 e9 E9 K hK => ?_)
        go_simp
        (go_at_call 84; refine (q_GCD (k.num.ext E9) (h.den.ext E9) (by omega) (by omega)).mono ?_; rintro e wk2 ⟨s2, A2, n2, c2', rfl, h2, hx9⟩; rw [Int.natAbs_natCast] at h2)
        refine hK.out _ _ hx9 ?_
        clear hK K
        try simp only [Act.put]
        try simp only [List.setIfInBounds_toArray]
        try simp only [List.set_cons_succ]
        try simp only [List.set_cons_zero]
        refine Late.finish2 (hAl _ (by simp)) (hAl _ (by simp)) (by decide) (by decide) (by kernel_rfl) (by kernel_rfl) (by kernel_rfl) (fun wz g5 g6 ez Ez lg5 lg6 hne xb1 xb2 => ?_)
        clear hAl hQ ES
        have p10 := xb1.cell 0 (Value.bool false) rfl
        have p11 := xb1.cell 1 (Value.slice none 0 0) rfl
        have f10 := xb1.frozen 0
        have f11 := xb1.frozen 1
        have e4 := fin_dual (s := s1) (A := A1) (n := n1) (c := c1') xb1
        try simp only [Act.put]
        try simp only [List.setIfInBounds_toArray]
        try simp only [List.set_cons_succ]
        try simp only [List.set_cons_zero]
        refine wpAnyH_ready (rs := [12]) (by kernel_rfl) (by simp) (AllReadyH.cons rfl (fun K hK => ?_) AllReadyH.nil)
        go_simp
        refine hK.out _ _ (e4.2.2.1 _ Ez lg5) (fun _ => ?_)
        clear hK K
        try simp only [Act.put]
        try simp only [List.setIfInBounds_toArray]
        try simp only [List.set_cons_succ]
        try simp only [List.set_cons_zero]
        have e5 := e4.2.2.2 _ _ _ (Ne.symm hne) xb2
        refine any_world (fun U => Ext wb U ∧ Box U g5 24 #[.bool s1, .slice A1 n1 c1'] ∧ Box U g6 24 #[Value.bool false, Value.slice none 0 0] ∧ NI U ((q.num.natAbs.gcd p.den : Nat) : Int) (max L M) s1 A1 n1 c1' ∧ NI U ((p.num.natAbs.gcd q.den : Nat) : Int) (max M L) s2 A2 n2 c2') ⟨e4.2.2.1 _ Ez lg5, e4.1, e5, e4.2.1 _ _ _ _ _ _ (h1.ext (e9.trans (hx9.trans ez))), e4.2.1 _ _ _ _ _ _ (h2.ext ez)⟩ ?_
        clear e4 e5 p10 p11 f10 f11 xb1 xb2
        rintro U ⟨EU, b8, xb2, h1, h2⟩
        have p10 := xb2.cell 0 (Value.bool false) rfl
        have p11 := xb2.cell 1 (Value.slice none 0 0) rfl
        have f10 := xb2.frozen 0
        have f11 := xb2.frozen 1
        have e4 := fin_dual (s := s2) (A := A2) (n := n2) (c := c2') xb2
        refine wpAnyH_ready (rs := [13]) (by kernel_rfl) (by simp) (AllReadyH.cons rfl (fun K hK => ?_) AllReadyH.nil)
        go_simp
        refine hK.out _ _ (e4.2.2.1 _ EU lg6) (fun _ => ?_)
        clear hK K
        try simp only [Act.put]
        try simp only [List.setIfInBounds_toArray]
        try simp only [List.set_cons_succ]
        try simp only [List.set_cons_zero]
        refine any_world (fun U2 => Ext wb U2 ∧ Box U2 g5 24 #[.bool s1, .slice A1 n1 c1'] ∧ Box U2 g6 24 #[.bool s2, .slice A2 n2 c2'] ∧ NI U2 ((q.num.natAbs.gcd p.den : Nat) : Int) (max L M) s1 A1 n1 c1' ∧ NI U2 ((p.num.natAbs.gcd q.den : Nat) : Int) (max M L) s2 A2 n2 c2') ⟨e4.2.2.1 _ EU lg6, e4.2.2.2 _ _ _ hne b8, e4.1, e4.2.1 _ _ _ _ _ _ h1, e4.2.1 _ _ _ _ _ _ h2⟩ ?_
        clear e4 p10 p11 f10 f11 xb2 b8 h1 h2 lg5 lg6
        rintro U2 ⟨EU2, b8, b9, h1, h2⟩
        refine wpAnyH_done (by kernel_rfl) ?_ _
        replace bx := bx.ext EU2
        replace by_ := by_.ext EU2
        replace bz := bz.ext EU2
        replace h := h.ext EU2
        replace k := k.ext EU2
        replace extW := extW.trans EU2
        clear EU EU2 Ez ez
        obtain ⟨g, hge⟩ : ∃ g, q.num.natAbs.gcd p.den = g := ⟨_, rfl⟩
        obtain ⟨hq, hhe⟩ : ∃ g, p.num.natAbs.gcd q.den = g := ⟨_, rfl⟩
        rw [hge] at h1
        rw [hhe] at h2
        obtain ⟨q1, q2⟩ := rat_mul q p hge.symm hhe.symm
        have Hq1 := Lib.hid q1
        have Hq2 := Lib.hid q2
        have hgq : g ∣ q.num.natAbs := by rw [← hge]; exact Nat.gcd_dvd_left _ _
        have hgp : g ∣ p.den := by rw [← hge]; exact Nat.gcd_dvd_right _ _
        have hhp : hq ∣ p.num.natAbs := by rw [← hhe]; exact Nat.gcd_dvd_left _ _
        have hhq : hq ∣ q.den := by rw [← hhe]; exact Nat.gcd_dvd_right _ _
        have hg0 : (g : Int) ≠ 0 := by
          intro h0
          have : g = 0 := by omega
          rw [this] at hgp
          exact p.den_nz (Nat.eq_zero_of_zero_dvd hgp)
        have hh0 : (hq : Int) ≠ 0 := by
          intro h0
          have : hq = 0 := by omega
          rw [this] at hhq
          exact q.den_nz (Nat.eq_zero_of_zero_dvd hhq)
        have Hg0 := Lib.hid hg0
        have Hh0 := Lib.hid hh0
        have Hgq := Lib.hid (Int.ofNat_dvd_left.2 hgq)
        have Hgp := Lib.hid (Int.ofNat_dvd.2 hgp)
        have Hhp := Lib.hid (Int.ofNat_dvd_left.2 hhp)
        have Hhq := Lib.hid (Int.ofNat_dvd.2 hhq)
        have hg := h1
        have hh := h2
        clear hge hhe q1 q2 hgq hgp hhp hhq hg0 hh0 h1 h2
        go_wp2_with fail
        refine wpL.start 19 (by kernel_rfl) (fun _ _ _ _ _ => ⟨fun h => h, fun h => h⟩) (fun hQ ES => ?_)
        refine wpL.take (i := 0) (d := some 46) (v := ?v0_63b) rfl rfl (by kernel_rfl) (by kernel_rfl) (by kernel_rfl) (by kernel_rfl) hQ (Or.inl ⟨by rfl, ?y0_63b⟩) ES ?r0_63b
        case y0_63b =>
          intro w' hSw
          have k00 := (bx.ext hSw).c4
          have k10 := (by_.ext hSw).c4
          have k20 := (b8.ext hSw).c2
          have k30 := (b9.ext hSw).c2
          go_simp
          try with_reducible rfl
        try simp only [Act.put]
        try simp only [List.setIfInBounds_toArray]
        try simp only [List.set_cons_succ]
        try simp only [List.set_cons_zero]
        refine wpL.take (i := 2) (d := some 48) (v := ?v2_64b) rfl rfl (by kernel_rfl) (by kernel_rfl) (by kernel_rfl) (by kernel_rfl) hQ (Or.inl ⟨by rfl, ?y2_64b⟩) ES ?r2_64b
        case y2_64b =>
          intro w' hSw
          have k00 := (bx.ext hSw).c4
          have k10 := (by_.ext hSw).c4
          have k20 := (b8.ext hSw).c2
          have k30 := (b9.ext hSw).c2
          go_simp
          try with_reducible rfl
        try simp only [Act.put]
        try simp only [List.setIfInBounds_toArray]
        try simp only [List.set_cons_succ]
        try simp only [List.set_cons_zero]
        refine wpL.take (i := 4) (d := some 50) (v := ?v4_65b) rfl rfl (by kernel_rfl) (by kernel_rfl) (by kernel_rfl) (by kernel_rfl) hQ (Or.inl ⟨by rfl, ?y4_65b⟩) ES ?r4_65b
        case y4_65b =>
          intro w' hSw
          have k00 := (bx.ext hSw).c4
          have k10 := (by_.ext hSw).c4
          have k20 := (b8.ext hSw).c2
          have k30 := (b9.ext hSw).c2
          go_simp
          try with_reducible rfl
        try simp only [Act.put]
        try simp only [List.setIfInBounds_toArray]
        try simp only [List.set_cons_succ]
        try simp only [List.set_cons_zero]
        refine wpL.take (i := 6) (d := some 52) (v := ?v6_66b) rfl rfl (by kernel_rfl) (by kernel_rfl) (by kernel_rfl) (by kernel_rfl) hQ (Or.inl ⟨by rfl, ?y6_66b⟩) ES ?r6_66b
        case y6_66b =>
          intro w' hSw
          have k00 := (bx.ext hSw).c4
          have k10 := (by_.ext hSw).c4
          have k20 := (b8.ext hSw).c2
          have k30 := (b9.ext hSw).c2
          go_simp
          try with_reducible rfl
        try simp only [Act.put]
        try simp only [List.setIfInBounds_toArray]
        try simp only [List.set_cons_succ]
        try simp only [List.set_cons_zero]
        refine wpL.take (i := 9) (d := some 55) (v := ?v9_67b) rfl rfl (by kernel_rfl) (by kernel_rfl) (by kernel_rfl) (by kernel_rfl) hQ (Or.inl ⟨by rfl, ?y9_67b⟩) ES ?r9_67b
        case y9_67b =>
          intro w' hSw
          have k00 := (bx.ext hSw).c4
          have k10 := (by_.ext hSw).c4
          have k20 := (b8.ext hSw).c2
          have k30 := (b9.ext hSw).c2
          go_simp
          try with_reducible rfl
        try simp only [Act.put]
        try simp only [List.setIfInBounds_toArray]
        try simp only [List.set_cons_succ]
        try simp only [List.set_cons_zero]
        refine wpL.take (i := 11) (d := some 57) (v := ?v11_68b) rfl rfl (by kernel_rfl) (by kernel_rfl) (by kernel_rfl) (by kernel_rfl) hQ (Or.inl ⟨by rfl, ?y11_68b⟩) ES ?r11_68b
        case y11_68b =>
          intro w' hSw
          have k00 := (bx.ext hSw).c4
          have k10 := (by_.ext hSw).c4
          have k20 := (b8.ext hSw).c2
          have k30 := (b9.ext hSw).c2
          go_simp
          try with_reducible rfl
        try simp only [Act.put]
        try simp only [List.setIfInBounds_toArray]
        try simp only [List.set_cons_succ]
        try simp only [List.set_cons_zero]
        refine wpL.take (i := 13) (d := some 59) (v := ?v13_69b) rfl rfl (by kernel_rfl) (by kernel_rfl) (by kernel_rfl) (by kernel_rfl) hQ (Or.inl ⟨by rfl, ?y13_69b⟩) ES ?r13_69b
        case y13_69b =>
          intro w' hSw
          have k00 := (bx.ext hSw).c4
          have k10 := (by_.ext hSw).c4
          have k20 := (b8.ext hSw).c2
          have k30 := (b9.ext hSw).c2
          go_simp
          try with_reducible rfl
        try simp only [Act.put]
        try simp only [List.setIfInBounds_toArray]
        try simp only [List.set_cons_succ]
        try simp only [List.set_cons_zero]
        refine wpL.take (i := 15) (d := some 61) (v := ?v15_70b) rfl rfl (by kernel_rfl) (by kernel_rfl) (by kernel_rfl) (by kernel_rfl) hQ (Or.inl ⟨by rfl, ?y15_70b⟩) ES ?r15_70b
        case y15_70b =>
          intro w' hSw
          have k00 := (bx.ext hSw).c4
          have k10 := (by_.ext hSw).c4
          have k20 := (b8.ext hSw).c2
          have k30 := (b9.ext hSw).c2
          go_simp
          try with_reducible rfl
        try simp only [Act.put]
        try simp only [List.setIfInBounds_toArray]
        try simp only [List.set_cons_succ]
        try simp only [List.set_cons_zero]
        refine wpL.take (i := 1) (d := some 47) (v := ?v1_71b) rfl rfl (by kernel_rfl) (by kernel_rfl) (by kernel_rfl) (by kernel_rfl) hQ (Or.inl ⟨by rfl, ?y1_71b⟩) ES ?r1_71b
        case y1_71b =>
          intro w' hSw
          have k00 := (bx.ext hSw).c4
          have k10 := (by_.ext hSw).c4
          have k20 := (b8.ext hSw).c2
          have k30 := (b9.ext hSw).c2
          go_simp
          try with_reducible rfl
        try simp only [Act.put]
        try simp only [List.setIfInBounds_toArray]
        try simp only [List.set_cons_succ]
        try simp only [List.set_cons_zero]
        refine wpL.take (i := 5) (d := some 51) (v := ?v5_72b) rfl rfl (by kernel_rfl) (by kernel_rfl) (by kernel_rfl) (by kernel_rfl) hQ (Or.inl ⟨by rfl, ?y5_72b⟩) ES ?r5_72b
        case y5_72b =>
          intro w' hSw
          have k00 := (bx.ext hSw).c4
          have k10 := (by_.ext hSw).c4
          have k20 := (b8.ext hSw).c2
          have k30 := (b9.ext hSw).c2
          go_simp
          try with_reducible rfl
        try simp only [Act.put]
        try simp only [List.setIfInBounds_toArray]
        try simp only [List.set_cons_succ]
        try simp only [List.set_cons_zero]
        refine wpL.take (i := 10) (d := some 56) (v := ?v10_73b) rfl rfl (by kernel_rfl) (by kernel_rfl) (by kernel_rfl) (by kernel_rfl) hQ (Or.inl ⟨by rfl, ?y10_73b⟩) ES ?r10_73b
        case y10_73b =>
          intro w' hSw
          have k00 := (bx.ext hSw).c4
          have k10 := (by_.ext hSw).c4
          have k20 := (b8.ext hSw).c2
          have k30 := (b9.ext hSw).c2
          go_simp
          try with_reducible rfl
        try simp only [Act.put]
        try simp only [List.setIfInBounds_toArray]
        try simp only [List.set_cons_succ]
        try simp only [List.set_cons_zero]
        refine wpL.take (i := 14) (d := some 60) (v := ?v14_74b) rfl rfl (by kernel_rfl) (by kernel_rfl) (by kernel_rfl) (by kernel_rfl) hQ (Or.inl ⟨by rfl, ?y14_74b⟩) ES ?r14_74b
        case y14_74b =>
          intro w' hSw
          have k00 := (bx.ext hSw).c4
          have k10 := (by_.ext hSw).c4
          have k20 := (b8.ext hSw).c2
          have k30 := (b9.ext hSw).c2
          go_simp
          try with_reducible rfl
        try simp only [Act.put]
        try simp only [List.setIfInBounds_toArray]
        try simp only [List.set_cons_succ]
        try simp only [List.set_cons_zero]
        refine wpL.call (i := 3) rfl (by kernel_rfl) (fun K hK => ?_)
        go_simp
        (go_at_call 85; refine (q_quo (h.num.ext ES) (hg.ext ES) (by omega) (by omega) Hg0.out Hgq.out).mono ?_; rintro e wk1 ⟨s3, A3, n3, c3, rfl, h3, hx0⟩; have E0_6 := Ext.trans ES hx0)
        refine hK.out _ _ E0_6 ?_
        clear hK K
        try simp only [Act.put]
        try simp only [List.setIfInBounds_toArray]
        try simp only [List.set_cons_succ]
        try simp only [List.set_cons_zero]
        refine wpL.call (i := 7) rfl (by kernel_rfl) (fun K hK => ?_)
        go_simp
        (go_at_call 85; refine (q_quo (k.num.ext E0_6) (hh.ext E0_6) (by omega) (by omega) Hh0.out Hhp.out).mono ?_; rintro e wk2 ⟨s4, A4, n4, c4, rfl, h4, hx1⟩; have E1_6 := Ext.trans E0_6 hx1)
        refine hK.out _ _ E1_6 ?_
        clear hK K
        try simp only [Act.put]
        try simp only [List.setIfInBounds_toArray]
        try simp only [List.set_cons_succ]
        try simp only [List.set_cons_zero]
        refine wpL.call (i := 8) rfl (by kernel_rfl) (fun K hK => ?_)
        go_simp
        (go_at_call 77; refine (q_Mul (h3.ext hx1) h4 (by omega) (by omega)).mono ?_; rintro e wk3 ⟨s5, A5, n5, c5, rfl, h5, hx2⟩; have E2_6 := Ext.trans E1_6 hx2)
        refine hK.out _ _ E2_6 ?_
        clear hK K
        try simp only [Act.put]
        try simp only [List.setIfInBounds_toArray]
        try simp only [List.set_cons_succ]
        try simp only [List.set_cons_zero]
        refine wpL.call (i := 12) rfl (by kernel_rfl) (fun K hK => ?_)
        go_simp
        (go_at_call 85; refine (q_quo (h.den.ext E2_6) (hh.ext E2_6) (by omega) (by omega) Hh0.out Hhq.out).mono ?_; rintro e wk4 ⟨s6, A6, n6, c6, rfl, h6, hx3⟩; have E3_6 := Ext.trans E2_6 hx3)
        refine hK.out _ _ E3_6 ?_
        clear hK K
        try simp only [Act.put]
        try simp only [List.setIfInBounds_toArray]
        try simp only [List.set_cons_succ]
        try simp only [List.set_cons_zero]
        refine wpL.call (i := 16) rfl (by kernel_rfl) (fun K hK => ?_)
        go_simp
        (go_at_call 85; refine (q_quo (k.den.ext E3_6) (hg.ext E3_6) (by omega) (by omega) Hg0.out Hgp.out).mono ?_; rintro e wk5 ⟨s7, A7, n7, c7, rfl, h7, hx4⟩; have E4_6 := Ext.trans E3_6 hx4)
        refine hK.out _ _ E4_6 ?_
        clear hK K
        try simp only [Act.put]
        try simp only [List.setIfInBounds_toArray]
        try simp only [List.set_cons_succ]
        try simp only [List.set_cons_zero]
        refine wpL.call (i := 17) rfl (by kernel_rfl) (fun K hK => ?_)
        go_simp
        (go_at_call 77; refine (q_Mul (h6.ext hx4) h7 (by omega) (by omega)).mono ?_; rintro e wk6 ⟨s8, A8, n8, c8, rfl, h8, hx5⟩; have E5_6 := Ext.trans E4_6 hx5)
        refine hK.out _ _ E5_6 ?_
        clear hK K
        try simp only [Act.put]
        try simp only [List.setIfInBounds_toArray]
        try simp only [List.set_cons_succ]
        try simp only [List.set_cons_zero]
        refine wpL.take (i := 18) (d := some 64) (v := ?v18_75b) rfl rfl (by kernel_rfl) (by kernel_rfl) (by kernel_rfl) (by kernel_rfl) hQ (Or.inl ⟨by rfl, ?y18_75b⟩) E5_6 ?r18_75b
        case y18_75b =>
          intro w' hSw
          have k00 := (bx.ext hSw).c4
          have k10 := (by_.ext hSw).c4
          have k20 := (b8.ext hSw).c2
          have k30 := (b9.ext hSw).c2
          go_simp
          try with_reducible rfl
        try simp only [Act.put]
        try simp only [List.setIfInBounds_toArray]
        try simp only [List.set_cons_succ]
        try simp only [List.set_cons_zero]
        have z0 := (bz.ext E5_6).cell 0 _ rfl
        have z1 := (bz.ext E5_6).cell 1 _ rfl
        have z2 := (bz.ext E5_6).cell 2 _ rfl
        have z3 := (bz.ext E5_6).cell 3 _ rfl
        have f0 := (bz.ext E5_6).frozen 0
        have f1 := (bz.ext E5_6).frozen 1
        have f2 := (bz.ext E5_6).frozen 2
        have f3 := (bz.ext E5_6).frozen 3
        refine wpL.tail (i := 19) rfl (by kernel_rfl) (by kernel_rfl) (fun K hK => ?_)
        go_simp
        refine hK.out _ _ ?_
        clear hK K
        try simp only [Act.put]
        try simp only [List.setIfInBounds_toArray]
        try simp only [List.set_cons_succ]
        try simp only [List.set_cons_zero]
        refine wpL.done (by kernel_rfl) ?_ _
        clear hQ
        go_wp2_with fail
        have hk1 : ((q.den : Int) / (hq : Int)) * ((p.den : Int) / (g : Int)) = ((q * p).den : Int) := by rw [Hq2.out]; simp
        rw [hk1] at h8
        rw [← Hq1.out] at h5
        obtain ⟨b1, b2, b3, b4⟩ := fin_quad (s := s5) (A := A5) (n := n5) (c := c5) (t := s8) (B := A8) (m := n8) (d := c8) (bz.ext E5_6)
        have r0 := b1.cell 0 (.bool s5) rfl
        have r1 := b1.cell 1 (.slice A5 n5 c5) rfl
        have r2 := b1.cell 2 (.bool s8) rfl
        have r3 := b1.cell 3 (.slice A8 n8 c8) rfl
        unfold set4 at r0 r1 r2 r3
        refine bodyPost_ret (v := .agg #[.bool s5, .slice A5 n5 c5, .bool s8, .slice A8 n8 c8]) (by simp [results, Tryz.results44, go_sem, r0, r1, r2, r3]) rfl ⟨s5, A5, n5, c5, s8, A8, n8, c8, rfl, ⟨?_, ?_⟩, b3 _ (extW.trans E5_6) (by omega)⟩
        · exact b2 _ _ _ _ _ _ (h5.ext (hx3.trans (hx4.trans hx5)))
        · exact b2 _ _ _ _ _ _ h8
end
end Go.Proofs.YtoabhnofppledaaGreatDoor
namespace Go.Proofs.YtoabhnofppledaaGreatDoor
open Go.RowKit
attribute [local go_sem ↓] Go.wp_at_zero Go.wp_at_succ
/-- no interval, and an error. -/
def RetEV (err : Int) (w : World) (e : Ending) (w' : World) : Prop := e = .returned (.tuple #[.agg #[.bool false, .slice none 0 0, .bool false, .slice none 0 0, .bool false, .slice none 0 0, .bool false, .slice none 0 0], .int .i64 err]) ∧ Ext w w'
section
variable {w w' : World} {q p lo hi lo' hi' : Rat} {z y x S : Int} {L M : Nat} {s t s' t' u v sx tx : Bool} {A B A' B' C D Ax Bx : Option Addr} {n c m d n' c' m' d' i j k l nx cx mx dx : Nat}
end
end Go.Proofs.YtoabhnofppledaaGreatDoor
namespace Go.Proofs.YtoabhnofppledaaGreatDoor
open Go.RowKit
attribute [local go_sem ↓] Go.wp_at_zero Go.wp_at_succ
section
variable {w w' : World} {q p lo hi lo' hi' x : Rat} {L M : Nat} {s t s' t' sx tx u v u' v' : Bool} {A B A' B' Ax Bx C D C' D' : Option Addr} {n c m d n' c' m' d' nx cx mx dx i j k l i' j' k' l' : Nat} {qs : List Rat}
set_option maxHeartbeats 4000000 in
theorem q_PointV (h : NR w x L sx Ax nx cx tx Bx mx dx) : Calls Tryz.prog 40 #[.agg #[.bool sx, .slice Ax nx cx, .bool tx, .slice Bx mx dx]] w (RetIV x x L w) := by
  go_enter Tryz.func40, Tryz.ntmps40
  go_upto_region 1 with (fail)
  obtain ⟨W, hW, ext, bx, bz, hz⟩ := box2 w 26 28 #[.bool sx, .slice Ax nx cx, .bool tx, .slice Bx mx dx] #[Value.bool false, Value.slice none 0 0, Value.bool false, Value.slice none 0 0, Value.bool false, Value.slice none 0 0, Value.bool false, Value.slice none 0 0]
  rw [← hW]
  clear hW hz
  have hx := h.ext ext
  have hx1 := Ext.refl W
  have x0 := bx.cell 0 (.bool sx) rfl
  have x1 := bx.cell 1 (.slice Ax nx cx) rfl
  have x2 := bx.cell 2 (.bool tx) rfl
  have x3 := bx.cell 3 (.slice Bx mx dx) rfl
  have z0 := (bz.ext hx1).cell 0 _ rfl
  have f0 := (bz.ext hx1).frozen 0
  have z1 := (bz.ext hx1).cell 1 _ rfl
  have f1 := (bz.ext hx1).frozen 1
  have z2 := (bz.ext hx1).cell 2 _ rfl
  have f2 := (bz.ext hx1).frozen 2
  have z3 := (bz.ext hx1).cell 3 _ rfl
  have f3 := (bz.ext hx1).frozen 3
  have z4 := (bz.ext hx1).cell 4 _ rfl
  have f4 := (bz.ext hx1).frozen 4
  have z5 := (bz.ext hx1).cell 5 _ rfl
  have f5 := (bz.ext hx1).frozen 5
  have z6 := (bz.ext hx1).cell 6 _ rfl
  have f6 := (bz.ext hx1).frozen 6
  have z7 := (bz.ext hx1).cell 7 _ rfl
  have f7 := (bz.ext hx1).frozen 7
  go_wp2_with fail
  obtain ⟨b1, b2, b3, b4⟩ := fin_oct (v0 := (.bool sx)) (v1 := (.slice Ax nx cx)) (v2 := (.bool tx)) (v3 := (.slice Bx mx dx)) (v4 := (.bool sx)) (v5 := (.slice Ax nx cx)) (v6 := (.bool tx)) (v7 := (.slice Bx mx dx)) (bz.ext hx1)
  have r0 := b1.cell 0 (.bool sx) rfl
  have r1 := b1.cell 1 (.slice Ax nx cx) rfl
  have r2 := b1.cell 2 (.bool tx) rfl
  have r3 := b1.cell 3 (.slice Bx mx dx) rfl
  have r4 := b1.cell 4 (.bool sx) rfl
  have r5 := b1.cell 5 (.slice Ax nx cx) rfl
  have r6 := b1.cell 6 (.bool tx) rfl
  have r7 := b1.cell 7 (.slice Bx mx dx) rfl
  unfold set8 at r0 r1 r2 r3 r4 r5 r6 r7
  refine bodyPost_ret (v := .agg #[.bool sx, .slice Ax nx cx, .bool tx, .slice Bx mx dx, .bool sx, .slice Ax nx cx, .bool tx, .slice Bx mx dx]) (by simp [results, Tryz.results40, go_sem, r0, r1, r2, r3, r4, r5, r6, r7]) rfl ⟨sx, Ax, nx, cx, tx, Bx, mx, dx, sx, Ax, nx, cx, tx, Bx, mx, dx, rfl, ⟨⟨?_, ?_⟩, ⟨?_, ?_⟩⟩, b3 _ (ext.trans hx1) (by omega)⟩
  · exact b2 _ _ _ _ _ _ hx.num
  · exact b2 _ _ _ _ _ _ hx.den
  · exact b2 _ _ _ _ _ _ hx.num
  · exact b2 _ _ _ _ _ _ hx.den
set_option maxHeartbeats 4000000 in
theorem q_ZeroV : Calls Tryz.prog 28 #[.agg #[.bool false, .slice none 0 0, .bool false, .slice none 0 0, .bool false, .slice none 0 0, .bool false, .slice none 0 0]] w fun e w' => e = .returned (.bool true) ∧ Ext w w' := by
  go_enter Tryz.func28, Tryz.ntmps28
  go_upto_region 1 with (fail)
  obtain ⟨W, hW, ext, bx, hz⟩ := box1 w 28 #[.bool false, .slice none 0 0, .bool false, .slice none 0 0, .bool false, .slice none 0 0, .bool false, .slice none 0 0]
  rw [← hW]
  clear hW hz
  have k0 := bx.cell 0 (.bool false) rfl
  have k1 := bx.cell 1 (.slice none 0 0) rfl
  have k2 := bx.cell 2 (.bool false) rfl
  have k3 := bx.cell 3 (.slice none 0 0) rfl
  have k4 := bx.cell 4 (.bool false) rfl
  have k5 := bx.cell 5 (.slice none 0 0) rfl
  have k6 := bx.cell 6 (.bool false) rfl
  have k7 := bx.cell 7 (.slice none 0 0) rfl
  go_wp2_with fail
  go_ret
  exact ⟨rfl, ext⟩
end
end Go.Proofs.YtoabhnofppledaaGreatDoor
namespace Go.Proofs.YtoabhnofppledaaGreatDoor
open Go.RowKit
section
variable {w w' : World} {base L M : Nat} {v : Value} {qs : List Rat} {q : Rat} {s t : Bool} {A B : Option Addr} {n c m d g : Nat}
end
theorem step_append_rat {w : World} {base L : Nat} {v : Value} {qs : List Rat} {q : Rat} {s t : Bool} {A B : Option Addr} {n c m d g : Nat} {ops : Array Oper} {o : Oper} {a : Act} {K : Act → World → Prop} {Q : Exit → Act → World → Prop} {E : Prop} (hgd : o.guard = none) (x y : Operand)
    (ho : o.op = .call { callee := .builtin .append, args := #[x, y], argTypes := #[65, 65] })
    (hx : a.eval x = v) (hy : a.eval y = .slice (some ⟨g, 0, none⟩) 1 1)
    (h : Row4 w base v qs L) (hq : NR w q L s A n c t B m d) (hb : Box w g 26 #[.bool s, .slice A n c, .bool t, .slice B m d]) (hl : qs.length ≤ 1000) (hbase : base ≤ w.heap.size)
    (hK : ∀ v' w', Row4 w' base v' (qs ++ [q]) L → w.grownBy w' v.ownBlock → (v'.ownBlock = v.ownBlock ∨ v'.ownBlock = some w.heap.size) → K (a.put o.dst v') w') :
    if Region.wanted o (yielded ops a.tmps) = true then Oper.wp Tryz.prog o a w K Q else E := by
  have hw : Region.wanted o (yielded ops a.tmps) = true := by simp [Region.wanted, hgd]
  rw [if_pos hw]
  obtain ⟨v', w', hr, h2, h3, h5⟩ := run_append_rat (ty := o.type) h hq hb hl hbase
  unfold Oper.wp execOp
  simp only [ho, resolve, invoke, builtin, Sem.run_bind, Sem.run_pure, Result.andThen_ok, List.map_toArray, List.map_cons, List.map_nil, hx, hy, hr]
  exact hK v' w' h2 h3 h5
end Go.Proofs.YtoabhnofppledaaGreatDoor
namespace Go.Proofs.YtoabhnofppledaaGreatDoor
open Go.RowKit
attribute [local go_sem ↓] Go.wp_at_zero Go.wp_at_succ
section
variable {w w' : World} {q p lo hi lo' hi' x : Rat} {L M : Nat} {s t s' t' sx tx u v u' v' : Bool} {A B A' B' Ax Bx C D C' D' : Option Addr} {n c m d n' c' m' d' nx cx mx dx i j k l i' j' k' l' : Nat} {qs : List Rat}
set_option maxHeartbeats 4000000 in
theorem p_DivV_0 (h : IV w lo hi L s A n c t B m d s' A' n' c' t' B' m' d') (h' : IV w lo' hi' M u C i j v D k l u' C' i' j' v' D' k' l') (hM : M ≤ 20) (hin : inB lo' hi' ((0 : Int) : Rat) = true) : Calls Tryz.prog 24 #[.agg #[.bool s, .slice A n c, .bool t, .slice B m d, .bool s', .slice A' n' c', .bool t', .slice B' m' d'], .agg #[.bool u, .slice C i j, .bool v, .slice D k l, .bool u', .slice C' i' j', .bool v', .slice D' k' l']] w fun e w' => e = .returned (.tuple #[.agg #[.bool false, .slice none 0 0, .bool false, .slice none 0 0, .bool false, .slice none 0 0, .bool false, .slice none 0 0], .int .i64 6]) ∧ Ext w w' := by
  go_enter Tryz.func24, Tryz.ntmps24
  go_upto_region 1 with (fail)
  obtain ⟨W, hW, ext, bx, by_, bz, hz⟩ := box3 w 28 28 28 #[.bool s, .slice A n c, .bool t, .slice B m d, .bool s', .slice A' n' c', .bool t', .slice B' m' d'] #[.bool u, .slice C i j, .bool v, .slice D k l, .bool u', .slice C' i' j', .bool v', .slice D' k' l'] #[Value.bool false, Value.slice none 0 0, Value.bool false, Value.slice none 0 0, Value.bool false, Value.slice none 0 0, Value.bool false, Value.slice none 0 0]
  rw [← hW]
  clear hW hz
  have ha := h.ext ext
  have hb := h'.ext ext
  have Hin := Lib.hid hin
  clear hin
  have ES0 := Ext.refl W
  refine wp_region_held_drew (S := Ext W) (by kernel_rfl) ES0.drew (fun ES => ?_)
  clear ES0
  refine Late.start0 (fun _ _ _ _ _ => ⟨fun h => h, fun h => h⟩) ES (fun hAl hQ => ?_)
  refine Late.take (i := 0) (d := some 6) (v := ?v0_49) rfl rfl (by kernel_rfl) (by kernel_rfl) (by kernel_rfl) (by kernel_rfl) hQ (Or.inl ⟨by rfl, ?y0_49⟩) ?r0_49
  case y0_49 =>
    intro w' hSw
    have k00 := (by_.ext hSw).c8
    go_simp
    try with_reducible rfl
  try simp only [Act.put]
  try simp only [List.setIfInBounds_toArray]
  try simp only [List.set_cons_succ]
  try simp only [List.set_cons_zero]
  refine Late.call (i := 1) rfl (by kernel_rfl) hAl (by kernel_rfl) (by kernel_rfl) (by kernel_rfl) hQ (fun w1 e1 E1 K hK => ?_)
  go_simp
  (go_at_call 61; refine (p_FromIntR 0 (by omega) (by omega)).mono ?_; rintro e wk1 ⟨sz, Az, nz, cz, tz, Bz, mz, dz, rfl, rz, hx1⟩)
  refine hK.out _ _ hx1 ?_
  clear hK K
  try simp only [Act.put]
  try simp only [List.setIfInBounds_toArray]
  try simp only [List.set_cons_succ]
  try simp only [List.set_cons_zero]
  refine Late.call (i := 2) rfl (by kernel_rfl) hAl (by kernel_rfl) (by kernel_rfl) (by kernel_rfl) hQ (fun w2 e2 E2 K hK => ?_)
  go_simp
  (replace rz := rz.ext e2; go_at_call 38; refine (p_Contains (hb.ext E2) rz (by omega) (by omega)).mono ?_; rintro e wk2 ⟨rfl, hx2⟩; replace rz := rz.ext hx2; rw [Hin.out])
  refine hK.out _ _ hx2 ?_
  clear hK K
  try simp only [Act.put]
  try simp only [List.setIfInBounds_toArray]
  try simp only [List.set_cons_succ]
  try simp only [List.set_cons_zero]
  refine Late.done0 (by kernel_rfl) (fun wz ez Ez => ?_)
  clear hAl hQ ES
  replace bx := bx.ext Ez
  replace by_ := by_.ext Ez
  replace bz := bz.ext Ez
  replace ha := ha.ext Ez
  replace hb := hb.ext Ez
  replace ext := ext.trans Ez
  clear Ez ez rz
  have hx1 := Ext.refl wz
  have z0 := (bz.ext hx1).cell 0 _ rfl
  have f0 := (bz.ext hx1).frozen 0
  have z1 := (bz.ext hx1).cell 1 _ rfl
  have f1 := (bz.ext hx1).frozen 1
  have z2 := (bz.ext hx1).cell 2 _ rfl
  have f2 := (bz.ext hx1).frozen 2
  have z3 := (bz.ext hx1).cell 3 _ rfl
  have f3 := (bz.ext hx1).frozen 3
  have z4 := (bz.ext hx1).cell 4 _ rfl
  have f4 := (bz.ext hx1).frozen 4
  have z5 := (bz.ext hx1).cell 5 _ rfl
  have f5 := (bz.ext hx1).frozen 5
  have z6 := (bz.ext hx1).cell 6 _ rfl
  have f6 := (bz.ext hx1).frozen 6
  have z7 := (bz.ext hx1).cell 7 _ rfl
  have f7 := (bz.ext hx1).frozen 7
  go_wp2_with fail
  obtain ⟨b1, b2, b3, b4⟩ := fin_oct (v0 := (.bool false)) (v1 := (.slice none 0 0)) (v2 := (.bool false)) (v3 := (.slice none 0 0)) (v4 := (.bool false)) (v5 := (.slice none 0 0)) (v6 := (.bool false)) (v7 := (.slice none 0 0)) (bz.ext hx1)
  have r0 := b1.cell 0 (.bool false) rfl
  have r1 := b1.cell 1 (.slice none 0 0) rfl
  have r2 := b1.cell 2 (.bool false) rfl
  have r3 := b1.cell 3 (.slice none 0 0) rfl
  have r4 := b1.cell 4 (.bool false) rfl
  have r5 := b1.cell 5 (.slice none 0 0) rfl
  have r6 := b1.cell 6 (.bool false) rfl
  have r7 := b1.cell 7 (.slice none 0 0) rfl
  unfold set8 at r0 r1 r2 r3 r4 r5 r6 r7
  refine bodyPost_ret (v := .tuple #[.agg #[.bool false, .slice none 0 0, .bool false, .slice none 0 0, .bool false, .slice none 0 0, .bool false, .slice none 0 0], .int .i64 6]) (by simp [results, Tryz.results24, go_sem, r0, r1, r2, r3, r4, r5, r6, r7]) rfl ⟨rfl, b3 _ (ext.trans hx1) (by omega)⟩
end
end Go.Proofs.YtoabhnofppledaaGreatDoor
namespace Go.Proofs.YtoabhnofppledaaGreatDoor
open Go.RowKit
attribute [local go_sem ↓] Go.wp_at_zero Go.wp_at_succ
def few10 (n m : Nat) (s : Bool) (xs : List Nat) (t : Bool) (ys : List Nat) : Bool := decide (n ≤ 10) && (decide (m ≤ 10) && validQ s xs t ys)
/-- an interval with ends of at most ten words. -/
def fewV (n m n' m' : Nat) (s : Bool) (xs : List Nat) (t : Bool) (ys : List Nat) (s' : Bool) (xs' : List Nat) (t' : Bool) (ys' : List Nat) : Bool :=
  few10 n m s xs t ys && (few10 n' m' s' xs' t' ys' && validV s xs t ys s' xs' t' ys')
theorem few10_le {n m : Nat} {s : Bool} {xs : List Nat} {t : Bool} {ys : List Nat} (h : few10 n m s xs t ys = true) : n ≤ 10 ∧ m ≤ 10 ∧ validQ s xs t ys = true := by
  unfold few10 at h
  simp only [Bool.and_eq_true, decide_eq_true_eq] at h
  exact ⟨h.1, h.2.1, h.2.2⟩
theorem few_iv {w : World} {s t s' t' : Bool} {A B A' B' : Option Addr} {n c m d n' c' m' d' : Nat} {xs ys xs' ys' : List Nat} (h : RI w A n c xs) (k : RI w B m d ys) (h' : RI w A' n' c' xs') (k' : RI w B' m' d' ys') (hf : fewV n m n' m' s xs t ys s' xs' t' ys' = true) :
    IV w (rawQ s xs t ys) (rawQ s' xs' t' ys') 10 s A n c t B m d s' A' n' c' t' B' m' d' ∧ rawQ s xs t ys ≤ rawQ s' xs' t' ys' := by
  unfold fewV validV at hf
  simp only [Bool.and_eq_true, decide_eq_true_eq] at hf
  obtain ⟨f1, f2, f3, f4, f5⟩ := hf
  obtain ⟨a1, a2, a3⟩ := few10_le f1
  obtain ⟨b1, b2, b3⟩ := few10_le f2
  exact ⟨⟨NR.of_raw' h k a3 a1 a2, NR.of_raw' h' k' b3 b1 b2⟩, f5⟩
section
variable {w w' : World} {L M : Nat} {s t s' t' : Bool} {A B A' B' : Option Addr} {n c m d n' c' m' d' : Nat} {xs ys xs' ys' : List Nat}
set_option maxHeartbeats 4000000 in
theorem q_Few10 (h : RI w A n c xs) (k : RI w B m d ys) : Calls Tryz.prog 34 #[.agg #[.bool s, .slice A n c, .bool t, .slice B m d], .int .i64 10] w fun e w' => e = .returned (.bool (few10 n m s xs t ys)) ∧ Ext w w' := by
  by_cases h1 : n ≤ 10
  · have d1 : decide ((n : Int) ≤ (10 : Int)) = true := decide_eq_true (by omega)
    by_cases h2 : m ≤ 10
    · have d2 : decide ((m : Int) ≤ (10 : Int)) = true := decide_eq_true (by omega)
      have hf : few10 n m s xs t ys = validQ s xs t ys := by unfold few10; rw [decide_eq_true h1, decide_eq_true h2]; rfl
      rw [hf]
      clear hf
      go_enter Tryz.func34, Tryz.ntmps34
      go_upto_region 1 with (fail)
      obtain ⟨W, hW, extW, bx, hz⟩ := box1 w 26 #[.bool s, .slice A n c, .bool t, .slice B m d]
      rw [← hW]
      clear hW
      replace h := h.ext extW
      replace k := k.ext extW
      have x0 := bx.cell 0 (.bool s) rfl
      have x1 := bx.cell 1 (.slice A n c) rfl
      have x2 := bx.cell 2 (.bool t) rfl
      have x3 := bx.cell 3 (.slice B m d) rfl
      go_wp2_with fail
      refine (q_ValidRaw h k (by omega) (by omega)).mono ?_
      rintro e wd ⟨rfl, hxd⟩
      go_wp2_with fail
      go_ret
      exact ⟨rfl, extW.trans hxd⟩
    · have d2 : decide ((m : Int) ≤ (10 : Int)) = false := decide_eq_false (by omega)
      have hf : few10 n m s xs t ys = false := by unfold few10; rw [decide_eq_true h1, decide_eq_false h2]; rfl
      rw [hf]
      clear hf
      go_enter Tryz.func34, Tryz.ntmps34
      go_upto_region 1 with (fail)
      obtain ⟨W, hW, extW, bx, hz⟩ := box1 w 26 #[.bool s, .slice A n c, .bool t, .slice B m d]
      rw [← hW]
      clear hW
      replace h := h.ext extW
      replace k := k.ext extW
      have x0 := bx.cell 0 (.bool s) rfl
      have x1 := bx.cell 1 (.slice A n c) rfl
      have x2 := bx.cell 2 (.bool t) rfl
      have x3 := bx.cell 3 (.slice B m d) rfl
      go_wp2_with fail
      go_ret
      exact ⟨rfl, extW⟩
  · have d1 : decide ((n : Int) ≤ (10 : Int)) = false := decide_eq_false (by omega)
    have hf : few10 n m s xs t ys = false := by unfold few10; rw [decide_eq_false h1]; rfl
    rw [hf]
    clear hf
    go_enter Tryz.func34, Tryz.ntmps34
    go_upto_region 1 with (fail)
    obtain ⟨W, hW, extW, bx, hz⟩ := box1 w 26 #[.bool s, .slice A n c, .bool t, .slice B m d]
    rw [← hW]
    clear hW
    replace h := h.ext extW
    replace k := k.ext extW
    have x0 := bx.cell 0 (.bool s) rfl
    have x1 := bx.cell 1 (.slice A n c) rfl
    have x2 := bx.cell 2 (.bool t) rfl
    have x3 := bx.cell 3 (.slice B m d) rfl
    go_wp2_with fail
    go_ret
    exact ⟨rfl, extW⟩
set_option maxHeartbeats 4000000 in
theorem q_FewV (h : RI w A n c xs) (k : RI w B m d ys) (h' : RI w A' n' c' xs') (k' : RI w B' m' d' ys') : Calls Tryz.prog 54 #[.agg #[.bool s, .slice A n c, .bool t, .slice B m d, .bool s', .slice A' n' c', .bool t', .slice B' m' d'], .int .i64 10] w fun e w' => e = .returned (.bool (fewV n m n' m' s xs t ys s' xs' t' ys')) ∧ Ext w w' := by
  obtain ⟨r, hr⟩ : ∃ r, fewV n m n' m' s xs t ys s' xs' t' ys' = r := ⟨_, rfl⟩
  have HR := Lib.hid hr
  rw [hr]
  clear hr
  go_enter Tryz.func54, Tryz.ntmps54
  go_upto_region 1 with (fail)
  obtain ⟨W, hW, ext, bx, hz⟩ := box1 w 28 #[.bool s, .slice A n c, .bool t, .slice B m d, .bool s', .slice A' n' c', .bool t', .slice B' m' d']
  rw [← hW]
  clear hW hz
  have k0 := bx.cell 0 (.bool s) rfl
  have k1 := bx.cell 1 (.slice A n c) rfl
  have k2 := bx.cell 2 (.bool t) rfl
  have k3 := bx.cell 3 (.slice B m d) rfl
  have k4 := bx.cell 4 (.bool s') rfl
  have k5 := bx.cell 5 (.slice A' n' c') rfl
  have k6 := bx.cell 6 (.bool t') rfl
  have k7 := bx.cell 7 (.slice B' m' d') rfl
  cases hv : few10 n m s xs t ys with
  | false =>
    have HV := Lib.hid hv
    clear hv
    go_wp2_with fail
    refine (q_Few10 (h.ext ext) (k.ext ext)).mono ?_
    rintro e V ⟨rfl, hxc⟩
    rw [HV.out]
    go_wp2_with fail
    go_ret
    refine ⟨?_, ext.trans hxc⟩
    rw [← HR.out, fewV, HV.out]; rfl
  | true =>
    have hb1 := few10_le hv
    have HV := Lib.hid hv
    clear hv
    go_wp2_with fail
    refine (q_Few10 (h.ext ext) (k.ext ext)).mono ?_
    rintro e V ⟨rfl, hxc⟩
    rw [HV.out]
    replace bx := bx.ext hxc
    replace ext := ext.trans hxc
    clear hxc k0 k1 k2 k3 k4 k5 k6 k7
    have k0 := bx.cell 0 (.bool s) rfl
    have k1 := bx.cell 1 (.slice A n c) rfl
    have k2 := bx.cell 2 (.bool t) rfl
    have k3 := bx.cell 3 (.slice B m d) rfl
    have k4 := bx.cell 4 (.bool s') rfl
    have k5 := bx.cell 5 (.slice A' n' c') rfl
    have k6 := bx.cell 6 (.bool t') rfl
    have k7 := bx.cell 7 (.slice B' m' d') rfl
    cases hv' : few10 n' m' s' xs' t' ys' with
    | false =>
      have HV' := Lib.hid hv'
      clear hv'
      have HB := Lib.hid hb1
      clear hb1
      go_wp2_with fail
      refine (q_Few10 (h'.ext ext) (k'.ext ext)).mono ?_
      rintro e V2 ⟨rfl, hxc⟩
      rw [HV'.out]
      go_wp2_with fail
      go_ret
      refine ⟨?_, ext.trans hxc⟩
      rw [← HR.out, fewV, HV.out, HV'.out]; rfl
    | true =>
      have hb2 := few10_le hv'
      have HV' := Lib.hid hv'
      clear hv'
      have HB := Lib.hid (And.intro hb1 hb2)
      clear hb1 hb2
      go_wp2_with fail
      refine (q_Few10 (h'.ext ext) (k'.ext ext)).mono ?_
      rintro e V2 ⟨rfl, hxc⟩
      rw [HV'.out]
      replace bx := bx.ext hxc
      replace ext := ext.trans hxc
      clear hxc k0 k1 k2 k3 k4 k5 k6 k7
      have k0 := bx.cell 0 (.bool s) rfl
      have k1 := bx.cell 1 (.slice A n c) rfl
      have k2 := bx.cell 2 (.bool t) rfl
      have k3 := bx.cell 3 (.slice B m d) rfl
      have k4 := bx.cell 4 (.bool s') rfl
      have k5 := bx.cell 5 (.slice A' n' c') rfl
      have k6 := bx.cell 6 (.bool t') rfl
      have k7 := bx.cell 7 (.slice B' m' d') rfl
      go_wp2_with fail
      refine (q_ValidV (h.ext ext) (k.ext ext) (h'.ext ext) (k'.ext ext) (by have := HB.out; omega) (by have := HB.out; omega) (by have := HB.out; omega) (by have := HB.out; omega)).mono ?_
      rintro e V3 ⟨rfl, hxc⟩
      go_wp2_with fail
      go_ret
      refine ⟨?_, ext.trans hxc⟩
      rw [← HR.out, fewV, HV.out, HV'.out]; rfl
end
end Go.Proofs.YtoabhnofppledaaGreatDoor
namespace Go.Proofs.YtoabhnofppledaaGreatDoor
open Go.RowKit
attribute [local go_sem ↓] Go.wp_at_zero Go.wp_at_succ
set_option maxHeartbeats 8000000 in
theorem fewI2 {w : World} {g : Nat} {sa1 ta1 sa2 ta2 : Bool} {Aa1 Ba1 Aa2 Ba2 : Option Addr} {na1 ca1 ma1 da1 na2 ca2 ma2 da2 : Nat} {xa1 ya1 xa2 ya2 : List Nat} {sb1 tb1 sb2 tb2 : Bool} {Ab1 Bb1 Ab2 Bb2 : Option Addr} {nb1 cb1 mb1 db1 nb2 cb2 mb2 db2 : Nat} {xb1 yb1 xb2 yb2 : List Nat} (hbox : Box w g 28 #[.bool sa1, .slice Aa1 na1 ca1, .bool ta1, .slice Ba1 ma1 da1, .bool sa2, .slice Aa2 na2 ca2, .bool ta2, .slice Ba2 ma2 da2, .bool sb1, .slice Ab1 nb1 cb1, .bool tb1, .slice Bb1 mb1 db1, .bool sb2, .slice Ab2 nb2 cb2, .bool tb2, .slice Bb2 mb2 db2]) (ha : RawV w Aa1 na1 ca1 xa1 Ba1 ma1 da1 ya1 Aa2 na2 ca2 xa2 Ba2 ma2 da2 ya2) (hb : RawV w Ab1 nb1 cb1 xb1 Bb1 mb1 db1 yb1 Ab2 nb2 cb2 xb2 Bb2 mb2 db2 yb2) :
    Calls Tryz.prog 15 #[.slice (some ⟨g, 0, none⟩) 2 2] w fun e w' => e = .returned (.bool (fewV na1 ma1 na2 ma2 sa1 xa1 ta1 ya1 sa2 xa2 ta2 ya2 && (fewV nb1 mb1 nb2 mb2 sb1 xb1 tb1 yb1 sb2 xb2 tb2 yb2))) ∧ Ext w w' := by
  go_enter Tryz.func15, Tryz.ntmps15
  go_wp2_with fail
  go_loopw [7] (fun i wr => ∃ k : Nat, k ≤ 2 ∧ i = .int .i64 (k : Int) ∧ Ext w wr ∧ ((0 < k → fewV na1 ma1 na2 ma2 sa1 xa1 ta1 ya1 sa2 xa2 ta2 ya2 = true) ∧ (1 < k → fewV nb1 mb1 nb2 mb2 sb1 xb1 tb1 yb1 sb2 xb2 tb2 yb2 = true))) (fun i _ => 2 - (intOf i).toNat)
  case atStart => exact ⟨0, by omega, rfl, Ext.refl _, by simp⟩
  case round =>
    obtain ⟨k, hk, rfl, hext, hall⟩ := hrel
    have HA := Lib.hid hall
    clear hall
    have c0 := (hbox.ext hext).cell 0 (.bool sa1) rfl
    have c1 := (hbox.ext hext).cell 1 (.slice Aa1 na1 ca1) rfl
    have c2 := (hbox.ext hext).cell 2 (.bool ta1) rfl
    have c3 := (hbox.ext hext).cell 3 (.slice Ba1 ma1 da1) rfl
    have c4 := (hbox.ext hext).cell 4 (.bool sa2) rfl
    have c5 := (hbox.ext hext).cell 5 (.slice Aa2 na2 ca2) rfl
    have c6 := (hbox.ext hext).cell 6 (.bool ta2) rfl
    have c7 := (hbox.ext hext).cell 7 (.slice Ba2 ma2 da2) rfl
    have c8 := (hbox.ext hext).cell 8 (.bool sb1) rfl
    have c9 := (hbox.ext hext).cell 9 (.slice Ab1 nb1 cb1) rfl
    have c10 := (hbox.ext hext).cell 10 (.bool tb1) rfl
    have c11 := (hbox.ext hext).cell 11 (.slice Bb1 mb1 db1) rfl
    have c12 := (hbox.ext hext).cell 12 (.bool sb2) rfl
    have c13 := (hbox.ext hext).cell 13 (.slice Ab2 nb2 cb2) rfl
    have c14 := (hbox.ext hext).cell 14 (.bool tb2) rfl
    have c15 := (hbox.ext hext).cell 15 (.slice Bb2 mb2 db2) rfl
    have hk2 : k = 0 ∨ k = 1 ∨ k = 2 := by omega
    rcases hk2 with rfl | rfl | rfl
    · go_wp2_with (fail)
      refine (q_FewV (ha.ext (hext.alloc _)).1 (ha.ext (hext.alloc _)).2.1 (ha.ext (hext.alloc _)).2.2.1 (ha.ext (hext.alloc _)).2.2.2).mono ?_
      rintro e V ⟨rfl, hxv⟩
      replace hext := (hext.alloc _).trans hxv
      cases hf : fewV na1 ma1 na2 ma2 sa1 xa1 ta1 ya1 sa2 xa2 ta2 ya2 with
      | true =>
        have HF := Lib.hid hf
        clear hf
        go_wp2_with fail
        go_roundw
        case rel => exact ⟨1, by omega, rfl, hext, by have := HA.out; simp [HF.out] at this ⊢; try exact this⟩
        case measure => simp [intOf]
      | false =>
        have HF := Lib.hid hf
        clear hf
        go_wp2_with fail
        go_ret
        exact ⟨by have := HA.out; simp [HF.out] at this ⊢, hext⟩
    · go_wp2_with (fail)
      refine (q_FewV (hb.ext (hext.alloc _)).1 (hb.ext (hext.alloc _)).2.1 (hb.ext (hext.alloc _)).2.2.1 (hb.ext (hext.alloc _)).2.2.2).mono ?_
      rintro e V ⟨rfl, hxv⟩
      replace hext := (hext.alloc _).trans hxv
      cases hf : fewV nb1 mb1 nb2 mb2 sb1 xb1 tb1 yb1 sb2 xb2 tb2 yb2 with
      | true =>
        have HF := Lib.hid hf
        clear hf
        go_wp2_with fail
        go_roundw
        case rel => exact ⟨2, by omega, rfl, hext, by have := HA.out; simp [HF.out] at this ⊢; try exact this⟩
        case measure => simp [intOf]
      | false =>
        have HF := Lib.hid hf
        clear hf
        go_wp2_with fail
        go_ret
        exact ⟨by have := HA.out; simp [HF.out] at this ⊢, hext⟩
    · go_wp2_with fail
      go_ret
      exact ⟨by have := HA.out; simp at this; simp [this], hext⟩
end Go.Proofs.YtoabhnofppledaaGreatDoor
namespace Go.Proofs.YtoabhnofppledaaGreatDoor
open Go.RowKit
section
variable {P : Program} {md : Region.Mode} {ops : Array Oper} {Q : Exit → Act → World → Prop} {W0 : World}
theorem Late.two {AL : List Al} {n i i2 : Nat} {o o2 : Oper} {L : Array Bool} {a : Act} {w : World} (ho : ops[i]? = some o) (ho2 : ops[i2]? = some o2) (hs : Region.noSelect ops = true) (hal : ∀ x ∈ AL, IsAl P ops x)
    (hr : Region.ready md ops (allMarks L AL) = [i, i2]) (hri : (Region.ready md ops L).contains i = true) (hp : sep ops AL i o = true) (hp2 : sep ops AL i2 o2 = true) (hQ : QStill Q)
    (h : ∀ w', Ext w w' → Ext W0 w' → ∀ K : Act → World → Prop, Shut (∀ a' w'', Ext w' w'' → Late P md ops Q W0 AL n (L.setIfInBounds i true) a' w'' → K a' w'') → if Region.wanted o (yielded ops a.tmps) = true then Oper.wp P o a w' K Q else K (a.put o.dst undef) w')
    (h2 : ∀ w', Ext w w' → Ext W0 w' → ∀ K : Act → World → Prop, Shut (∀ a' w'', Ext w' w'' → Late P md ops Q W0 AL n (L.setIfInBounds i2 true) a' w'' → K a' w'') → if Region.wanted o2 (yielded ops a.tmps) = true then Oper.wp P o2 a w' K Q else K (a.put o2.dst undef) w') :
    Late P md ops Q W0 AL (n + 1) L a w := by
  have fin : ∀ (j : Nat) (oj : Oper) (hoj : ops[j]? = some oj) (hpj : sep ops AL j oj = true)
      (hj : ∀ w', Ext w w' → Ext W0 w' → ∀ K : Act → World → Prop, Shut (∀ a' w'', Ext w' w'' → Late P md ops Q W0 AL n (L.setIfInBounds j true) a' w'' → K a' w'') → if Region.wanted oj (yielded ops a.tmps) = true then Oper.wp P oj a w' K Q else K (a.put oj.dst undef) w')
      (w' : World) (_ : Ext w w') (_ : Ext W0 w') (D : List (Al × Nat)) (_ : Val W0 AL w' D) (f : Nat) (_ : n + 1 + AL.length = f + 1 + D.length),
      wpOp P ops Q j (fun a' w'' => Ext W0 w'' ∧ wpAnyH P md ops Q (Ext W0) f ((marks L D).setIfInBounds j true) a' w'') (lays a D) w' := by
    intro j oj hoj hpj hj w' e hS D hD f hl
    have hsep := fun y (hy : y ∈ D) => sep_spec hpj (hD.mem y hy)
    refine wpOp_lays hoj (fun cs b => Region.noSelect_spec hs j oj cs b hoj) hQ D _ a (fun y hy => (hsep y hy).2) (wpOp_step hoj fun K' hK => hj w' e hS K' (fun a' w'' e' hL => hK a' w'' ?_))
    have hS' := hS.trans e'
    refine ⟨hS', ?_⟩
    have := hL w'' (Ext.refl _) hS' D (hD.ext e') f (by omega)
    rwa [marks_set D L j (fun y hy => (hsep y hy).1)] at this
  have go : ∀ (k : Nat) w', Ext w w' → Ext W0 w' → ∀ D, Val W0 AL w' D → AL.length ≤ D.length + k → ∀ f, n + 1 + AL.length = f + D.length → wpAnyH P md ops Q (Ext W0) f (marks L D) (lays a D) w' := by
    intro k
    induction k with
    | zero =>
      intro w' e hS D hD hk f hl
      have hlen := hD.len
      obtain ⟨f, rfl⟩ : ∃ k, f = k + 1 := ⟨f - 1, by omega⟩
      have hsep := fun y (hy : y ∈ D) => sep_spec hp (hD.mem y hy)
      have hir : i ∈ Region.ready md ops (marks L D) := ready_marks D L (by simpa using hri) (fun y hy => (hsep y hy).1)
      refine ⟨(fun h0 => by rw [h0] at hir; cases hir), fun j hj => ?_⟩
      have hji : j = i ∨ j = i2 := by
        by_cases hx : ∃ x ∈ AL, x.i = j
        · obtain ⟨x, hx, rfl⟩ := hx
          have hun := (marks_un D L x.i (mem_ready.1 hj).1).2
          have := hD.len_lt hx hun
          omega
        · have := ready_all hD.mem hj (fun x hx' e => hx ⟨x, hx', e⟩)
          rw [hr] at this
          simpa using this
      rcases hji with e' | e'
      · rw [e']; exact fin i o ho hp h w' e hS D hD f hl
      · rw [e']; exact fin i2 o2 ho2 hp2 h2 w' e hS D hD f hl
    | succ k ih =>
      intro w' e hS D hD hk f hl
      have hlen := hD.len
      obtain ⟨f, rfl⟩ : ∃ k, f = k + 1 := ⟨f - 1, by omega⟩
      have hsep := fun y (hy : y ∈ D) => sep_spec hp (hD.mem y hy)
      have hir : i ∈ Region.ready md ops (marks L D) := ready_marks D L (by simpa using hri) (fun y hy => (hsep y hy).1)
      refine ⟨(fun h0 => by rw [h0] at hir; cases hir), fun j hj => ?_⟩
      by_cases hx : ∃ x ∈ AL, x.i = j
      · obtain ⟨x, hx, rfl⟩ := hx
        have hun := (marks_un D L x.i (mem_ready.1 hj).1).2
        refine wpOp_alloc (hal x hx) ?_
        have e1 := (Ext.refl w').alloc (.cells x.cs x.t)
        have hS1 := hS.trans e1
        refine ⟨hS1, ?_⟩
        have := ih (w'.alloc (.cells x.cs x.t)) (e.trans e1) hS1 (D ++ [(x, w'.heap.size)]) (hD.snoc hx hun hS) (by simp; omega) f (by simp; omega)
        rwa [marks_snoc, lays_snoc] at this
      · have := ready_all hD.mem hj (fun x hx' e => hx ⟨x, hx', e⟩)
        rw [hr] at this
        have hji : j = i ∨ j = i2 := by simpa using this
        rcases hji with e' | e'
        · rw [e']; exact fin i o ho hp h w' e hS D hD f hl
        · rw [e']; exact fin i2 o2 ho2 hp2 h2 w' e hS D hD f hl
  exact fun w' e hS D hD f hl => go AL.length w' e hS D hD (by omega) f hl
theorem at_wpL {z f : Nat} {L : Array Bool} {a : Act} {w : World} (C : World → Prop) (h : C w) (k : ∀ V, C V → wpL P md ops Q W0 z f L a V) : wpL P md ops Q W0 z f L a w := k w h
end
end Go.Proofs.YtoabhnofppledaaGreatDoor
namespace Go.Proofs.YtoabhnofppledaaGreatDoor
open Go.RowKit
attribute [local go_sem ↓] Go.wp_at_zero Go.wp_at_succ
/-- a row of numbers. -/
def RetRow (qs : List Rat) (L : Nat) (w : World) (e : Ending) (w' : World) : Prop := ∃ g cap, e = .returned (.slice (some ⟨g, 0, none⟩) 4 cap) ∧ RatsAt w' g 0 qs L ∧ Ext w w'
section
variable {w w' : World} {q p lo hi lo' hi' x : Rat} {L M : Nat} {s t s' t' sx tx u v u' v' : Bool} {A B A' B' Ax Bx C D C' D' : Option Addr} {n c m d n' c' m' d' nx cx mx dx i j k l i' j' k' l' : Nat} {qs : List Rat}
set_option maxHeartbeats 32000000 in
set_option maxRecDepth 100000 in
theorem q_ends_Mul (h : IV w lo hi L s A n c t B m d s' A' n' c' t' B' m' d') (h' : IV w lo' hi' M u C i j v D k l u' C' i' j' v' D' k' l') (hL : L ≤ 20) (hM : M ≤ 20) : Calls Tryz.prog 58 #[.agg #[.bool s, .slice A n c, .bool t, .slice B m d, .bool s', .slice A' n' c', .bool t', .slice B' m' d'], .agg #[.bool u, .slice C i j, .bool v, .slice D k l, .bool u', .slice C' i' j', .bool v', .slice D' k' l'], .int .i64 2] w (RetRow (prods (fun x y => x * y) [lo, hi] [lo', hi']) (L + M) w) := by
  obtain ⟨l1, hl1⟩ : ∃ l, [lo, hi] = l := ⟨_, rfl⟩
  obtain ⟨l2, hl2⟩ : ∃ l, [lo', hi'] = l := ⟨_, rfl⟩
  have hc1 : CellsOf w L l1 [.bool s, .slice A n c, .bool t, .slice B m d, .bool s', .slice A' n' c', .bool t', .slice B' m' d'] := by rw [← hl1]; exact .cons h.low (.cons h.high .nil)
  have hc2 : CellsOf w M l2 [.bool u, .slice C i j, .bool v, .slice D k l, .bool u', .slice C' i' j', .bool v', .slice D' k' l'] := by rw [← hl2]; exact .cons h'.low (.cons h'.high .nil)
  have Hn1 := Lib.hid (show l1.length = 2 by rw [← hl1]; rfl)
  have Hn2 := Lib.hid (show l2.length = 2 by rw [← hl2]; rfl)
  rw [hl1, hl2]
  clear hl1 hl2 h h'
  go_enter Tryz.func58, Tryz.ntmps58
  go_upto_region 1 with (fail)
  obtain ⟨W, hW, ext, bx, by_, hz⟩ := box2 w 28 28 #[.bool s, .slice A n c, .bool t, .slice B m d, .bool s', .slice A' n' c', .bool t', .slice B' m' d'] #[.bool u, .slice C i j, .bool v, .slice D k l, .bool u', .slice C' i' j', .bool v', .slice D' k' l']
  rw [← hW]
  clear hW hz
  replace hc1 := hc1.ext ext
  replace hc2 := hc2.ext ext
  go_upto_region 2 with (fail)
  have ES0 := Ext.refl W
  refine wp_region_held_drew (S := Ext W) (by kernel_rfl) ES0.drew (fun ES => ?_)
  clear ES0
  refine Late.start0 (fun _ _ _ _ _ => ⟨fun h => h, fun h => h⟩) ES (fun hAl hQ => ?_)
  refine Late.take (i := 0) (d := some 12) (v := ?v0_192) rfl rfl (by kernel_rfl) (by kernel_rfl) (by kernel_rfl) (by kernel_rfl) hQ (Or.inl ⟨by rfl, ?y0_192⟩) ?r0_192
  case y0_192 =>
    intro w' hSw
    have k00 := (bx.ext hSw).c8
    have k10 := (by_.ext hSw).c8
    go_simp
    try with_reducible rfl
  try simp only [Act.put]
  try simp only [List.setIfInBounds_toArray]
  try simp only [List.set_cons_succ]
  try simp only [List.set_cons_zero]
  refine Late.take (i := 1) (d := some 13) (v := ?v1_193) rfl rfl (by kernel_rfl) (by kernel_rfl) (by kernel_rfl) (by kernel_rfl) hQ (Or.inl ⟨by rfl, ?y1_193⟩) ?r1_193
  case y1_193 =>
    intro w' hSw
    have k00 := (bx.ext hSw).c8
    have k10 := (by_.ext hSw).c8
    go_simp
    try with_reducible rfl
  try simp only [Act.put]
  try simp only [List.setIfInBounds_toArray]
  try simp only [List.set_cons_succ]
  try simp only [List.set_cons_zero]
  refine Late.take (i := 2) (d := some 14) (v := ?v2_194) rfl rfl (by kernel_rfl) (by kernel_rfl) (by kernel_rfl) (by kernel_rfl) hQ (Or.inl ⟨by rfl, ?y2_194⟩) ?r2_194
  case y2_194 =>
    intro w' hSw
    have k00 := (bx.ext hSw).c8
    have k10 := (by_.ext hSw).c8
    go_simp
    try with_reducible rfl
  try simp only [Act.put]
  try simp only [List.setIfInBounds_toArray]
  try simp only [List.set_cons_succ]
  try simp only [List.set_cons_zero]
  refine Late.take (i := 3) (d := some 15) (v := ?v3_195) rfl rfl (by kernel_rfl) (by kernel_rfl) (by kernel_rfl) (by kernel_rfl) hQ (Or.inl ⟨by rfl, ?y3_195⟩) ?r3_195
  case y3_195 =>
    intro w' hSw
    have k00 := (bx.ext hSw).c8
    have k10 := (by_.ext hSw).c8
    go_simp
    try with_reducible rfl
  try simp only [Act.put]
  try simp only [List.setIfInBounds_toArray]
  try simp only [List.set_cons_succ]
  try simp only [List.set_cons_zero]
  refine Late.take (i := 5) (d := some 17) (v := ?v5_196) rfl rfl (by kernel_rfl) (by kernel_rfl) (by kernel_rfl) (by kernel_rfl) hQ (Or.inl ⟨by rfl, ?y5_196⟩) ?r5_196
  case y5_196 =>
    intro w' hSw
    have k00 := (bx.ext hSw).c8
    have k10 := (by_.ext hSw).c8
    go_simp
    try with_reducible rfl
  try simp only [Act.put]
  try simp only [List.setIfInBounds_toArray]
  try simp only [List.set_cons_succ]
  try simp only [List.set_cons_zero]
  refine Late.take (i := 6) (d := some 18) (v := ?v6_197) rfl rfl (by kernel_rfl) (by kernel_rfl) (by kernel_rfl) (by kernel_rfl) hQ (Or.inl ⟨by rfl, ?y6_197⟩) ?r6_197
  case y6_197 =>
    intro w' hSw
    have k00 := (bx.ext hSw).c8
    have k10 := (by_.ext hSw).c8
    go_simp
    try with_reducible rfl
  try simp only [Act.put]
  try simp only [List.setIfInBounds_toArray]
  try simp only [List.set_cons_succ]
  try simp only [List.set_cons_zero]
  refine Late.take (i := 7) (d := some 19) (v := ?v7_198) rfl rfl (by kernel_rfl) (by kernel_rfl) (by kernel_rfl) (by kernel_rfl) hQ (Or.inl ⟨by rfl, ?y7_198⟩) ?r7_198
  case y7_198 =>
    intro w' hSw
    have k00 := (bx.ext hSw).c8
    have k10 := (by_.ext hSw).c8
    go_simp
    try with_reducible rfl
  try simp only [Act.put]
  try simp only [List.setIfInBounds_toArray]
  try simp only [List.set_cons_succ]
  try simp only [List.set_cons_zero]
  refine Late.take (i := 8) (d := some 20) (v := ?v8_199) rfl rfl (by kernel_rfl) (by kernel_rfl) (by kernel_rfl) (by kernel_rfl) hQ (Or.inl ⟨by rfl, ?y8_199⟩) ?r8_199
  case y8_199 =>
    intro w' hSw
    have k00 := (bx.ext hSw).c8
    have k10 := (by_.ext hSw).c8
    go_simp
    try with_reducible rfl
  try simp only [Act.put]
  try simp only [List.setIfInBounds_toArray]
  try simp only [List.set_cons_succ]
  try simp only [List.set_cons_zero]
  refine Late.two (i := 4) (i2 := 9) rfl rfl (by kernel_rfl) hAl (by kernel_rfl) (by kernel_rfl) (by kernel_rfl) (by kernel_rfl) hQ (fun w4 e4 E4 K hK => ?_) (fun w9 e9 E9 K hK => ?_)
  · have hx4 := (Ext.refl w4).alloc (.cells #[.bool s, .slice A n c, .bool t, .slice B m d, .bool s', .slice A' n' c', .bool t', .slice B' m' d'] 26)
    have bX := Box.new w4 26 #[.bool s, .slice A n c, .bool t, .slice B m d, .bool s', .slice A' n' c', .bool t', .slice B' m' d']
    go_simp
    refine hK.out _ _ hx4 ?_
    clear hK K
    try simp only [Act.put]
    try simp only [List.setIfInBounds_toArray]
    try simp only [List.set_cons_succ]
    try simp only [List.set_cons_zero]
    generalize w4.heap.size = gx at bX ⊢
    refine Late.take (i := 10) (d := some 8) (v := ?v10_200) rfl rfl (by kernel_rfl) (by kernel_rfl) (by kernel_rfl) (by kernel_rfl) hQ (Or.inl ⟨by rfl, ?y10_200⟩) ?r10_200
    case y10_200 =>
      intro w' hSw
      go_simp
      try with_reducible rfl
    try simp only [Act.put]
    try simp only [List.setIfInBounds_toArray]
    try simp only [List.set_cons_succ]
    try simp only [List.set_cons_zero]
    refine Late.call (i := 9) rfl (by kernel_rfl) hAl (by kernel_rfl) (by kernel_rfl) (by kernel_rfl) hQ (fun w9 e9 E9 K hK => ?_)
    have hx9 := (Ext.refl w9).alloc (.cells #[.bool u, .slice C i j, .bool v, .slice D k l, .bool u', .slice C' i' j', .bool v', .slice D' k' l'] 26)
    have bY := Box.new w9 26 #[.bool u, .slice C i j, .bool v, .slice D k l, .bool u', .slice C' i' j', .bool v', .slice D' k' l']
    go_simp
    refine hK.out _ _ hx9 ?_
    clear hK K
    try simp only [Act.put]
    try simp only [List.setIfInBounds_toArray]
    try simp only [List.set_cons_succ]
    try simp only [List.set_cons_zero]
    generalize w9.heap.size = gy at bY ⊢
    refine Late.take (i := 11) (d := some 9) (v := ?v11_201) rfl rfl (by kernel_rfl) (by kernel_rfl) (by kernel_rfl) (by kernel_rfl) hQ (Or.inl ⟨by rfl, ?y11_201⟩) ?r11_201
    case y11_201 =>
      intro w' hSw
      go_simp
      try with_reducible rfl
    try simp only [Act.put]
    try simp only [List.setIfInBounds_toArray]
    try simp only [List.set_cons_succ]
    try simp only [List.set_cons_zero]
    refine Late.done0 (by kernel_rfl) (fun wz ez Ez => ?_)
    clear hAl hQ ES
    replace bX := bX.ext (e9.trans (hx9.trans ez))
    replace bY := bY.ext ez
    clear e4 e9 E4 E9 hx4 hx9 ez
    replace hc1 := hc1.ext Ez
    replace hc2 := hc2.ext Ez
    go_wp2_with fail
    go_loopw [7, 10] (fun v i wr => ∃ (a1 : Nat), a1 ≤ 2 ∧ i = .int .i64 (a1 : Int) ∧ Ext wz wr ∧ Row4 wr wz.heap.size v (prods (fun x y => x * y) (l1.take a1) l2) (L + M)) (fun _ i _ => 2 - (intOf i).toNat)
    case atStart => exact ⟨0, Nat.zero_le _, rfl, Ext.refl _, Row4.nil _ _ _⟩
    case round =>
      obtain ⟨a1, hk, rfl, extr, hrow⟩ := hrel
      by_cases hlt : a1 < 2
      · have hkq : a1 < l1.length := by rw [Hn1.out]; exact hlt
        have HT := Lib.hid (show l1.take (a1 + 1) = l1.take a1 ++ [l1[a1]] from List.take_succ_eq_append_getElem hkq)
        have d1 : decide ((a1 : Int) < 2) = true := decide_eq_true (by omega)
        go_wp2_with fail
        try rw [d1]
        clear d1
        have hI1 : (a1 : Int) < 2 := by omega
        go_loopw [7, 11] (fun v i wq => ∃ (a2 : Nat), a2 ≤ 2 ∧ i = .int .i64 (a2 : Int) ∧ Ext wz wq ∧ Row4 wq wz.heap.size v (prods (fun x y => x * y) (l1.take a1) l2 ++ (l2.take a2).map (fun y => (l1[a1]'hkq) * y)) (L + M)) (fun _ i _ => 2 - (intOf i).toNat)
        case atStart => exact ⟨0, Nat.zero_le _, rfl, extr, by rw [List.take_zero, List.map_nil, List.append_nil]; exact hrow⟩
        case round =>
          clear extr hrow
          obtain ⟨a2, hk2, rfl, extr, hrow⟩ := hrel
          by_cases hlt2 : a2 < 2
          · have hkq2 : a2 < l2.length := by rw [Hn2.out]; exact hlt2
            have hlen := row_len (fun x y => x * y) (fun y => (l1[a1]'hkq) * y) (l := l1) (l' := l2) a1 a2 (by rw [Hn1.out]; exact Nat.le_refl _) (by rw [Hn2.out]; exact Nat.le_refl _)
            obtain ⟨s9, A9, n9, c9, t9, B9, m9, d9, e0, e1, e2, e3, hx⟩ := (RatsAt.of_box (bX.ext extr) (hc1.ext extr)).at_ a1 hkq
            rw [Nat.zero_add] at e0 e1 e2 e3
            have e0' : wr.cell? ⟨gx, a1 * 4, none⟩ = some (.bool s9) := by rw [Nat.mul_comm]; exact e0
            have e1' : wr.cell? ⟨gx, a1 * 4 + 1, none⟩ = some (.slice A9 n9 c9) := by rw [Nat.mul_comm]; exact e1
            have e2' : wr.cell? ⟨gx, a1 * 4 + 2, none⟩ = some (.bool t9) := by rw [Nat.mul_comm]; exact e2
            have e3' : wr.cell? ⟨gx, a1 * 4 + 3, none⟩ = some (.slice B9 m9 d9) := by rw [Nat.mul_comm]; exact e3
            have u0' := e0'
            have u1' := e1'
            have u2' := e2'
            have u3' := e3'
            clear e0 e1 e2 e3 e0' e1' e2' e3'
            obtain ⟨s8, A8, n8, c8, t8, B8, m8, d8, e0, e1, e2, e3, hy⟩ := (RatsAt.of_box (bY.ext extr) (hc2.ext extr)).at_ a2 hkq2
            rw [Nat.zero_add] at e0 e1 e2 e3
            have HT2 := Lib.hid (show l2.take (a2 + 1) = l2.take a2 ++ [l2[a2]] from List.take_succ_eq_append_getElem hkq2)
            have e0' : wr.cell? ⟨gy, a2 * 4, none⟩ = some (.bool s8) := by rw [Nat.mul_comm]; exact e0
            have e1' : wr.cell? ⟨gy, a2 * 4 + 1, none⟩ = some (.slice A8 n8 c8) := by rw [Nat.mul_comm]; exact e1
            have e2' : wr.cell? ⟨gy, a2 * 4 + 2, none⟩ = some (.bool t8) := by rw [Nat.mul_comm]; exact e2
            have e3' : wr.cell? ⟨gy, a2 * 4 + 3, none⟩ = some (.slice B8 m8 d8) := by rw [Nat.mul_comm]; exact e3
            clear e0 e1 e2 e3
            go_upto_region 10 with (fail)
            refine wpL.start 11 (by kernel_rfl) (fun _ _ _ _ _ => ⟨fun h => h, fun h => h⟩) (fun hQ ES => ?_)
            refine wpL.takeB [11] (i := 0) (d := some 31) (v := ?v0_183) rfl rfl (by kernel_rfl) (by kernel_rfl) (by kernel_rfl) (by kernel_rfl) hQ (Or.inl ⟨by rfl, ?y0_183⟩) ES ?r0_183
            case y0_183 =>
              intro w' hSw
              have j0 := (hSw.cellv e0')
              have j1 := (hSw.cellv e1')
              have j2 := (hSw.cellv e2')
              have j3 := (hSw.cellv e3')
              have jj0 := (hSw.cellv u0')
              have jj1 := (hSw.cellv u1')
              have jj2 := (hSw.cellv u2')
              have jj3 := (hSw.cellv u3')
              go_simp
              try with_reducible rfl
            try simp only [Act.put]
            try simp only [List.setIfInBounds_toArray]
            try simp only [List.set_cons_succ]
            try simp only [List.set_cons_zero]
            refine wpL.takeB [3, 4, 9, 10, 11] (i := 1) (d := some 32) (v := ?v1_184) rfl rfl (by kernel_rfl) (by kernel_rfl) (by kernel_rfl) (by kernel_rfl) hQ (Or.inl ⟨by rfl, ?y1_184⟩) ES ?r1_184
            case y1_184 =>
              intro w' hSw
              have j0 := (hSw.cellv e0')
              have j1 := (hSw.cellv e1')
              have j2 := (hSw.cellv e2')
              have j3 := (hSw.cellv e3')
              have jj0 := (hSw.cellv u0')
              have jj1 := (hSw.cellv u1')
              have jj2 := (hSw.cellv u2')
              have jj3 := (hSw.cellv u3')
              go_simp
              try with_reducible rfl
            try simp only [Act.put]
            try simp only [List.setIfInBounds_toArray]
            try simp only [List.set_cons_succ]
            try simp only [List.set_cons_zero]
            refine wpL.takeB [3, 4, 9, 10, 11] (i := 2) (d := some 33) (v := ?v2_185) rfl rfl (by kernel_rfl) (by kernel_rfl) (by kernel_rfl) (by kernel_rfl) hQ (Or.inl ⟨by rfl, ?y2_185⟩) ES ?r2_185
            case y2_185 =>
              intro w' hSw
              have j0 := (hSw.cellv e0')
              have j1 := (hSw.cellv e1')
              have j2 := (hSw.cellv e2')
              have j3 := (hSw.cellv e3')
              have jj0 := (hSw.cellv u0')
              have jj1 := (hSw.cellv u1')
              have jj2 := (hSw.cellv u2')
              have jj3 := (hSw.cellv u3')
              go_simp
              try with_reducible rfl
            try simp only [Act.put]
            try simp only [List.setIfInBounds_toArray]
            try simp only [List.set_cons_succ]
            try simp only [List.set_cons_zero]
            refine wpL.takeB [4, 9, 10, 11] (i := 3) (d := some 34) (v := ?v3_186) rfl rfl (by kernel_rfl) (by kernel_rfl) (by kernel_rfl) (by kernel_rfl) hQ (Or.inl ⟨by rfl, ?y3_186⟩) ES ?r3_186
            case y3_186 =>
              intro w' hSw
              have j0 := (hSw.cellv e0')
              have j1 := (hSw.cellv e1')
              have j2 := (hSw.cellv e2')
              have j3 := (hSw.cellv e3')
              have jj0 := (hSw.cellv u0')
              have jj1 := (hSw.cellv u1')
              have jj2 := (hSw.cellv u2')
              have jj3 := (hSw.cellv u3')
              go_simp
              try with_reducible rfl
            try simp only [Act.put]
            try simp only [List.setIfInBounds_toArray]
            try simp only [List.set_cons_succ]
            try simp only [List.set_cons_zero]
            refine wpL.takeB [9, 10, 11] (i := 4) (d := some 35) (v := ?v4_187) rfl rfl (by kernel_rfl) (by kernel_rfl) (by kernel_rfl) (by kernel_rfl) hQ (Or.inl ⟨by rfl, ?y4_187⟩) ES ?r4_187
            case y4_187 =>
              intro w' hSw
              have j0 := (hSw.cellv e0')
              have j1 := (hSw.cellv e1')
              have j2 := (hSw.cellv e2')
              have j3 := (hSw.cellv e3')
              have jj0 := (hSw.cellv u0')
              have jj1 := (hSw.cellv u1')
              have jj2 := (hSw.cellv u2')
              have jj3 := (hSw.cellv u3')
              go_simp
              try with_reducible rfl
            try simp only [Act.put]
            try simp only [List.setIfInBounds_toArray]
            try simp only [List.set_cons_succ]
            try simp only [List.set_cons_zero]
            refine wpL.takeB [7, 8, 9, 10, 11] (i := 5) (d := some 36) (v := ?v5_188) rfl rfl (by kernel_rfl) (by kernel_rfl) (by kernel_rfl) (by kernel_rfl) hQ (Or.inl ⟨by rfl, ?y5_188⟩) ES ?r5_188
            case y5_188 =>
              intro w' hSw
              have j0 := (hSw.cellv e0')
              have j1 := (hSw.cellv e1')
              have j2 := (hSw.cellv e2')
              have j3 := (hSw.cellv e3')
              have jj0 := (hSw.cellv u0')
              have jj1 := (hSw.cellv u1')
              have jj2 := (hSw.cellv u2')
              have jj3 := (hSw.cellv u3')
              go_simp
              try with_reducible rfl
            try simp only [Act.put]
            try simp only [List.setIfInBounds_toArray]
            try simp only [List.set_cons_succ]
            try simp only [List.set_cons_zero]
            refine wpL.takeB [7, 8, 9, 10, 11] (i := 6) (d := some 37) (v := ?v6_189) rfl rfl (by kernel_rfl) (by kernel_rfl) (by kernel_rfl) (by kernel_rfl) hQ (Or.inl ⟨by rfl, ?y6_189⟩) ES ?r6_189
            case y6_189 =>
              intro w' hSw
              have j0 := (hSw.cellv e0')
              have j1 := (hSw.cellv e1')
              have j2 := (hSw.cellv e2')
              have j3 := (hSw.cellv e3')
              have jj0 := (hSw.cellv u0')
              have jj1 := (hSw.cellv u1')
              have jj2 := (hSw.cellv u2')
              have jj3 := (hSw.cellv u3')
              go_simp
              try with_reducible rfl
            try simp only [Act.put]
            try simp only [List.setIfInBounds_toArray]
            try simp only [List.set_cons_succ]
            try simp only [List.set_cons_zero]
            refine wpL.takeB [8, 9, 10, 11] (i := 7) (d := some 38) (v := ?v7_190) rfl rfl (by kernel_rfl) (by kernel_rfl) (by kernel_rfl) (by kernel_rfl) hQ (Or.inl ⟨by rfl, ?y7_190⟩) ES ?r7_190
            case y7_190 =>
              intro w' hSw
              have j0 := (hSw.cellv e0')
              have j1 := (hSw.cellv e1')
              have j2 := (hSw.cellv e2')
              have j3 := (hSw.cellv e3')
              have jj0 := (hSw.cellv u0')
              have jj1 := (hSw.cellv u1')
              have jj2 := (hSw.cellv u2')
              have jj3 := (hSw.cellv u3')
              go_simp
              try with_reducible rfl
            try simp only [Act.put]
            try simp only [List.setIfInBounds_toArray]
            try simp only [List.set_cons_succ]
            try simp only [List.set_cons_zero]
            refine wpL.takeB [9, 10, 11] (i := 8) (d := some 39) (v := ?v8_191) rfl rfl (by kernel_rfl) (by kernel_rfl) (by kernel_rfl) (by kernel_rfl) hQ (Or.inl ⟨by rfl, ?y8_191⟩) ES ?r8_191
            case y8_191 =>
              intro w' hSw
              have j0 := (hSw.cellv e0')
              have j1 := (hSw.cellv e1')
              have j2 := (hSw.cellv e2')
              have j3 := (hSw.cellv e3')
              have jj0 := (hSw.cellv u0')
              have jj1 := (hSw.cellv u1')
              have jj2 := (hSw.cellv u2')
              have jj3 := (hSw.cellv u3')
              go_simp
              try with_reducible rfl
            try simp only [Act.put]
            try simp only [List.setIfInBounds_toArray]
            try simp only [List.set_cons_succ]
            try simp only [List.set_cons_zero]
            refine wpL.call (i := 9) rfl (by kernel_rfl) (fun K hK => ?_)
            go_simp
            (go_at_call 44; refine (q_MulR (hx.ext ES) (hy.ext ES) (by omega) (by omega)).mono ?_; rintro e wk ⟨s7, A7, n7, c7, t7, B7, m7, d7, rfl, h7, hx7⟩; have E9 := Ext.trans ES hx7)
            refine hK.out _ _ E9 ?_
            clear hK K
            try simp only [Act.put]
            try simp only [List.setIfInBounds_toArray]
            try simp only [List.set_cons_succ]
            try simp only [List.set_cons_zero]
            refine wpL.call (i := 10) rfl (by kernel_rfl) (fun K hK => ?_)
            have ha7 := (Ext.refl wk).alloc (.cells #[.bool s7, .slice A7 n7 c7, .bool t7, .slice B7 m7 d7] 26)
            have b7 := Box.new wk 26 #[.bool s7, .slice A7 n7 c7, .bool t7, .slice B7 m7 d7]
            go_simp
            refine hK.out _ _ (E9.trans ha7) ?_
            clear hK K
            try simp only [Act.put]
            try simp only [List.setIfInBounds_toArray]
            try simp only [List.set_cons_succ]
            try simp only [List.set_cons_zero]
            replace h7 := h7.ext ha7
            have E10 := E9.trans ha7
            clear ha7 E9
            have hrow' := hrow.ext E10
            refine at_wpL (fun V => Ext wr V ∧ Row4 V wz.heap.size u7 (prods (fun x y => x * y) (l1.take a1) l2 ++ (l2.take a2).map (fun y => (l1[a1]'hkq) * y)) (L + M) ∧ NR V ((l1[a1]'hkq) * (l2[a2]'hkq2)) (L + M) s7 A7 n7 c7 t7 B7 m7 d7 ∧ Box V wk.heap.size 26 #[.bool s7, .slice A7 n7 c7, .bool t7, .slice B7 m7 d7]) ⟨E10, hrow', h7, b7⟩ ?_
            clear E10 hrow' h7 b7
            generalize wk.heap.size = g7
            rintro V ⟨E10, hrow', h7, b7⟩
            refine wpL.tail (i := 11) rfl (by kernel_rfl) (by kernel_rfl) (fun K hK => ?_)
            refine step_append_rat (by rfl) _ _ (by rfl) (by rfl) (by rfl) hrow' h7 b7 hlen (extr.trans E10).size ?_
            intro v6 W6 hrow6 hgr hob
            refine hK.out _ _ ?_
            clear hK K
            try simp only [Act.put]
            try simp only [List.setIfInBounds_toArray]
            try simp only [List.set_cons_succ]
            try simp only [List.set_cons_zero]
            refine wpL.tail (i := 12) rfl (by kernel_rfl) (by kernel_rfl) (fun K hK => ?_)
            go_simp
            refine hK.out _ _ ?_
            clear hK K
            try simp only [Act.put]
            try simp only [List.setIfInBounds_toArray]
            try simp only [List.set_cons_succ]
            try simp only [List.set_cons_zero]
            refine wpL.done (by kernel_rfl) ?_ _
            clear hQ
            go_wp2_with fail
            go_roundw
            case rel =>
              refine ⟨a2 + 1, by omega, by go_num, Below.grown (extr.trans E10) hgr (extr.trans E10).size (fun k hk => (hrow'.block k hk).1), ?_⟩
              rw [HT2.out, List.map_append, ← List.append_assoc]; exact hrow6
            case measure => simp [intOf]; omega
          · have hkn : a2 = 2 := by omega
            rw [hkn, List.take_of_length_le (Nat.le_of_eq Hn2.out)] at hrow
            go_wp2_with fail
            go_roundw
            case rel =>
              refine ⟨a1 + 1, by omega, by go_num, extr, ?_⟩
              rw [HT.out, prods_snoc]
              exact hrow
            case measure => simp [intOf]; omega
      · have hkn : a1 = 2 := by omega
        rw [hkn, List.take_of_length_le (Nat.le_of_eq Hn1.out)] at hrow
        have hpl : (prods (fun x y => x * y) l1 l2).length = 4 := by rw [prods_len, Hn1.out, Hn2.out]
        obtain ⟨g7, c7, rfl, hra⟩ := hrow.shape (fun h => by rw [h] at hpl; cases hpl)
        rw [hpl]
        clear hrow hpl
        go_wp2_with fail
        go_ret
        exact ⟨g7, c7, rfl, hra, (ext.trans Ez).trans extr⟩
  · have hx9 := (Ext.refl w9).alloc (.cells #[.bool u, .slice C i j, .bool v, .slice D k l, .bool u', .slice C' i' j', .bool v', .slice D' k' l'] 26)
    have bY := Box.new w9 26 #[.bool u, .slice C i j, .bool v, .slice D k l, .bool u', .slice C' i' j', .bool v', .slice D' k' l']
    go_simp
    refine hK.out _ _ hx9 ?_
    clear hK K
    try simp only [Act.put]
    try simp only [List.setIfInBounds_toArray]
    try simp only [List.set_cons_succ]
    try simp only [List.set_cons_zero]
    generalize w9.heap.size = gy at bY ⊢
    refine Late.call (i := 4) rfl (by kernel_rfl) hAl (by kernel_rfl) (by kernel_rfl) (by kernel_rfl) hQ (fun w4 e4 E4 K hK => ?_)
    have hx4 := (Ext.refl w4).alloc (.cells #[.bool s, .slice A n c, .bool t, .slice B m d, .bool s', .slice A' n' c', .bool t', .slice B' m' d'] 26)
    have bX := Box.new w4 26 #[.bool s, .slice A n c, .bool t, .slice B m d, .bool s', .slice A' n' c', .bool t', .slice B' m' d']
    go_simp
    refine hK.out _ _ hx4 ?_
    clear hK K
    try simp only [Act.put]
    try simp only [List.setIfInBounds_toArray]
    try simp only [List.set_cons_succ]
    try simp only [List.set_cons_zero]
    generalize w4.heap.size = gx at bX ⊢
    refine Late.take (i := 10) (d := some 8) (v := ?v10_202) rfl rfl (by kernel_rfl) (by kernel_rfl) (by kernel_rfl) (by kernel_rfl) hQ (Or.inl ⟨by rfl, ?y10_202⟩) ?r10_202
    case y10_202 =>
      intro w' hSw
      go_simp
      try with_reducible rfl
    try simp only [Act.put]
    try simp only [List.setIfInBounds_toArray]
    try simp only [List.set_cons_succ]
    try simp only [List.set_cons_zero]
    refine Late.take (i := 11) (d := some 9) (v := ?v11_203) rfl rfl (by kernel_rfl) (by kernel_rfl) (by kernel_rfl) (by kernel_rfl) hQ (Or.inl ⟨by rfl, ?y11_203⟩) ?r11_203
    case y11_203 =>
      intro w' hSw
      go_simp
      try with_reducible rfl
    try simp only [Act.put]
    try simp only [List.setIfInBounds_toArray]
    try simp only [List.set_cons_succ]
    try simp only [List.set_cons_zero]
    refine Late.done0 (by kernel_rfl) (fun wz ez Ez => ?_)
    clear hAl hQ ES
    replace bY := bY.ext (e4.trans (hx4.trans ez))
    replace bX := bX.ext ez
    clear e4 e9 E4 E9 hx4 hx9 ez
    replace hc1 := hc1.ext Ez
    replace hc2 := hc2.ext Ez
    go_wp2_with fail
    go_loopw [7, 10] (fun v i wr => ∃ (a1 : Nat), a1 ≤ 2 ∧ i = .int .i64 (a1 : Int) ∧ Ext wz wr ∧ Row4 wr wz.heap.size v (prods (fun x y => x * y) (l1.take a1) l2) (L + M)) (fun _ i _ => 2 - (intOf i).toNat)
    case atStart => exact ⟨0, Nat.zero_le _, rfl, Ext.refl _, Row4.nil _ _ _⟩
    case round =>
      obtain ⟨a1, hk, rfl, extr, hrow⟩ := hrel
      by_cases hlt : a1 < 2
      · have hkq : a1 < l1.length := by rw [Hn1.out]; exact hlt
        have HT := Lib.hid (show l1.take (a1 + 1) = l1.take a1 ++ [l1[a1]] from List.take_succ_eq_append_getElem hkq)
        have d1 : decide ((a1 : Int) < 2) = true := decide_eq_true (by omega)
        go_wp2_with fail
        try rw [d1]
        clear d1
        have hI1 : (a1 : Int) < 2 := by omega
        go_loopw [7, 11] (fun v i wq => ∃ (a2 : Nat), a2 ≤ 2 ∧ i = .int .i64 (a2 : Int) ∧ Ext wz wq ∧ Row4 wq wz.heap.size v (prods (fun x y => x * y) (l1.take a1) l2 ++ (l2.take a2).map (fun y => (l1[a1]'hkq) * y)) (L + M)) (fun _ i _ => 2 - (intOf i).toNat)
        case atStart => exact ⟨0, Nat.zero_le _, rfl, extr, by rw [List.take_zero, List.map_nil, List.append_nil]; exact hrow⟩
        case round =>
          clear extr hrow
          obtain ⟨a2, hk2, rfl, extr, hrow⟩ := hrel
          by_cases hlt2 : a2 < 2
          · have hkq2 : a2 < l2.length := by rw [Hn2.out]; exact hlt2
            have hlen := row_len (fun x y => x * y) (fun y => (l1[a1]'hkq) * y) (l := l1) (l' := l2) a1 a2 (by rw [Hn1.out]; exact Nat.le_refl _) (by rw [Hn2.out]; exact Nat.le_refl _)
            obtain ⟨s9, A9, n9, c9, t9, B9, m9, d9, e0, e1, e2, e3, hx⟩ := (RatsAt.of_box (bX.ext extr) (hc1.ext extr)).at_ a1 hkq
            rw [Nat.zero_add] at e0 e1 e2 e3
            have e0' : wr.cell? ⟨gx, a1 * 4, none⟩ = some (.bool s9) := by rw [Nat.mul_comm]; exact e0
            have e1' : wr.cell? ⟨gx, a1 * 4 + 1, none⟩ = some (.slice A9 n9 c9) := by rw [Nat.mul_comm]; exact e1
            have e2' : wr.cell? ⟨gx, a1 * 4 + 2, none⟩ = some (.bool t9) := by rw [Nat.mul_comm]; exact e2
            have e3' : wr.cell? ⟨gx, a1 * 4 + 3, none⟩ = some (.slice B9 m9 d9) := by rw [Nat.mul_comm]; exact e3
            have u0' := e0'
            have u1' := e1'
            have u2' := e2'
            have u3' := e3'
            clear e0 e1 e2 e3 e0' e1' e2' e3'
            obtain ⟨s8, A8, n8, c8, t8, B8, m8, d8, e0, e1, e2, e3, hy⟩ := (RatsAt.of_box (bY.ext extr) (hc2.ext extr)).at_ a2 hkq2
            rw [Nat.zero_add] at e0 e1 e2 e3
            have HT2 := Lib.hid (show l2.take (a2 + 1) = l2.take a2 ++ [l2[a2]] from List.take_succ_eq_append_getElem hkq2)
            have e0' : wr.cell? ⟨gy, a2 * 4, none⟩ = some (.bool s8) := by rw [Nat.mul_comm]; exact e0
            have e1' : wr.cell? ⟨gy, a2 * 4 + 1, none⟩ = some (.slice A8 n8 c8) := by rw [Nat.mul_comm]; exact e1
            have e2' : wr.cell? ⟨gy, a2 * 4 + 2, none⟩ = some (.bool t8) := by rw [Nat.mul_comm]; exact e2
            have e3' : wr.cell? ⟨gy, a2 * 4 + 3, none⟩ = some (.slice B8 m8 d8) := by rw [Nat.mul_comm]; exact e3
            clear e0 e1 e2 e3
            go_upto_region 10 with (fail)
            refine wpL.start 11 (by kernel_rfl) (fun _ _ _ _ _ => ⟨fun h => h, fun h => h⟩) (fun hQ ES => ?_)
            refine wpL.takeB [11] (i := 0) (d := some 31) (v := ?v0_183b) rfl rfl (by kernel_rfl) (by kernel_rfl) (by kernel_rfl) (by kernel_rfl) hQ (Or.inl ⟨by rfl, ?y0_183b⟩) ES ?r0_183b
            case y0_183b =>
              intro w' hSw
              have j0 := (hSw.cellv e0')
              have j1 := (hSw.cellv e1')
              have j2 := (hSw.cellv e2')
              have j3 := (hSw.cellv e3')
              have jj0 := (hSw.cellv u0')
              have jj1 := (hSw.cellv u1')
              have jj2 := (hSw.cellv u2')
              have jj3 := (hSw.cellv u3')
              go_simp
              try with_reducible rfl
            try simp only [Act.put]
            try simp only [List.setIfInBounds_toArray]
            try simp only [List.set_cons_succ]
            try simp only [List.set_cons_zero]
            refine wpL.takeB [3, 4, 9, 10, 11] (i := 1) (d := some 32) (v := ?v1_184b) rfl rfl (by kernel_rfl) (by kernel_rfl) (by kernel_rfl) (by kernel_rfl) hQ (Or.inl ⟨by rfl, ?y1_184b⟩) ES ?r1_184b
            case y1_184b =>
              intro w' hSw
              have j0 := (hSw.cellv e0')
              have j1 := (hSw.cellv e1')
              have j2 := (hSw.cellv e2')
              have j3 := (hSw.cellv e3')
              have jj0 := (hSw.cellv u0')
              have jj1 := (hSw.cellv u1')
              have jj2 := (hSw.cellv u2')
              have jj3 := (hSw.cellv u3')
              go_simp
              try with_reducible rfl
            try simp only [Act.put]
            try simp only [List.setIfInBounds_toArray]
            try simp only [List.set_cons_succ]
            try simp only [List.set_cons_zero]
            refine wpL.takeB [3, 4, 9, 10, 11] (i := 2) (d := some 33) (v := ?v2_185b) rfl rfl (by kernel_rfl) (by kernel_rfl) (by kernel_rfl) (by kernel_rfl) hQ (Or.inl ⟨by rfl, ?y2_185b⟩) ES ?r2_185b
            case y2_185b =>
              intro w' hSw
              have j0 := (hSw.cellv e0')
              have j1 := (hSw.cellv e1')
              have j2 := (hSw.cellv e2')
              have j3 := (hSw.cellv e3')
              have jj0 := (hSw.cellv u0')
              have jj1 := (hSw.cellv u1')
              have jj2 := (hSw.cellv u2')
              have jj3 := (hSw.cellv u3')
              go_simp
              try with_reducible rfl
            try simp only [Act.put]
            try simp only [List.setIfInBounds_toArray]
            try simp only [List.set_cons_succ]
            try simp only [List.set_cons_zero]
            refine wpL.takeB [4, 9, 10, 11] (i := 3) (d := some 34) (v := ?v3_186b) rfl rfl (by kernel_rfl) (by kernel_rfl) (by kernel_rfl) (by kernel_rfl) hQ (Or.inl ⟨by rfl, ?y3_186b⟩) ES ?r3_186b
            case y3_186b =>
              intro w' hSw
              have j0 := (hSw.cellv e0')
              have j1 := (hSw.cellv e1')
              have j2 := (hSw.cellv e2')
              have j3 := (hSw.cellv e3')
              have jj0 := (hSw.cellv u0')
              have jj1 := (hSw.cellv u1')
              have jj2 := (hSw.cellv u2')
              have jj3 := (hSw.cellv u3')
              go_simp
              try with_reducible rfl
            try simp only [Act.put]
            try simp only [List.setIfInBounds_toArray]
            try simp only [List.set_cons_succ]
            try simp only [List.set_cons_zero]
            refine wpL.takeB [9, 10, 11] (i := 4) (d := some 35) (v := ?v4_187b) rfl rfl (by kernel_rfl) (by kernel_rfl) (by kernel_rfl) (by kernel_rfl) hQ (Or.inl ⟨by rfl, ?y4_187b⟩) ES ?r4_187b
            case y4_187b =>
              intro w' hSw
              have j0 := (hSw.cellv e0')
              have j1 := (hSw.cellv e1')
              have j2 := (hSw.cellv e2')
              have j3 := (hSw.cellv e3')
              have jj0 := (hSw.cellv u0')
              have jj1 := (hSw.cellv u1')
              have jj2 := (hSw.cellv u2')
              have jj3 := (hSw.cellv u3')
              go_simp
              try with_reducible rfl
            try simp only [Act.put]
            try simp only [List.setIfInBounds_toArray]
            try simp only [List.set_cons_succ]
            try simp only [List.set_cons_zero]
            refine wpL.takeB [7, 8, 9, 10, 11] (i := 5) (d := some 36) (v := ?v5_188b) rfl rfl (by kernel_rfl) (by kernel_rfl) (by kernel_rfl) (by kernel_rfl) hQ (Or.inl ⟨by rfl, ?y5_188b⟩) ES ?r5_188b
            case y5_188b =>
              intro w' hSw
              have j0 := (hSw.cellv e0')
              have j1 := (hSw.cellv e1')
              have j2 := (hSw.cellv e2')
              have j3 := (hSw.cellv e3')
              have jj0 := (hSw.cellv u0')
              have jj1 := (hSw.cellv u1')
              have jj2 := (hSw.cellv u2')
              have jj3 := (hSw.cellv u3')
              go_simp
              try with_reducible rfl
            try simp only [Act.put]
            try simp only [List.setIfInBounds_toArray]
            try simp only [List.set_cons_succ]
            try simp only [List.set_cons_zero]
            refine wpL.takeB [7, 8, 9, 10, 11] (i := 6) (d := some 37) (v := ?v6_189b) rfl rfl (by kernel_rfl) (by kernel_rfl) (by kernel_rfl) (by kernel_rfl) hQ (Or.inl ⟨by rfl, ?y6_189b⟩) ES ?r6_189b
            case y6_189b =>
              intro w' hSw
              have j0 := (hSw.cellv e0')
              have j1 := (hSw.cellv e1')
              have j2 := (hSw.cellv e2')
              have j3 := (hSw.cellv e3')
              have jj0 := (hSw.cellv u0')
              have jj1 := (hSw.cellv u1')
              have jj2 := (hSw.cellv u2')
              have jj3 := (hSw.cellv u3')
              go_simp
              try with_reducible rfl
            try simp only [Act.put]
            try simp only [List.setIfInBounds_toArray]
            try simp only [List.set_cons_succ]
            try simp only [List.set_cons_zero]
            refine wpL.takeB [8, 9, 10, 11] (i := 7) (d := some 38) (v := ?v7_190b) rfl rfl (by kernel_rfl) (by kernel_rfl) (by kernel_rfl) (by kernel_rfl) hQ (Or.inl ⟨by rfl, ?y7_190b⟩) ES ?r7_190b
            case y7_190b =>
              intro w' hSw
              have j0 := (hSw.cellv e0')
              have j1 := (hSw.cellv e1')
              have j2 := (hSw.cellv e2')
              have j3 := (hSw.cellv e3')
              have jj0 := (hSw.cellv u0')
              have jj1 := (hSw.cellv u1')
              have jj2 := (hSw.cellv u2')
              have jj3 := (hSw.cellv u3')
              go_simp
              try with_reducible rfl
            try simp only [Act.put]
            try simp only [List.setIfInBounds_toArray]
            try simp only [List.set_cons_succ]
            try simp only [List.set_cons_zero]
            refine wpL.takeB [9, 10, 11] (i := 8) (d := some 39) (v := ?v8_191b) rfl rfl (by kernel_rfl) (by kernel_rfl) (by kernel_rfl) (by kernel_rfl) hQ (Or.inl ⟨by rfl, ?y8_191b⟩) ES ?r8_191b
            case y8_191b =>
              intro w' hSw
              have j0 := (hSw.cellv e0')
              have j1 := (hSw.cellv e1')
              have j2 := (hSw.cellv e2')
              have j3 := (hSw.cellv e3')
              have jj0 := (hSw.cellv u0')
              have jj1 := (hSw.cellv u1')
              have jj2 := (hSw.cellv u2')
              have jj3 := (hSw.cellv u3')
              go_simp
              try with_reducible rfl
            try simp only [Act.put]
            try simp only [List.setIfInBounds_toArray]
            try simp only [List.set_cons_succ]
            try simp only [List.set_cons_zero]
            refine wpL.call (i := 9) rfl (by kernel_rfl) (fun K hK => ?_)
            go_simp
            (go_at_call 44; refine (q_MulR (hx.ext ES) (hy.ext ES) (by omega) (by omega)).mono ?_; rintro e wk ⟨s7, A7, n7, c7, t7, B7, m7, d7, rfl, h7, hx7⟩; have E9 := Ext.trans ES hx7)
            refine hK.out _ _ E9 ?_
            clear hK K
            try simp only [Act.put]
            try simp only [List.setIfInBounds_toArray]
            try simp only [List.set_cons_succ]
            try simp only [List.set_cons_zero]
            refine wpL.call (i := 10) rfl (by kernel_rfl) (fun K hK => ?_)
            have ha7 := (Ext.refl wk).alloc (.cells #[.bool s7, .slice A7 n7 c7, .bool t7, .slice B7 m7 d7] 26)
            have b7 := Box.new wk 26 #[.bool s7, .slice A7 n7 c7, .bool t7, .slice B7 m7 d7]
            go_simp
            refine hK.out _ _ (E9.trans ha7) ?_
            clear hK K
            try simp only [Act.put]
            try simp only [List.setIfInBounds_toArray]
            try simp only [List.set_cons_succ]
            try simp only [List.set_cons_zero]
            replace h7 := h7.ext ha7
            have E10 := E9.trans ha7
            clear ha7 E9
            have hrow' := hrow.ext E10
            refine at_wpL (fun V => Ext wr V ∧ Row4 V wz.heap.size u7 (prods (fun x y => x * y) (l1.take a1) l2 ++ (l2.take a2).map (fun y => (l1[a1]'hkq) * y)) (L + M) ∧ NR V ((l1[a1]'hkq) * (l2[a2]'hkq2)) (L + M) s7 A7 n7 c7 t7 B7 m7 d7 ∧ Box V wk.heap.size 26 #[.bool s7, .slice A7 n7 c7, .bool t7, .slice B7 m7 d7]) ⟨E10, hrow', h7, b7⟩ ?_
            clear E10 hrow' h7 b7
            generalize wk.heap.size = g7
            rintro V ⟨E10, hrow', h7, b7⟩
            refine wpL.tail (i := 11) rfl (by kernel_rfl) (by kernel_rfl) (fun K hK => ?_)
            refine step_append_rat (by rfl) _ _ (by rfl) (by rfl) (by rfl) hrow' h7 b7 hlen (extr.trans E10).size ?_
            intro v6 W6 hrow6 hgr hob
            refine hK.out _ _ ?_
            clear hK K
            try simp only [Act.put]
            try simp only [List.setIfInBounds_toArray]
            try simp only [List.set_cons_succ]
            try simp only [List.set_cons_zero]
            refine wpL.tail (i := 12) rfl (by kernel_rfl) (by kernel_rfl) (fun K hK => ?_)
            go_simp
            refine hK.out _ _ ?_
            clear hK K
            try simp only [Act.put]
            try simp only [List.setIfInBounds_toArray]
            try simp only [List.set_cons_succ]
            try simp only [List.set_cons_zero]
            refine wpL.done (by kernel_rfl) ?_ _
            clear hQ
            go_wp2_with fail
            go_roundw
            case rel =>
              refine ⟨a2 + 1, by omega, by go_num, Below.grown (extr.trans E10) hgr (extr.trans E10).size (fun k hk => (hrow'.block k hk).1), ?_⟩
              rw [HT2.out, List.map_append, ← List.append_assoc]; exact hrow6
            case measure => simp [intOf]; omega
          · have hkn : a2 = 2 := by omega
            rw [hkn, List.take_of_length_le (Nat.le_of_eq Hn2.out)] at hrow
            go_wp2_with fail
            go_roundw
            case rel =>
              refine ⟨a1 + 1, by omega, by go_num, extr, ?_⟩
              rw [HT.out, prods_snoc]
              exact hrow
            case measure => simp [intOf]; omega
      · have hkn : a1 = 2 := by omega
        rw [hkn, List.take_of_length_le (Nat.le_of_eq Hn1.out)] at hrow
        have hpl : (prods (fun x y => x * y) l1 l2).length = 4 := by rw [prods_len, Hn1.out, Hn2.out]
        obtain ⟨g7, c7, rfl, hra⟩ := hrow.shape (fun h => by rw [h] at hpl; cases hpl)
        rw [hpl]
        clear hrow hpl
        go_wp2_with fail
        go_ret
        exact ⟨g7, c7, rfl, hra, (ext.trans Ez).trans extr⟩
end
end Go.Proofs.YtoabhnofppledaaGreatDoor
