/- Walks and laws, a part. -/
import Derived.Test.YtoabhnofppledaaGreatDoorM0
import Derived.Test.YtoabhnofppledaaGreatDoorM1
import Derived.Test.YtoabhnofppledaaGreatDoorM2
import Derived.Test.YtoabhnofppledaaGreatDoorM3
import Derived.Test.YtoabhnofppledaaGreatDoorM4
import Derived.Test.YtoabhnofppledaaGreatDoorM5
import Derived.Test.YtoabhnofppledaaGreatDoorM6
import Derived.Test.YtoabhnofppledaaGreatDoorM7
import Derived.Test.YtoabhnofppledaaGreatDoorM8
import Derived.Test.YtoabhnofppledaaGreatDoorM9
import Derived.Test.YtoabhnofppledaaGreatDoorMd0
namespace Go.Proofs.YtoabhnofppledaaGreatDoor
open Go.RowKit
attribute [local go_sem ↓] Go.wp_at_zero Go.wp_at_succ
section
variable {w w' : World} {z y : Int} {q p : Rat} {L M : Nat} {s t s' t' : Bool} {A B A' B' : Option Addr} {n c m d n' c' m' d' : Nat}
set_option maxHeartbeats 2000000 in
theorem q_SubR (h : NR w q L s A n c t B m d) (k : NR w p M s' A' n' c' t' B' m' d') (hL : L ≤ 1000) (hM : M ≤ 1000) : Calls Tryz.prog 23 #[.agg #[.bool s, .slice A n c, .bool t, .slice B m d], .agg #[.bool s', .slice A' n' c', .bool t', .slice B' m' d']] w (RetNR (q - p) (L + M + 1) w) := by
  go_enter Tryz.func23, Tryz.ntmps23
  go_upto_region 1 with (fail)
  obtain ⟨W, hW, extW, bx, by_, bz, hz⟩ := box3 w 26 26 26 #[.bool s, .slice A n c, .bool t, .slice B m d] #[.bool s', .slice A' n' c', .bool t', .slice B' m' d'] #[Value.bool false, Value.slice none 0 0, Value.bool false, Value.slice none 0 0]
  rw [← hW]
  clear hW
  replace h := h.ext extW
  replace k := k.ext extW
  refine wpL.start 4 (by kernel_rfl) (fun _ _ _ _ _ => ⟨fun h => h, fun h => h⟩) (fun hQ ES => ?_)
  refine wpL.take (i := 0) (d := some 5) (v := ?v0_101) rfl rfl (by kernel_rfl) (by kernel_rfl) (by kernel_rfl) (by kernel_rfl) hQ (Or.inl ⟨by rfl, ?y0_101⟩) ES ?r0_101
  case y0_101 =>
    intro w' hSw
    have k00 := (bx.ext hSw).c4
    have k10 := (by_.ext hSw).c4
    go_simp
    try with_reducible rfl
  try simp only [Act.put]
  try simp only [List.setIfInBounds_toArray]
  try simp only [List.set_cons_succ]
  try simp only [List.set_cons_zero]
  refine wpL.take (i := 1) (d := some 6) (v := ?v1_102) rfl rfl (by kernel_rfl) (by kernel_rfl) (by kernel_rfl) (by kernel_rfl) hQ (Or.inl ⟨by rfl, ?y1_102⟩) ES ?r1_102
  case y1_102 =>
    intro w' hSw
    have k00 := (bx.ext hSw).c4
    have k10 := (by_.ext hSw).c4
    go_simp
    try with_reducible rfl
  try simp only [Act.put]
  try simp only [List.setIfInBounds_toArray]
  try simp only [List.set_cons_succ]
  try simp only [List.set_cons_zero]
  refine wpL.call (i := 2) rfl (by kernel_rfl) (fun K hK => ?_)
  go_simp
  (go_at_call 47; refine (q_NegR (k.ext ES) (by omega)).mono ?_; rintro e wa ⟨s1, A1, n1, c1, t1, B1, m1, d1, rfl, h1, hx0⟩; have E0_1 := Ext.trans ES hx0)
  refine hK.out _ _ E0_1 ?_
  clear hK K
  try simp only [Act.put]
  try simp only [List.setIfInBounds_toArray]
  try simp only [List.set_cons_succ]
  try simp only [List.set_cons_zero]
  refine wpL.call (i := 3) rfl (by kernel_rfl) (fun K hK => ?_)
  go_simp
  (go_at_call 43; refine (q_AddR (h.ext E0_1) h1 hL hM).mono ?_; rintro e wb ⟨s2, A2, n2, c2, t2, B2, m2, d2, rfl, hr, hx1⟩; have E1_1 := Ext.trans E0_1 hx1)
  refine hK.out _ _ E1_1 ?_
  clear hK K
  try simp only [Act.put]
  try simp only [List.setIfInBounds_toArray]
  try simp only [List.set_cons_succ]
  try simp only [List.set_cons_zero]
  have z0 := (bz.ext E1_1).cell 0 _ rfl
  have z1 := (bz.ext E1_1).cell 1 _ rfl
  have z2 := (bz.ext E1_1).cell 2 _ rfl
  have z3 := (bz.ext E1_1).cell 3 _ rfl
  have f0 := (bz.ext E1_1).frozen 0
  have f1 := (bz.ext E1_1).frozen 1
  have f2 := (bz.ext E1_1).frozen 2
  have f3 := (bz.ext E1_1).frozen 3
  refine wpL.tail (i := 4) rfl (by kernel_rfl) (by kernel_rfl) (fun K hK => ?_)
  go_simp
  refine hK.out _ _ ?_
  clear hK K
  try simp only [Act.put]
  try simp only [List.setIfInBounds_toArray]
  try simp only [List.set_cons_succ]
  try simp only [List.set_cons_zero]
  refine wpL.done (by kernel_rfl) ?_ _
  clear hQ
  go_wp2_with fail
  rw [← Rat.sub_eq_add_neg] at hr
  obtain ⟨b1, b2, b3, b4⟩ := fin_quad (s := s2) (A := A2) (n := n2) (c := c2) (t := t2) (B := B2) (m := m2) (d := d2) (bz.ext E1_1)
  have r0 := b1.cell 0 (.bool s2) rfl
  have r1 := b1.cell 1 (.slice A2 n2 c2) rfl
  have r2 := b1.cell 2 (.bool t2) rfl
  have r3 := b1.cell 3 (.slice B2 m2 d2) rfl
  unfold set4 at r0 r1 r2 r3
  refine bodyPost_ret (v := .agg #[.bool s2, .slice A2 n2 c2, .bool t2, .slice B2 m2 d2]) (by simp [results, Tryz.results23, go_sem, r0, r1, r2, r3]) rfl ⟨s2, A2, n2, c2, t2, B2, m2, d2, rfl, ⟨?_, ?_⟩, b3 _ (extW.trans E1_1) (by omega)⟩
  · exact b2 _ _ _ _ _ _ hr.num
  · exact b2 _ _ _ _ _ _ hr.den
end
end Go.Proofs.YtoabhnofppledaaGreatDoor
namespace Go.Proofs.YtoabhnofppledaaGreatDoor
open Go.RowKit
attribute [local go_sem ↓] Go.wp_at_zero Go.wp_at_succ
section
variable {w w' : World} {q p lo hi lo' hi' x : Rat} {L M : Nat} {s t s' t' sx tx u v u' v' : Bool} {A B A' B' Ax Bx C D C' D' : Option Addr} {n c m d n' c' m' d' nx cx mx dx i j k l i' j' k' l' : Nat} {qs : List Rat}
set_option maxHeartbeats 4000000 in
theorem p_Width (h : IV w lo hi L s A n c t B m d s' A' n' c' t' B' m' d') (hL : L ≤ 60) (hT : Tab w) : Calls Tryz.prog 22 #[.agg #[.bool s, .slice A n c, .bool t, .slice B m d, .bool s', .slice A' n' c', .bool t', .slice B' m' d']] w (RetNR (hi - lo) (L + L + 1) w) := by
  go_enter Tryz.func22, Tryz.ntmps22
  go_upto_region 1 with (fail)
  obtain ⟨W, hW, ext, bx, bz, hz⟩ := box2 w 28 26 #[.bool s, .slice A n c, .bool t, .slice B m d, .bool s', .slice A' n' c', .bool t', .slice B' m' d'] #[Value.bool false, Value.slice none 0 0, Value.bool false, Value.slice none 0 0]
  rw [← hW]
  clear hW hz
  have hl := h.low.ext ext
  have hh := h.high.ext ext
  have k0 := bx.cell 0 (.bool s) rfl
  have k1 := bx.cell 1 (.slice A n c) rfl
  have k2 := bx.cell 2 (.bool t) rfl
  have k3 := bx.cell 3 (.slice B m d) rfl
  have k4 := bx.cell 4 (.bool s') rfl
  have k5 := bx.cell 5 (.slice A' n' c') rfl
  have k6 := bx.cell 6 (.bool t') rfl
  have k7 := bx.cell 7 (.slice B' m' d') rfl
  go_wp2_with fail
  refine (p_SubR hh hl (by omega) (by omega) (by omega) (hT.ext ext)).mono ?_
  rintro e V ⟨s1, A1, n1, c1, t1, B1, m1, d1, rfl, h1, hx0⟩
  clear k0 k1 k2 k3 k4 k5 k6 k7
  have z0 := (bz.ext hx0).cell 0 _ rfl
  have z1 := (bz.ext hx0).cell 1 _ rfl
  have z2 := (bz.ext hx0).cell 2 _ rfl
  have z3 := (bz.ext hx0).cell 3 _ rfl
  have f0 := (bz.ext hx0).frozen 0
  have f1 := (bz.ext hx0).frozen 1
  have f2 := (bz.ext hx0).frozen 2
  have f3 := (bz.ext hx0).frozen 3
  go_wp2_with fail
  obtain ⟨b1, b2, b3, b4⟩ := fin_quad (s := s1) (A := A1) (n := n1) (c := c1) (t := t1) (B := B1) (m := m1) (d := d1) (bz.ext hx0)
  have r0 := b1.cell 0 (.bool s1) rfl
  have r1 := b1.cell 1 (.slice A1 n1 c1) rfl
  have r2 := b1.cell 2 (.bool t1) rfl
  have r3 := b1.cell 3 (.slice B1 m1 d1) rfl
  unfold set4 at r0 r1 r2 r3
  refine bodyPost_ret (v := .agg #[.bool s1, .slice A1 n1 c1, .bool t1, .slice B1 m1 d1]) (by simp [results, Tryz.results22, go_sem, r0, r1, r2, r3]) rfl ⟨s1, A1, n1, c1, t1, B1, m1, d1, rfl, ⟨?_, ?_⟩, b3 _ (ext.trans hx0) (by omega)⟩
  · exact b2 _ _ _ _ _ _ h1.num
  · exact b2 _ _ _ _ _ _ h1.den
end
end Go.Proofs.YtoabhnofppledaaGreatDoor
namespace Go.Proofs.YtoabhnofppledaaGreatDoor
open Go.RowKit
attribute [local go_sem ↓] Go.wp_at_zero Go.wp_at_succ
section
variable {w w' : World} {q p lo hi lo' hi' x : Rat} {L M : Nat} {s t s' t' sx tx u v u' v' : Bool} {A B A' B' Ax Bx C D C' D' : Option Addr} {n c m d n' c' m' d' nx cx mx dx i j k l i' j' k' l' : Nat} {qs : List Rat}
set_option maxHeartbeats 4000000 in
theorem q_PointV (h : NR w x L sx Ax nx cx tx Bx mx dx) : Calls Tryz.prog 40 #[.agg #[.bool sx, .slice Ax nx cx, .bool tx, .slice Bx mx dx]] w (RetIV x x L w) := by
  go_enter Tryz.func40, Tryz.ntmps40
  go_upto_region 1 with (fail)
  obtain ⟨W, hW, ext, bx, bz, hz⟩ := box2 w 26 28 #[.bool sx, .slice Ax nx cx, .bool tx, .slice Bx mx dx] #[Value.bool false, Value.slice none 0 0, Value.bool false, Value.slice none 0 0, Value.bool false, Value.slice none 0 0, Value.bool false, Value.slice none 0 0]
  rw [← hW]
  clear hW hz
  have hx := h.ext ext
  have hx1 := Ext.refl W
  have x0 := bx.cell 0 (.bool sx) rfl
  have x1 := bx.cell 1 (.slice Ax nx cx) rfl
  have x2 := bx.cell 2 (.bool tx) rfl
  have x3 := bx.cell 3 (.slice Bx mx dx) rfl
  have z0 := (bz.ext hx1).cell 0 _ rfl
  have f0 := (bz.ext hx1).frozen 0
  have z1 := (bz.ext hx1).cell 1 _ rfl
  have f1 := (bz.ext hx1).frozen 1
  have z2 := (bz.ext hx1).cell 2 _ rfl
  have f2 := (bz.ext hx1).frozen 2
  have z3 := (bz.ext hx1).cell 3 _ rfl
  have f3 := (bz.ext hx1).frozen 3
  have z4 := (bz.ext hx1).cell 4 _ rfl
  have f4 := (bz.ext hx1).frozen 4
  have z5 := (bz.ext hx1).cell 5 _ rfl
  have f5 := (bz.ext hx1).frozen 5
  have z6 := (bz.ext hx1).cell 6 _ rfl
  have f6 := (bz.ext hx1).frozen 6
  have z7 := (bz.ext hx1).cell 7 _ rfl
  have f7 := (bz.ext hx1).frozen 7
  go_wp2_with fail
  obtain ⟨b1, b2, b3, b4⟩ := fin_oct (v0 := (.bool sx)) (v1 := (.slice Ax nx cx)) (v2 := (.bool tx)) (v3 := (.slice Bx mx dx)) (v4 := (.bool sx)) (v5 := (.slice Ax nx cx)) (v6 := (.bool tx)) (v7 := (.slice Bx mx dx)) (bz.ext hx1)
  have r0 := b1.cell 0 (.bool sx) rfl
  have r1 := b1.cell 1 (.slice Ax nx cx) rfl
  have r2 := b1.cell 2 (.bool tx) rfl
  have r3 := b1.cell 3 (.slice Bx mx dx) rfl
  have r4 := b1.cell 4 (.bool sx) rfl
  have r5 := b1.cell 5 (.slice Ax nx cx) rfl
  have r6 := b1.cell 6 (.bool tx) rfl
  have r7 := b1.cell 7 (.slice Bx mx dx) rfl
  unfold set8 at r0 r1 r2 r3 r4 r5 r6 r7
  refine bodyPost_ret (v := .agg #[.bool sx, .slice Ax nx cx, .bool tx, .slice Bx mx dx, .bool sx, .slice Ax nx cx, .bool tx, .slice Bx mx dx]) (by simp [results, Tryz.results40, go_sem, r0, r1, r2, r3, r4, r5, r6, r7]) rfl ⟨sx, Ax, nx, cx, tx, Bx, mx, dx, sx, Ax, nx, cx, tx, Bx, mx, dx, rfl, ⟨⟨?_, ?_⟩, ⟨?_, ?_⟩⟩, b3 _ (ext.trans hx1) (by omega)⟩
  · exact b2 _ _ _ _ _ _ hx.num
  · exact b2 _ _ _ _ _ _ hx.den
  · exact b2 _ _ _ _ _ _ hx.num
  · exact b2 _ _ _ _ _ _ hx.den
end
end Go.Proofs.YtoabhnofppledaaGreatDoor
namespace Go.Proofs.YtoabhnofppledaaGreatDoor
open Go.RowKit
section
variable {w w' : World} {base L M : Nat} {v : Value} {qs : List Rat} {q : Rat} {s t : Bool} {A B : Option Addr} {n c m d g : Nat}
end
theorem step_append_rat {w : World} {base L : Nat} {v : Value} {qs : List Rat} {q : Rat} {s t : Bool} {A B : Option Addr} {n c m d g : Nat} {ops : Array Oper} {o : Oper} {a : Act} {K : Act → World → Prop} {Q : Exit → Act → World → Prop} {E : Prop} (hgd : o.guard = none) (x y : Operand)
    (ho : o.op = .call { callee := .builtin .append, args := #[x, y], argTypes := #[65, 65] })
    (hx : a.eval x = v) (hy : a.eval y = .slice (some ⟨g, 0, none⟩) 1 1)
    (h : Row4 w base v qs L) (hq : NR w q L s A n c t B m d) (hb : Box w g 26 #[.bool s, .slice A n c, .bool t, .slice B m d]) (hl : qs.length ≤ 1000) (hbase : base ≤ w.heap.size)
    (hK : ∀ v' w', Row4 w' base v' (qs ++ [q]) L → w.grownBy w' v.ownBlock → (v'.ownBlock = v.ownBlock ∨ v'.ownBlock = some w.heap.size) → K (a.put o.dst v') w') :
    if Region.wanted o (yielded ops a.tmps) = true then Oper.wp Tryz.prog o a w K Q else E := by
  have hw : Region.wanted o (yielded ops a.tmps) = true := by simp [Region.wanted, hgd]
  rw [if_pos hw]
  obtain ⟨v', w', hr, h2, h3, h5⟩ := run_append_rat (ty := o.type) h hq hb hl hbase
  unfold Oper.wp execOp
  simp only [ho, resolve, invoke, builtin, Sem.run_bind, Sem.run_pure, Result.andThen_ok, List.map_toArray, List.map_cons, List.map_nil, hx, hy, hr]
  exact hK v' w' h2 h3 h5
end Go.Proofs.YtoabhnofppledaaGreatDoor
namespace Go.Proofs.YtoabhnofppledaaGreatDoor
open Go.RowKit
attribute [local go_sem ↓] Go.wp_at_zero Go.wp_at_succ
section
variable {w w' : World} {q p lo hi lo' hi' x : Rat} {L M : Nat} {s t s' t' sx tx u v u' v' : Bool} {A B A' B' Ax Bx C D C' D' : Option Addr} {n c m d n' c' m' d' nx cx mx dx i j k l i' j' k' l' : Nat} {qs : List Rat}
set_option maxHeartbeats 16000000 in
set_option maxRecDepth 100000 in
theorem p_apply_Add (h : IV w lo hi L s A n c t B m d s' A' n' c' t' B' m' d') (h' : IV w lo' hi' M u C i j v D k l u' C' i' j' v' D' k' l') (hL : L ≤ 20) (hM : M ≤ 20) (hT : Tab w) : Calls Tryz.prog 55 #[(.func (.func 56) #[] #[]), .agg #[.bool s, .slice A n c, .bool t, .slice B m d, .bool s', .slice A' n' c', .bool t', .slice B' m' d'], .agg #[.bool u, .slice C i j, .bool v, .slice D k l, .bool u', .slice C' i' j', .bool v', .slice D' k' l']] w (RetHull (prods (fun x y => x + y) (endsOf lo hi) (endsOf lo' hi')) (L + M + 1) w) := by
  obtain ⟨l1, hl1⟩ : ∃ l, endsOf lo hi = l := ⟨_, rfl⟩
  obtain ⟨l2, hl2⟩ : ∃ l, endsOf lo' hi' = l := ⟨_, rfl⟩
  have HL1 := Lib.hid hl1
  have HL2 := Lib.hid hl2
  have ho1 : 0 < l1.length ∧ l1.length ≤ 2 := by rw [← hl1]; exact endsOf_len _ _
  have ho2 : 0 < l2.length ∧ l2.length ≤ 2 := by rw [← hl2]; exact endsOf_len _ _
  skip
  rw [hl1, hl2]
  clear hl1 hl2
  go_enter Tryz.func55, Tryz.ntmps55
  go_upto_region 1 with (fail)
  obtain ⟨W0, hW, ext, bx, by_, bz, hz⟩ := box3 w 28 28 28 #[.bool s, .slice A n c, .bool t, .slice B m d, .bool s', .slice A' n' c', .bool t', .slice B' m' d'] #[.bool u, .slice C i j, .bool v, .slice D k l, .bool u', .slice C' i' j', .bool v', .slice D' k' l'] #[Value.bool false, Value.slice none 0 0, Value.bool false, Value.slice none 0 0, Value.bool false, Value.slice none 0 0, Value.bool false, Value.slice none 0 0]
  rw [← hW]
  clear hW hz
  have ha := h.ext ext
  have hb := h'.ext ext
  replace hT := hT.ext ext
  have k0 := bx.cell 0 (.bool s) rfl
  have k1 := bx.cell 1 (.slice A n c) rfl
  have k2 := bx.cell 2 (.bool t) rfl
  have k3 := bx.cell 3 (.slice B m d) rfl
  have k4 := bx.cell 4 (.bool s') rfl
  have k5 := bx.cell 5 (.slice A' n' c') rfl
  have k6 := bx.cell 6 (.bool t') rfl
  have k7 := bx.cell 7 (.slice B' m' d') rfl
  go_wp2_with fail
  refine (p_ends ha (by omega)).mono ?_
  rw [HL1.out]
  rintro e W1 ⟨g1, n1, q1, cs1, rfl, hn1, hb1, hc1, hg1, ext1⟩
  replace bx := bx.ext ext1
  replace by_ := by_.ext ext1
  replace bz := bz.ext ext1
  replace ha := ha.ext ext1
  replace hb := hb.ext ext1
  replace hT := hT.ext ext1
  replace ext := ext.trans ext1
  clear ext1 hg1 k0 k1 k2 k3 k4 k5 k6 k7
  have Hn1 := Lib.hid hn1
  rw [hn1] at ho1
  clear hn1
  go_wp2_with fail
  go_loopw [7, 15] (fun v i wr => ∃ (a1 : Nat), a1 ≤ n1 ∧ i = .int .i64 (a1 : Int) ∧ Ext W1 wr ∧ Row4 wr W1.heap.size v (prods (fun x y => x + y) (l1.take a1) l2) (L + M + 1)) (fun _ i _ => n1 - (intOf i).toNat)
  case atStart => exact ⟨0, Nat.zero_le _, rfl, Ext.refl _, Row4.nil _ _ _⟩
  case round =>
    obtain ⟨a1, hk, rfl, extr, hrow⟩ := hrel
    by_cases hlt : a1 < n1
    · have hkq : a1 < l1.length := by rw [Hn1.out]; exact hlt
      obtain ⟨s9, A9, n9, c9, t9, B9, m9, d9, e0, e1, e2, e3, hx⟩ := (RatsAt.of_box (hb1.ext extr) (hc1.ext extr)).at_ a1 hkq
      rw [Nat.zero_add] at e0 e1 e2 e3
      have HT := Lib.hid (show l1.take (a1 + 1) = l1.take a1 ++ [l1[a1]] from List.take_succ_eq_append_getElem hkq)
      generalize l1[a1] = x at hx HT
      have e0' : wr.cell? ⟨g1, a1 * 4, none⟩ = some (.bool s9) := by rw [Nat.mul_comm]; exact e0
      have e1' : wr.cell? ⟨g1, a1 * 4 + 1, none⟩ = some (.slice A9 n9 c9) := by rw [Nat.mul_comm]; exact e1
      have e2' : wr.cell? ⟨g1, a1 * 4 + 2, none⟩ = some (.bool t9) := by rw [Nat.mul_comm]; exact e2
      have e3' : wr.cell? ⟨g1, a1 * 4 + 3, none⟩ = some (.slice B9 m9 d9) := by rw [Nat.mul_comm]; exact e3
      go_upto_region 5 with (fail)
      obtain ⟨W2, hW2, ext2, b9, hz2⟩ := box1 wr 26 #[.bool s9, .slice A9 n9 c9, .bool t9, .slice B9 m9 d9]
      rw [← hW2]
      clear hW2 e0 e1 e2 e3 e0' e1' e2' e3'
      have hn9 : u7.ownBlock ≠ some wr.heap.size := fun h => by have := (hrow.block _ h).2; omega
      obtain ⟨g9, hg9⟩ : ∃ g, wr.heap.size = g := ⟨_, rfl⟩
      rw [hg9] at b9 hn9 hz2 ⊢
      clear hg9 hz2
      replace hx := hx.ext ext2
      replace hrow := hrow.ext ext2
      replace extr := extr.trans ext2
      clear ext2
      have k0 := (by_.ext extr).cell 0 (.bool u) rfl
      have k1 := (by_.ext extr).cell 1 (.slice C i j) rfl
      have k2 := (by_.ext extr).cell 2 (.bool v) rfl
      have k3 := (by_.ext extr).cell 3 (.slice D k l) rfl
      have k4 := (by_.ext extr).cell 4 (.bool u') rfl
      have k5 := (by_.ext extr).cell 5 (.slice C' i' j') rfl
      have k6 := (by_.ext extr).cell 6 (.bool v') rfl
      have k7 := (by_.ext extr).cell 7 (.slice D' k' l') rfl
      go_wp2_with fail
      refine (p_ends (hb.ext extr) (by omega)).mono ?_
      rw [HL2.out]
      rintro e W3 ⟨g2, n2, q2, cs2, rfl, hn2, hb2, hc2, hg2, ext3⟩
      have hne2 : u7.ownBlock ≠ some g2 := fun h => by have := (hrow.block _ h).2; omega
      replace hx := hx.ext ext3
      replace hrow := hrow.ext ext3
      replace extr := extr.trans ext3
      replace b9 := b9.ext ext3
      clear k0 k1 k2 k3 k4 k5 k6 k7 hg2 ext3
      have Hn2 := Lib.hid hn2
      have ho3 : 0 < n2 ∧ n2 ≤ 2 := by rw [← hn2]; exact ho2
      clear hn2
      go_wp2_with fail
      go_loopw [7, 22] (fun v i wq => ∃ (a2 : Nat), a2 ≤ n2 ∧ i = .int .i64 (a2 : Int) ∧ Ext W1 wq ∧ Row4 wq W1.heap.size v (prods (fun x y => x + y) (l1.take a1) l2 ++ (l2.take a2).map (fun y => x + y)) (L + M + 1) ∧ Box wq g2 26 cs2.toArray ∧ CellsOf wq M l2 cs2 ∧ Box wq g9 26 #[.bool s9, .slice A9 n9 c9, .bool t9, .slice B9 m9 d9] ∧ NR wq x L s9 A9 n9 c9 t9 B9 m9 d9 ∧ v.ownBlock ≠ some g2 ∧ v.ownBlock ≠ some g9) (fun _ i _ => n2 - (intOf i).toNat)
      case atStart => exact ⟨0, Nat.zero_le _, rfl, extr, by rw [List.take_zero, List.map_nil, List.append_nil]; exact hrow, hb2, hc2, b9, hx, hne2, hn9⟩
      case round =>
        clear extr hrow hb2 hc2 b9 hx hne2 hn9
        obtain ⟨a2, hk2, rfl, extr, hrow, hb2, hc2, b9, hx, hne2, hn9⟩ := hrel
        by_cases hlt2 : a2 < n2
        · have hkq2 : a2 < l2.length := by rw [Hn2.out]; exact hlt2
          have hlen := row_len (fun x y => x + y) (fun y => x + y) (l := l1) (l' := l2) a1 a2 (by rw [Hn1.out]; exact ho1.2) ho2.2
          obtain ⟨s8, A8, n8, c8, t8, B8, m8, d8, e0, e1, e2, e3, hy⟩ := (RatsAt.of_box hb2 hc2).at_ a2 hkq2
          rw [Nat.zero_add] at e0 e1 e2 e3
          have HT2 := Lib.hid (show l2.take (a2 + 1) = l2.take a2 ++ [l2[a2]] from List.take_succ_eq_append_getElem hkq2)
          generalize l2[a2] = y at hy HT2
          have e0' : wr.cell? ⟨g2, a2 * 4, none⟩ = some (.bool s8) := by rw [Nat.mul_comm]; exact e0
          have e1' : wr.cell? ⟨g2, a2 * 4 + 1, none⟩ = some (.slice A8 n8 c8) := by rw [Nat.mul_comm]; exact e1
          have e2' : wr.cell? ⟨g2, a2 * 4 + 2, none⟩ = some (.bool t8) := by rw [Nat.mul_comm]; exact e2
          have e3' : wr.cell? ⟨g2, a2 * 4 + 3, none⟩ = some (.slice B8 m8 d8) := by rw [Nat.mul_comm]; exact e3
          go_upto_region 8 with (fail)
          obtain ⟨W4, hW4, ext4, b8, hz4⟩ := box1 wr 26 #[.bool s8, .slice A8 n8 c8, .bool t8, .slice B8 m8 d8]
          rw [← hW4]
          clear hW4 hz4 e0 e1 e2 e3 e0' e1' e2' e3'
          replace extr := extr.trans ext4
          replace hrow := hrow.ext ext4
          replace hb2 := hb2.ext ext4
          replace hc2 := hc2.ext ext4
          replace b9 := b9.ext ext4
          replace hx := hx.ext ext4
          replace hy := hy.ext ext4
          clear ext4
          have x0 := b9.cell 0 (.bool s9) rfl
          have x1 := b9.cell 1 (.slice A9 n9 c9) rfl
          have x2 := b9.cell 2 (.bool t9) rfl
          have x3 := b9.cell 3 (.slice B9 m9 d9) rfl
          have y0 := b8.cell 0 (.bool s8) rfl
          have y1 := b8.cell 1 (.slice A8 n8 c8) rfl
          have y2 := b8.cell 2 (.bool t8) rfl
          have y3 := b8.cell 3 (.slice B8 m8 d8) rfl
          go_wp2_with fail
          refine (p_AddR hx hy (by omega) (by omega) (by omega) (hT.ext extr)).mono ?_
          rintro e W5 ⟨s7, A7, n7, c7, t7, B7, m7, d7, rfl, h7, ext5⟩
          clear x0 x1 x2 x3 y0 y1 y2 y3
          have ha5 := (ext5).alloc (.cells #[.bool s7, .slice A7 n7 c7, .bool t7, .slice B7 m7 d7] 26)
          replace extr := extr.trans ha5
          replace hrow := hrow.ext ha5
          replace hb2 := hb2.ext ha5
          replace hc2 := hc2.ext ha5
          replace b9 := b9.ext ha5
          replace hx := hx.ext ha5
          replace h7 := h7.ext ((Ext.refl W5).alloc (.cells #[.bool s7, .slice A7 n7 c7, .bool t7, .slice B7 m7 d7] 26))
          clear ext5 ha5
          have hgb := hb2.lt
          have hg9 := b9.lt
          go_wp2_with (at_builtin; refine wpList_append_rat rfl _ _ rfl rfl rfl hrow h7 (Box.new W5 _ _) hlen extr.size ?_; intro v6 W6 hrow6 hgr hob)
          go_roundw
          case rel =>
            refine ⟨a2 + 1, by omega, by go_num, Below.grown extr hgr extr.size (fun k hk => (hrow.block k hk).1), ?_, hb2.own hgr hne2, hc2.own hrow.nwb hgr, b9.own hgr hn9, hx.own hrow.nwb hgr, ?_, ?_⟩
            · rw [HT2.out, List.map_append, ← List.append_assoc]; exact hrow6
            · rcases hob with e | e
              · rw [e]; exact hne2
              · rw [e]; intro h; injection h with h; omega
            · rcases hob with e | e
              · rw [e]; exact hn9
              · rw [e]; intro h; injection h with h; omega
          case measure => simp [intOf]; omega
        · have hkn : a2 = n2 := by omega
          rw [hkn, List.take_of_length_le (Nat.le_of_eq Hn2.out)] at hrow
          go_wp2_with fail
          go_roundw
          case rel =>
            refine ⟨a1 + 1, by omega, by go_num, extr, ?_⟩
            rw [HT.out, prods_snoc]
            exact hrow
          case measure => simp [intOf]; omega
    · have hkn : a1 = n1 := by omega
      rw [hkn, List.take_of_length_le (Nat.le_of_eq Hn1.out)] at hrow
      have hpl := prods_len (fun x y => x + y) l1 l2
      have hp1 : 0 < (prods (fun x y => x + y) l1 l2).length := by rw [hpl]; exact Nat.mul_pos (by rw [Hn1.out]; exact ho1.1) ho2.1
      have hp2 : (prods (fun x y => x + y) l1 l2).length ≤ 1000 := by rw [hpl, Hn1.out]; exact Nat.le_trans (Nat.mul_le_mul ho1.2 ho2.2) (by omega)
      clear hpl
      obtain ⟨g7, c7, rfl, hra⟩ := hrow.shape (fun h => by rw [h] at hp1; exact absurd hp1 (by simp))
      clear hrow
      go_wp2_with fail
      refine (p_enclose hra rfl hp1 (by omega) hp2).mono ?_
      rintro e V ⟨lo3, hi3, hu, s1, A1, n3, c1, t1, B1, m1, d1, s2, A2, n4, c2, t2, B2, m2, d2, rfl, h1, hx0⟩
      have HU := Lib.hid hu
      clear hu hp1 hp2
      have hx1 := extr.trans hx0
      have z0 := (bz.ext hx1).cell 0 _ rfl
      have f0 := (bz.ext hx1).frozen 0
      have z1 := (bz.ext hx1).cell 1 _ rfl
      have f1 := (bz.ext hx1).frozen 1
      have z2 := (bz.ext hx1).cell 2 _ rfl
      have f2 := (bz.ext hx1).frozen 2
      have z3 := (bz.ext hx1).cell 3 _ rfl
      have f3 := (bz.ext hx1).frozen 3
      have z4 := (bz.ext hx1).cell 4 _ rfl
      have f4 := (bz.ext hx1).frozen 4
      have z5 := (bz.ext hx1).cell 5 _ rfl
      have f5 := (bz.ext hx1).frozen 5
      have z6 := (bz.ext hx1).cell 6 _ rfl
      have f6 := (bz.ext hx1).frozen 6
      have z7 := (bz.ext hx1).cell 7 _ rfl
      have f7 := (bz.ext hx1).frozen 7
      go_wp2_with fail
      obtain ⟨b1, b2, b3, b4⟩ := fin_oct (v0 := (.bool s1)) (v1 := (.slice A1 n3 c1)) (v2 := (.bool t1)) (v3 := (.slice B1 m1 d1)) (v4 := (.bool s2)) (v5 := (.slice A2 n4 c2)) (v6 := (.bool t2)) (v7 := (.slice B2 m2 d2)) (bz.ext hx1)
      have r0 := b1.cell 0 (.bool s1) rfl
      have r1 := b1.cell 1 (.slice A1 n3 c1) rfl
      have r2 := b1.cell 2 (.bool t1) rfl
      have r3 := b1.cell 3 (.slice B1 m1 d1) rfl
      have r4 := b1.cell 4 (.bool s2) rfl
      have r5 := b1.cell 5 (.slice A2 n4 c2) rfl
      have r6 := b1.cell 6 (.bool t2) rfl
      have r7 := b1.cell 7 (.slice B2 m2 d2) rfl
      unfold set8 at r0 r1 r2 r3 r4 r5 r6 r7
      refine bodyPost_ret (v := .agg #[.bool s1, .slice A1 n3 c1, .bool t1, .slice B1 m1 d1, .bool s2, .slice A2 n4 c2, .bool t2, .slice B2 m2 d2]) (by simp [results, Tryz.results55, go_sem, r0, r1, r2, r3, r4, r5, r6, r7]) rfl ⟨lo3, hi3, HU.out, s1, A1, n3, c1, t1, B1, m1, d1, s2, A2, n4, c2, t2, B2, m2, d2, rfl, ⟨⟨?_, ?_⟩, ⟨?_, ?_⟩⟩, b3 _ (ext.trans hx1) (by omega)⟩
      · exact b2 _ _ _ _ _ _ h1.low.num
      · exact b2 _ _ _ _ _ _ h1.low.den
      · exact b2 _ _ _ _ _ _ h1.high.num
      · exact b2 _ _ _ _ _ _ h1.high.den
set_option maxHeartbeats 16000000 in
set_option maxRecDepth 100000 in
theorem p_apply_Sub (h : IV w lo hi L s A n c t B m d s' A' n' c' t' B' m' d') (h' : IV w lo' hi' M u C i j v D k l u' C' i' j' v' D' k' l') (hL : L ≤ 20) (hM : M ≤ 20) (hT : Tab w) : Calls Tryz.prog 55 #[(.func (.func 59) #[] #[]), .agg #[.bool s, .slice A n c, .bool t, .slice B m d, .bool s', .slice A' n' c', .bool t', .slice B' m' d'], .agg #[.bool u, .slice C i j, .bool v, .slice D k l, .bool u', .slice C' i' j', .bool v', .slice D' k' l']] w (RetHull (prods (fun x y => x - y) (endsOf lo hi) (endsOf lo' hi')) (L + M + 1) w) := by
  obtain ⟨l1, hl1⟩ : ∃ l, endsOf lo hi = l := ⟨_, rfl⟩
  obtain ⟨l2, hl2⟩ : ∃ l, endsOf lo' hi' = l := ⟨_, rfl⟩
  have HL1 := Lib.hid hl1
  have HL2 := Lib.hid hl2
  have ho1 : 0 < l1.length ∧ l1.length ≤ 2 := by rw [← hl1]; exact endsOf_len _ _
  have ho2 : 0 < l2.length ∧ l2.length ≤ 2 := by rw [← hl2]; exact endsOf_len _ _
  skip
  rw [hl1, hl2]
  clear hl1 hl2
  go_enter Tryz.func55, Tryz.ntmps55
  go_upto_region 1 with (fail)
  obtain ⟨W0, hW, ext, bx, by_, bz, hz⟩ := box3 w 28 28 28 #[.bool s, .slice A n c, .bool t, .slice B m d, .bool s', .slice A' n' c', .bool t', .slice B' m' d'] #[.bool u, .slice C i j, .bool v, .slice D k l, .bool u', .slice C' i' j', .bool v', .slice D' k' l'] #[Value.bool false, Value.slice none 0 0, Value.bool false, Value.slice none 0 0, Value.bool false, Value.slice none 0 0, Value.bool false, Value.slice none 0 0]
  rw [← hW]
  clear hW hz
  have ha := h.ext ext
  have hb := h'.ext ext
  replace hT := hT.ext ext
  have k0 := bx.cell 0 (.bool s) rfl
  have k1 := bx.cell 1 (.slice A n c) rfl
  have k2 := bx.cell 2 (.bool t) rfl
  have k3 := bx.cell 3 (.slice B m d) rfl
  have k4 := bx.cell 4 (.bool s') rfl
  have k5 := bx.cell 5 (.slice A' n' c') rfl
  have k6 := bx.cell 6 (.bool t') rfl
  have k7 := bx.cell 7 (.slice B' m' d') rfl
  go_wp2_with fail
  refine (p_ends ha (by omega)).mono ?_
  rw [HL1.out]
  rintro e W1 ⟨g1, n1, q1, cs1, rfl, hn1, hb1, hc1, hg1, ext1⟩
  replace bx := bx.ext ext1
  replace by_ := by_.ext ext1
  replace bz := bz.ext ext1
  replace ha := ha.ext ext1
  replace hb := hb.ext ext1
  replace hT := hT.ext ext1
  replace ext := ext.trans ext1
  clear ext1 hg1 k0 k1 k2 k3 k4 k5 k6 k7
  have Hn1 := Lib.hid hn1
  rw [hn1] at ho1
  clear hn1
  go_wp2_with fail
  go_loopw [7, 15] (fun v i wr => ∃ (a1 : Nat), a1 ≤ n1 ∧ i = .int .i64 (a1 : Int) ∧ Ext W1 wr ∧ Row4 wr W1.heap.size v (prods (fun x y => x - y) (l1.take a1) l2) (L + M + 1)) (fun _ i _ => n1 - (intOf i).toNat)
  case atStart => exact ⟨0, Nat.zero_le _, rfl, Ext.refl _, Row4.nil _ _ _⟩
  case round =>
    obtain ⟨a1, hk, rfl, extr, hrow⟩ := hrel
    by_cases hlt : a1 < n1
    · have hkq : a1 < l1.length := by rw [Hn1.out]; exact hlt
      obtain ⟨s9, A9, n9, c9, t9, B9, m9, d9, e0, e1, e2, e3, hx⟩ := (RatsAt.of_box (hb1.ext extr) (hc1.ext extr)).at_ a1 hkq
      rw [Nat.zero_add] at e0 e1 e2 e3
      have HT := Lib.hid (show l1.take (a1 + 1) = l1.take a1 ++ [l1[a1]] from List.take_succ_eq_append_getElem hkq)
      generalize l1[a1] = x at hx HT
      have e0' : wr.cell? ⟨g1, a1 * 4, none⟩ = some (.bool s9) := by rw [Nat.mul_comm]; exact e0
      have e1' : wr.cell? ⟨g1, a1 * 4 + 1, none⟩ = some (.slice A9 n9 c9) := by rw [Nat.mul_comm]; exact e1
      have e2' : wr.cell? ⟨g1, a1 * 4 + 2, none⟩ = some (.bool t9) := by rw [Nat.mul_comm]; exact e2
      have e3' : wr.cell? ⟨g1, a1 * 4 + 3, none⟩ = some (.slice B9 m9 d9) := by rw [Nat.mul_comm]; exact e3
      go_upto_region 5 with (fail)
      obtain ⟨W2, hW2, ext2, b9, hz2⟩ := box1 wr 26 #[.bool s9, .slice A9 n9 c9, .bool t9, .slice B9 m9 d9]
      rw [← hW2]
      clear hW2 e0 e1 e2 e3 e0' e1' e2' e3'
      have hn9 : u7.ownBlock ≠ some wr.heap.size := fun h => by have := (hrow.block _ h).2; omega
      obtain ⟨g9, hg9⟩ : ∃ g, wr.heap.size = g := ⟨_, rfl⟩
      rw [hg9] at b9 hn9 hz2 ⊢
      clear hg9 hz2
      replace hx := hx.ext ext2
      replace hrow := hrow.ext ext2
      replace extr := extr.trans ext2
      clear ext2
      have k0 := (by_.ext extr).cell 0 (.bool u) rfl
      have k1 := (by_.ext extr).cell 1 (.slice C i j) rfl
      have k2 := (by_.ext extr).cell 2 (.bool v) rfl
      have k3 := (by_.ext extr).cell 3 (.slice D k l) rfl
      have k4 := (by_.ext extr).cell 4 (.bool u') rfl
      have k5 := (by_.ext extr).cell 5 (.slice C' i' j') rfl
      have k6 := (by_.ext extr).cell 6 (.bool v') rfl
      have k7 := (by_.ext extr).cell 7 (.slice D' k' l') rfl
      go_wp2_with fail
      refine (p_ends (hb.ext extr) (by omega)).mono ?_
      rw [HL2.out]
      rintro e W3 ⟨g2, n2, q2, cs2, rfl, hn2, hb2, hc2, hg2, ext3⟩
      have hne2 : u7.ownBlock ≠ some g2 := fun h => by have := (hrow.block _ h).2; omega
      replace hx := hx.ext ext3
      replace hrow := hrow.ext ext3
      replace extr := extr.trans ext3
      replace b9 := b9.ext ext3
      clear k0 k1 k2 k3 k4 k5 k6 k7 hg2 ext3
      have Hn2 := Lib.hid hn2
      have ho3 : 0 < n2 ∧ n2 ≤ 2 := by rw [← hn2]; exact ho2
      clear hn2
      go_wp2_with fail
      go_loopw [7, 22] (fun v i wq => ∃ (a2 : Nat), a2 ≤ n2 ∧ i = .int .i64 (a2 : Int) ∧ Ext W1 wq ∧ Row4 wq W1.heap.size v (prods (fun x y => x - y) (l1.take a1) l2 ++ (l2.take a2).map (fun y => x - y)) (L + M + 1) ∧ Box wq g2 26 cs2.toArray ∧ CellsOf wq M l2 cs2 ∧ Box wq g9 26 #[.bool s9, .slice A9 n9 c9, .bool t9, .slice B9 m9 d9] ∧ NR wq x L s9 A9 n9 c9 t9 B9 m9 d9 ∧ v.ownBlock ≠ some g2 ∧ v.ownBlock ≠ some g9) (fun _ i _ => n2 - (intOf i).toNat)
      case atStart => exact ⟨0, Nat.zero_le _, rfl, extr, by rw [List.take_zero, List.map_nil, List.append_nil]; exact hrow, hb2, hc2, b9, hx, hne2, hn9⟩
      case round =>
        clear extr hrow hb2 hc2 b9 hx hne2 hn9
        obtain ⟨a2, hk2, rfl, extr, hrow, hb2, hc2, b9, hx, hne2, hn9⟩ := hrel
        by_cases hlt2 : a2 < n2
        · have hkq2 : a2 < l2.length := by rw [Hn2.out]; exact hlt2
          have hlen := row_len (fun x y => x - y) (fun y => x - y) (l := l1) (l' := l2) a1 a2 (by rw [Hn1.out]; exact ho1.2) ho2.2
          obtain ⟨s8, A8, n8, c8, t8, B8, m8, d8, e0, e1, e2, e3, hy⟩ := (RatsAt.of_box hb2 hc2).at_ a2 hkq2
          rw [Nat.zero_add] at e0 e1 e2 e3
          have HT2 := Lib.hid (show l2.take (a2 + 1) = l2.take a2 ++ [l2[a2]] from List.take_succ_eq_append_getElem hkq2)
          generalize l2[a2] = y at hy HT2
          have e0' : wr.cell? ⟨g2, a2 * 4, none⟩ = some (.bool s8) := by rw [Nat.mul_comm]; exact e0
          have e1' : wr.cell? ⟨g2, a2 * 4 + 1, none⟩ = some (.slice A8 n8 c8) := by rw [Nat.mul_comm]; exact e1
          have e2' : wr.cell? ⟨g2, a2 * 4 + 2, none⟩ = some (.bool t8) := by rw [Nat.mul_comm]; exact e2
          have e3' : wr.cell? ⟨g2, a2 * 4 + 3, none⟩ = some (.slice B8 m8 d8) := by rw [Nat.mul_comm]; exact e3
          go_upto_region 8 with (fail)
          obtain ⟨W4, hW4, ext4, b8, hz4⟩ := box1 wr 26 #[.bool s8, .slice A8 n8 c8, .bool t8, .slice B8 m8 d8]
          rw [← hW4]
          clear hW4 hz4 e0 e1 e2 e3 e0' e1' e2' e3'
          replace extr := extr.trans ext4
          replace hrow := hrow.ext ext4
          replace hb2 := hb2.ext ext4
          replace hc2 := hc2.ext ext4
          replace b9 := b9.ext ext4
          replace hx := hx.ext ext4
          replace hy := hy.ext ext4
          clear ext4
          have x0 := b9.cell 0 (.bool s9) rfl
          have x1 := b9.cell 1 (.slice A9 n9 c9) rfl
          have x2 := b9.cell 2 (.bool t9) rfl
          have x3 := b9.cell 3 (.slice B9 m9 d9) rfl
          have y0 := b8.cell 0 (.bool s8) rfl
          have y1 := b8.cell 1 (.slice A8 n8 c8) rfl
          have y2 := b8.cell 2 (.bool t8) rfl
          have y3 := b8.cell 3 (.slice B8 m8 d8) rfl
          go_wp2_with fail
          refine (p_SubR hx hy (by omega) (by omega) (by omega) (hT.ext extr)).mono ?_
          rintro e W5 ⟨s7, A7, n7, c7, t7, B7, m7, d7, rfl, h7, ext5⟩
          clear x0 x1 x2 x3 y0 y1 y2 y3
          have ha5 := (ext5).alloc (.cells #[.bool s7, .slice A7 n7 c7, .bool t7, .slice B7 m7 d7] 26)
          replace extr := extr.trans ha5
          replace hrow := hrow.ext ha5
          replace hb2 := hb2.ext ha5
          replace hc2 := hc2.ext ha5
          replace b9 := b9.ext ha5
          replace hx := hx.ext ha5
          replace h7 := h7.ext ((Ext.refl W5).alloc (.cells #[.bool s7, .slice A7 n7 c7, .bool t7, .slice B7 m7 d7] 26))
          clear ext5 ha5
          have hgb := hb2.lt
          have hg9 := b9.lt
          go_wp2_with (at_builtin; refine wpList_append_rat rfl _ _ rfl rfl rfl hrow h7 (Box.new W5 _ _) hlen extr.size ?_; intro v6 W6 hrow6 hgr hob)
          go_roundw
          case rel =>
            refine ⟨a2 + 1, by omega, by go_num, Below.grown extr hgr extr.size (fun k hk => (hrow.block k hk).1), ?_, hb2.own hgr hne2, hc2.own hrow.nwb hgr, b9.own hgr hn9, hx.own hrow.nwb hgr, ?_, ?_⟩
            · rw [HT2.out, List.map_append, ← List.append_assoc]; exact hrow6
            · rcases hob with e | e
              · rw [e]; exact hne2
              · rw [e]; intro h; injection h with h; omega
            · rcases hob with e | e
              · rw [e]; exact hn9
              · rw [e]; intro h; injection h with h; omega
          case measure => simp [intOf]; omega
        · have hkn : a2 = n2 := by omega
          rw [hkn, List.take_of_length_le (Nat.le_of_eq Hn2.out)] at hrow
          go_wp2_with fail
          go_roundw
          case rel =>
            refine ⟨a1 + 1, by omega, by go_num, extr, ?_⟩
            rw [HT.out, prods_snoc]
            exact hrow
          case measure => simp [intOf]; omega
    · have hkn : a1 = n1 := by omega
      rw [hkn, List.take_of_length_le (Nat.le_of_eq Hn1.out)] at hrow
      have hpl := prods_len (fun x y => x - y) l1 l2
      have hp1 : 0 < (prods (fun x y => x - y) l1 l2).length := by rw [hpl]; exact Nat.mul_pos (by rw [Hn1.out]; exact ho1.1) ho2.1
      have hp2 : (prods (fun x y => x - y) l1 l2).length ≤ 1000 := by rw [hpl, Hn1.out]; exact Nat.le_trans (Nat.mul_le_mul ho1.2 ho2.2) (by omega)
      clear hpl
      obtain ⟨g7, c7, rfl, hra⟩ := hrow.shape (fun h => by rw [h] at hp1; exact absurd hp1 (by simp))
      clear hrow
      go_wp2_with fail
      refine (p_enclose hra rfl hp1 (by omega) hp2).mono ?_
      rintro e V ⟨lo3, hi3, hu, s1, A1, n3, c1, t1, B1, m1, d1, s2, A2, n4, c2, t2, B2, m2, d2, rfl, h1, hx0⟩
      have HU := Lib.hid hu
      clear hu hp1 hp2
      have hx1 := extr.trans hx0
      have z0 := (bz.ext hx1).cell 0 _ rfl
      have f0 := (bz.ext hx1).frozen 0
      have z1 := (bz.ext hx1).cell 1 _ rfl
      have f1 := (bz.ext hx1).frozen 1
      have z2 := (bz.ext hx1).cell 2 _ rfl
      have f2 := (bz.ext hx1).frozen 2
      have z3 := (bz.ext hx1).cell 3 _ rfl
      have f3 := (bz.ext hx1).frozen 3
      have z4 := (bz.ext hx1).cell 4 _ rfl
      have f4 := (bz.ext hx1).frozen 4
      have z5 := (bz.ext hx1).cell 5 _ rfl
      have f5 := (bz.ext hx1).frozen 5
      have z6 := (bz.ext hx1).cell 6 _ rfl
      have f6 := (bz.ext hx1).frozen 6
      have z7 := (bz.ext hx1).cell 7 _ rfl
      have f7 := (bz.ext hx1).frozen 7
      go_wp2_with fail
      obtain ⟨b1, b2, b3, b4⟩ := fin_oct (v0 := (.bool s1)) (v1 := (.slice A1 n3 c1)) (v2 := (.bool t1)) (v3 := (.slice B1 m1 d1)) (v4 := (.bool s2)) (v5 := (.slice A2 n4 c2)) (v6 := (.bool t2)) (v7 := (.slice B2 m2 d2)) (bz.ext hx1)
      have r0 := b1.cell 0 (.bool s1) rfl
      have r1 := b1.cell 1 (.slice A1 n3 c1) rfl
      have r2 := b1.cell 2 (.bool t1) rfl
      have r3 := b1.cell 3 (.slice B1 m1 d1) rfl
      have r4 := b1.cell 4 (.bool s2) rfl
      have r5 := b1.cell 5 (.slice A2 n4 c2) rfl
      have r6 := b1.cell 6 (.bool t2) rfl
      have r7 := b1.cell 7 (.slice B2 m2 d2) rfl
      unfold set8 at r0 r1 r2 r3 r4 r5 r6 r7
      refine bodyPost_ret (v := .agg #[.bool s1, .slice A1 n3 c1, .bool t1, .slice B1 m1 d1, .bool s2, .slice A2 n4 c2, .bool t2, .slice B2 m2 d2]) (by simp [results, Tryz.results55, go_sem, r0, r1, r2, r3, r4, r5, r6, r7]) rfl ⟨lo3, hi3, HU.out, s1, A1, n3, c1, t1, B1, m1, d1, s2, A2, n4, c2, t2, B2, m2, d2, rfl, ⟨⟨?_, ?_⟩, ⟨?_, ?_⟩⟩, b3 _ (ext.trans hx1) (by omega)⟩
      · exact b2 _ _ _ _ _ _ h1.low.num
      · exact b2 _ _ _ _ _ _ h1.low.den
      · exact b2 _ _ _ _ _ _ h1.high.num
      · exact b2 _ _ _ _ _ _ h1.high.den
end
end Go.Proofs.YtoabhnofppledaaGreatDoor
namespace Go.Proofs.YtoabhnofppledaaGreatDoor
open Go.RowKit
attribute [local go_sem ↓] Go.wp_at_zero Go.wp_at_succ
section
variable {w w' : World} {q p lo hi lo' hi' x : Rat} {L M : Nat} {s t s' t' sx tx u v u' v' : Bool} {A B A' B' Ax Bx C D C' D' : Option Addr} {n c m d n' c' m' d' nx cx mx dx i j k l i' j' k' l' : Nat} {qs : List Rat}
set_option maxHeartbeats 4000000 in
theorem p_AddV (h : IV w lo hi L s A n c t B m d s' A' n' c' t' B' m' d') (h' : IV w lo' hi' M u C i j v D k l u' C' i' j' v' D' k' l') (hL : L ≤ 20) (hM : M ≤ 20) (hT : Tab w) : Calls Tryz.prog 17 #[.agg #[.bool s, .slice A n c, .bool t, .slice B m d, .bool s', .slice A' n' c', .bool t', .slice B' m' d'], .agg #[.bool u, .slice C i j, .bool v, .slice D k l, .bool u', .slice C' i' j', .bool v', .slice D' k' l']] w (RetHull (prods (fun x y => x + y) (endsOf lo hi) (endsOf lo' hi')) (L + M + 1) w) := by
  go_enter Tryz.func17, Tryz.ntmps17
  go_upto_region 1 with (fail)
  obtain ⟨W, hW, ext, bx, by_, bz, hz⟩ := box3 w 28 28 28 #[.bool s, .slice A n c, .bool t, .slice B m d, .bool s', .slice A' n' c', .bool t', .slice B' m' d'] #[.bool u, .slice C i j, .bool v, .slice D k l, .bool u', .slice C' i' j', .bool v', .slice D' k' l'] #[Value.bool false, Value.slice none 0 0, Value.bool false, Value.slice none 0 0, Value.bool false, Value.slice none 0 0, Value.bool false, Value.slice none 0 0]
  rw [← hW]
  clear hW hz
  have k0 := bx.cell 0 (.bool s) rfl
  have k1 := bx.cell 1 (.slice A n c) rfl
  have k2 := bx.cell 2 (.bool t) rfl
  have k3 := bx.cell 3 (.slice B m d) rfl
  have k4 := bx.cell 4 (.bool s') rfl
  have k5 := bx.cell 5 (.slice A' n' c') rfl
  have k6 := bx.cell 6 (.bool t') rfl
  have k7 := bx.cell 7 (.slice B' m' d') rfl
  have x0 := by_.cell 0 (.bool u) rfl
  have x1 := by_.cell 1 (.slice C i j) rfl
  have x2 := by_.cell 2 (.bool v) rfl
  have x3 := by_.cell 3 (.slice D k l) rfl
  have x4 := by_.cell 4 (.bool u') rfl
  have x5 := by_.cell 5 (.slice C' i' j') rfl
  have x6 := by_.cell 6 (.bool v') rfl
  have x7 := by_.cell 7 (.slice D' k' l') rfl
  go_wp2_with fail
  refine (p_apply_Add (h.ext ext) (h'.ext ext) hL hM (hT.ext ext)).mono ?_
  rintro e V ⟨lo3, hi3, hu, s1, A1, n3, c1, t1, B1, m1, d1, s2, A2, n4, c2, t2, B2, m2, d2, rfl, h1, hx1⟩
  have HU := Lib.hid hu
  clear hu k0 k1 k2 k3 k4 k5 k6 k7 x0 x1 x2 x3 x4 x5 x6 x7
  have z0 := (bz.ext hx1).cell 0 _ rfl
  have f0 := (bz.ext hx1).frozen 0
  have z1 := (bz.ext hx1).cell 1 _ rfl
  have f1 := (bz.ext hx1).frozen 1
  have z2 := (bz.ext hx1).cell 2 _ rfl
  have f2 := (bz.ext hx1).frozen 2
  have z3 := (bz.ext hx1).cell 3 _ rfl
  have f3 := (bz.ext hx1).frozen 3
  have z4 := (bz.ext hx1).cell 4 _ rfl
  have f4 := (bz.ext hx1).frozen 4
  have z5 := (bz.ext hx1).cell 5 _ rfl
  have f5 := (bz.ext hx1).frozen 5
  have z6 := (bz.ext hx1).cell 6 _ rfl
  have f6 := (bz.ext hx1).frozen 6
  have z7 := (bz.ext hx1).cell 7 _ rfl
  have f7 := (bz.ext hx1).frozen 7
  go_wp2_with fail
  obtain ⟨b1, b2, b3, b4⟩ := fin_oct (v0 := (.bool s1)) (v1 := (.slice A1 n3 c1)) (v2 := (.bool t1)) (v3 := (.slice B1 m1 d1)) (v4 := (.bool s2)) (v5 := (.slice A2 n4 c2)) (v6 := (.bool t2)) (v7 := (.slice B2 m2 d2)) (bz.ext hx1)
  have r0 := b1.cell 0 (.bool s1) rfl
  have r1 := b1.cell 1 (.slice A1 n3 c1) rfl
  have r2 := b1.cell 2 (.bool t1) rfl
  have r3 := b1.cell 3 (.slice B1 m1 d1) rfl
  have r4 := b1.cell 4 (.bool s2) rfl
  have r5 := b1.cell 5 (.slice A2 n4 c2) rfl
  have r6 := b1.cell 6 (.bool t2) rfl
  have r7 := b1.cell 7 (.slice B2 m2 d2) rfl
  unfold set8 at r0 r1 r2 r3 r4 r5 r6 r7
  refine bodyPost_ret (v := .agg #[.bool s1, .slice A1 n3 c1, .bool t1, .slice B1 m1 d1, .bool s2, .slice A2 n4 c2, .bool t2, .slice B2 m2 d2]) (by simp [results, Tryz.results17, go_sem, r0, r1, r2, r3, r4, r5, r6, r7]) rfl ⟨lo3, hi3, HU.out, s1, A1, n3, c1, t1, B1, m1, d1, s2, A2, n4, c2, t2, B2, m2, d2, rfl, ⟨⟨?_, ?_⟩, ⟨?_, ?_⟩⟩, b3 _ (ext.trans hx1) (by omega)⟩
  · exact b2 _ _ _ _ _ _ h1.low.num
  · exact b2 _ _ _ _ _ _ h1.low.den
  · exact b2 _ _ _ _ _ _ h1.high.num
  · exact b2 _ _ _ _ _ _ h1.high.den
set_option maxHeartbeats 4000000 in
theorem p_SubV (h : IV w lo hi L s A n c t B m d s' A' n' c' t' B' m' d') (h' : IV w lo' hi' M u C i j v D k l u' C' i' j' v' D' k' l') (hL : L ≤ 20) (hM : M ≤ 20) (hT : Tab w) : Calls Tryz.prog 19 #[.agg #[.bool s, .slice A n c, .bool t, .slice B m d, .bool s', .slice A' n' c', .bool t', .slice B' m' d'], .agg #[.bool u, .slice C i j, .bool v, .slice D k l, .bool u', .slice C' i' j', .bool v', .slice D' k' l']] w (RetHull (prods (fun x y => x - y) (endsOf lo hi) (endsOf lo' hi')) (L + M + 1) w) := by
  go_enter Tryz.func19, Tryz.ntmps19
  go_upto_region 1 with (fail)
  obtain ⟨W, hW, ext, bx, by_, bz, hz⟩ := box3 w 28 28 28 #[.bool s, .slice A n c, .bool t, .slice B m d, .bool s', .slice A' n' c', .bool t', .slice B' m' d'] #[.bool u, .slice C i j, .bool v, .slice D k l, .bool u', .slice C' i' j', .bool v', .slice D' k' l'] #[Value.bool false, Value.slice none 0 0, Value.bool false, Value.slice none 0 0, Value.bool false, Value.slice none 0 0, Value.bool false, Value.slice none 0 0]
  rw [← hW]
  clear hW hz
  have k0 := bx.cell 0 (.bool s) rfl
  have k1 := bx.cell 1 (.slice A n c) rfl
  have k2 := bx.cell 2 (.bool t) rfl
  have k3 := bx.cell 3 (.slice B m d) rfl
  have k4 := bx.cell 4 (.bool s') rfl
  have k5 := bx.cell 5 (.slice A' n' c') rfl
  have k6 := bx.cell 6 (.bool t') rfl
  have k7 := bx.cell 7 (.slice B' m' d') rfl
  have x0 := by_.cell 0 (.bool u) rfl
  have x1 := by_.cell 1 (.slice C i j) rfl
  have x2 := by_.cell 2 (.bool v) rfl
  have x3 := by_.cell 3 (.slice D k l) rfl
  have x4 := by_.cell 4 (.bool u') rfl
  have x5 := by_.cell 5 (.slice C' i' j') rfl
  have x6 := by_.cell 6 (.bool v') rfl
  have x7 := by_.cell 7 (.slice D' k' l') rfl
  go_wp2_with fail
  refine (p_apply_Sub (h.ext ext) (h'.ext ext) hL hM (hT.ext ext)).mono ?_
  rintro e V ⟨lo3, hi3, hu, s1, A1, n3, c1, t1, B1, m1, d1, s2, A2, n4, c2, t2, B2, m2, d2, rfl, h1, hx1⟩
  have HU := Lib.hid hu
  clear hu k0 k1 k2 k3 k4 k5 k6 k7 x0 x1 x2 x3 x4 x5 x6 x7
  have z0 := (bz.ext hx1).cell 0 _ rfl
  have f0 := (bz.ext hx1).frozen 0
  have z1 := (bz.ext hx1).cell 1 _ rfl
  have f1 := (bz.ext hx1).frozen 1
  have z2 := (bz.ext hx1).cell 2 _ rfl
  have f2 := (bz.ext hx1).frozen 2
  have z3 := (bz.ext hx1).cell 3 _ rfl
  have f3 := (bz.ext hx1).frozen 3
  have z4 := (bz.ext hx1).cell 4 _ rfl
  have f4 := (bz.ext hx1).frozen 4
  have z5 := (bz.ext hx1).cell 5 _ rfl
  have f5 := (bz.ext hx1).frozen 5
  have z6 := (bz.ext hx1).cell 6 _ rfl
  have f6 := (bz.ext hx1).frozen 6
  have z7 := (bz.ext hx1).cell 7 _ rfl
  have f7 := (bz.ext hx1).frozen 7
  go_wp2_with fail
  obtain ⟨b1, b2, b3, b4⟩ := fin_oct (v0 := (.bool s1)) (v1 := (.slice A1 n3 c1)) (v2 := (.bool t1)) (v3 := (.slice B1 m1 d1)) (v4 := (.bool s2)) (v5 := (.slice A2 n4 c2)) (v6 := (.bool t2)) (v7 := (.slice B2 m2 d2)) (bz.ext hx1)
  have r0 := b1.cell 0 (.bool s1) rfl
  have r1 := b1.cell 1 (.slice A1 n3 c1) rfl
  have r2 := b1.cell 2 (.bool t1) rfl
  have r3 := b1.cell 3 (.slice B1 m1 d1) rfl
  have r4 := b1.cell 4 (.bool s2) rfl
  have r5 := b1.cell 5 (.slice A2 n4 c2) rfl
  have r6 := b1.cell 6 (.bool t2) rfl
  have r7 := b1.cell 7 (.slice B2 m2 d2) rfl
  unfold set8 at r0 r1 r2 r3 r4 r5 r6 r7
  refine bodyPost_ret (v := .agg #[.bool s1, .slice A1 n3 c1, .bool t1, .slice B1 m1 d1, .bool s2, .slice A2 n4 c2, .bool t2, .slice B2 m2 d2]) (by simp [results, Tryz.results19, go_sem, r0, r1, r2, r3, r4, r5, r6, r7]) rfl ⟨lo3, hi3, HU.out, s1, A1, n3, c1, t1, B1, m1, d1, s2, A2, n4, c2, t2, B2, m2, d2, rfl, ⟨⟨?_, ?_⟩, ⟨?_, ?_⟩⟩, b3 _ (ext.trans hx1) (by omega)⟩
  · exact b2 _ _ _ _ _ _ h1.low.num
  · exact b2 _ _ _ _ _ _ h1.low.den
  · exact b2 _ _ _ _ _ _ h1.high.num
  · exact b2 _ _ _ _ _ _ h1.high.den
end
end Go.Proofs.YtoabhnofppledaaGreatDoor
namespace Go.Proofs.YtoabhnofppledaaGreatDoor
open Go.RowKit
attribute [local go_sem ↓] Go.wp_at_zero Go.wp_at_succ
def few10 (n m : Nat) (s : Bool) (xs : List Nat) (t : Bool) (ys : List Nat) : Bool := decide (n ≤ 10) && (decide (m ≤ 10) && validQ s xs t ys)
/-- an interval with ends of at most ten words. -/
def fewV (n m n' m' : Nat) (s : Bool) (xs : List Nat) (t : Bool) (ys : List Nat) (s' : Bool) (xs' : List Nat) (t' : Bool) (ys' : List Nat) : Bool :=
  few10 n m s xs t ys && (few10 n' m' s' xs' t' ys' && validV s xs t ys s' xs' t' ys')
theorem few10_le {n m : Nat} {s : Bool} {xs : List Nat} {t : Bool} {ys : List Nat} (h : few10 n m s xs t ys = true) : n ≤ 10 ∧ m ≤ 10 ∧ validQ s xs t ys = true := by
  unfold few10 at h
  simp only [Bool.and_eq_true, decide_eq_true_eq] at h
  exact ⟨h.1, h.2.1, h.2.2⟩
theorem few_iv {w : World} {s t s' t' : Bool} {A B A' B' : Option Addr} {n c m d n' c' m' d' : Nat} {xs ys xs' ys' : List Nat} (h : RI w A n c xs) (k : RI w B m d ys) (h' : RI w A' n' c' xs') (k' : RI w B' m' d' ys') (hf : fewV n m n' m' s xs t ys s' xs' t' ys' = true) :
    IV w (rawQ s xs t ys) (rawQ s' xs' t' ys') 10 s A n c t B m d s' A' n' c' t' B' m' d' ∧ rawQ s xs t ys ≤ rawQ s' xs' t' ys' := by
  unfold fewV validV at hf
  simp only [Bool.and_eq_true, decide_eq_true_eq] at hf
  obtain ⟨f1, f2, f3, f4, f5⟩ := hf
  obtain ⟨a1, a2, a3⟩ := few10_le f1
  obtain ⟨b1, b2, b3⟩ := few10_le f2
  exact ⟨⟨NR.of_raw' h k a3 a1 a2, NR.of_raw' h' k' b3 b1 b2⟩, f5⟩
section
variable {w w' : World} {L M : Nat} {s t s' t' : Bool} {A B A' B' : Option Addr} {n c m d n' c' m' d' : Nat} {xs ys xs' ys' : List Nat}
set_option maxHeartbeats 4000000 in
theorem q_Few10 (h : RI w A n c xs) (k : RI w B m d ys) : Calls Tryz.prog 34 #[.agg #[.bool s, .slice A n c, .bool t, .slice B m d], .int .i64 10] w fun e w' => e = .returned (.bool (few10 n m s xs t ys)) ∧ Ext w w' := by
  by_cases h1 : n ≤ 10
  · have d1 : decide ((n : Int) ≤ (10 : Int)) = true := decide_eq_true (by omega)
    by_cases h2 : m ≤ 10
    · have d2 : decide ((m : Int) ≤ (10 : Int)) = true := decide_eq_true (by omega)
      have hf : few10 n m s xs t ys = validQ s xs t ys := by unfold few10; rw [decide_eq_true h1, decide_eq_true h2]; rfl
      rw [hf]
      clear hf
      go_enter Tryz.func34, Tryz.ntmps34
      go_upto_region 1 with (fail)
      obtain ⟨W, hW, extW, bx, hz⟩ := box1 w 26 #[.bool s, .slice A n c, .bool t, .slice B m d]
      rw [← hW]
      clear hW
      replace h := h.ext extW
      replace k := k.ext extW
      have x0 := bx.cell 0 (.bool s) rfl
      have x1 := bx.cell 1 (.slice A n c) rfl
      have x2 := bx.cell 2 (.bool t) rfl
      have x3 := bx.cell 3 (.slice B m d) rfl
      go_wp2_with fail
      refine (q_ValidRaw h k (by omega) (by omega)).mono ?_
      rintro e wd ⟨rfl, hxd⟩
      go_wp2_with fail
      go_ret
      exact ⟨rfl, extW.trans hxd⟩
    · have d2 : decide ((m : Int) ≤ (10 : Int)) = false := decide_eq_false (by omega)
      have hf : few10 n m s xs t ys = false := by unfold few10; rw [decide_eq_true h1, decide_eq_false h2]; rfl
      rw [hf]
      clear hf
      go_enter Tryz.func34, Tryz.ntmps34
      go_upto_region 1 with (fail)
      obtain ⟨W, hW, extW, bx, hz⟩ := box1 w 26 #[.bool s, .slice A n c, .bool t, .slice B m d]
      rw [← hW]
      clear hW
      replace h := h.ext extW
      replace k := k.ext extW
      have x0 := bx.cell 0 (.bool s) rfl
      have x1 := bx.cell 1 (.slice A n c) rfl
      have x2 := bx.cell 2 (.bool t) rfl
      have x3 := bx.cell 3 (.slice B m d) rfl
      go_wp2_with fail
      go_ret
      exact ⟨rfl, extW⟩
  · have d1 : decide ((n : Int) ≤ (10 : Int)) = false := decide_eq_false (by omega)
    have hf : few10 n m s xs t ys = false := by unfold few10; rw [decide_eq_false h1]; rfl
    rw [hf]
    clear hf
    go_enter Tryz.func34, Tryz.ntmps34
    go_upto_region 1 with (fail)
    obtain ⟨W, hW, extW, bx, hz⟩ := box1 w 26 #[.bool s, .slice A n c, .bool t, .slice B m d]
    rw [← hW]
    clear hW
    replace h := h.ext extW
    replace k := k.ext extW
    have x0 := bx.cell 0 (.bool s) rfl
    have x1 := bx.cell 1 (.slice A n c) rfl
    have x2 := bx.cell 2 (.bool t) rfl
    have x3 := bx.cell 3 (.slice B m d) rfl
    go_wp2_with fail
    go_ret
    exact ⟨rfl, extW⟩
set_option maxHeartbeats 4000000 in
theorem q_FewV (h : RI w A n c xs) (k : RI w B m d ys) (h' : RI w A' n' c' xs') (k' : RI w B' m' d' ys') : Calls Tryz.prog 54 #[.agg #[.bool s, .slice A n c, .bool t, .slice B m d, .bool s', .slice A' n' c', .bool t', .slice B' m' d'], .int .i64 10] w fun e w' => e = .returned (.bool (fewV n m n' m' s xs t ys s' xs' t' ys')) ∧ Ext w w' := by
  obtain ⟨r, hr⟩ : ∃ r, fewV n m n' m' s xs t ys s' xs' t' ys' = r := ⟨_, rfl⟩
  have HR := Lib.hid hr
  rw [hr]
  clear hr
  go_enter Tryz.func54, Tryz.ntmps54
  go_upto_region 1 with (fail)
  obtain ⟨W, hW, ext, bx, hz⟩ := box1 w 28 #[.bool s, .slice A n c, .bool t, .slice B m d, .bool s', .slice A' n' c', .bool t', .slice B' m' d']
  rw [← hW]
  clear hW hz
  have k0 := bx.cell 0 (.bool s) rfl
  have k1 := bx.cell 1 (.slice A n c) rfl
  have k2 := bx.cell 2 (.bool t) rfl
  have k3 := bx.cell 3 (.slice B m d) rfl
  have k4 := bx.cell 4 (.bool s') rfl
  have k5 := bx.cell 5 (.slice A' n' c') rfl
  have k6 := bx.cell 6 (.bool t') rfl
  have k7 := bx.cell 7 (.slice B' m' d') rfl
  cases hv : few10 n m s xs t ys with
  | false =>
    have HV := Lib.hid hv
    clear hv
    go_wp2_with fail
    refine (q_Few10 (h.ext ext) (k.ext ext)).mono ?_
    rintro e V ⟨rfl, hxc⟩
    rw [HV.out]
    go_wp2_with fail
    go_ret
    refine ⟨?_, ext.trans hxc⟩
    rw [← HR.out, fewV, HV.out]; rfl
  | true =>
    have hb1 := few10_le hv
    have HV := Lib.hid hv
    clear hv
    go_wp2_with fail
    refine (q_Few10 (h.ext ext) (k.ext ext)).mono ?_
    rintro e V ⟨rfl, hxc⟩
    rw [HV.out]
    replace bx := bx.ext hxc
    replace ext := ext.trans hxc
    clear hxc k0 k1 k2 k3 k4 k5 k6 k7
    have k0 := bx.cell 0 (.bool s) rfl
    have k1 := bx.cell 1 (.slice A n c) rfl
    have k2 := bx.cell 2 (.bool t) rfl
    have k3 := bx.cell 3 (.slice B m d) rfl
    have k4 := bx.cell 4 (.bool s') rfl
    have k5 := bx.cell 5 (.slice A' n' c') rfl
    have k6 := bx.cell 6 (.bool t') rfl
    have k7 := bx.cell 7 (.slice B' m' d') rfl
    cases hv' : few10 n' m' s' xs' t' ys' with
    | false =>
      have HV' := Lib.hid hv'
      clear hv'
      have HB := Lib.hid hb1
      clear hb1
      go_wp2_with fail
      refine (q_Few10 (h'.ext ext) (k'.ext ext)).mono ?_
      rintro e V2 ⟨rfl, hxc⟩
      rw [HV'.out]
      go_wp2_with fail
      go_ret
      refine ⟨?_, ext.trans hxc⟩
      rw [← HR.out, fewV, HV.out, HV'.out]; rfl
    | true =>
      have hb2 := few10_le hv'
      have HV' := Lib.hid hv'
      clear hv'
      have HB := Lib.hid (And.intro hb1 hb2)
      clear hb1 hb2
      go_wp2_with fail
      refine (q_Few10 (h'.ext ext) (k'.ext ext)).mono ?_
      rintro e V2 ⟨rfl, hxc⟩
      rw [HV'.out]
      replace bx := bx.ext hxc
      replace ext := ext.trans hxc
      clear hxc k0 k1 k2 k3 k4 k5 k6 k7
      have k0 := bx.cell 0 (.bool s) rfl
      have k1 := bx.cell 1 (.slice A n c) rfl
      have k2 := bx.cell 2 (.bool t) rfl
      have k3 := bx.cell 3 (.slice B m d) rfl
      have k4 := bx.cell 4 (.bool s') rfl
      have k5 := bx.cell 5 (.slice A' n' c') rfl
      have k6 := bx.cell 6 (.bool t') rfl
      have k7 := bx.cell 7 (.slice B' m' d') rfl
      go_wp2_with fail
      refine (q_ValidV (h.ext ext) (k.ext ext) (h'.ext ext) (k'.ext ext) (by have := HB.out; omega) (by have := HB.out; omega) (by have := HB.out; omega) (by have := HB.out; omega)).mono ?_
      rintro e V3 ⟨rfl, hxc⟩
      go_wp2_with fail
      go_ret
      refine ⟨?_, ext.trans hxc⟩
      rw [← HR.out, fewV, HV.out, HV'.out]; rfl
end
end Go.Proofs.YtoabhnofppledaaGreatDoor
namespace Go.Proofs.YtoabhnofppledaaGreatDoor
open Go.RowKit
attribute [local go_sem ↓] Go.wp_at_zero Go.wp_at_succ
set_option maxHeartbeats 8000000 in
theorem fewI2 {w : World} {g : Nat} {sa1 ta1 sa2 ta2 : Bool} {Aa1 Ba1 Aa2 Ba2 : Option Addr} {na1 ca1 ma1 da1 na2 ca2 ma2 da2 : Nat} {xa1 ya1 xa2 ya2 : List Nat} {sb1 tb1 sb2 tb2 : Bool} {Ab1 Bb1 Ab2 Bb2 : Option Addr} {nb1 cb1 mb1 db1 nb2 cb2 mb2 db2 : Nat} {xb1 yb1 xb2 yb2 : List Nat} (hbox : Box w g 28 #[.bool sa1, .slice Aa1 na1 ca1, .bool ta1, .slice Ba1 ma1 da1, .bool sa2, .slice Aa2 na2 ca2, .bool ta2, .slice Ba2 ma2 da2, .bool sb1, .slice Ab1 nb1 cb1, .bool tb1, .slice Bb1 mb1 db1, .bool sb2, .slice Ab2 nb2 cb2, .bool tb2, .slice Bb2 mb2 db2]) (ha : RawV w Aa1 na1 ca1 xa1 Ba1 ma1 da1 ya1 Aa2 na2 ca2 xa2 Ba2 ma2 da2 ya2) (hb : RawV w Ab1 nb1 cb1 xb1 Bb1 mb1 db1 yb1 Ab2 nb2 cb2 xb2 Bb2 mb2 db2 yb2) :
    Calls Tryz.prog 15 #[.slice (some ⟨g, 0, none⟩) 2 2] w fun e w' => e = .returned (.bool (fewV na1 ma1 na2 ma2 sa1 xa1 ta1 ya1 sa2 xa2 ta2 ya2 && (fewV nb1 mb1 nb2 mb2 sb1 xb1 tb1 yb1 sb2 xb2 tb2 yb2))) ∧ Ext w w' := by
  go_enter Tryz.func15, Tryz.ntmps15
  go_wp2_with fail
  go_loopw [7] (fun i wr => ∃ k : Nat, k ≤ 2 ∧ i = .int .i64 (k : Int) ∧ Ext w wr ∧ ((0 < k → fewV na1 ma1 na2 ma2 sa1 xa1 ta1 ya1 sa2 xa2 ta2 ya2 = true) ∧ (1 < k → fewV nb1 mb1 nb2 mb2 sb1 xb1 tb1 yb1 sb2 xb2 tb2 yb2 = true))) (fun i _ => 2 - (intOf i).toNat)
  case atStart => exact ⟨0, by omega, rfl, Ext.refl _, by simp⟩
  case round =>
    obtain ⟨k, hk, rfl, hext, hall⟩ := hrel
    have HA := Lib.hid hall
    clear hall
    have c0 := (hbox.ext hext).cell 0 (.bool sa1) rfl
    have c1 := (hbox.ext hext).cell 1 (.slice Aa1 na1 ca1) rfl
    have c2 := (hbox.ext hext).cell 2 (.bool ta1) rfl
    have c3 := (hbox.ext hext).cell 3 (.slice Ba1 ma1 da1) rfl
    have c4 := (hbox.ext hext).cell 4 (.bool sa2) rfl
    have c5 := (hbox.ext hext).cell 5 (.slice Aa2 na2 ca2) rfl
    have c6 := (hbox.ext hext).cell 6 (.bool ta2) rfl
    have c7 := (hbox.ext hext).cell 7 (.slice Ba2 ma2 da2) rfl
    have c8 := (hbox.ext hext).cell 8 (.bool sb1) rfl
    have c9 := (hbox.ext hext).cell 9 (.slice Ab1 nb1 cb1) rfl
    have c10 := (hbox.ext hext).cell 10 (.bool tb1) rfl
    have c11 := (hbox.ext hext).cell 11 (.slice Bb1 mb1 db1) rfl
    have c12 := (hbox.ext hext).cell 12 (.bool sb2) rfl
    have c13 := (hbox.ext hext).cell 13 (.slice Ab2 nb2 cb2) rfl
    have c14 := (hbox.ext hext).cell 14 (.bool tb2) rfl
    have c15 := (hbox.ext hext).cell 15 (.slice Bb2 mb2 db2) rfl
    have hk2 : k = 0 ∨ k = 1 ∨ k = 2 := by omega
    rcases hk2 with rfl | rfl | rfl
    · go_wp2_with (fail)
      refine (q_FewV (ha.ext (hext.alloc _)).1 (ha.ext (hext.alloc _)).2.1 (ha.ext (hext.alloc _)).2.2.1 (ha.ext (hext.alloc _)).2.2.2).mono ?_
      rintro e V ⟨rfl, hxv⟩
      replace hext := (hext.alloc _).trans hxv
      cases hf : fewV na1 ma1 na2 ma2 sa1 xa1 ta1 ya1 sa2 xa2 ta2 ya2 with
      | true =>
        have HF := Lib.hid hf
        clear hf
        go_wp2_with fail
        go_roundw
        case rel => exact ⟨1, by omega, rfl, hext, by have := HA.out; simp [HF.out] at this ⊢; try exact this⟩
        case measure => simp [intOf]
      | false =>
        have HF := Lib.hid hf
        clear hf
        go_wp2_with fail
        go_ret
        exact ⟨by have := HA.out; simp [HF.out] at this ⊢, hext⟩
    · go_wp2_with (fail)
      refine (q_FewV (hb.ext (hext.alloc _)).1 (hb.ext (hext.alloc _)).2.1 (hb.ext (hext.alloc _)).2.2.1 (hb.ext (hext.alloc _)).2.2.2).mono ?_
      rintro e V ⟨rfl, hxv⟩
      replace hext := (hext.alloc _).trans hxv
      cases hf : fewV nb1 mb1 nb2 mb2 sb1 xb1 tb1 yb1 sb2 xb2 tb2 yb2 with
      | true =>
        have HF := Lib.hid hf
        clear hf
        go_wp2_with fail
        go_roundw
        case rel => exact ⟨2, by omega, rfl, hext, by have := HA.out; simp [HF.out] at this ⊢; try exact this⟩
        case measure => simp [intOf]
      | false =>
        have HF := Lib.hid hf
        clear hf
        go_wp2_with fail
        go_ret
        exact ⟨by have := HA.out; simp [HF.out] at this ⊢, hext⟩
    · go_wp2_with fail
      go_ret
      exact ⟨by have := HA.out; simp at this; simp [this], hext⟩
end Go.Proofs.YtoabhnofppledaaGreatDoor
namespace Go.Proofs.YtoabhnofppledaaGreatDoor
open Go.RowKit
section
variable {P : Program} {md : Region.Mode} {ops : Array Oper} {Q : Exit → Act → World → Prop} {W0 : World}
theorem Late.two {AL : List Al} {n i i2 : Nat} {o o2 : Oper} {L : Array Bool} {a : Act} {w : World} (ho : ops[i]? = some o) (ho2 : ops[i2]? = some o2) (hs : Region.noSelect ops = true) (hal : ∀ x ∈ AL, IsAl P ops x)
    (hr : Region.ready md ops (allMarks L AL) = [i, i2]) (hri : (Region.ready md ops L).contains i = true) (hp : sep ops AL i o = true) (hp2 : sep ops AL i2 o2 = true) (hQ : QStill Q)
    (h : ∀ w', Ext w w' → Ext W0 w' → ∀ K : Act → World → Prop, Shut (∀ a' w'', Ext w' w'' → Late P md ops Q W0 AL n (L.setIfInBounds i true) a' w'' → K a' w'') → if Region.wanted o (yielded ops a.tmps) = true then Oper.wp P o a w' K Q else K (a.put o.dst undef) w')
    (h2 : ∀ w', Ext w w' → Ext W0 w' → ∀ K : Act → World → Prop, Shut (∀ a' w'', Ext w' w'' → Late P md ops Q W0 AL n (L.setIfInBounds i2 true) a' w'' → K a' w'') → if Region.wanted o2 (yielded ops a.tmps) = true then Oper.wp P o2 a w' K Q else K (a.put o2.dst undef) w') :
    Late P md ops Q W0 AL (n + 1) L a w := by
  have fin : ∀ (j : Nat) (oj : Oper) (hoj : ops[j]? = some oj) (hpj : sep ops AL j oj = true)
      (hj : ∀ w', Ext w w' → Ext W0 w' → ∀ K : Act → World → Prop, Shut (∀ a' w'', Ext w' w'' → Late P md ops Q W0 AL n (L.setIfInBounds j true) a' w'' → K a' w'') → if Region.wanted oj (yielded ops a.tmps) = true then Oper.wp P oj a w' K Q else K (a.put oj.dst undef) w')
      (w' : World) (_ : Ext w w') (_ : Ext W0 w') (D : List (Al × Nat)) (_ : Val W0 AL w' D) (f : Nat) (_ : n + 1 + AL.length = f + 1 + D.length),
      wpOp P ops Q j (fun a' w'' => Ext W0 w'' ∧ wpAnyH P md ops Q (Ext W0) f ((marks L D).setIfInBounds j true) a' w'') (lays a D) w' := by
    intro j oj hoj hpj hj w' e hS D hD f hl
    have hsep := fun y (hy : y ∈ D) => sep_spec hpj (hD.mem y hy)
    refine wpOp_lays hoj (fun cs b => Region.noSelect_spec hs j oj cs b hoj) hQ D _ a (fun y hy => (hsep y hy).2) (wpOp_step hoj fun K' hK => hj w' e hS K' (fun a' w'' e' hL => hK a' w'' ?_))
    have hS' := hS.trans e'
    refine ⟨hS', ?_⟩
    have := hL w'' (Ext.refl _) hS' D (hD.ext e') f (by omega)
    rwa [marks_set D L j (fun y hy => (hsep y hy).1)] at this
  have go : ∀ (k : Nat) w', Ext w w' → Ext W0 w' → ∀ D, Val W0 AL w' D → AL.length ≤ D.length + k → ∀ f, n + 1 + AL.length = f + D.length → wpAnyH P md ops Q (Ext W0) f (marks L D) (lays a D) w' := by
    intro k
    induction k with
    | zero =>
      intro w' e hS D hD hk f hl
      have hlen := hD.len
      obtain ⟨f, rfl⟩ : ∃ k, f = k + 1 := ⟨f - 1, by omega⟩
      have hsep := fun y (hy : y ∈ D) => sep_spec hp (hD.mem y hy)
      have hir : i ∈ Region.ready md ops (marks L D) := ready_marks D L (by simpa using hri) (fun y hy => (hsep y hy).1)
      refine ⟨(fun h0 => by rw [h0] at hir; cases hir), fun j hj => ?_⟩
      have hji : j = i ∨ j = i2 := by
        by_cases hx : ∃ x ∈ AL, x.i = j
        · obtain ⟨x, hx, rfl⟩ := hx
          have hun := (marks_un D L x.i (mem_ready.1 hj).1).2
          have := hD.len_lt hx hun
          omega
        · have := ready_all hD.mem hj (fun x hx' e => hx ⟨x, hx', e⟩)
          rw [hr] at this
          simpa using this
      rcases hji with e' | e'
      · rw [e']; exact fin i o ho hp h w' e hS D hD f hl
      · rw [e']; exact fin i2 o2 ho2 hp2 h2 w' e hS D hD f hl
    | succ k ih =>
      intro w' e hS D hD hk f hl
      have hlen := hD.len
      obtain ⟨f, rfl⟩ : ∃ k, f = k + 1 := ⟨f - 1, by omega⟩
      have hsep := fun y (hy : y ∈ D) => sep_spec hp (hD.mem y hy)
      have hir : i ∈ Region.ready md ops (marks L D) := ready_marks D L (by simpa using hri) (fun y hy => (hsep y hy).1)
      refine ⟨(fun h0 => by rw [h0] at hir; cases hir), fun j hj => ?_⟩
      by_cases hx : ∃ x ∈ AL, x.i = j
      · obtain ⟨x, hx, rfl⟩ := hx
        have hun := (marks_un D L x.i (mem_ready.1 hj).1).2
        refine wpOp_alloc (hal x hx) ?_
        have e1 := (Ext.refl w').alloc (.cells x.cs x.t)
        have hS1 := hS.trans e1
        refine ⟨hS1, ?_⟩
        have := ih (w'.alloc (.cells x.cs x.t)) (e.trans e1) hS1 (D ++ [(x, w'.heap.size)]) (hD.snoc hx hun hS) (by simp; omega) f (by simp; omega)
        rwa [marks_snoc, lays_snoc] at this
      · have := ready_all hD.mem hj (fun x hx' e => hx ⟨x, hx', e⟩)
        rw [hr] at this
        have hji : j = i ∨ j = i2 := by simpa using this
        rcases hji with e' | e'
        · rw [e']; exact fin i o ho hp h w' e hS D hD f hl
        · rw [e']; exact fin i2 o2 ho2 hp2 h2 w' e hS D hD f hl
  exact fun w' e hS D hD f hl => go AL.length w' e hS D hD (by omega) f hl
theorem at_wpL {z f : Nat} {L : Array Bool} {a : Act} {w : World} (C : World → Prop) (h : C w) (k : ∀ V, C V → wpL P md ops Q W0 z f L a V) : wpL P md ops Q W0 z f L a w := k w h
end
end Go.Proofs.YtoabhnofppledaaGreatDoor
namespace Go.Proofs.YtoabhnofppledaaGreatDoor
open Go.RowKit
attribute [local go_sem ↓] Go.wp_at_zero Go.wp_at_succ
/-- a row of numbers. -/
def RetRow (qs : List Rat) (L : Nat) (w : World) (e : Ending) (w' : World) : Prop := ∃ g cap, e = .returned (.slice (some ⟨g, 0, none⟩) 4 cap) ∧ RatsAt w' g 0 qs L ∧ Ext w w'
section
variable {w w' : World} {q p lo hi lo' hi' x : Rat} {L M : Nat} {s t s' t' sx tx u v u' v' : Bool} {A B A' B' Ax Bx C D C' D' : Option Addr} {n c m d n' c' m' d' nx cx mx dx i j k l i' j' k' l' : Nat} {qs : List Rat}
set_option maxHeartbeats 32000000 in
set_option maxRecDepth 100000 in
theorem q_ends_Add (h : IV w lo hi L s A n c t B m d s' A' n' c' t' B' m' d') (h' : IV w lo' hi' M u C i j v D k l u' C' i' j' v' D' k' l') (hL : L ≤ 20) (hM : M ≤ 20) : Calls Tryz.prog 58 #[.agg #[.bool s, .slice A n c, .bool t, .slice B m d, .bool s', .slice A' n' c', .bool t', .slice B' m' d'], .agg #[.bool u, .slice C i j, .bool v, .slice D k l, .bool u', .slice C' i' j', .bool v', .slice D' k' l'], .int .i64 0] w (RetRow (prods (fun x y => x + y) [lo, hi] [lo', hi']) (L + M + 1) w) := by
  obtain ⟨l1, hl1⟩ : ∃ l, [lo, hi] = l := ⟨_, rfl⟩
  obtain ⟨l2, hl2⟩ : ∃ l, [lo', hi'] = l := ⟨_, rfl⟩
  have hc1 : CellsOf w L l1 [.bool s, .slice A n c, .bool t, .slice B m d, .bool s', .slice A' n' c', .bool t', .slice B' m' d'] := by rw [← hl1]; exact .cons h.low (.cons h.high .nil)
  have hc2 : CellsOf w M l2 [.bool u, .slice C i j, .bool v, .slice D k l, .bool u', .slice C' i' j', .bool v', .slice D' k' l'] := by rw [← hl2]; exact .cons h'.low (.cons h'.high .nil)
  have Hn1 := Lib.hid (show l1.length = 2 by rw [← hl1]; rfl)
  have Hn2 := Lib.hid (show l2.length = 2 by rw [← hl2]; rfl)
  rw [hl1, hl2]
  clear hl1 hl2 h h'
  go_enter Tryz.func58, Tryz.ntmps58
  go_upto_region 1 with (fail)
  obtain ⟨W, hW, ext, bx, by_, hz⟩ := box2 w 28 28 #[.bool s, .slice A n c, .bool t, .slice B m d, .bool s', .slice A' n' c', .bool t', .slice B' m' d'] #[.bool u, .slice C i j, .bool v, .slice D k l, .bool u', .slice C' i' j', .bool v', .slice D' k' l']
  rw [← hW]
  clear hW hz
  replace hc1 := hc1.ext ext
  replace hc2 := hc2.ext ext
  go_upto_region 2 with (fail)
  have ES0 := Ext.refl W
  refine wp_region_held_drew (S := Ext W) (by kernel_rfl) ES0.drew (fun ES => ?_)
  clear ES0
  refine Late.start0 (fun _ _ _ _ _ => ⟨fun h => h, fun h => h⟩) ES (fun hAl hQ => ?_)
  refine Late.take (i := 0) (d := some 12) (v := ?v0_150) rfl rfl (by kernel_rfl) (by kernel_rfl) (by kernel_rfl) (by kernel_rfl) hQ (Or.inl ⟨by rfl, ?y0_150⟩) ?r0_150
  case y0_150 =>
    intro w' hSw
    have k00 := (bx.ext hSw).c8
    have k10 := (by_.ext hSw).c8
    go_simp
    try with_reducible rfl
  try simp only [Act.put]
  try simp only [List.setIfInBounds_toArray]
  try simp only [List.set_cons_succ]
  try simp only [List.set_cons_zero]
  refine Late.take (i := 1) (d := some 13) (v := ?v1_151) rfl rfl (by kernel_rfl) (by kernel_rfl) (by kernel_rfl) (by kernel_rfl) hQ (Or.inl ⟨by rfl, ?y1_151⟩) ?r1_151
  case y1_151 =>
    intro w' hSw
    have k00 := (bx.ext hSw).c8
    have k10 := (by_.ext hSw).c8
    go_simp
    try with_reducible rfl
  try simp only [Act.put]
  try simp only [List.setIfInBounds_toArray]
  try simp only [List.set_cons_succ]
  try simp only [List.set_cons_zero]
  refine Late.take (i := 2) (d := some 14) (v := ?v2_152) rfl rfl (by kernel_rfl) (by kernel_rfl) (by kernel_rfl) (by kernel_rfl) hQ (Or.inl ⟨by rfl, ?y2_152⟩) ?r2_152
  case y2_152 =>
    intro w' hSw
    have k00 := (bx.ext hSw).c8
    have k10 := (by_.ext hSw).c8
    go_simp
    try with_reducible rfl
  try simp only [Act.put]
  try simp only [List.setIfInBounds_toArray]
  try simp only [List.set_cons_succ]
  try simp only [List.set_cons_zero]
  refine Late.take (i := 3) (d := some 15) (v := ?v3_153) rfl rfl (by kernel_rfl) (by kernel_rfl) (by kernel_rfl) (by kernel_rfl) hQ (Or.inl ⟨by rfl, ?y3_153⟩) ?r3_153
  case y3_153 =>
    intro w' hSw
    have k00 := (bx.ext hSw).c8
    have k10 := (by_.ext hSw).c8
    go_simp
    try with_reducible rfl
  try simp only [Act.put]
  try simp only [List.setIfInBounds_toArray]
  try simp only [List.set_cons_succ]
  try simp only [List.set_cons_zero]
  refine Late.take (i := 5) (d := some 17) (v := ?v5_154) rfl rfl (by kernel_rfl) (by kernel_rfl) (by kernel_rfl) (by kernel_rfl) hQ (Or.inl ⟨by rfl, ?y5_154⟩) ?r5_154
  case y5_154 =>
    intro w' hSw
    have k00 := (bx.ext hSw).c8
    have k10 := (by_.ext hSw).c8
    go_simp
    try with_reducible rfl
  try simp only [Act.put]
  try simp only [List.setIfInBounds_toArray]
  try simp only [List.set_cons_succ]
  try simp only [List.set_cons_zero]
  refine Late.take (i := 6) (d := some 18) (v := ?v6_155) rfl rfl (by kernel_rfl) (by kernel_rfl) (by kernel_rfl) (by kernel_rfl) hQ (Or.inl ⟨by rfl, ?y6_155⟩) ?r6_155
  case y6_155 =>
    intro w' hSw
    have k00 := (bx.ext hSw).c8
    have k10 := (by_.ext hSw).c8
    go_simp
    try with_reducible rfl
  try simp only [Act.put]
  try simp only [List.setIfInBounds_toArray]
  try simp only [List.set_cons_succ]
  try simp only [List.set_cons_zero]
  refine Late.take (i := 7) (d := some 19) (v := ?v7_156) rfl rfl (by kernel_rfl) (by kernel_rfl) (by kernel_rfl) (by kernel_rfl) hQ (Or.inl ⟨by rfl, ?y7_156⟩) ?r7_156
  case y7_156 =>
    intro w' hSw
    have k00 := (bx.ext hSw).c8
    have k10 := (by_.ext hSw).c8
    go_simp
    try with_reducible rfl
  try simp only [Act.put]
  try simp only [List.setIfInBounds_toArray]
  try simp only [List.set_cons_succ]
  try simp only [List.set_cons_zero]
  refine Late.take (i := 8) (d := some 20) (v := ?v8_157) rfl rfl (by kernel_rfl) (by kernel_rfl) (by kernel_rfl) (by kernel_rfl) hQ (Or.inl ⟨by rfl, ?y8_157⟩) ?r8_157
  case y8_157 =>
    intro w' hSw
    have k00 := (bx.ext hSw).c8
    have k10 := (by_.ext hSw).c8
    go_simp
    try with_reducible rfl
  try simp only [Act.put]
  try simp only [List.setIfInBounds_toArray]
  try simp only [List.set_cons_succ]
  try simp only [List.set_cons_zero]
  refine Late.two (i := 4) (i2 := 9) rfl rfl (by kernel_rfl) hAl (by kernel_rfl) (by kernel_rfl) (by kernel_rfl) (by kernel_rfl) hQ (fun w4 e4 E4 K hK => ?_) (fun w9 e9 E9 K hK => ?_)
  · have hx4 := (Ext.refl w4).alloc (.cells #[.bool s, .slice A n c, .bool t, .slice B m d, .bool s', .slice A' n' c', .bool t', .slice B' m' d'] 26)
    have bX := Box.new w4 26 #[.bool s, .slice A n c, .bool t, .slice B m d, .bool s', .slice A' n' c', .bool t', .slice B' m' d']
    go_simp
    refine hK.out _ _ hx4 ?_
    clear hK K
    try simp only [Act.put]
    try simp only [List.setIfInBounds_toArray]
    try simp only [List.set_cons_succ]
    try simp only [List.set_cons_zero]
    generalize w4.heap.size = gx at bX ⊢
    refine Late.take (i := 10) (d := some 8) (v := ?v10_158) rfl rfl (by kernel_rfl) (by kernel_rfl) (by kernel_rfl) (by kernel_rfl) hQ (Or.inl ⟨by rfl, ?y10_158⟩) ?r10_158
    case y10_158 =>
      intro w' hSw
      go_simp
      try with_reducible rfl
    try simp only [Act.put]
    try simp only [List.setIfInBounds_toArray]
    try simp only [List.set_cons_succ]
    try simp only [List.set_cons_zero]
    refine Late.call (i := 9) rfl (by kernel_rfl) hAl (by kernel_rfl) (by kernel_rfl) (by kernel_rfl) hQ (fun w9 e9 E9 K hK => ?_)
    have hx9 := (Ext.refl w9).alloc (.cells #[.bool u, .slice C i j, .bool v, .slice D k l, .bool u', .slice C' i' j', .bool v', .slice D' k' l'] 26)
    have bY := Box.new w9 26 #[.bool u, .slice C i j, .bool v, .slice D k l, .bool u', .slice C' i' j', .bool v', .slice D' k' l']
    go_simp
    refine hK.out _ _ hx9 ?_
    clear hK K
    try simp only [Act.put]
    try simp only [List.setIfInBounds_toArray]
    try simp only [List.set_cons_succ]
    try simp only [List.set_cons_zero]
    generalize w9.heap.size = gy at bY ⊢
    refine Late.take (i := 11) (d := some 9) (v := ?v11_159) rfl rfl (by kernel_rfl) (by kernel_rfl) (by kernel_rfl) (by kernel_rfl) hQ (Or.inl ⟨by rfl, ?y11_159⟩) ?r11_159
    case y11_159 =>
      intro w' hSw
      go_simp
      try with_reducible rfl
    try simp only [Act.put]
    try simp only [List.setIfInBounds_toArray]
    try simp only [List.set_cons_succ]
    try simp only [List.set_cons_zero]
    refine Late.done0 (by kernel_rfl) (fun wz ez Ez => ?_)
    clear hAl hQ ES
    replace bX := bX.ext (e9.trans (hx9.trans ez))
    replace bY := bY.ext ez
    clear e4 e9 E4 E9 hx4 hx9 ez
    replace hc1 := hc1.ext Ez
    replace hc2 := hc2.ext Ez
    go_wp2_with fail
    go_loopw [7, 10] (fun v i wr => ∃ (a1 : Nat), a1 ≤ 2 ∧ i = .int .i64 (a1 : Int) ∧ Ext wz wr ∧ Row4 wr wz.heap.size v (prods (fun x y => x + y) (l1.take a1) l2) (L + M + 1)) (fun _ i _ => 2 - (intOf i).toNat)
    case atStart => exact ⟨0, Nat.zero_le _, rfl, Ext.refl _, Row4.nil _ _ _⟩
    case round =>
      obtain ⟨a1, hk, rfl, extr, hrow⟩ := hrel
      by_cases hlt : a1 < 2
      · have hkq : a1 < l1.length := by rw [Hn1.out]; exact hlt
        have HT := Lib.hid (show l1.take (a1 + 1) = l1.take a1 ++ [l1[a1]] from List.take_succ_eq_append_getElem hkq)
        have d1 : decide ((a1 : Int) < 2) = true := decide_eq_true (by omega)
        go_wp2_with fail
        try rw [d1]
        clear d1
        have hI1 : (a1 : Int) < 2 := by omega
        go_loopw [7, 11] (fun v i wq => ∃ (a2 : Nat), a2 ≤ 2 ∧ i = .int .i64 (a2 : Int) ∧ Ext wz wq ∧ Row4 wq wz.heap.size v (prods (fun x y => x + y) (l1.take a1) l2 ++ (l2.take a2).map (fun y => (l1[a1]'hkq) + y)) (L + M + 1)) (fun _ i _ => 2 - (intOf i).toNat)
        case atStart => exact ⟨0, Nat.zero_le _, rfl, extr, by rw [List.take_zero, List.map_nil, List.append_nil]; exact hrow⟩
        case round =>
          clear extr hrow
          obtain ⟨a2, hk2, rfl, extr, hrow⟩ := hrel
          by_cases hlt2 : a2 < 2
          · have hkq2 : a2 < l2.length := by rw [Hn2.out]; exact hlt2
            have hlen := row_len (fun x y => x + y) (fun y => (l1[a1]'hkq) + y) (l := l1) (l' := l2) a1 a2 (by rw [Hn1.out]; exact Nat.le_refl _) (by rw [Hn2.out]; exact Nat.le_refl _)
            obtain ⟨s9, A9, n9, c9, t9, B9, m9, d9, e0, e1, e2, e3, hx⟩ := (RatsAt.of_box (bX.ext extr) (hc1.ext extr)).at_ a1 hkq
            rw [Nat.zero_add] at e0 e1 e2 e3
            have e0' : wr.cell? ⟨gx, a1 * 4, none⟩ = some (.bool s9) := by rw [Nat.mul_comm]; exact e0
            have e1' : wr.cell? ⟨gx, a1 * 4 + 1, none⟩ = some (.slice A9 n9 c9) := by rw [Nat.mul_comm]; exact e1
            have e2' : wr.cell? ⟨gx, a1 * 4 + 2, none⟩ = some (.bool t9) := by rw [Nat.mul_comm]; exact e2
            have e3' : wr.cell? ⟨gx, a1 * 4 + 3, none⟩ = some (.slice B9 m9 d9) := by rw [Nat.mul_comm]; exact e3
            have u0' := e0'
            have u1' := e1'
            have u2' := e2'
            have u3' := e3'
            clear e0 e1 e2 e3 e0' e1' e2' e3'
            obtain ⟨s8, A8, n8, c8, t8, B8, m8, d8, e0, e1, e2, e3, hy⟩ := (RatsAt.of_box (bY.ext extr) (hc2.ext extr)).at_ a2 hkq2
            rw [Nat.zero_add] at e0 e1 e2 e3
            have HT2 := Lib.hid (show l2.take (a2 + 1) = l2.take a2 ++ [l2[a2]] from List.take_succ_eq_append_getElem hkq2)
            have e0' : wr.cell? ⟨gy, a2 * 4, none⟩ = some (.bool s8) := by rw [Nat.mul_comm]; exact e0
            have e1' : wr.cell? ⟨gy, a2 * 4 + 1, none⟩ = some (.slice A8 n8 c8) := by rw [Nat.mul_comm]; exact e1
            have e2' : wr.cell? ⟨gy, a2 * 4 + 2, none⟩ = some (.bool t8) := by rw [Nat.mul_comm]; exact e2
            have e3' : wr.cell? ⟨gy, a2 * 4 + 3, none⟩ = some (.slice B8 m8 d8) := by rw [Nat.mul_comm]; exact e3
            clear e0 e1 e2 e3
            go_upto_region 12 with (fail)
            refine wpL.start 11 (by kernel_rfl) (fun _ _ _ _ _ => ⟨fun h => h, fun h => h⟩) (fun hQ ES => ?_)
            refine wpL.takeB [11] (i := 0) (d := some 45) (v := ?v0_141) rfl rfl (by kernel_rfl) (by kernel_rfl) (by kernel_rfl) (by kernel_rfl) hQ (Or.inl ⟨by rfl, ?y0_141⟩) ES ?r0_141
            case y0_141 =>
              intro w' hSw
              have j0 := (hSw.cellv e0')
              have j1 := (hSw.cellv e1')
              have j2 := (hSw.cellv e2')
              have j3 := (hSw.cellv e3')
              have jj0 := (hSw.cellv u0')
              have jj1 := (hSw.cellv u1')
              have jj2 := (hSw.cellv u2')
              have jj3 := (hSw.cellv u3')
              go_simp
              try with_reducible rfl
            try simp only [Act.put]
            try simp only [List.setIfInBounds_toArray]
            try simp only [List.set_cons_succ]
            try simp only [List.set_cons_zero]
            refine wpL.takeB [3, 4, 9, 10, 11] (i := 1) (d := some 46) (v := ?v1_142) rfl rfl (by kernel_rfl) (by kernel_rfl) (by kernel_rfl) (by kernel_rfl) hQ (Or.inl ⟨by rfl, ?y1_142⟩) ES ?r1_142
            case y1_142 =>
              intro w' hSw
              have j0 := (hSw.cellv e0')
              have j1 := (hSw.cellv e1')
              have j2 := (hSw.cellv e2')
              have j3 := (hSw.cellv e3')
              have jj0 := (hSw.cellv u0')
              have jj1 := (hSw.cellv u1')
              have jj2 := (hSw.cellv u2')
              have jj3 := (hSw.cellv u3')
              go_simp
              try with_reducible rfl
            try simp only [Act.put]
            try simp only [List.setIfInBounds_toArray]
            try simp only [List.set_cons_succ]
            try simp only [List.set_cons_zero]
            refine wpL.takeB [3, 4, 9, 10, 11] (i := 2) (d := some 47) (v := ?v2_143) rfl rfl (by kernel_rfl) (by kernel_rfl) (by kernel_rfl) (by kernel_rfl) hQ (Or.inl ⟨by rfl, ?y2_143⟩) ES ?r2_143
            case y2_143 =>
              intro w' hSw
              have j0 := (hSw.cellv e0')
              have j1 := (hSw.cellv e1')
              have j2 := (hSw.cellv e2')
              have j3 := (hSw.cellv e3')
              have jj0 := (hSw.cellv u0')
              have jj1 := (hSw.cellv u1')
              have jj2 := (hSw.cellv u2')
              have jj3 := (hSw.cellv u3')
              go_simp
              try with_reducible rfl
            try simp only [Act.put]
            try simp only [List.setIfInBounds_toArray]
            try simp only [List.set_cons_succ]
            try simp only [List.set_cons_zero]
            refine wpL.takeB [4, 9, 10, 11] (i := 3) (d := some 48) (v := ?v3_144) rfl rfl (by kernel_rfl) (by kernel_rfl) (by kernel_rfl) (by kernel_rfl) hQ (Or.inl ⟨by rfl, ?y3_144⟩) ES ?r3_144
            case y3_144 =>
              intro w' hSw
              have j0 := (hSw.cellv e0')
              have j1 := (hSw.cellv e1')
              have j2 := (hSw.cellv e2')
              have j3 := (hSw.cellv e3')
              have jj0 := (hSw.cellv u0')
              have jj1 := (hSw.cellv u1')
              have jj2 := (hSw.cellv u2')
              have jj3 := (hSw.cellv u3')
              go_simp
              try with_reducible rfl
            try simp only [Act.put]
            try simp only [List.setIfInBounds_toArray]
            try simp only [List.set_cons_succ]
            try simp only [List.set_cons_zero]
            refine wpL.takeB [9, 10, 11] (i := 4) (d := some 49) (v := ?v4_145) rfl rfl (by kernel_rfl) (by kernel_rfl) (by kernel_rfl) (by kernel_rfl) hQ (Or.inl ⟨by rfl, ?y4_145⟩) ES ?r4_145
            case y4_145 =>
              intro w' hSw
              have j0 := (hSw.cellv e0')
              have j1 := (hSw.cellv e1')
              have j2 := (hSw.cellv e2')
              have j3 := (hSw.cellv e3')
              have jj0 := (hSw.cellv u0')
              have jj1 := (hSw.cellv u1')
              have jj2 := (hSw.cellv u2')
              have jj3 := (hSw.cellv u3')
              go_simp
              try with_reducible rfl
            try simp only [Act.put]
            try simp only [List.setIfInBounds_toArray]
            try simp only [List.set_cons_succ]
            try simp only [List.set_cons_zero]
            refine wpL.takeB [7, 8, 9, 10, 11] (i := 5) (d := some 50) (v := ?v5_146) rfl rfl (by kernel_rfl) (by kernel_rfl) (by kernel_rfl) (by kernel_rfl) hQ (Or.inl ⟨by rfl, ?y5_146⟩) ES ?r5_146
            case y5_146 =>
              intro w' hSw
              have j0 := (hSw.cellv e0')
              have j1 := (hSw.cellv e1')
              have j2 := (hSw.cellv e2')
              have j3 := (hSw.cellv e3')
              have jj0 := (hSw.cellv u0')
              have jj1 := (hSw.cellv u1')
              have jj2 := (hSw.cellv u2')
              have jj3 := (hSw.cellv u3')
              go_simp
              try with_reducible rfl
            try simp only [Act.put]
            try simp only [List.setIfInBounds_toArray]
            try simp only [List.set_cons_succ]
            try simp only [List.set_cons_zero]
            refine wpL.takeB [7, 8, 9, 10, 11] (i := 6) (d := some 51) (v := ?v6_147) rfl rfl (by kernel_rfl) (by kernel_rfl) (by kernel_rfl) (by kernel_rfl) hQ (Or.inl ⟨by rfl, ?y6_147⟩) ES ?r6_147
            case y6_147 =>
              intro w' hSw
              have j0 := (hSw.cellv e0')
              have j1 := (hSw.cellv e1')
              have j2 := (hSw.cellv e2')
              have j3 := (hSw.cellv e3')
              have jj0 := (hSw.cellv u0')
              have jj1 := (hSw.cellv u1')
              have jj2 := (hSw.cellv u2')
              have jj3 := (hSw.cellv u3')
              go_simp
              try with_reducible rfl
            try simp only [Act.put]
            try simp only [List.setIfInBounds_toArray]
            try simp only [List.set_cons_succ]
            try simp only [List.set_cons_zero]
            refine wpL.takeB [8, 9, 10, 11] (i := 7) (d := some 52) (v := ?v7_148) rfl rfl (by kernel_rfl) (by kernel_rfl) (by kernel_rfl) (by kernel_rfl) hQ (Or.inl ⟨by rfl, ?y7_148⟩) ES ?r7_148
            case y7_148 =>
              intro w' hSw
              have j0 := (hSw.cellv e0')
              have j1 := (hSw.cellv e1')
              have j2 := (hSw.cellv e2')
              have j3 := (hSw.cellv e3')
              have jj0 := (hSw.cellv u0')
              have jj1 := (hSw.cellv u1')
              have jj2 := (hSw.cellv u2')
              have jj3 := (hSw.cellv u3')
              go_simp
              try with_reducible rfl
            try simp only [Act.put]
            try simp only [List.setIfInBounds_toArray]
            try simp only [List.set_cons_succ]
            try simp only [List.set_cons_zero]
            refine wpL.takeB [9, 10, 11] (i := 8) (d := some 53) (v := ?v8_149) rfl rfl (by kernel_rfl) (by kernel_rfl) (by kernel_rfl) (by kernel_rfl) hQ (Or.inl ⟨by rfl, ?y8_149⟩) ES ?r8_149
            case y8_149 =>
              intro w' hSw
              have j0 := (hSw.cellv e0')
              have j1 := (hSw.cellv e1')
              have j2 := (hSw.cellv e2')
              have j3 := (hSw.cellv e3')
              have jj0 := (hSw.cellv u0')
              have jj1 := (hSw.cellv u1')
              have jj2 := (hSw.cellv u2')
              have jj3 := (hSw.cellv u3')
              go_simp
              try with_reducible rfl
            try simp only [Act.put]
            try simp only [List.setIfInBounds_toArray]
            try simp only [List.set_cons_succ]
            try simp only [List.set_cons_zero]
            refine wpL.call (i := 9) rfl (by kernel_rfl) (fun K hK => ?_)
            go_simp
            (go_at_call 43; refine (q_AddR (hx.ext ES) (hy.ext ES) (by omega) (by omega)).mono ?_; rintro e wk ⟨s7, A7, n7, c7, t7, B7, m7, d7, rfl, h7, hx7⟩; have E9 := Ext.trans ES hx7)
            refine hK.out _ _ E9 ?_
            clear hK K
            try simp only [Act.put]
            try simp only [List.setIfInBounds_toArray]
            try simp only [List.set_cons_succ]
            try simp only [List.set_cons_zero]
            refine wpL.call (i := 10) rfl (by kernel_rfl) (fun K hK => ?_)
            have ha7 := (Ext.refl wk).alloc (.cells #[.bool s7, .slice A7 n7 c7, .bool t7, .slice B7 m7 d7] 26)
            have b7 := Box.new wk 26 #[.bool s7, .slice A7 n7 c7, .bool t7, .slice B7 m7 d7]
            go_simp
            refine hK.out _ _ (E9.trans ha7) ?_
            clear hK K
            try simp only [Act.put]
            try simp only [List.setIfInBounds_toArray]
            try simp only [List.set_cons_succ]
            try simp only [List.set_cons_zero]
            replace h7 := h7.ext ha7
            have E10 := E9.trans ha7
            clear ha7 E9
            have hrow' := hrow.ext E10
            refine at_wpL (fun V => Ext wr V ∧ Row4 V wz.heap.size u7 (prods (fun x y => x + y) (l1.take a1) l2 ++ (l2.take a2).map (fun y => (l1[a1]'hkq) + y)) (L + M + 1) ∧ NR V ((l1[a1]'hkq) + (l2[a2]'hkq2)) (L + M + 1) s7 A7 n7 c7 t7 B7 m7 d7 ∧ Box V wk.heap.size 26 #[.bool s7, .slice A7 n7 c7, .bool t7, .slice B7 m7 d7]) ⟨E10, hrow', h7, b7⟩ ?_
            clear E10 hrow' h7 b7
            generalize wk.heap.size = g7
            rintro V ⟨E10, hrow', h7, b7⟩
            refine wpL.tail (i := 11) rfl (by kernel_rfl) (by kernel_rfl) (fun K hK => ?_)
            refine step_append_rat (by rfl) _ _ (by rfl) (by rfl) (by rfl) hrow' h7 b7 hlen (extr.trans E10).size ?_
            intro v6 W6 hrow6 hgr hob
            refine hK.out _ _ ?_
            clear hK K
            try simp only [Act.put]
            try simp only [List.setIfInBounds_toArray]
            try simp only [List.set_cons_succ]
            try simp only [List.set_cons_zero]
            refine wpL.tail (i := 12) rfl (by kernel_rfl) (by kernel_rfl) (fun K hK => ?_)
            go_simp
            refine hK.out _ _ ?_
            clear hK K
            try simp only [Act.put]
            try simp only [List.setIfInBounds_toArray]
            try simp only [List.set_cons_succ]
            try simp only [List.set_cons_zero]
            refine wpL.done (by kernel_rfl) ?_ _
            clear hQ
            go_wp2_with fail
            go_roundw
            case rel =>
              refine ⟨a2 + 1, by omega, by go_num, Below.grown (extr.trans E10) hgr (extr.trans E10).size (fun k hk => (hrow'.block k hk).1), ?_⟩
              rw [HT2.out, List.map_append, ← List.append_assoc]; exact hrow6
            case measure => simp [intOf]; omega
          · have hkn : a2 = 2 := by omega
            rw [hkn, List.take_of_length_le (Nat.le_of_eq Hn2.out)] at hrow
            go_wp2_with fail
            go_roundw
            case rel =>
              refine ⟨a1 + 1, by omega, by go_num, extr, ?_⟩
              rw [HT.out, prods_snoc]
              exact hrow
            case measure => simp [intOf]; omega
      · have hkn : a1 = 2 := by omega
        rw [hkn, List.take_of_length_le (Nat.le_of_eq Hn1.out)] at hrow
        have hpl : (prods (fun x y => x + y) l1 l2).length = 4 := by rw [prods_len, Hn1.out, Hn2.out]
        obtain ⟨g7, c7, rfl, hra⟩ := hrow.shape (fun h => by rw [h] at hpl; cases hpl)
        rw [hpl]
        clear hrow hpl
        go_wp2_with fail
        go_ret
        exact ⟨g7, c7, rfl, hra, (ext.trans Ez).trans extr⟩
  · have hx9 := (Ext.refl w9).alloc (.cells #[.bool u, .slice C i j, .bool v, .slice D k l, .bool u', .slice C' i' j', .bool v', .slice D' k' l'] 26)
    have bY := Box.new w9 26 #[.bool u, .slice C i j, .bool v, .slice D k l, .bool u', .slice C' i' j', .bool v', .slice D' k' l']
    go_simp
    refine hK.out _ _ hx9 ?_
    clear hK K
    try simp only [Act.put]
    try simp only [List.setIfInBounds_toArray]
    try simp only [List.set_cons_succ]
    try simp only [List.set_cons_zero]
    generalize w9.heap.size = gy at bY ⊢
    refine Late.call (i := 4) rfl (by kernel_rfl) hAl (by kernel_rfl) (by kernel_rfl) (by kernel_rfl) hQ (fun w4 e4 E4 K hK => ?_)
    have hx4 := (Ext.refl w4).alloc (.cells #[.bool s, .slice A n c, .bool t, .slice B m d, .bool s', .slice A' n' c', .bool t', .slice B' m' d'] 26)
    have bX := Box.new w4 26 #[.bool s, .slice A n c, .bool t, .slice B m d, .bool s', .slice A' n' c', .bool t', .slice B' m' d']
    go_simp
    refine hK.out _ _ hx4 ?_
    clear hK K
    try simp only [Act.put]
    try simp only [List.setIfInBounds_toArray]
    try simp only [List.set_cons_succ]
    try simp only [List.set_cons_zero]
    generalize w4.heap.size = gx at bX ⊢
    refine Late.take (i := 10) (d := some 8) (v := ?v10_160) rfl rfl (by kernel_rfl) (by kernel_rfl) (by kernel_rfl) (by kernel_rfl) hQ (Or.inl ⟨by rfl, ?y10_160⟩) ?r10_160
    case y10_160 =>
      intro w' hSw
      go_simp
      try with_reducible rfl
    try simp only [Act.put]
    try simp only [List.setIfInBounds_toArray]
    try simp only [List.set_cons_succ]
    try simp only [List.set_cons_zero]
    refine Late.take (i := 11) (d := some 9) (v := ?v11_161) rfl rfl (by kernel_rfl) (by kernel_rfl) (by kernel_rfl) (by kernel_rfl) hQ (Or.inl ⟨by rfl, ?y11_161⟩) ?r11_161
    case y11_161 =>
      intro w' hSw
      go_simp
      try with_reducible rfl
    try simp only [Act.put]
    try simp only [List.setIfInBounds_toArray]
    try simp only [List.set_cons_succ]
    try simp only [List.set_cons_zero]
    refine Late.done0 (by kernel_rfl) (fun wz ez Ez => ?_)
    clear hAl hQ ES
    replace bY := bY.ext (e4.trans (hx4.trans ez))
    replace bX := bX.ext ez
    clear e4 e9 E4 E9 hx4 hx9 ez
    replace hc1 := hc1.ext Ez
    replace hc2 := hc2.ext Ez
    go_wp2_with fail
    go_loopw [7, 10] (fun v i wr => ∃ (a1 : Nat), a1 ≤ 2 ∧ i = .int .i64 (a1 : Int) ∧ Ext wz wr ∧ Row4 wr wz.heap.size v (prods (fun x y => x + y) (l1.take a1) l2) (L + M + 1)) (fun _ i _ => 2 - (intOf i).toNat)
    case atStart => exact ⟨0, Nat.zero_le _, rfl, Ext.refl _, Row4.nil _ _ _⟩
    case round =>
      obtain ⟨a1, hk, rfl, extr, hrow⟩ := hrel
      by_cases hlt : a1 < 2
      · have hkq : a1 < l1.length := by rw [Hn1.out]; exact hlt
        have HT := Lib.hid (show l1.take (a1 + 1) = l1.take a1 ++ [l1[a1]] from List.take_succ_eq_append_getElem hkq)
        have d1 : decide ((a1 : Int) < 2) = true := decide_eq_true (by omega)
        go_wp2_with fail
        try rw [d1]
        clear d1
        have hI1 : (a1 : Int) < 2 := by omega
        go_loopw [7, 11] (fun v i wq => ∃ (a2 : Nat), a2 ≤ 2 ∧ i = .int .i64 (a2 : Int) ∧ Ext wz wq ∧ Row4 wq wz.heap.size v (prods (fun x y => x + y) (l1.take a1) l2 ++ (l2.take a2).map (fun y => (l1[a1]'hkq) + y)) (L + M + 1)) (fun _ i _ => 2 - (intOf i).toNat)
        case atStart => exact ⟨0, Nat.zero_le _, rfl, extr, by rw [List.take_zero, List.map_nil, List.append_nil]; exact hrow⟩
        case round =>
          clear extr hrow
          obtain ⟨a2, hk2, rfl, extr, hrow⟩ := hrel
          by_cases hlt2 : a2 < 2
          · have hkq2 : a2 < l2.length := by rw [Hn2.out]; exact hlt2
            have hlen := row_len (fun x y => x + y) (fun y => (l1[a1]'hkq) + y) (l := l1) (l' := l2) a1 a2 (by rw [Hn1.out]; exact Nat.le_refl _) (by rw [Hn2.out]; exact Nat.le_refl _)
            obtain ⟨s9, A9, n9, c9, t9, B9, m9, d9, e0, e1, e2, e3, hx⟩ := (RatsAt.of_box (bX.ext extr) (hc1.ext extr)).at_ a1 hkq
            rw [Nat.zero_add] at e0 e1 e2 e3
            have e0' : wr.cell? ⟨gx, a1 * 4, none⟩ = some (.bool s9) := by rw [Nat.mul_comm]; exact e0
            have e1' : wr.cell? ⟨gx, a1 * 4 + 1, none⟩ = some (.slice A9 n9 c9) := by rw [Nat.mul_comm]; exact e1
            have e2' : wr.cell? ⟨gx, a1 * 4 + 2, none⟩ = some (.bool t9) := by rw [Nat.mul_comm]; exact e2
            have e3' : wr.cell? ⟨gx, a1 * 4 + 3, none⟩ = some (.slice B9 m9 d9) := by rw [Nat.mul_comm]; exact e3
            have u0' := e0'
            have u1' := e1'
            have u2' := e2'
            have u3' := e3'
            clear e0 e1 e2 e3 e0' e1' e2' e3'
            obtain ⟨s8, A8, n8, c8, t8, B8, m8, d8, e0, e1, e2, e3, hy⟩ := (RatsAt.of_box (bY.ext extr) (hc2.ext extr)).at_ a2 hkq2
            rw [Nat.zero_add] at e0 e1 e2 e3
            have HT2 := Lib.hid (show l2.take (a2 + 1) = l2.take a2 ++ [l2[a2]] from List.take_succ_eq_append_getElem hkq2)
            have e0' : wr.cell? ⟨gy, a2 * 4, none⟩ = some (.bool s8) := by rw [Nat.mul_comm]; exact e0
            have e1' : wr.cell? ⟨gy, a2 * 4 + 1, none⟩ = some (.slice A8 n8 c8) := by rw [Nat.mul_comm]; exact e1
            have e2' : wr.cell? ⟨gy, a2 * 4 + 2, none⟩ = some (.bool t8) := by rw [Nat.mul_comm]; exact e2
            have e3' : wr.cell? ⟨gy, a2 * 4 + 3, none⟩ = some (.slice B8 m8 d8) := by rw [Nat.mul_comm]; exact e3
            clear e0 e1 e2 e3
            go_upto_region 12 with (fail)
            refine wpL.start 11 (by kernel_rfl) (fun _ _ _ _ _ => ⟨fun h => h, fun h => h⟩) (fun hQ ES => ?_)
            refine wpL.takeB [11] (i := 0) (d := some 45) (v := ?v0_141b) rfl rfl (by kernel_rfl) (by kernel_rfl) (by kernel_rfl) (by kernel_rfl) hQ (Or.inl ⟨by rfl, ?y0_141b⟩) ES ?r0_141b
            case y0_141b =>
              intro w' hSw
              have j0 := (hSw.cellv e0')
              have j1 := (hSw.cellv e1')
              have j2 := (hSw.cellv e2')
              have j3 := (hSw.cellv e3')
              have jj0 := (hSw.cellv u0')
              have jj1 := (hSw.cellv u1')
              have jj2 := (hSw.cellv u2')
              have jj3 := (hSw.cellv u3')
              go_simp
              try with_reducible rfl
            try simp only [Act.put]
            try simp only [List.setIfInBounds_toArray]
            try simp only [List.set_cons_succ]
            try simp only [List.set_cons_zero]
            refine wpL.takeB [3, 4, 9, 10, 11] (i := 1) (d := some 46) (v := ?v1_142b) rfl rfl (by kernel_rfl) (by kernel_rfl) (by kernel_rfl) (by kernel_rfl) hQ (Or.inl ⟨by rfl, ?y1_142b⟩) ES ?r1_142b
            case y1_142b =>
              intro w' hSw
              have j0 := (hSw.cellv e0')
              have j1 := (hSw.cellv e1')
              have j2 := (hSw.cellv e2')
              have j3 := (hSw.cellv e3')
              have jj0 := (hSw.cellv u0')
              have jj1 := (hSw.cellv u1')
              have jj2 := (hSw.cellv u2')
              have jj3 := (hSw.cellv u3')
              go_simp
              try with_reducible rfl
            try simp only [Act.put]
            try simp only [List.setIfInBounds_toArray]
            try simp only [List.set_cons_succ]
            try simp only [List.set_cons_zero]
            refine wpL.takeB [3, 4, 9, 10, 11] (i := 2) (d := some 47) (v := ?v2_143b) rfl rfl (by kernel_rfl) (by kernel_rfl) (by kernel_rfl) (by kernel_rfl) hQ (Or.inl ⟨by rfl, ?y2_143b⟩) ES ?r2_143b
            case y2_143b =>
              intro w' hSw
              have j0 := (hSw.cellv e0')
              have j1 := (hSw.cellv e1')
              have j2 := (hSw.cellv e2')
              have j3 := (hSw.cellv e3')
              have jj0 := (hSw.cellv u0')
              have jj1 := (hSw.cellv u1')
              have jj2 := (hSw.cellv u2')
              have jj3 := (hSw.cellv u3')
              go_simp
              try with_reducible rfl
            try simp only [Act.put]
            try simp only [List.setIfInBounds_toArray]
            try simp only [List.set_cons_succ]
            try simp only [List.set_cons_zero]
            refine wpL.takeB [4, 9, 10, 11] (i := 3) (d := some 48) (v := ?v3_144b) rfl rfl (by kernel_rfl) (by kernel_rfl) (by kernel_rfl) (by kernel_rfl) hQ (Or.inl ⟨by rfl, ?y3_144b⟩) ES ?r3_144b
            case y3_144b =>
              intro w' hSw
              have j0 := (hSw.cellv e0')
              have j1 := (hSw.cellv e1')
              have j2 := (hSw.cellv e2')
              have j3 := (hSw.cellv e3')
              have jj0 := (hSw.cellv u0')
              have jj1 := (hSw.cellv u1')
              have jj2 := (hSw.cellv u2')
              have jj3 := (hSw.cellv u3')
              go_simp
              try with_reducible rfl
            try simp only [Act.put]
            try simp only [List.setIfInBounds_toArray]
            try simp only [List.set_cons_succ]
            try simp only [List.set_cons_zero]
            refine wpL.takeB [9, 10, 11] (i := 4) (d := some 49) (v := ?v4_145b) rfl rfl (by kernel_rfl) (by kernel_rfl) (by kernel_rfl) (by kernel_rfl) hQ (Or.inl ⟨by rfl, ?y4_145b⟩) ES ?r4_145b
            case y4_145b =>
              intro w' hSw
              have j0 := (hSw.cellv e0')
              have j1 := (hSw.cellv e1')
              have j2 := (hSw.cellv e2')
              have j3 := (hSw.cellv e3')
              have jj0 := (hSw.cellv u0')
              have jj1 := (hSw.cellv u1')
              have jj2 := (hSw.cellv u2')
              have jj3 := (hSw.cellv u3')
              go_simp
              try with_reducible rfl
            try simp only [Act.put]
            try simp only [List.setIfInBounds_toArray]
            try simp only [List.set_cons_succ]
            try simp only [List.set_cons_zero]
            refine wpL.takeB [7, 8, 9, 10, 11] (i := 5) (d := some 50) (v := ?v5_146b) rfl rfl (by kernel_rfl) (by kernel_rfl) (by kernel_rfl) (by kernel_rfl) hQ (Or.inl ⟨by rfl, ?y5_146b⟩) ES ?r5_146b
            case y5_146b =>
              intro w' hSw
              have j0 := (hSw.cellv e0')
              have j1 := (hSw.cellv e1')
              have j2 := (hSw.cellv e2')
              have j3 := (hSw.cellv e3')
              have jj0 := (hSw.cellv u0')
              have jj1 := (hSw.cellv u1')
              have jj2 := (hSw.cellv u2')
              have jj3 := (hSw.cellv u3')
              go_simp
              try with_reducible rfl
            try simp only [Act.put]
            try simp only [List.setIfInBounds_toArray]
            try simp only [List.set_cons_succ]
            try simp only [List.set_cons_zero]
            refine wpL.takeB [7, 8, 9, 10, 11] (i := 6) (d := some 51) (v := ?v6_147b) rfl rfl (by kernel_rfl) (by kernel_rfl) (by kernel_rfl) (by kernel_rfl) hQ (Or.inl ⟨by rfl, ?y6_147b⟩) ES ?r6_147b
            case y6_147b =>
              intro w' hSw
              have j0 := (hSw.cellv e0')
              have j1 := (hSw.cellv e1')
              have j2 := (hSw.cellv e2')
              have j3 := (hSw.cellv e3')
              have jj0 := (hSw.cellv u0')
              have jj1 := (hSw.cellv u1')
              have jj2 := (hSw.cellv u2')
              have jj3 := (hSw.cellv u3')
              go_simp
              try with_reducible rfl
            try simp only [Act.put]
            try simp only [List.setIfInBounds_toArray]
            try simp only [List.set_cons_succ]
            try simp only [List.set_cons_zero]
            refine wpL.takeB [8, 9, 10, 11] (i := 7) (d := some 52) (v := ?v7_148b) rfl rfl (by kernel_rfl) (by kernel_rfl) (by kernel_rfl) (by kernel_rfl) hQ (Or.inl ⟨by rfl, ?y7_148b⟩) ES ?r7_148b
            case y7_148b =>
              intro w' hSw
              have j0 := (hSw.cellv e0')
              have j1 := (hSw.cellv e1')
              have j2 := (hSw.cellv e2')
              have j3 := (hSw.cellv e3')
              have jj0 := (hSw.cellv u0')
              have jj1 := (hSw.cellv u1')
              have jj2 := (hSw.cellv u2')
              have jj3 := (hSw.cellv u3')
              go_simp
              try with_reducible rfl
            try simp only [Act.put]
            try simp only [List.setIfInBounds_toArray]
            try simp only [List.set_cons_succ]
            try simp only [List.set_cons_zero]
            refine wpL.takeB [9, 10, 11] (i := 8) (d := some 53) (v := ?v8_149b) rfl rfl (by kernel_rfl) (by kernel_rfl) (by kernel_rfl) (by kernel_rfl) hQ (Or.inl ⟨by rfl, ?y8_149b⟩) ES ?r8_149b
            case y8_149b =>
              intro w' hSw
              have j0 := (hSw.cellv e0')
              have j1 := (hSw.cellv e1')
              have j2 := (hSw.cellv e2')
              have j3 := (hSw.cellv e3')
              have jj0 := (hSw.cellv u0')
              have jj1 := (hSw.cellv u1')
              have jj2 := (hSw.cellv u2')
              have jj3 := (hSw.cellv u3')
              go_simp
              try with_reducible rfl
            try simp only [Act.put]
            try simp only [List.setIfInBounds_toArray]
            try simp only [List.set_cons_succ]
            try simp only [List.set_cons_zero]
            refine wpL.call (i := 9) rfl (by kernel_rfl) (fun K hK => ?_)
            go_simp
            (go_at_call 43; refine (q_AddR (hx.ext ES) (hy.ext ES) (by omega) (by omega)).mono ?_; rintro e wk ⟨s7, A7, n7, c7, t7, B7, m7, d7, rfl, h7, hx7⟩; have E9 := Ext.trans ES hx7)
            refine hK.out _ _ E9 ?_
            clear hK K
            try simp only [Act.put]
            try simp only [List.setIfInBounds_toArray]
            try simp only [List.set_cons_succ]
            try simp only [List.set_cons_zero]
            refine wpL.call (i := 10) rfl (by kernel_rfl) (fun K hK => ?_)
            have ha7 := (Ext.refl wk).alloc (.cells #[.bool s7, .slice A7 n7 c7, .bool t7, .slice B7 m7 d7] 26)
            have b7 := Box.new wk 26 #[.bool s7, .slice A7 n7 c7, .bool t7, .slice B7 m7 d7]
            go_simp
            refine hK.out _ _ (E9.trans ha7) ?_
            clear hK K
            try simp only [Act.put]
            try simp only [List.setIfInBounds_toArray]
            try simp only [List.set_cons_succ]
            try simp only [List.set_cons_zero]
            replace h7 := h7.ext ha7
            have E10 := E9.trans ha7
            clear ha7 E9
            have hrow' := hrow.ext E10
            refine at_wpL (fun V => Ext wr V ∧ Row4 V wz.heap.size u7 (prods (fun x y => x + y) (l1.take a1) l2 ++ (l2.take a2).map (fun y => (l1[a1]'hkq) + y)) (L + M + 1) ∧ NR V ((l1[a1]'hkq) + (l2[a2]'hkq2)) (L + M + 1) s7 A7 n7 c7 t7 B7 m7 d7 ∧ Box V wk.heap.size 26 #[.bool s7, .slice A7 n7 c7, .bool t7, .slice B7 m7 d7]) ⟨E10, hrow', h7, b7⟩ ?_
            clear E10 hrow' h7 b7
            generalize wk.heap.size = g7
            rintro V ⟨E10, hrow', h7, b7⟩
            refine wpL.tail (i := 11) rfl (by kernel_rfl) (by kernel_rfl) (fun K hK => ?_)
            refine step_append_rat (by rfl) _ _ (by rfl) (by rfl) (by rfl) hrow' h7 b7 hlen (extr.trans E10).size ?_
            intro v6 W6 hrow6 hgr hob
            refine hK.out _ _ ?_
            clear hK K
            try simp only [Act.put]
            try simp only [List.setIfInBounds_toArray]
            try simp only [List.set_cons_succ]
            try simp only [List.set_cons_zero]
            refine wpL.tail (i := 12) rfl (by kernel_rfl) (by kernel_rfl) (fun K hK => ?_)
            go_simp
            refine hK.out _ _ ?_
            clear hK K
            try simp only [Act.put]
            try simp only [List.setIfInBounds_toArray]
            try simp only [List.set_cons_succ]
            try simp only [List.set_cons_zero]
            refine wpL.done (by kernel_rfl) ?_ _
            clear hQ
            go_wp2_with fail
            go_roundw
            case rel =>
              refine ⟨a2 + 1, by omega, by go_num, Below.grown (extr.trans E10) hgr (extr.trans E10).size (fun k hk => (hrow'.block k hk).1), ?_⟩
              rw [HT2.out, List.map_append, ← List.append_assoc]; exact hrow6
            case measure => simp [intOf]; omega
          · have hkn : a2 = 2 := by omega
            rw [hkn, List.take_of_length_le (Nat.le_of_eq Hn2.out)] at hrow
            go_wp2_with fail
            go_roundw
            case rel =>
              refine ⟨a1 + 1, by omega, by go_num, extr, ?_⟩
              rw [HT.out, prods_snoc]
              exact hrow
            case measure => simp [intOf]; omega
      · have hkn : a1 = 2 := by omega
        rw [hkn, List.take_of_length_le (Nat.le_of_eq Hn1.out)] at hrow
        have hpl : (prods (fun x y => x + y) l1 l2).length = 4 := by rw [prods_len, Hn1.out, Hn2.out]
        obtain ⟨g7, c7, rfl, hra⟩ := hrow.shape (fun h => by rw [h] at hpl; cases hpl)
        rw [hpl]
        clear hrow hpl
        go_wp2_with fail
        go_ret
        exact ⟨g7, c7, rfl, hra, (ext.trans Ez).trans extr⟩
set_option maxHeartbeats 32000000 in
set_option maxRecDepth 100000 in
theorem q_ends_Sub (h : IV w lo hi L s A n c t B m d s' A' n' c' t' B' m' d') (h' : IV w lo' hi' M u C i j v D k l u' C' i' j' v' D' k' l') (hL : L ≤ 20) (hM : M ≤ 20) : Calls Tryz.prog 58 #[.agg #[.bool s, .slice A n c, .bool t, .slice B m d, .bool s', .slice A' n' c', .bool t', .slice B' m' d'], .agg #[.bool u, .slice C i j, .bool v, .slice D k l, .bool u', .slice C' i' j', .bool v', .slice D' k' l'], .int .i64 1] w (RetRow (prods (fun x y => x - y) [lo, hi] [lo', hi']) (L + M + 1) w) := by
  obtain ⟨l1, hl1⟩ : ∃ l, [lo, hi] = l := ⟨_, rfl⟩
  obtain ⟨l2, hl2⟩ : ∃ l, [lo', hi'] = l := ⟨_, rfl⟩
  have hc1 : CellsOf w L l1 [.bool s, .slice A n c, .bool t, .slice B m d, .bool s', .slice A' n' c', .bool t', .slice B' m' d'] := by rw [← hl1]; exact .cons h.low (.cons h.high .nil)
  have hc2 : CellsOf w M l2 [.bool u, .slice C i j, .bool v, .slice D k l, .bool u', .slice C' i' j', .bool v', .slice D' k' l'] := by rw [← hl2]; exact .cons h'.low (.cons h'.high .nil)
  have Hn1 := Lib.hid (show l1.length = 2 by rw [← hl1]; rfl)
  have Hn2 := Lib.hid (show l2.length = 2 by rw [← hl2]; rfl)
  rw [hl1, hl2]
  clear hl1 hl2 h h'
  go_enter Tryz.func58, Tryz.ntmps58
  go_upto_region 1 with (fail)
  obtain ⟨W, hW, ext, bx, by_, hz⟩ := box2 w 28 28 #[.bool s, .slice A n c, .bool t, .slice B m d, .bool s', .slice A' n' c', .bool t', .slice B' m' d'] #[.bool u, .slice C i j, .bool v, .slice D k l, .bool u', .slice C' i' j', .bool v', .slice D' k' l']
  rw [← hW]
  clear hW hz
  replace hc1 := hc1.ext ext
  replace hc2 := hc2.ext ext
  go_upto_region 2 with (fail)
  have ES0 := Ext.refl W
  refine wp_region_held_drew (S := Ext W) (by kernel_rfl) ES0.drew (fun ES => ?_)
  clear ES0
  refine Late.start0 (fun _ _ _ _ _ => ⟨fun h => h, fun h => h⟩) ES (fun hAl hQ => ?_)
  refine Late.take (i := 0) (d := some 12) (v := ?v0_171) rfl rfl (by kernel_rfl) (by kernel_rfl) (by kernel_rfl) (by kernel_rfl) hQ (Or.inl ⟨by rfl, ?y0_171⟩) ?r0_171
  case y0_171 =>
    intro w' hSw
    have k00 := (bx.ext hSw).c8
    have k10 := (by_.ext hSw).c8
    go_simp
    try with_reducible rfl
  try simp only [Act.put]
  try simp only [List.setIfInBounds_toArray]
  try simp only [List.set_cons_succ]
  try simp only [List.set_cons_zero]
  refine Late.take (i := 1) (d := some 13) (v := ?v1_172) rfl rfl (by kernel_rfl) (by kernel_rfl) (by kernel_rfl) (by kernel_rfl) hQ (Or.inl ⟨by rfl, ?y1_172⟩) ?r1_172
  case y1_172 =>
    intro w' hSw
    have k00 := (bx.ext hSw).c8
    have k10 := (by_.ext hSw).c8
    go_simp
    try with_reducible rfl
  try simp only [Act.put]
  try simp only [List.setIfInBounds_toArray]
  try simp only [List.set_cons_succ]
  try simp only [List.set_cons_zero]
  refine Late.take (i := 2) (d := some 14) (v := ?v2_173) rfl rfl (by kernel_rfl) (by kernel_rfl) (by kernel_rfl) (by kernel_rfl) hQ (Or.inl ⟨by rfl, ?y2_173⟩) ?r2_173
  case y2_173 =>
    intro w' hSw
    have k00 := (bx.ext hSw).c8
    have k10 := (by_.ext hSw).c8
    go_simp
    try with_reducible rfl
  try simp only [Act.put]
  try simp only [List.setIfInBounds_toArray]
  try simp only [List.set_cons_succ]
  try simp only [List.set_cons_zero]
  refine Late.take (i := 3) (d := some 15) (v := ?v3_174) rfl rfl (by kernel_rfl) (by kernel_rfl) (by kernel_rfl) (by kernel_rfl) hQ (Or.inl ⟨by rfl, ?y3_174⟩) ?r3_174
  case y3_174 =>
    intro w' hSw
    have k00 := (bx.ext hSw).c8
    have k10 := (by_.ext hSw).c8
    go_simp
    try with_reducible rfl
  try simp only [Act.put]
  try simp only [List.setIfInBounds_toArray]
  try simp only [List.set_cons_succ]
  try simp only [List.set_cons_zero]
  refine Late.take (i := 5) (d := some 17) (v := ?v5_175) rfl rfl (by kernel_rfl) (by kernel_rfl) (by kernel_rfl) (by kernel_rfl) hQ (Or.inl ⟨by rfl, ?y5_175⟩) ?r5_175
  case y5_175 =>
    intro w' hSw
    have k00 := (bx.ext hSw).c8
    have k10 := (by_.ext hSw).c8
    go_simp
    try with_reducible rfl
  try simp only [Act.put]
  try simp only [List.setIfInBounds_toArray]
  try simp only [List.set_cons_succ]
  try simp only [List.set_cons_zero]
  refine Late.take (i := 6) (d := some 18) (v := ?v6_176) rfl rfl (by kernel_rfl) (by kernel_rfl) (by kernel_rfl) (by kernel_rfl) hQ (Or.inl ⟨by rfl, ?y6_176⟩) ?r6_176
  case y6_176 =>
    intro w' hSw
    have k00 := (bx.ext hSw).c8
    have k10 := (by_.ext hSw).c8
    go_simp
    try with_reducible rfl
  try simp only [Act.put]
  try simp only [List.setIfInBounds_toArray]
  try simp only [List.set_cons_succ]
  try simp only [List.set_cons_zero]
  refine Late.take (i := 7) (d := some 19) (v := ?v7_177) rfl rfl (by kernel_rfl) (by kernel_rfl) (by kernel_rfl) (by kernel_rfl) hQ (Or.inl ⟨by rfl, ?y7_177⟩) ?r7_177
  case y7_177 =>
    intro w' hSw
    have k00 := (bx.ext hSw).c8
    have k10 := (by_.ext hSw).c8
    go_simp
    try with_reducible rfl
  try simp only [Act.put]
  try simp only [List.setIfInBounds_toArray]
  try simp only [List.set_cons_succ]
  try simp only [List.set_cons_zero]
  refine Late.take (i := 8) (d := some 20) (v := ?v8_178) rfl rfl (by kernel_rfl) (by kernel_rfl) (by kernel_rfl) (by kernel_rfl) hQ (Or.inl ⟨by rfl, ?y8_178⟩) ?r8_178
  case y8_178 =>
    intro w' hSw
    have k00 := (bx.ext hSw).c8
    have k10 := (by_.ext hSw).c8
    go_simp
    try with_reducible rfl
  try simp only [Act.put]
  try simp only [List.setIfInBounds_toArray]
  try simp only [List.set_cons_succ]
  try simp only [List.set_cons_zero]
  refine Late.two (i := 4) (i2 := 9) rfl rfl (by kernel_rfl) hAl (by kernel_rfl) (by kernel_rfl) (by kernel_rfl) (by kernel_rfl) hQ (fun w4 e4 E4 K hK => ?_) (fun w9 e9 E9 K hK => ?_)
  · have hx4 := (Ext.refl w4).alloc (.cells #[.bool s, .slice A n c, .bool t, .slice B m d, .bool s', .slice A' n' c', .bool t', .slice B' m' d'] 26)
    have bX := Box.new w4 26 #[.bool s, .slice A n c, .bool t, .slice B m d, .bool s', .slice A' n' c', .bool t', .slice B' m' d']
    go_simp
    refine hK.out _ _ hx4 ?_
    clear hK K
    try simp only [Act.put]
    try simp only [List.setIfInBounds_toArray]
    try simp only [List.set_cons_succ]
    try simp only [List.set_cons_zero]
    generalize w4.heap.size = gx at bX ⊢
    refine Late.take (i := 10) (d := some 8) (v := ?v10_179) rfl rfl (by kernel_rfl) (by kernel_rfl) (by kernel_rfl) (by kernel_rfl) hQ (Or.inl ⟨by rfl, ?y10_179⟩) ?r10_179
    case y10_179 =>
      intro w' hSw
      go_simp
      try with_reducible rfl
    try simp only [Act.put]
    try simp only [List.setIfInBounds_toArray]
    try simp only [List.set_cons_succ]
    try simp only [List.set_cons_zero]
    refine Late.call (i := 9) rfl (by kernel_rfl) hAl (by kernel_rfl) (by kernel_rfl) (by kernel_rfl) hQ (fun w9 e9 E9 K hK => ?_)
    have hx9 := (Ext.refl w9).alloc (.cells #[.bool u, .slice C i j, .bool v, .slice D k l, .bool u', .slice C' i' j', .bool v', .slice D' k' l'] 26)
    have bY := Box.new w9 26 #[.bool u, .slice C i j, .bool v, .slice D k l, .bool u', .slice C' i' j', .bool v', .slice D' k' l']
    go_simp
    refine hK.out _ _ hx9 ?_
    clear hK K
    try simp only [Act.put]
    try simp only [List.setIfInBounds_toArray]
    try simp only [List.set_cons_succ]
    try simp only [List.set_cons_zero]
    generalize w9.heap.size = gy at bY ⊢
    refine Late.take (i := 11) (d := some 9) (v := ?v11_180) rfl rfl (by kernel_rfl) (by kernel_rfl) (by kernel_rfl) (by kernel_rfl) hQ (Or.inl ⟨by rfl, ?y11_180⟩) ?r11_180
    case y11_180 =>
      intro w' hSw
      go_simp
      try with_reducible rfl
    try simp only [Act.put]
    try simp only [List.setIfInBounds_toArray]
    try simp only [List.set_cons_succ]
    try simp only [List.set_cons_zero]
    refine Late.done0 (by kernel_rfl) (fun wz ez Ez => ?_)
    clear hAl hQ ES
    replace bX := bX.ext (e9.trans (hx9.trans ez))
    replace bY := bY.ext ez
    clear e4 e9 E4 E9 hx4 hx9 ez
    replace hc1 := hc1.ext Ez
    replace hc2 := hc2.ext Ez
    go_wp2_with fail
    go_loopw [7, 10] (fun v i wr => ∃ (a1 : Nat), a1 ≤ 2 ∧ i = .int .i64 (a1 : Int) ∧ Ext wz wr ∧ Row4 wr wz.heap.size v (prods (fun x y => x - y) (l1.take a1) l2) (L + M + 1)) (fun _ i _ => 2 - (intOf i).toNat)
    case atStart => exact ⟨0, Nat.zero_le _, rfl, Ext.refl _, Row4.nil _ _ _⟩
    case round =>
      obtain ⟨a1, hk, rfl, extr, hrow⟩ := hrel
      by_cases hlt : a1 < 2
      · have hkq : a1 < l1.length := by rw [Hn1.out]; exact hlt
        have HT := Lib.hid (show l1.take (a1 + 1) = l1.take a1 ++ [l1[a1]] from List.take_succ_eq_append_getElem hkq)
        have d1 : decide ((a1 : Int) < 2) = true := decide_eq_true (by omega)
        go_wp2_with fail
        try rw [d1]
        clear d1
        have hI1 : (a1 : Int) < 2 := by omega
        go_loopw [7, 11] (fun v i wq => ∃ (a2 : Nat), a2 ≤ 2 ∧ i = .int .i64 (a2 : Int) ∧ Ext wz wq ∧ Row4 wq wz.heap.size v (prods (fun x y => x - y) (l1.take a1) l2 ++ (l2.take a2).map (fun y => (l1[a1]'hkq) - y)) (L + M + 1)) (fun _ i _ => 2 - (intOf i).toNat)
        case atStart => exact ⟨0, Nat.zero_le _, rfl, extr, by rw [List.take_zero, List.map_nil, List.append_nil]; exact hrow⟩
        case round =>
          clear extr hrow
          obtain ⟨a2, hk2, rfl, extr, hrow⟩ := hrel
          by_cases hlt2 : a2 < 2
          · have hkq2 : a2 < l2.length := by rw [Hn2.out]; exact hlt2
            have hlen := row_len (fun x y => x - y) (fun y => (l1[a1]'hkq) - y) (l := l1) (l' := l2) a1 a2 (by rw [Hn1.out]; exact Nat.le_refl _) (by rw [Hn2.out]; exact Nat.le_refl _)
            obtain ⟨s9, A9, n9, c9, t9, B9, m9, d9, e0, e1, e2, e3, hx⟩ := (RatsAt.of_box (bX.ext extr) (hc1.ext extr)).at_ a1 hkq
            rw [Nat.zero_add] at e0 e1 e2 e3
            have e0' : wr.cell? ⟨gx, a1 * 4, none⟩ = some (.bool s9) := by rw [Nat.mul_comm]; exact e0
            have e1' : wr.cell? ⟨gx, a1 * 4 + 1, none⟩ = some (.slice A9 n9 c9) := by rw [Nat.mul_comm]; exact e1
            have e2' : wr.cell? ⟨gx, a1 * 4 + 2, none⟩ = some (.bool t9) := by rw [Nat.mul_comm]; exact e2
            have e3' : wr.cell? ⟨gx, a1 * 4 + 3, none⟩ = some (.slice B9 m9 d9) := by rw [Nat.mul_comm]; exact e3
            have u0' := e0'
            have u1' := e1'
            have u2' := e2'
            have u3' := e3'
            clear e0 e1 e2 e3 e0' e1' e2' e3'
            obtain ⟨s8, A8, n8, c8, t8, B8, m8, d8, e0, e1, e2, e3, hy⟩ := (RatsAt.of_box (bY.ext extr) (hc2.ext extr)).at_ a2 hkq2
            rw [Nat.zero_add] at e0 e1 e2 e3
            have HT2 := Lib.hid (show l2.take (a2 + 1) = l2.take a2 ++ [l2[a2]] from List.take_succ_eq_append_getElem hkq2)
            have e0' : wr.cell? ⟨gy, a2 * 4, none⟩ = some (.bool s8) := by rw [Nat.mul_comm]; exact e0
            have e1' : wr.cell? ⟨gy, a2 * 4 + 1, none⟩ = some (.slice A8 n8 c8) := by rw [Nat.mul_comm]; exact e1
            have e2' : wr.cell? ⟨gy, a2 * 4 + 2, none⟩ = some (.bool t8) := by rw [Nat.mul_comm]; exact e2
            have e3' : wr.cell? ⟨gy, a2 * 4 + 3, none⟩ = some (.slice B8 m8 d8) := by rw [Nat.mul_comm]; exact e3
            clear e0 e1 e2 e3
            go_upto_region 14 with (fail)
            refine wpL.start 11 (by kernel_rfl) (fun _ _ _ _ _ => ⟨fun h => h, fun h => h⟩) (fun hQ ES => ?_)
            refine wpL.takeB [11] (i := 0) (d := some 59) (v := ?v0_162) rfl rfl (by kernel_rfl) (by kernel_rfl) (by kernel_rfl) (by kernel_rfl) hQ (Or.inl ⟨by rfl, ?y0_162⟩) ES ?r0_162
            case y0_162 =>
              intro w' hSw
              have j0 := (hSw.cellv e0')
              have j1 := (hSw.cellv e1')
              have j2 := (hSw.cellv e2')
              have j3 := (hSw.cellv e3')
              have jj0 := (hSw.cellv u0')
              have jj1 := (hSw.cellv u1')
              have jj2 := (hSw.cellv u2')
              have jj3 := (hSw.cellv u3')
              go_simp
              try with_reducible rfl
            try simp only [Act.put]
            try simp only [List.setIfInBounds_toArray]
            try simp only [List.set_cons_succ]
            try simp only [List.set_cons_zero]
            refine wpL.takeB [3, 4, 9, 10, 11] (i := 1) (d := some 60) (v := ?v1_163) rfl rfl (by kernel_rfl) (by kernel_rfl) (by kernel_rfl) (by kernel_rfl) hQ (Or.inl ⟨by rfl, ?y1_163⟩) ES ?r1_163
            case y1_163 =>
              intro w' hSw
              have j0 := (hSw.cellv e0')
              have j1 := (hSw.cellv e1')
              have j2 := (hSw.cellv e2')
              have j3 := (hSw.cellv e3')
              have jj0 := (hSw.cellv u0')
              have jj1 := (hSw.cellv u1')
              have jj2 := (hSw.cellv u2')
              have jj3 := (hSw.cellv u3')
              go_simp
              try with_reducible rfl
            try simp only [Act.put]
            try simp only [List.setIfInBounds_toArray]
            try simp only [List.set_cons_succ]
            try simp only [List.set_cons_zero]
            refine wpL.takeB [3, 4, 9, 10, 11] (i := 2) (d := some 61) (v := ?v2_164) rfl rfl (by kernel_rfl) (by kernel_rfl) (by kernel_rfl) (by kernel_rfl) hQ (Or.inl ⟨by rfl, ?y2_164⟩) ES ?r2_164
            case y2_164 =>
              intro w' hSw
              have j0 := (hSw.cellv e0')
              have j1 := (hSw.cellv e1')
              have j2 := (hSw.cellv e2')
              have j3 := (hSw.cellv e3')
              have jj0 := (hSw.cellv u0')
              have jj1 := (hSw.cellv u1')
              have jj2 := (hSw.cellv u2')
              have jj3 := (hSw.cellv u3')
              go_simp
              try with_reducible rfl
            try simp only [Act.put]
            try simp only [List.setIfInBounds_toArray]
            try simp only [List.set_cons_succ]
            try simp only [List.set_cons_zero]
            refine wpL.takeB [4, 9, 10, 11] (i := 3) (d := some 62) (v := ?v3_165) rfl rfl (by kernel_rfl) (by kernel_rfl) (by kernel_rfl) (by kernel_rfl) hQ (Or.inl ⟨by rfl, ?y3_165⟩) ES ?r3_165
            case y3_165 =>
              intro w' hSw
              have j0 := (hSw.cellv e0')
              have j1 := (hSw.cellv e1')
              have j2 := (hSw.cellv e2')
              have j3 := (hSw.cellv e3')
              have jj0 := (hSw.cellv u0')
              have jj1 := (hSw.cellv u1')
              have jj2 := (hSw.cellv u2')
              have jj3 := (hSw.cellv u3')
              go_simp
              try with_reducible rfl
            try simp only [Act.put]
            try simp only [List.setIfInBounds_toArray]
            try simp only [List.set_cons_succ]
            try simp only [List.set_cons_zero]
            refine wpL.takeB [9, 10, 11] (i := 4) (d := some 63) (v := ?v4_166) rfl rfl (by kernel_rfl) (by kernel_rfl) (by kernel_rfl) (by kernel_rfl) hQ (Or.inl ⟨by rfl, ?y4_166⟩) ES ?r4_166
            case y4_166 =>
              intro w' hSw
              have j0 := (hSw.cellv e0')
              have j1 := (hSw.cellv e1')
              have j2 := (hSw.cellv e2')
              have j3 := (hSw.cellv e3')
              have jj0 := (hSw.cellv u0')
              have jj1 := (hSw.cellv u1')
              have jj2 := (hSw.cellv u2')
              have jj3 := (hSw.cellv u3')
              go_simp
              try with_reducible rfl
            try simp only [Act.put]
            try simp only [List.setIfInBounds_toArray]
            try simp only [List.set_cons_succ]
            try simp only [List.set_cons_zero]
            refine wpL.takeB [7, 8, 9, 10, 11] (i := 5) (d := some 64) (v := ?v5_167) rfl rfl (by kernel_rfl) (by kernel_rfl) (by kernel_rfl) (by kernel_rfl) hQ (Or.inl ⟨by rfl, ?y5_167⟩) ES ?r5_167
            case y5_167 =>
              intro w' hSw
              have j0 := (hSw.cellv e0')
              have j1 := (hSw.cellv e1')
              have j2 := (hSw.cellv e2')
              have j3 := (hSw.cellv e3')
              have jj0 := (hSw.cellv u0')
              have jj1 := (hSw.cellv u1')
              have jj2 := (hSw.cellv u2')
              have jj3 := (hSw.cellv u3')
              go_simp
              try with_reducible rfl
            try simp only [Act.put]
            try simp only [List.setIfInBounds_toArray]
            try simp only [List.set_cons_succ]
            try simp only [List.set_cons_zero]
            refine wpL.takeB [7, 8, 9, 10, 11] (i := 6) (d := some 65) (v := ?v6_168) rfl rfl (by kernel_rfl) (by kernel_rfl) (by kernel_rfl) (by kernel_rfl) hQ (Or.inl ⟨by rfl, ?y6_168⟩) ES ?r6_168
            case y6_168 =>
              intro w' hSw
              have j0 := (hSw.cellv e0')
              have j1 := (hSw.cellv e1')
              have j2 := (hSw.cellv e2')
              have j3 := (hSw.cellv e3')
              have jj0 := (hSw.cellv u0')
              have jj1 := (hSw.cellv u1')
              have jj2 := (hSw.cellv u2')
              have jj3 := (hSw.cellv u3')
              go_simp
              try with_reducible rfl
            try simp only [Act.put]
            try simp only [List.setIfInBounds_toArray]
            try simp only [List.set_cons_succ]
            try simp only [List.set_cons_zero]
            refine wpL.takeB [8, 9, 10, 11] (i := 7) (d := some 66) (v := ?v7_169) rfl rfl (by kernel_rfl) (by kernel_rfl) (by kernel_rfl) (by kernel_rfl) hQ (Or.inl ⟨by rfl, ?y7_169⟩) ES ?r7_169
            case y7_169 =>
              intro w' hSw
              have j0 := (hSw.cellv e0')
              have j1 := (hSw.cellv e1')
              have j2 := (hSw.cellv e2')
              have j3 := (hSw.cellv e3')
              have jj0 := (hSw.cellv u0')
              have jj1 := (hSw.cellv u1')
              have jj2 := (hSw.cellv u2')
              have jj3 := (hSw.cellv u3')
              go_simp
              try with_reducible rfl
            try simp only [Act.put]
            try simp only [List.setIfInBounds_toArray]
            try simp only [List.set_cons_succ]
            try simp only [List.set_cons_zero]
            refine wpL.takeB [9, 10, 11] (i := 8) (d := some 67) (v := ?v8_170) rfl rfl (by kernel_rfl) (by kernel_rfl) (by kernel_rfl) (by kernel_rfl) hQ (Or.inl ⟨by rfl, ?y8_170⟩) ES ?r8_170
            case y8_170 =>
              intro w' hSw
              have j0 := (hSw.cellv e0')
              have j1 := (hSw.cellv e1')
              have j2 := (hSw.cellv e2')
              have j3 := (hSw.cellv e3')
              have jj0 := (hSw.cellv u0')
              have jj1 := (hSw.cellv u1')
              have jj2 := (hSw.cellv u2')
              have jj3 := (hSw.cellv u3')
              go_simp
              try with_reducible rfl
            try simp only [Act.put]
            try simp only [List.setIfInBounds_toArray]
            try simp only [List.set_cons_succ]
            try simp only [List.set_cons_zero]
            refine wpL.call (i := 9) rfl (by kernel_rfl) (fun K hK => ?_)
            go_simp
            (go_at_call 23; refine (q_SubR (hx.ext ES) (hy.ext ES) (by omega) (by omega)).mono ?_; rintro e wk ⟨s7, A7, n7, c7, t7, B7, m7, d7, rfl, h7, hx7⟩; have E9 := Ext.trans ES hx7)
            refine hK.out _ _ E9 ?_
            clear hK K
            try simp only [Act.put]
            try simp only [List.setIfInBounds_toArray]
            try simp only [List.set_cons_succ]
            try simp only [List.set_cons_zero]
            refine wpL.call (i := 10) rfl (by kernel_rfl) (fun K hK => ?_)
            have ha7 := (Ext.refl wk).alloc (.cells #[.bool s7, .slice A7 n7 c7, .bool t7, .slice B7 m7 d7] 26)
            have b7 := Box.new wk 26 #[.bool s7, .slice A7 n7 c7, .bool t7, .slice B7 m7 d7]
            go_simp
            refine hK.out _ _ (E9.trans ha7) ?_
            clear hK K
            try simp only [Act.put]
            try simp only [List.setIfInBounds_toArray]
            try simp only [List.set_cons_succ]
            try simp only [List.set_cons_zero]
            replace h7 := h7.ext ha7
            have E10 := E9.trans ha7
            clear ha7 E9
            have hrow' := hrow.ext E10
            refine at_wpL (fun V => Ext wr V ∧ Row4 V wz.heap.size u7 (prods (fun x y => x - y) (l1.take a1) l2 ++ (l2.take a2).map (fun y => (l1[a1]'hkq) - y)) (L + M + 1) ∧ NR V ((l1[a1]'hkq) - (l2[a2]'hkq2)) (L + M + 1) s7 A7 n7 c7 t7 B7 m7 d7 ∧ Box V wk.heap.size 26 #[.bool s7, .slice A7 n7 c7, .bool t7, .slice B7 m7 d7]) ⟨E10, hrow', h7, b7⟩ ?_
            clear E10 hrow' h7 b7
            generalize wk.heap.size = g7
            rintro V ⟨E10, hrow', h7, b7⟩
            refine wpL.tail (i := 11) rfl (by kernel_rfl) (by kernel_rfl) (fun K hK => ?_)
            refine step_append_rat (by rfl) _ _ (by rfl) (by rfl) (by rfl) hrow' h7 b7 hlen (extr.trans E10).size ?_
            intro v6 W6 hrow6 hgr hob
            refine hK.out _ _ ?_
            clear hK K
            try simp only [Act.put]
            try simp only [List.setIfInBounds_toArray]
            try simp only [List.set_cons_succ]
            try simp only [List.set_cons_zero]
            refine wpL.tail (i := 12) rfl (by kernel_rfl) (by kernel_rfl) (fun K hK => ?_)
            go_simp
            refine hK.out _ _ ?_
            clear hK K
            try simp only [Act.put]
            try simp only [List.setIfInBounds_toArray]
            try simp only [List.set_cons_succ]
            try simp only [List.set_cons_zero]
            refine wpL.done (by kernel_rfl) ?_ _
            clear hQ
            go_wp2_with fail
            go_roundw
            case rel =>
              refine ⟨a2 + 1, by omega, by go_num, Below.grown (extr.trans E10) hgr (extr.trans E10).size (fun k hk => (hrow'.block k hk).1), ?_⟩
              rw [HT2.out, List.map_append, ← List.append_assoc]; exact hrow6
            case measure => simp [intOf]; omega
          · have hkn : a2 = 2 := by omega
            rw [hkn, List.take_of_length_le (Nat.le_of_eq Hn2.out)] at hrow
            go_wp2_with fail
            go_roundw
            case rel =>
              refine ⟨a1 + 1, by omega, by go_num, extr, ?_⟩
              rw [HT.out, prods_snoc]
              exact hrow
            case measure => simp [intOf]; omega
      · have hkn : a1 = 2 := by omega
        rw [hkn, List.take_of_length_le (Nat.le_of_eq Hn1.out)] at hrow
        have hpl : (prods (fun x y => x - y) l1 l2).length = 4 := by rw [prods_len, Hn1.out, Hn2.out]
        obtain ⟨g7, c7, rfl, hra⟩ := hrow.shape (fun h => by rw [h] at hpl; cases hpl)
        rw [hpl]
        clear hrow hpl
        go_wp2_with fail
        go_ret
        exact ⟨g7, c7, rfl, hra, (ext.trans Ez).trans extr⟩
  · have hx9 := (Ext.refl w9).alloc (.cells #[.bool u, .slice C i j, .bool v, .slice D k l, .bool u', .slice C' i' j', .bool v', .slice D' k' l'] 26)
    have bY := Box.new w9 26 #[.bool u, .slice C i j, .bool v, .slice D k l, .bool u', .slice C' i' j', .bool v', .slice D' k' l']
    go_simp
    refine hK.out _ _ hx9 ?_
    clear hK K
    try simp only [Act.put]
    try simp only [List.setIfInBounds_toArray]
    try simp only [List.set_cons_succ]
    try simp only [List.set_cons_zero]
    generalize w9.heap.size = gy at bY ⊢
    refine Late.call (i := 4) rfl (by kernel_rfl) hAl (by kernel_rfl) (by kernel_rfl) (by kernel_rfl) hQ (fun w4 e4 E4 K hK => ?_)
    have hx4 := (Ext.refl w4).alloc (.cells #[.bool s, .slice A n c, .bool t, .slice B m d, .bool s', .slice A' n' c', .bool t', .slice B' m' d'] 26)
    have bX := Box.new w4 26 #[.bool s, .slice A n c, .bool t, .slice B m d, .bool s', .slice A' n' c', .bool t', .slice B' m' d']
    go_simp
    refine hK.out _ _ hx4 ?_
    clear hK K
    try simp only [Act.put]
    try simp only [List.setIfInBounds_toArray]
    try simp only [List.set_cons_succ]
    try simp only [List.set_cons_zero]
    generalize w4.heap.size = gx at bX ⊢
    refine Late.take (i := 10) (d := some 8) (v := ?v10_181) rfl rfl (by kernel_rfl) (by kernel_rfl) (by kernel_rfl) (by kernel_rfl) hQ (Or.inl ⟨by rfl, ?y10_181⟩) ?r10_181
    case y10_181 =>
      intro w' hSw
      go_simp
      try with_reducible rfl
    try simp only [Act.put]
    try simp only [List.setIfInBounds_toArray]
    try simp only [List.set_cons_succ]
    try simp only [List.set_cons_zero]
    refine Late.take (i := 11) (d := some 9) (v := ?v11_182) rfl rfl (by kernel_rfl) (by kernel_rfl) (by kernel_rfl) (by kernel_rfl) hQ (Or.inl ⟨by rfl, ?y11_182⟩) ?r11_182
    case y11_182 =>
      intro w' hSw
      go_simp
      try with_reducible rfl
    try simp only [Act.put]
    try simp only [List.setIfInBounds_toArray]
    try simp only [List.set_cons_succ]
    try simp only [List.set_cons_zero]
    refine Late.done0 (by kernel_rfl) (fun wz ez Ez => ?_)
    clear hAl hQ ES
    replace bY := bY.ext (e4.trans (hx4.trans ez))
    replace bX := bX.ext ez
    clear e4 e9 E4 E9 hx4 hx9 ez
    replace hc1 := hc1.ext Ez
    replace hc2 := hc2.ext Ez
    go_wp2_with fail
    go_loopw [7, 10] (fun v i wr => ∃ (a1 : Nat), a1 ≤ 2 ∧ i = .int .i64 (a1 : Int) ∧ Ext wz wr ∧ Row4 wr wz.heap.size v (prods (fun x y => x - y) (l1.take a1) l2) (L + M + 1)) (fun _ i _ => 2 - (intOf i).toNat)
    case atStart => exact ⟨0, Nat.zero_le _, rfl, Ext.refl _, Row4.nil _ _ _⟩
    case round =>
      obtain ⟨a1, hk, rfl, extr, hrow⟩ := hrel
      by_cases hlt : a1 < 2
      · have hkq : a1 < l1.length := by rw [Hn1.out]; exact hlt
        have HT := Lib.hid (show l1.take (a1 + 1) = l1.take a1 ++ [l1[a1]] from List.take_succ_eq_append_getElem hkq)
        have d1 : decide ((a1 : Int) < 2) = true := decide_eq_true (by omega)
        go_wp2_with fail
        try rw [d1]
        clear d1
        have hI1 : (a1 : Int) < 2 := by omega
        go_loopw [7, 11] (fun v i wq => ∃ (a2 : Nat), a2 ≤ 2 ∧ i = .int .i64 (a2 : Int) ∧ Ext wz wq ∧ Row4 wq wz.heap.size v (prods (fun x y => x - y) (l1.take a1) l2 ++ (l2.take a2).map (fun y => (l1[a1]'hkq) - y)) (L + M + 1)) (fun _ i _ => 2 - (intOf i).toNat)
        case atStart => exact ⟨0, Nat.zero_le _, rfl, extr, by rw [List.take_zero, List.map_nil, List.append_nil]; exact hrow⟩
        case round =>
          clear extr hrow
          obtain ⟨a2, hk2, rfl, extr, hrow⟩ := hrel
          by_cases hlt2 : a2 < 2
          · have hkq2 : a2 < l2.length := by rw [Hn2.out]; exact hlt2
            have hlen := row_len (fun x y => x - y) (fun y => (l1[a1]'hkq) - y) (l := l1) (l' := l2) a1 a2 (by rw [Hn1.out]; exact Nat.le_refl _) (by rw [Hn2.out]; exact Nat.le_refl _)
            obtain ⟨s9, A9, n9, c9, t9, B9, m9, d9, e0, e1, e2, e3, hx⟩ := (RatsAt.of_box (bX.ext extr) (hc1.ext extr)).at_ a1 hkq
            rw [Nat.zero_add] at e0 e1 e2 e3
            have e0' : wr.cell? ⟨gx, a1 * 4, none⟩ = some (.bool s9) := by rw [Nat.mul_comm]; exact e0
            have e1' : wr.cell? ⟨gx, a1 * 4 + 1, none⟩ = some (.slice A9 n9 c9) := by rw [Nat.mul_comm]; exact e1
            have e2' : wr.cell? ⟨gx, a1 * 4 + 2, none⟩ = some (.bool t9) := by rw [Nat.mul_comm]; exact e2
            have e3' : wr.cell? ⟨gx, a1 * 4 + 3, none⟩ = some (.slice B9 m9 d9) := by rw [Nat.mul_comm]; exact e3
            have u0' := e0'
            have u1' := e1'
            have u2' := e2'
            have u3' := e3'
            clear e0 e1 e2 e3 e0' e1' e2' e3'
            obtain ⟨s8, A8, n8, c8, t8, B8, m8, d8, e0, e1, e2, e3, hy⟩ := (RatsAt.of_box (bY.ext extr) (hc2.ext extr)).at_ a2 hkq2
            rw [Nat.zero_add] at e0 e1 e2 e3
            have HT2 := Lib.hid (show l2.take (a2 + 1) = l2.take a2 ++ [l2[a2]] from List.take_succ_eq_append_getElem hkq2)
            have e0' : wr.cell? ⟨gy, a2 * 4, none⟩ = some (.bool s8) := by rw [Nat.mul_comm]; exact e0
            have e1' : wr.cell? ⟨gy, a2 * 4 + 1, none⟩ = some (.slice A8 n8 c8) := by rw [Nat.mul_comm]; exact e1
            have e2' : wr.cell? ⟨gy, a2 * 4 + 2, none⟩ = some (.bool t8) := by rw [Nat.mul_comm]; exact e2
            have e3' : wr.cell? ⟨gy, a2 * 4 + 3, none⟩ = some (.slice B8 m8 d8) := by rw [Nat.mul_comm]; exact e3
            clear e0 e1 e2 e3
            go_upto_region 14 with (fail)
            refine wpL.start 11 (by kernel_rfl) (fun _ _ _ _ _ => ⟨fun h => h, fun h => h⟩) (fun hQ ES => ?_)
            refine wpL.takeB [11] (i := 0) (d := some 59) (v := ?v0_162b) rfl rfl (by kernel_rfl) (by kernel_rfl) (by kernel_rfl) (by kernel_rfl) hQ (Or.inl ⟨by rfl, ?y0_162b⟩) ES ?r0_162b
            case y0_162b =>
              intro w' hSw
              have j0 := (hSw.cellv e0')
              have j1 := (hSw.cellv e1')
              have j2 := (hSw.cellv e2')
              have j3 := (hSw.cellv e3')
              have jj0 := (hSw.cellv u0')
              have jj1 := (hSw.cellv u1')
              have jj2 := (hSw.cellv u2')
              have jj3 := (hSw.cellv u3')
              go_simp
              try with_reducible rfl
            try simp only [Act.put]
            try simp only [List.setIfInBounds_toArray]
            try simp only [List.set_cons_succ]
            try simp only [List.set_cons_zero]
            refine wpL.takeB [3, 4, 9, 10, 11] (i := 1) (d := some 60) (v := ?v1_163b) rfl rfl (by kernel_rfl) (by kernel_rfl) (by kernel_rfl) (by kernel_rfl) hQ (Or.inl ⟨by rfl, ?y1_163b⟩) ES ?r1_163b
            case y1_163b =>
              intro w' hSw
              have j0 := (hSw.cellv e0')
              have j1 := (hSw.cellv e1')
              have j2 := (hSw.cellv e2')
              have j3 := (hSw.cellv e3')
              have jj0 := (hSw.cellv u0')
              have jj1 := (hSw.cellv u1')
              have jj2 := (hSw.cellv u2')
              have jj3 := (hSw.cellv u3')
              go_simp
              try with_reducible rfl
            try simp only [Act.put]
            try simp only [List.setIfInBounds_toArray]
            try simp only [List.set_cons_succ]
            try simp only [List.set_cons_zero]
            refine wpL.takeB [3, 4, 9, 10, 11] (i := 2) (d := some 61) (v := ?v2_164b) rfl rfl (by kernel_rfl) (by kernel_rfl) (by kernel_rfl) (by kernel_rfl) hQ (Or.inl ⟨by rfl, ?y2_164b⟩) ES ?r2_164b
            case y2_164b =>
              intro w' hSw
              have j0 := (hSw.cellv e0')
              have j1 := (hSw.cellv e1')
              have j2 := (hSw.cellv e2')
              have j3 := (hSw.cellv e3')
              have jj0 := (hSw.cellv u0')
              have jj1 := (hSw.cellv u1')
              have jj2 := (hSw.cellv u2')
              have jj3 := (hSw.cellv u3')
              go_simp
              try with_reducible rfl
            try simp only [Act.put]
            try simp only [List.setIfInBounds_toArray]
            try simp only [List.set_cons_succ]
            try simp only [List.set_cons_zero]
            refine wpL.takeB [4, 9, 10, 11] (i := 3) (d := some 62) (v := ?v3_165b) rfl rfl (by kernel_rfl) (by kernel_rfl) (by kernel_rfl) (by kernel_rfl) hQ (Or.inl ⟨by rfl, ?y3_165b⟩) ES ?r3_165b
            case y3_165b =>
              intro w' hSw
              have j0 := (hSw.cellv e0')
              have j1 := (hSw.cellv e1')
              have j2 := (hSw.cellv e2')
              have j3 := (hSw.cellv e3')
              have jj0 := (hSw.cellv u0')
              have jj1 := (hSw.cellv u1')
              have jj2 := (hSw.cellv u2')
              have jj3 := (hSw.cellv u3')
              go_simp
              try with_reducible rfl
            try simp only [Act.put]
            try simp only [List.setIfInBounds_toArray]
            try simp only [List.set_cons_succ]
            try simp only [List.set_cons_zero]
            refine wpL.takeB [9, 10, 11] (i := 4) (d := some 63) (v := ?v4_166b) rfl rfl (by kernel_rfl) (by kernel_rfl) (by kernel_rfl) (by kernel_rfl) hQ (Or.inl ⟨by rfl, ?y4_166b⟩) ES ?r4_166b
            case y4_166b =>
              intro w' hSw
              have j0 := (hSw.cellv e0')
              have j1 := (hSw.cellv e1')
              have j2 := (hSw.cellv e2')
              have j3 := (hSw.cellv e3')
              have jj0 := (hSw.cellv u0')
              have jj1 := (hSw.cellv u1')
              have jj2 := (hSw.cellv u2')
              have jj3 := (hSw.cellv u3')
              go_simp
              try with_reducible rfl
            try simp only [Act.put]
            try simp only [List.setIfInBounds_toArray]
            try simp only [List.set_cons_succ]
            try simp only [List.set_cons_zero]
            refine wpL.takeB [7, 8, 9, 10, 11] (i := 5) (d := some 64) (v := ?v5_167b) rfl rfl (by kernel_rfl) (by kernel_rfl) (by kernel_rfl) (by kernel_rfl) hQ (Or.inl ⟨by rfl, ?y5_167b⟩) ES ?r5_167b
            case y5_167b =>
              intro w' hSw
              have j0 := (hSw.cellv e0')
              have j1 := (hSw.cellv e1')
              have j2 := (hSw.cellv e2')
              have j3 := (hSw.cellv e3')
              have jj0 := (hSw.cellv u0')
              have jj1 := (hSw.cellv u1')
              have jj2 := (hSw.cellv u2')
              have jj3 := (hSw.cellv u3')
              go_simp
              try with_reducible rfl
            try simp only [Act.put]
            try simp only [List.setIfInBounds_toArray]
            try simp only [List.set_cons_succ]
            try simp only [List.set_cons_zero]
            refine wpL.takeB [7, 8, 9, 10, 11] (i := 6) (d := some 65) (v := ?v6_168b) rfl rfl (by kernel_rfl) (by kernel_rfl) (by kernel_rfl) (by kernel_rfl) hQ (Or.inl ⟨by rfl, ?y6_168b⟩) ES ?r6_168b
            case y6_168b =>
              intro w' hSw
              have j0 := (hSw.cellv e0')
              have j1 := (hSw.cellv e1')
              have j2 := (hSw.cellv e2')
              have j3 := (hSw.cellv e3')
              have jj0 := (hSw.cellv u0')
              have jj1 := (hSw.cellv u1')
              have jj2 := (hSw.cellv u2')
              have jj3 := (hSw.cellv u3')
              go_simp
              try with_reducible rfl
            try simp only [Act.put]
            try simp only [List.setIfInBounds_toArray]
            try simp only [List.set_cons_succ]
            try simp only [List.set_cons_zero]
            refine wpL.takeB [8, 9, 10, 11] (i := 7) (d := some 66) (v := ?v7_169b) rfl rfl (by kernel_rfl) (by kernel_rfl) (by kernel_rfl) (by kernel_rfl) hQ (Or.inl ⟨by rfl, ?y7_169b⟩) ES ?r7_169b
            case y7_169b =>
              intro w' hSw
              have j0 := (hSw.cellv e0')
              have j1 := (hSw.cellv e1')
              have j2 := (hSw.cellv e2')
              have j3 := (hSw.cellv e3')
              have jj0 := (hSw.cellv u0')
              have jj1 := (hSw.cellv u1')
              have jj2 := (hSw.cellv u2')
              have jj3 := (hSw.cellv u3')
              go_simp
              try with_reducible rfl
            try simp only [Act.put]
            try simp only [List.setIfInBounds_toArray]
            try simp only [List.set_cons_succ]
            try simp only [List.set_cons_zero]
            refine wpL.takeB [9, 10, 11] (i := 8) (d := some 67) (v := ?v8_170b) rfl rfl (by kernel_rfl) (by kernel_rfl) (by kernel_rfl) (by kernel_rfl) hQ (Or.inl ⟨by rfl, ?y8_170b⟩) ES ?r8_170b
            case y8_170b =>
              intro w' hSw
              have j0 := (hSw.cellv e0')
              have j1 := (hSw.cellv e1')
              have j2 := (hSw.cellv e2')
              have j3 := (hSw.cellv e3')
              have jj0 := (hSw.cellv u0')
              have jj1 := (hSw.cellv u1')
              have jj2 := (hSw.cellv u2')
              have jj3 := (hSw.cellv u3')
              go_simp
              try with_reducible rfl
            try simp only [Act.put]
            try simp only [List.setIfInBounds_toArray]
            try simp only [List.set_cons_succ]
            try simp only [List.set_cons_zero]
            refine wpL.call (i := 9) rfl (by kernel_rfl) (fun K hK => ?_)
            go_simp
            (go_at_call 23; refine (q_SubR (hx.ext ES) (hy.ext ES) (by omega) (by omega)).mono ?_; rintro e wk ⟨s7, A7, n7, c7, t7, B7, m7, d7, rfl, h7, hx7⟩; have E9 := Ext.trans ES hx7)
            refine hK.out _ _ E9 ?_
            clear hK K
            try simp only [Act.put]
            try simp only [List.setIfInBounds_toArray]
            try simp only [List.set_cons_succ]
            try simp only [List.set_cons_zero]
            refine wpL.call (i := 10) rfl (by kernel_rfl) (fun K hK => ?_)
            have ha7 := (Ext.refl wk).alloc (.cells #[.bool s7, .slice A7 n7 c7, .bool t7, .slice B7 m7 d7] 26)
            have b7 := Box.new wk 26 #[.bool s7, .slice A7 n7 c7, .bool t7, .slice B7 m7 d7]
            go_simp
            refine hK.out _ _ (E9.trans ha7) ?_
            clear hK K
            try simp only [Act.put]
            try simp only [List.setIfInBounds_toArray]
            try simp only [List.set_cons_succ]
            try simp only [List.set_cons_zero]
            replace h7 := h7.ext ha7
            have E10 := E9.trans ha7
            clear ha7 E9
            have hrow' := hrow.ext E10
            refine at_wpL (fun V => Ext wr V ∧ Row4 V wz.heap.size u7 (prods (fun x y => x - y) (l1.take a1) l2 ++ (l2.take a2).map (fun y => (l1[a1]'hkq) - y)) (L + M + 1) ∧ NR V ((l1[a1]'hkq) - (l2[a2]'hkq2)) (L + M + 1) s7 A7 n7 c7 t7 B7 m7 d7 ∧ Box V wk.heap.size 26 #[.bool s7, .slice A7 n7 c7, .bool t7, .slice B7 m7 d7]) ⟨E10, hrow', h7, b7⟩ ?_
            clear E10 hrow' h7 b7
            generalize wk.heap.size = g7
            rintro V ⟨E10, hrow', h7, b7⟩
            refine wpL.tail (i := 11) rfl (by kernel_rfl) (by kernel_rfl) (fun K hK => ?_)
            refine step_append_rat (by rfl) _ _ (by rfl) (by rfl) (by rfl) hrow' h7 b7 hlen (extr.trans E10).size ?_
            intro v6 W6 hrow6 hgr hob
            refine hK.out _ _ ?_
            clear hK K
            try simp only [Act.put]
            try simp only [List.setIfInBounds_toArray]
            try simp only [List.set_cons_succ]
            try simp only [List.set_cons_zero]
            refine wpL.tail (i := 12) rfl (by kernel_rfl) (by kernel_rfl) (fun K hK => ?_)
            go_simp
            refine hK.out _ _ ?_
            clear hK K
            try simp only [Act.put]
            try simp only [List.setIfInBounds_toArray]
            try simp only [List.set_cons_succ]
            try simp only [List.set_cons_zero]
            refine wpL.done (by kernel_rfl) ?_ _
            clear hQ
            go_wp2_with fail
            go_roundw
            case rel =>
              refine ⟨a2 + 1, by omega, by go_num, Below.grown (extr.trans E10) hgr (extr.trans E10).size (fun k hk => (hrow'.block k hk).1), ?_⟩
              rw [HT2.out, List.map_append, ← List.append_assoc]; exact hrow6
            case measure => simp [intOf]; omega
          · have hkn : a2 = 2 := by omega
            rw [hkn, List.take_of_length_le (Nat.le_of_eq Hn2.out)] at hrow
            go_wp2_with fail
            go_roundw
            case rel =>
              refine ⟨a1 + 1, by omega, by go_num, extr, ?_⟩
              rw [HT.out, prods_snoc]
              exact hrow
            case measure => simp [intOf]; omega
      · have hkn : a1 = 2 := by omega
        rw [hkn, List.take_of_length_le (Nat.le_of_eq Hn1.out)] at hrow
        have hpl : (prods (fun x y => x - y) l1 l2).length = 4 := by rw [prods_len, Hn1.out, Hn2.out]
        obtain ⟨g7, c7, rfl, hra⟩ := hrow.shape (fun h => by rw [h] at hpl; cases hpl)
        rw [hpl]
        clear hrow hpl
        go_wp2_with fail
        go_ret
        exact ⟨g7, c7, rfl, hra, (ext.trans Ez).trans extr⟩
end
end Go.Proofs.YtoabhnofppledaaGreatDoor
