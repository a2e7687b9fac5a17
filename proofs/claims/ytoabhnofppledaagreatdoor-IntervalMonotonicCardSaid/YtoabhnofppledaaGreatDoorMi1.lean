/- Walks and laws, a part. -/
import Derived.Test.YtoabhnofppledaaGreatDoorM0
import Derived.Test.YtoabhnofppledaaGreatDoorM1
import Derived.Test.YtoabhnofppledaaGreatDoorM2
import Derived.Test.YtoabhnofppledaaGreatDoorM3
import Derived.Test.YtoabhnofppledaaGreatDoorM4
import Derived.Test.YtoabhnofppledaaGreatDoorM5
import Derived.Test.YtoabhnofppledaaGreatDoorM6
import Derived.Test.YtoabhnofppledaaGreatDoorM7
import Derived.Test.YtoabhnofppledaaGreatDoorM8
import Derived.Test.YtoabhnofppledaaGreatDoorM9
import Derived.Test.YtoabhnofppledaaGreatDoorMi0
namespace Go.Proofs.YtoabhnofppledaaGreatDoor
open Go.RowKit
attribute [local go_sem ↓] Go.wp_at_zero Go.wp_at_succ
set_option maxHeartbeats 8000000 in
theorem fewI3 {w : World} {g : Nat} {sa1 ta1 sa2 ta2 : Bool} {Aa1 Ba1 Aa2 Ba2 : Option Addr} {na1 ca1 ma1 da1 na2 ca2 ma2 da2 : Nat} {xa1 ya1 xa2 ya2 : List Nat} {sb1 tb1 sb2 tb2 : Bool} {Ab1 Bb1 Ab2 Bb2 : Option Addr} {nb1 cb1 mb1 db1 nb2 cb2 mb2 db2 : Nat} {xb1 yb1 xb2 yb2 : List Nat} {sc1 tc1 sc2 tc2 : Bool} {Ac1 Bc1 Ac2 Bc2 : Option Addr} {nc1 cc1 mc1 dc1 nc2 cc2 mc2 dc2 : Nat} {xc1 yc1 xc2 yc2 : List Nat} (hbox : Box w g 28 #[.bool sa1, .slice Aa1 na1 ca1, .bool ta1, .slice Ba1 ma1 da1, .bool sa2, .slice Aa2 na2 ca2, .bool ta2, .slice Ba2 ma2 da2, .bool sb1, .slice Ab1 nb1 cb1, .bool tb1, .slice Bb1 mb1 db1, .bool sb2, .slice Ab2 nb2 cb2, .bool tb2, .slice Bb2 mb2 db2, .bool sc1, .slice Ac1 nc1 cc1, .bool tc1, .slice Bc1 mc1 dc1, .bool sc2, .slice Ac2 nc2 cc2, .bool tc2, .slice Bc2 mc2 dc2]) (ha : RawV w Aa1 na1 ca1 xa1 Ba1 ma1 da1 ya1 Aa2 na2 ca2 xa2 Ba2 ma2 da2 ya2) (hb : RawV w Ab1 nb1 cb1 xb1 Bb1 mb1 db1 yb1 Ab2 nb2 cb2 xb2 Bb2 mb2 db2 yb2) (hc : RawV w Ac1 nc1 cc1 xc1 Bc1 mc1 dc1 yc1 Ac2 nc2 cc2 xc2 Bc2 mc2 dc2 yc2) :
    Calls Tryz.prog 15 #[.slice (some ⟨g, 0, none⟩) 3 3] w fun e w' => e = .returned (.bool (fewV na1 ma1 na2 ma2 sa1 xa1 ta1 ya1 sa2 xa2 ta2 ya2 && (fewV nb1 mb1 nb2 mb2 sb1 xb1 tb1 yb1 sb2 xb2 tb2 yb2 && (fewV nc1 mc1 nc2 mc2 sc1 xc1 tc1 yc1 sc2 xc2 tc2 yc2)))) ∧ Ext w w' := by
  go_enter Tryz.func15, Tryz.ntmps15
  go_wp2_with fail
  go_loopw [7] (fun i wr => ∃ k : Nat, k ≤ 3 ∧ i = .int .i64 (k : Int) ∧ Ext w wr ∧ ((0 < k → fewV na1 ma1 na2 ma2 sa1 xa1 ta1 ya1 sa2 xa2 ta2 ya2 = true) ∧ (1 < k → fewV nb1 mb1 nb2 mb2 sb1 xb1 tb1 yb1 sb2 xb2 tb2 yb2 = true) ∧ (2 < k → fewV nc1 mc1 nc2 mc2 sc1 xc1 tc1 yc1 sc2 xc2 tc2 yc2 = true))) (fun i _ => 3 - (intOf i).toNat)
  case atStart => exact ⟨0, by omega, rfl, Ext.refl _, by simp⟩
  case round =>
    obtain ⟨k, hk, rfl, hext, hall⟩ := hrel
    have HA := Lib.hid hall
    clear hall
    have c0 := (hbox.ext hext).cell 0 (.bool sa1) rfl
    have c1 := (hbox.ext hext).cell 1 (.slice Aa1 na1 ca1) rfl
    have c2 := (hbox.ext hext).cell 2 (.bool ta1) rfl
    have c3 := (hbox.ext hext).cell 3 (.slice Ba1 ma1 da1) rfl
    have c4 := (hbox.ext hext).cell 4 (.bool sa2) rfl
    have c5 := (hbox.ext hext).cell 5 (.slice Aa2 na2 ca2) rfl
    have c6 := (hbox.ext hext).cell 6 (.bool ta2) rfl
    have c7 := (hbox.ext hext).cell 7 (.slice Ba2 ma2 da2) rfl
    have c8 := (hbox.ext hext).cell 8 (.bool sb1) rfl
    have c9 := (hbox.ext hext).cell 9 (.slice Ab1 nb1 cb1) rfl
    have c10 := (hbox.ext hext).cell 10 (.bool tb1) rfl
    have c11 := (hbox.ext hext).cell 11 (.slice Bb1 mb1 db1) rfl
    have c12 := (hbox.ext hext).cell 12 (.bool sb2) rfl
    have c13 := (hbox.ext hext).cell 13 (.slice Ab2 nb2 cb2) rfl
    have c14 := (hbox.ext hext).cell 14 (.bool tb2) rfl
    have c15 := (hbox.ext hext).cell 15 (.slice Bb2 mb2 db2) rfl
    have c16 := (hbox.ext hext).cell 16 (.bool sc1) rfl
    have c17 := (hbox.ext hext).cell 17 (.slice Ac1 nc1 cc1) rfl
    have c18 := (hbox.ext hext).cell 18 (.bool tc1) rfl
    have c19 := (hbox.ext hext).cell 19 (.slice Bc1 mc1 dc1) rfl
    have c20 := (hbox.ext hext).cell 20 (.bool sc2) rfl
    have c21 := (hbox.ext hext).cell 21 (.slice Ac2 nc2 cc2) rfl
    have c22 := (hbox.ext hext).cell 22 (.bool tc2) rfl
    have c23 := (hbox.ext hext).cell 23 (.slice Bc2 mc2 dc2) rfl
    have hk2 : k = 0 ∨ k = 1 ∨ k = 2 ∨ k = 3 := by omega
    rcases hk2 with rfl | rfl | rfl | rfl
    · go_wp2_with (fail)
      refine (q_FewV (ha.ext (hext.alloc _)).1 (ha.ext (hext.alloc _)).2.1 (ha.ext (hext.alloc _)).2.2.1 (ha.ext (hext.alloc _)).2.2.2).mono ?_
      rintro e V ⟨rfl, hxv⟩
      replace hext := (hext.alloc _).trans hxv
      cases hf : fewV na1 ma1 na2 ma2 sa1 xa1 ta1 ya1 sa2 xa2 ta2 ya2 with
      | true =>
        have HF := Lib.hid hf
        clear hf
        go_wp2_with fail
        go_roundw
        case rel => exact ⟨1, by omega, rfl, hext, by have := HA.out; simp [HF.out] at this ⊢; try exact this⟩
        case measure => simp [intOf]
      | false =>
        have HF := Lib.hid hf
        clear hf
        go_wp2_with fail
        go_ret
        exact ⟨by have := HA.out; simp [HF.out] at this ⊢, hext⟩
    · go_wp2_with (fail)
      refine (q_FewV (hb.ext (hext.alloc _)).1 (hb.ext (hext.alloc _)).2.1 (hb.ext (hext.alloc _)).2.2.1 (hb.ext (hext.alloc _)).2.2.2).mono ?_
      rintro e V ⟨rfl, hxv⟩
      replace hext := (hext.alloc _).trans hxv
      cases hf : fewV nb1 mb1 nb2 mb2 sb1 xb1 tb1 yb1 sb2 xb2 tb2 yb2 with
      | true =>
        have HF := Lib.hid hf
        clear hf
        go_wp2_with fail
        go_roundw
        case rel => exact ⟨2, by omega, rfl, hext, by have := HA.out; simp [HF.out] at this ⊢; try exact this⟩
        case measure => simp [intOf]
      | false =>
        have HF := Lib.hid hf
        clear hf
        go_wp2_with fail
        go_ret
        exact ⟨by have := HA.out; simp [HF.out] at this ⊢, hext⟩
    · go_wp2_with (fail)
      refine (q_FewV (hc.ext (hext.alloc _)).1 (hc.ext (hext.alloc _)).2.1 (hc.ext (hext.alloc _)).2.2.1 (hc.ext (hext.alloc _)).2.2.2).mono ?_
      rintro e V ⟨rfl, hxv⟩
      replace hext := (hext.alloc _).trans hxv
      cases hf : fewV nc1 mc1 nc2 mc2 sc1 xc1 tc1 yc1 sc2 xc2 tc2 yc2 with
      | true =>
        have HF := Lib.hid hf
        clear hf
        go_wp2_with fail
        go_roundw
        case rel => exact ⟨3, by omega, rfl, hext, by have := HA.out; simp [HF.out] at this ⊢; try exact this⟩
        case measure => simp [intOf]
      | false =>
        have HF := Lib.hid hf
        clear hf
        go_wp2_with fail
        go_ret
        exact ⟨by have := HA.out; simp [HF.out] at this ⊢, hext⟩
    · go_wp2_with fail
      go_ret
      exact ⟨by have := HA.out; simp at this; simp [this], hext⟩
end Go.Proofs.YtoabhnofppledaaGreatDoor
namespace Go.Proofs.YtoabhnofppledaaGreatDoor
open Go.RowKit
section
variable {P : Program} {md : Region.Mode} {ops : Array Oper} {Q : Exit → Act → World → Prop} {W0 : World}
theorem Late.two {AL : List Al} {n i i2 : Nat} {o o2 : Oper} {L : Array Bool} {a : Act} {w : World} (ho : ops[i]? = some o) (ho2 : ops[i2]? = some o2) (hs : Region.noSelect ops = true) (hal : ∀ x ∈ AL, IsAl P ops x)
    (hr : Region.ready md ops (allMarks L AL) = [i, i2]) (hri : (Region.ready md ops L).contains i = true) (hp : sep ops AL i o = true) (hp2 : sep ops AL i2 o2 = true) (hQ : QStill Q)
    (h : ∀ w', Ext w w' → Ext W0 w' → ∀ K : Act → World → Prop, Shut (∀ a' w'', Ext w' w'' → Late P md ops Q W0 AL n (L.setIfInBounds i true) a' w'' → K a' w'') → if Region.wanted o (yielded ops a.tmps) = true then Oper.wp P o a w' K Q else K (a.put o.dst undef) w')
    (h2 : ∀ w', Ext w w' → Ext W0 w' → ∀ K : Act → World → Prop, Shut (∀ a' w'', Ext w' w'' → Late P md ops Q W0 AL n (L.setIfInBounds i2 true) a' w'' → K a' w'') → if Region.wanted o2 (yielded ops a.tmps) = true then Oper.wp P o2 a w' K Q else K (a.put o2.dst undef) w') :
    Late P md ops Q W0 AL (n + 1) L a w := by
  have fin : ∀ (j : Nat) (oj : Oper) (hoj : ops[j]? = some oj) (hpj : sep ops AL j oj = true)
      (hj : ∀ w', Ext w w' → Ext W0 w' → ∀ K : Act → World → Prop, Shut (∀ a' w'', Ext w' w'' → Late P md ops Q W0 AL n (L.setIfInBounds j true) a' w'' → K a' w'') → if Region.wanted oj (yielded ops a.tmps) = true then Oper.wp P oj a w' K Q else K (a.put oj.dst undef) w')
      (w' : World) (_ : Ext w w') (_ : Ext W0 w') (D : List (Al × Nat)) (_ : Val W0 AL w' D) (f : Nat) (_ : n + 1 + AL.length = f + 1 + D.length),
      wpOp P ops Q j (fun a' w'' => Ext W0 w'' ∧ wpAnyH P md ops Q (Ext W0) f ((marks L D).setIfInBounds j true) a' w'') (lays a D) w' := by
    intro j oj hoj hpj hj w' e hS D hD f hl
    have hsep := fun y (hy : y ∈ D) => sep_spec hpj (hD.mem y hy)
    refine wpOp_lays hoj (fun cs b => Region.noSelect_spec hs j oj cs b hoj) hQ D _ a (fun y hy => (hsep y hy).2) (wpOp_step hoj fun K' hK => hj w' e hS K' (fun a' w'' e' hL => hK a' w'' ?_))
    have hS' := hS.trans e'
    refine ⟨hS', ?_⟩
    have := hL w'' (Ext.refl _) hS' D (hD.ext e') f (by omega)
    rwa [marks_set D L j (fun y hy => (hsep y hy).1)] at this
  have go : ∀ (k : Nat) w', Ext w w' → Ext W0 w' → ∀ D, Val W0 AL w' D → AL.length ≤ D.length + k → ∀ f, n + 1 + AL.length = f + D.length → wpAnyH P md ops Q (Ext W0) f (marks L D) (lays a D) w' := by
    intro k
    induction k with
    | zero =>
      intro w' e hS D hD hk f hl
      have hlen := hD.len
      obtain ⟨f, rfl⟩ : ∃ k, f = k + 1 := ⟨f - 1, by omega⟩
      have hsep := fun y (hy : y ∈ D) => sep_spec hp (hD.mem y hy)
      have hir : i ∈ Region.ready md ops (marks L D) := ready_marks D L (by simpa using hri) (fun y hy => (hsep y hy).1)
      refine ⟨(fun h0 => by rw [h0] at hir; cases hir), fun j hj => ?_⟩
      have hji : j = i ∨ j = i2 := by
        by_cases hx : ∃ x ∈ AL, x.i = j
        · obtain ⟨x, hx, rfl⟩ := hx
          have hun := (marks_un D L x.i (mem_ready.1 hj).1).2
          have := hD.len_lt hx hun
          omega
        · have := ready_all hD.mem hj (fun x hx' e => hx ⟨x, hx', e⟩)
          rw [hr] at this
          simpa using this
      rcases hji with e' | e'
      · rw [e']; exact fin i o ho hp h w' e hS D hD f hl
      · rw [e']; exact fin i2 o2 ho2 hp2 h2 w' e hS D hD f hl
    | succ k ih =>
      intro w' e hS D hD hk f hl
      have hlen := hD.len
      obtain ⟨f, rfl⟩ : ∃ k, f = k + 1 := ⟨f - 1, by omega⟩
      have hsep := fun y (hy : y ∈ D) => sep_spec hp (hD.mem y hy)
      have hir : i ∈ Region.ready md ops (marks L D) := ready_marks D L (by simpa using hri) (fun y hy => (hsep y hy).1)
      refine ⟨(fun h0 => by rw [h0] at hir; cases hir), fun j hj => ?_⟩
      by_cases hx : ∃ x ∈ AL, x.i = j
      · obtain ⟨x, hx, rfl⟩ := hx
        have hun := (marks_un D L x.i (mem_ready.1 hj).1).2
        refine wpOp_alloc (hal x hx) ?_
        have e1 := (Ext.refl w').alloc (.cells x.cs x.t)
        have hS1 := hS.trans e1
        refine ⟨hS1, ?_⟩
        have := ih (w'.alloc (.cells x.cs x.t)) (e.trans e1) hS1 (D ++ [(x, w'.heap.size)]) (hD.snoc hx hun hS) (by simp; omega) f (by simp; omega)
        rwa [marks_snoc, lays_snoc] at this
      · have := ready_all hD.mem hj (fun x hx' e => hx ⟨x, hx', e⟩)
        rw [hr] at this
        have hji : j = i ∨ j = i2 := by simpa using this
        rcases hji with e' | e'
        · rw [e']; exact fin i o ho hp h w' e hS D hD f hl
        · rw [e']; exact fin i2 o2 ho2 hp2 h2 w' e hS D hD f hl
  exact fun w' e hS D hD f hl => go AL.length w' e hS D hD (by omega) f hl
end
end Go.Proofs.YtoabhnofppledaaGreatDoor
namespace Go.Proofs.YtoabhnofppledaaGreatDoor
theorem mem_ends {lo hi x : Rat} : x ∈ endsOf lo hi ↔ x = lo ∨ x = hi := by
  unfold endsOf
  split
  · rename_i h; subst h; simp
  · simp
theorem mem_prods {F : Rat → Rat → Rat} {l l' : List Rat} {z : Rat} : z ∈ prods F l l' ↔ ∃ x ∈ l, ∃ y ∈ l', F x y = z := by
  unfold prods
  rw [List.mem_flatMap]
  constructor
  · rintro ⟨x, hx, h⟩
    obtain ⟨y, hy, e⟩ := List.mem_map.1 h
    exact ⟨x, hx, y, hy, e⟩
  · rintro ⟨x, hx, y, hy, e⟩
    exact ⟨x, hx, List.mem_map.2 ⟨y, hy, e⟩⟩
theorem prods_four (F : Rat → Rat → Rat) (lo hi lo' hi' z : Rat) : z ∈ prods F (endsOf lo hi) (endsOf lo' hi') ↔ z ∈ [F lo lo', F lo hi', F hi lo', F hi hi'] := by
  rw [mem_prods]
  simp only [List.mem_cons, List.not_mem_nil, or_false, mem_ends]
  constructor
  · rintro ⟨x, rfl | rfl, y, rfl | rfl, rfl⟩ <;> simp
  · rintro (rfl | rfl | rfl | rfl)
    · exact ⟨lo, .inl rfl, lo', .inl rfl, rfl⟩
    · exact ⟨lo, .inl rfl, hi', .inr rfl, rfl⟩
    · exact ⟨hi, .inr rfl, lo', .inl rfl, rfl⟩
    · exact ⟨hi, .inr rfl, hi', .inr rfl, rfl⟩
/-- the results for the four pairs of ends lie from l to h. -/
def Four (F : Rat → Rat → Rat) (lo hi lo' hi' l h : Rat) : Prop := (l ≤ F lo lo' ∧ F lo lo' ≤ h) ∧ (l ≤ F lo hi' ∧ F lo hi' ≤ h) ∧ (l ≤ F hi lo' ∧ F hi lo' ≤ h) ∧ (l ≤ F hi hi' ∧ F hi hi' ≤ h)
theorem IsHull.four {F : Rat → Rat → Rat} {lo hi lo' hi' l h : Rat} (hu : IsHull l h (prods F (endsOf lo hi) (endsOf lo' hi'))) : Four F lo hi lo' hi' l h := by
  obtain ⟨_, _, h3⟩ := hu
  exact ⟨h3 _ ((prods_four F lo hi lo' hi' _).2 (by simp)), h3 _ ((prods_four F lo hi lo' hi' _).2 (by simp)), h3 _ ((prods_four F lo hi lo' hi' _).2 (by simp)), h3 _ ((prods_four F lo hi lo' hi' _).2 (by simp))⟩
theorem rat_add_le {a b c d : Rat} (h1 : a ≤ b) (h2 : c ≤ d) : a + c ≤ b + d := Rat.le_trans (Rat.add_le_add_right.2 h1) (Rat.add_le_add_left.2 h2)
theorem rat_lt_le {a b c : Rat} (h1 : a < b) (h2 : b ≤ c) : a < c := Rat.not_le.1 fun h => Rat.not_le.2 h1 (Rat.le_trans h2 h)
theorem rat_le_lt {a b c : Rat} (h1 : a ≤ b) (h2 : b < c) : a < c := Rat.not_le.1 fun h => Rat.not_le.2 h2 (Rat.le_trans h h1)
theorem rat_neg_inv {a : Rat} (ha : a ≠ 0) : (-a)⁻¹ = -a⁻¹ := by
  have hn : -a ≠ 0 := fun h => ha (by rw [← Rat.neg_neg a, h, Rat.neg_zero])
  have h1 : -a * -a⁻¹ = 1 := by rw [Rat.neg_mul, Rat.mul_neg, Rat.neg_neg, Rat.mul_inv_cancel a ha]
  calc (-a)⁻¹ = (-a)⁻¹ * (-a * -a⁻¹) := by rw [h1, Rat.mul_one]
    _ = -a⁻¹ := by rw [← Rat.mul_assoc, Rat.inv_mul_cancel _ hn, Rat.one_mul]
theorem add_four {lo hi lo' hi' l h x y : Rat} (k : Four (fun x y => x + y) lo hi lo' hi' l h) (h1 : lo ≤ x) (h2 : x ≤ hi) (h3 : lo' ≤ y) (h4 : y ≤ hi') : l ≤ x + y ∧ x + y ≤ h :=
  ⟨Rat.le_trans k.1.1 (rat_add_le h1 h3), Rat.le_trans (rat_add_le h2 h4) k.2.2.2.2⟩
theorem sub_four {lo hi lo' hi' l h x y : Rat} (k : Four (fun x y => x - y) lo hi lo' hi' l h) (h1 : lo ≤ x) (h2 : x ≤ hi) (h3 : lo' ≤ y) (h4 : y ≤ hi') : l ≤ x - y ∧ x - y ≤ h := by
  have a : ∀ {a b c d : Rat}, a ≤ b → d ≤ c → a - c ≤ b - d := fun h1 h2 => by
    rw [Rat.sub_eq_add_neg, Rat.sub_eq_add_neg]; exact rat_add_le h1 (Rat.neg_le_neg h2)
  exact ⟨Rat.le_trans k.2.1.1 (a h1 h4), Rat.le_trans (a h2 h3) k.2.2.1.2⟩
theorem lin {a u v t l h : Rat} (h1 : u ≤ t) (h2 : t ≤ v) (hu : l ≤ a * u ∧ a * u ≤ h) (hv : l ≤ a * v ∧ a * v ≤ h) : l ≤ a * t ∧ a * t ≤ h := by
  rcases Rat.le_total (a := 0) (b := a) with ha | ha
  · exact ⟨Rat.le_trans hu.1 (Rat.mul_le_mul_of_nonneg_left h1 ha), Rat.le_trans (Rat.mul_le_mul_of_nonneg_left h2 ha) hv.2⟩
  · have hn : 0 ≤ -a := by have := Rat.neg_le_neg ha; rwa [Rat.neg_zero] at this
    have e : ∀ {p q : Rat}, p ≤ q → a * q ≤ a * p := fun {p q} h => by
      have := Rat.mul_le_mul_of_nonneg_left h hn
      rw [Rat.neg_mul, Rat.neg_mul] at this
      have := Rat.neg_le_neg this
      rwa [Rat.neg_neg, Rat.neg_neg] at this
    exact ⟨Rat.le_trans hv.1 (e h2), Rat.le_trans (e h1) hu.2⟩
theorem lin' {a u v t l h : Rat} (h1 : u ≤ t) (h2 : t ≤ v) (hu : l ≤ u * a ∧ u * a ≤ h) (hv : l ≤ v * a ∧ v * a ≤ h) : l ≤ t * a ∧ t * a ≤ h := by
  rw [Rat.mul_comm] at hu hv ⊢
  exact lin h1 h2 hu hv
theorem mul_four {lo hi lo' hi' l h x y : Rat} (k : Four (fun x y => x * y) lo hi lo' hi' l h) (h1 : lo ≤ x) (h2 : x ≤ hi) (h3 : lo' ≤ y) (h4 : y ≤ hi') : l ≤ x * y ∧ x * y ≤ h :=
  lin' h1 h2 (lin h3 h4 k.1 k.2.1) (lin h3 h4 k.2.2.1 k.2.2.2)
theorem inv_pos_le {a b : Rat} (ha : 0 < a) (h : a ≤ b) : b⁻¹ ≤ a⁻¹ := by
  have hb : 0 < b := rat_lt_le ha h
  have ha' : 0 ≤ a⁻¹ := Rat.le_of_lt (Rat.inv_pos.2 ha)
  have hb' : 0 ≤ b⁻¹ := Rat.le_of_lt (Rat.inv_pos.2 hb)
  have h1 := Rat.mul_le_mul_of_nonneg_right (Rat.mul_le_mul_of_nonneg_right h ha') hb'
  rw [Rat.mul_inv_cancel a (Rat.ne_of_gt ha), Rat.one_mul, Rat.mul_assoc, Rat.mul_comm a⁻¹, ← Rat.mul_assoc, Rat.mul_inv_cancel b (Rat.ne_of_gt hb), Rat.one_mul] at h1
  exact h1
theorem inv_neg_le {a b : Rat} (hb : b < 0) (h : a ≤ b) : b⁻¹ ≤ a⁻¹ := by
  have h1 : 0 < -b := by have := Rat.neg_lt_neg hb; rwa [Rat.neg_zero] at this
  have h2 := inv_pos_le h1 (Rat.neg_le_neg h)
  have ha : a < 0 := rat_le_lt h hb
  rw [rat_neg_inv (Rat.ne_of_lt ha), rat_neg_inv (Rat.ne_of_lt hb)] at h2
  have := Rat.neg_le_neg h2
  rwa [Rat.neg_neg, Rat.neg_neg] at this
theorem inv_between {lo hi y : Rat} (hin : inB lo hi ((0 : Int) : Rat) = false) (h3 : lo ≤ y) (h4 : y ≤ hi) : hi⁻¹ ≤ y⁻¹ ∧ y⁻¹ ≤ lo⁻¹ ∧ y ≠ 0 := by
  have h0 : ((0 : Int) : Rat) = 0 := rfl
  rw [h0] at hin
  unfold inB at hin
  by_cases hl : lo ≤ 0
  · have hh : hi < 0 := by
      rw [decide_eq_true hl, Bool.true_and, decide_eq_false_iff_not] at hin
      exact Rat.not_le.1 hin
    have hy : y < 0 := rat_le_lt h4 hh
    exact ⟨inv_neg_le hh h4, inv_neg_le hy h3, Rat.ne_of_lt hy⟩
  · have hl' : 0 < lo := Rat.not_le.1 hl
    have hy : 0 < y := rat_lt_le hl' h3
    exact ⟨inv_pos_le hy h4, inv_pos_le hl' h3, Rat.ne_of_gt hy⟩
theorem div_four {lo hi lo' hi' l h x y : Rat} (k : Four (fun x y => x / y) lo hi lo' hi' l h) (hin : inB lo' hi' ((0 : Int) : Rat) = false) (h1 : lo ≤ x) (h2 : x ≤ hi) (h3 : lo' ≤ y) (h4 : y ≤ hi') : l ≤ x / y ∧ x / y ≤ h := by
  obtain ⟨i1, i2, _⟩ := inv_between hin h3 h4
  unfold Four at k
  simp only [Rat.div_def] at k ⊢
  exact lin' h1 h2 (lin i1 i2 k.2.1 k.1) (lin i1 i2 k.2.2.2 k.2.2.1)
/-- the ends of the results for parts of intervals lie within the results. -/
theorem hull_within {lo hi l h : Rat} {qs : List Rat} (hq : IsHull lo hi qs) (hf : ∀ z ∈ qs, l ≤ z ∧ z ≤ h) : (l ≤ lo ∧ lo ≤ h) ∧ (l ≤ hi ∧ hi ≤ h) := ⟨hf _ hq.1, hf _ hq.2.1⟩
end Go.Proofs.YtoabhnofppledaaGreatDoor
namespace Go.Proofs.YtoabhnofppledaaGreatDoor
open Go.RowKit
attribute [local go_sem ↓] Go.wp_at_zero Go.wp_at_succ
theorem inB_zero {lo hi : Rat} (h : inB lo hi ((0 : Int) : Rat) = true) : lo ≤ 0 ∧ 0 ≤ hi := by
  have h0 : ((0 : Int) : Rat) = 0 := rfl
  rw [h0] at h
  unfold inB at h
  simpa using h
section
variable {w w' : World} {q p lo hi lo' hi' x : Rat} {L M : Nat} {s t s' t' sx tx u v u' v' : Bool} {A B A' B' Ax Bx C D C' D' : Option Addr} {n c m d n' c' m' d' nx cx mx dx i j k l i' j' k' l' : Nat} {qs : List Rat}
end
end Go.Proofs.YtoabhnofppledaaGreatDoor
namespace Go.Proofs.YtoabhnofppledaaGreatDoor
open Go.RowKit
attribute [local go_sem ↓] Go.wp_at_zero Go.wp_at_succ
/-- the greater one of two numbers. -/
def mxR (a b : Rat) : Rat := if a < b then b else a
/-- the less one of two numbers. -/
def mnR (a b : Rat) : Rat := if b < a then b else a
/-- the common numbers of two intervals, and whether there are any. -/
def RetMeet (lo hi lo' hi' : Rat) (L : Nat) (w : World) (e : Ending) (w' : World) : Prop :=
  (mxR lo lo' ≤ mnR hi hi' ∧ ∃ s A n c t B m d s' A' n' c' t' B' m' d', e = .returned (.tuple #[.agg #[.bool s, .slice A n c, .bool t, .slice B m d, .bool s', .slice A' n' c', .bool t', .slice B' m' d'], .bool true]) ∧ IV w' (mxR lo lo') (mnR hi hi') L s A n c t B m d s' A' n' c' t' B' m' d' ∧ Ext w w') ∨
  (¬ mxR lo lo' ≤ mnR hi hi' ∧ e = .returned (.tuple #[.agg #[.bool false, .slice none 0 0, .bool false, .slice none 0 0, .bool false, .slice none 0 0, .bool false, .slice none 0 0], .bool false]) ∧ Ext w w')
section
variable {w w' : World} {q p lo hi lo' hi' x : Rat} {L M : Nat} {s t s' t' sx tx u v u' v' : Bool} {A B A' B' Ax Bx C D C' D' : Option Addr} {n c m d n' c' m' d' nx cx mx dx i j k l i' j' k' l' : Nat} {qs : List Rat}
set_option maxHeartbeats 8000000 in
set_option maxRecDepth 100000 in
theorem q_Meet_111 (h : IV w lo hi L s A n c t B m d s' A' n' c' t' B' m' d') (h' : IV w lo' hi' L u C i j v D k l u' C' i' j' v' D' k' l') (hL : L ≤ 20) (c1 : lo < lo') (c2 : hi' < hi) (c3 : ¬ hi' < lo') : Calls Tryz.prog 42 #[.agg #[.bool s, .slice A n c, .bool t, .slice B m d, .bool s', .slice A' n' c', .bool t', .slice B' m' d'], .agg #[.bool u, .slice C i j, .bool v, .slice D k l, .bool u', .slice C' i' j', .bool v', .slice D' k' l']] w (RetMeet lo hi lo' hi' L w) := by
  have hmx : mxR lo lo' = lo' := by unfold mxR; rw [if_pos c1]
  have hmn : mnR hi hi' = hi' := by unfold mnR; rw [if_pos c2]
  have HM := Lib.hid (And.intro hmx hmn)
  have HC := Lib.hid (show lo' ≤ hi' from Rat.not_lt.1 c3)
  obtain ⟨U1, hU1, d1⟩ : ∃ S, ratCmp lo' lo = S ∧ decide (0 < S) = true := ⟨_, rfl, decide_eq_true (ratCmp_gt.2 c1)⟩
  obtain ⟨U2, hU2, d2⟩ : ∃ S, ratCmp hi' hi = S ∧ decide (S < 0) = true := ⟨_, rfl, decide_eq_true (ratCmp_lt.2 c2)⟩
  obtain ⟨U3, hU3, d3⟩ : ∃ S, ratCmp lo' hi' = S ∧ decide (0 < S) = false := ⟨_, rfl, decide_eq_false (fun k => c3 (ratCmp_gt.1 k))⟩
  have HU1 := Lib.hid hU1
  have HU2 := Lib.hid hU2
  have HU3 := Lib.hid hU3
  clear hmx hmn c1 c2 c3 hU1 hU2 hU3
  go_enter Tryz.func42, Tryz.ntmps42
  go_upto_region 1 with (fail)
  obtain ⟨W, hW, ext, bx, by_, bz, hz⟩ := box3 w 28 28 28 #[.bool s, .slice A n c, .bool t, .slice B m d, .bool s', .slice A' n' c', .bool t', .slice B' m' d'] #[.bool u, .slice C i j, .bool v, .slice D k l, .bool u', .slice C' i' j', .bool v', .slice D' k' l'] #[Value.bool false, Value.slice none 0 0, Value.bool false, Value.slice none 0 0, Value.bool false, Value.slice none 0 0, Value.bool false, Value.slice none 0 0]
  rw [← hW]
  clear hW hz
  have hlz := bz.lt
  have k0 := bx.cell 0 (.bool s) rfl
  have k1 := bx.cell 1 (.slice A n c) rfl
  have k2 := bx.cell 2 (.bool t) rfl
  have k3 := bx.cell 3 (.slice B m d) rfl
  have k4 := bx.cell 4 (.bool s') rfl
  have k5 := bx.cell 5 (.slice A' n' c') rfl
  have k6 := bx.cell 6 (.bool t') rfl
  have k7 := bx.cell 7 (.slice B' m' d') rfl
  go_upto_region 2 with (fail)
  refine at_world (fun V => Ext w V ∧ Box V (w.heap.size + 1) 28 #[.bool u, .slice C i j, .bool v, .slice D k l, .bool u', .slice C' i' j', .bool v', .slice D' k' l'] ∧ Box V (w.heap.size + 1 + 1) 28 #[Value.bool false, Value.slice none 0 0, Value.bool false, Value.slice none 0 0, Value.bool false, Value.slice none 0 0, Value.bool false, Value.slice none 0 0] ∧ Box V W.heap.size 28 #[.bool s, .slice A n c, .bool t, .slice B m d, .bool s', .slice A' n' c', .bool t', .slice B' m' d']) ⟨ext.alloc _, by_.ext ((Ext.refl W).alloc _), bz.ext ((Ext.refl W).alloc _), Box.new W _ _⟩ ?_
  generalize W.heap.size = g6 at hlz ⊢
  clear k0 k1 k2 k3 k4 k5 k6 k7 ext bx by_ bz
  rintro V ⟨ext, by_, bz, b6⟩
  have x0 := by_.cell 0 (.bool u) rfl
  have x1 := by_.cell 1 (.slice C i j) rfl
  have x2 := by_.cell 2 (.bool v) rfl
  have x3 := by_.cell 3 (.slice D k l) rfl
  have x4 := by_.cell 4 (.bool u') rfl
  have x5 := by_.cell 5 (.slice C' i' j') rfl
  have x6 := by_.cell 6 (.bool v') rfl
  have x7 := by_.cell 7 (.slice D' k' l') rfl
  have k0 := b6.cell 0 (.bool s) rfl
  have k1 := b6.cell 1 (.slice A n c) rfl
  have k2 := b6.cell 2 (.bool t) rfl
  have k3 := b6.cell 3 (.slice B m d) rfl
  have k4 := b6.cell 4 (.bool s') rfl
  have k5 := b6.cell 5 (.slice A' n' c') rfl
  have k6 := b6.cell 6 (.bool t') rfl
  have k7 := b6.cell 7 (.slice B' m' d') rfl
  go_wp2_with fail
  refine (q_CmpR (h'.low.ext ext) (h.low.ext ext) (by omega) (by omega)).mono ?_
  rintro e Wa ⟨rfl, hxt⟩
  rw [HU1.out]
  replace by_ := by_.ext hxt
  replace bz := bz.ext hxt
  replace b6 := b6.ext hxt
  replace ext := ext.trans hxt
  clear hxt x0 x1 x2 x3 x4 x5 x6 x7 k0 k1 k2 k3 k4 k5 k6 k7
  have y0 := b6.cell 0 _ rfl
  have y1 := b6.cell 1 _ rfl
  have y2 := b6.cell 2 _ rfl
  have y3 := b6.cell 3 _ rfl
  have f0 := b6.frozen 0
  have f1 := b6.frozen 1
  have f2 := b6.frozen 2
  have f3 := b6.frozen 3
  have x0 := by_.cell 0 (.bool u) rfl
  have x1 := by_.cell 1 (.slice C i j) rfl
  have x2 := by_.cell 2 (.bool v) rfl
  have x3 := by_.cell 3 (.slice D k l) rfl
  have x4 := by_.cell 4 (.bool u') rfl
  have x5 := by_.cell 5 (.slice C' i' j') rfl
  have x6 := by_.cell 6 (.bool v') rfl
  have x7 := by_.cell 7 (.slice D' k' l') rfl
  go_upto_region 4 with (fail)
  have F := (((((FinOK.refl (T := 28) b6 NoWord.oct).step 0 (v := .bool u) (by intro k h; cases h)).step 1 (v := .slice C i j) (by intro k h; cases h)).step 2 (v := .bool v) (by intro k h; cases h)).step 3 (v := .slice D k l) (by intro k h; cases h))
  simp only [List.setIfInBounds_toArray, List.set_cons_succ, List.set_cons_zero] at F
  refine at_world (fun Y1 => Ext w Y1 ∧ Box Y1 (w.heap.size + 1) 28 #[.bool u, .slice C i j, .bool v, .slice D k l, .bool u', .slice C' i' j', .bool v', .slice D' k' l'] ∧ Box Y1 (w.heap.size + 1 + 1) 28 #[Value.bool false, Value.slice none 0 0, Value.bool false, Value.slice none 0 0, Value.bool false, Value.slice none 0 0, Value.bool false, Value.slice none 0 0] ∧ Box Y1 g6 28 #[.bool u, .slice C i j, .bool v, .slice D k l, .bool s', .slice A' n' c', .bool t', .slice B' m' d']) ⟨F.ext _ ext (by omega), F.far _ _ _ (by omega) by_, F.far _ _ _ (by omega) bz, F.box⟩ ?_
  clear F x0 x1 x2 x3 x4 x5 x6 x7 y0 y1 y2 y3 f0 f1 f2 f3 ext by_ bz b6
  rintro Y1 ⟨ext, by_, bz, b6⟩
  have x0 := by_.cell 0 (.bool u) rfl
  have x1 := by_.cell 1 (.slice C i j) rfl
  have x2 := by_.cell 2 (.bool v) rfl
  have x3 := by_.cell 3 (.slice D k l) rfl
  have x4 := by_.cell 4 (.bool u') rfl
  have x5 := by_.cell 5 (.slice C' i' j') rfl
  have x6 := by_.cell 6 (.bool v') rfl
  have x7 := by_.cell 7 (.slice D' k' l') rfl
  have k0 := b6.cell 0 (.bool u) rfl
  have k1 := b6.cell 1 (.slice C i j) rfl
  have k2 := b6.cell 2 (.bool v) rfl
  have k3 := b6.cell 3 (.slice D k l) rfl
  have k4 := b6.cell 4 (.bool s') rfl
  have k5 := b6.cell 5 (.slice A' n' c') rfl
  have k6 := b6.cell 6 (.bool t') rfl
  have k7 := b6.cell 7 (.slice B' m' d') rfl
  go_wp2_with fail
  refine (q_CmpR (h'.high.ext ext) (h.high.ext ext) (by omega) (by omega)).mono ?_
  rintro e Wb ⟨rfl, hxt⟩
  rw [HU2.out]
  replace by_ := by_.ext hxt
  replace bz := bz.ext hxt
  replace b6 := b6.ext hxt
  replace ext := ext.trans hxt
  clear hxt x0 x1 x2 x3 x4 x5 x6 x7 k0 k1 k2 k3 k4 k5 k6 k7
  have y0 := b6.cell 4 _ rfl
  have y1 := b6.cell 5 _ rfl
  have y2 := b6.cell 6 _ rfl
  have y3 := b6.cell 7 _ rfl
  have f0 := b6.frozen 4
  have f1 := b6.frozen 5
  have f2 := b6.frozen 6
  have f3 := b6.frozen 7
  have x0 := by_.cell 0 (.bool u) rfl
  have x1 := by_.cell 1 (.slice C i j) rfl
  have x2 := by_.cell 2 (.bool v) rfl
  have x3 := by_.cell 3 (.slice D k l) rfl
  have x4 := by_.cell 4 (.bool u') rfl
  have x5 := by_.cell 5 (.slice C' i' j') rfl
  have x6 := by_.cell 6 (.bool v') rfl
  have x7 := by_.cell 7 (.slice D' k' l') rfl
  go_upto_region 6 with (fail)
  have F := (((((FinOK.refl (T := 28) b6 NoWord.oct).step 4 (v := .bool u') (by intro k h; cases h)).step 5 (v := .slice C' i' j') (by intro k h; cases h)).step 6 (v := .bool v') (by intro k h; cases h)).step 7 (v := .slice D' k' l') (by intro k h; cases h))
  simp only [List.setIfInBounds_toArray, List.set_cons_succ, List.set_cons_zero] at F
  refine at_world (fun Y2 => Ext w Y2 ∧ Box Y2 (w.heap.size + 1) 28 #[.bool u, .slice C i j, .bool v, .slice D k l, .bool u', .slice C' i' j', .bool v', .slice D' k' l'] ∧ Box Y2 (w.heap.size + 1 + 1) 28 #[Value.bool false, Value.slice none 0 0, Value.bool false, Value.slice none 0 0, Value.bool false, Value.slice none 0 0, Value.bool false, Value.slice none 0 0] ∧ Box Y2 g6 28 #[.bool u, .slice C i j, .bool v, .slice D k l, .bool u', .slice C' i' j', .bool v', .slice D' k' l']) ⟨F.ext _ ext (by omega), F.far _ _ _ (by omega) by_, F.far _ _ _ (by omega) bz, F.box⟩ ?_
  clear F x0 x1 x2 x3 x4 x5 x6 x7 y0 y1 y2 y3 f0 f1 f2 f3 ext by_ bz b6
  rintro Y2 ⟨ext, by_, bz, b6⟩
  have x0 := by_.cell 0 (.bool u) rfl
  have x1 := by_.cell 1 (.slice C i j) rfl
  have x2 := by_.cell 2 (.bool v) rfl
  have x3 := by_.cell 3 (.slice D k l) rfl
  have x4 := by_.cell 4 (.bool u') rfl
  have x5 := by_.cell 5 (.slice C' i' j') rfl
  have x6 := by_.cell 6 (.bool v') rfl
  have x7 := by_.cell 7 (.slice D' k' l') rfl
  have k0 := b6.cell 0 (.bool u) rfl
  have k1 := b6.cell 1 (.slice C i j) rfl
  have k2 := b6.cell 2 (.bool v) rfl
  have k3 := b6.cell 3 (.slice D k l) rfl
  have k4 := b6.cell 4 (.bool u') rfl
  have k5 := b6.cell 5 (.slice C' i' j') rfl
  have k6 := b6.cell 6 (.bool v') rfl
  have k7 := b6.cell 7 (.slice D' k' l') rfl
  go_wp2_with fail
  refine (q_CmpR (h'.low.ext ext) (h'.high.ext ext) (by omega) (by omega)).mono ?_
  rintro e Wc ⟨rfl, hxt⟩
  rw [HU3.out]
  replace by_ := by_.ext hxt
  replace bz := bz.ext hxt
  replace b6 := b6.ext hxt
  replace ext := ext.trans hxt
  clear hxt x0 x1 x2 x3 x4 x5 x6 x7 k0 k1 k2 k3 k4 k5 k6 k7
  have k0 := b6.cell 0 (.bool u) rfl
  have k1 := b6.cell 1 (.slice C i j) rfl
  have k2 := b6.cell 2 (.bool v) rfl
  have k3 := b6.cell 3 (.slice D k l) rfl
  have k4 := b6.cell 4 (.bool u') rfl
  have k5 := b6.cell 5 (.slice C' i' j') rfl
  have k6 := b6.cell 6 (.bool v') rfl
  have k7 := b6.cell 7 (.slice D' k' l') rfl
  have hx1 := Ext.refl Wc
  have z0 := (bz.ext hx1).cell 0 _ rfl
  have f0 := (bz.ext hx1).frozen 0
  have z1 := (bz.ext hx1).cell 1 _ rfl
  have f1 := (bz.ext hx1).frozen 1
  have z2 := (bz.ext hx1).cell 2 _ rfl
  have f2 := (bz.ext hx1).frozen 2
  have z3 := (bz.ext hx1).cell 3 _ rfl
  have f3 := (bz.ext hx1).frozen 3
  have z4 := (bz.ext hx1).cell 4 _ rfl
  have f4 := (bz.ext hx1).frozen 4
  have z5 := (bz.ext hx1).cell 5 _ rfl
  have f5 := (bz.ext hx1).frozen 5
  have z6 := (bz.ext hx1).cell 6 _ rfl
  have f6 := (bz.ext hx1).frozen 6
  have z7 := (bz.ext hx1).cell 7 _ rfl
  have f7 := (bz.ext hx1).frozen 7
  go_wp2_with fail
  obtain ⟨b1, b2, b3, b4⟩ := fin_oct (v0 := (.bool u)) (v1 := (.slice C i j)) (v2 := (.bool v)) (v3 := (.slice D k l)) (v4 := (.bool u')) (v5 := (.slice C' i' j')) (v6 := (.bool v')) (v7 := (.slice D' k' l')) (bz.ext hx1)
  have r0 := b1.cell 0 (.bool u) rfl
  have r1 := b1.cell 1 (.slice C i j) rfl
  have r2 := b1.cell 2 (.bool v) rfl
  have r3 := b1.cell 3 (.slice D k l) rfl
  have r4 := b1.cell 4 (.bool u') rfl
  have r5 := b1.cell 5 (.slice C' i' j') rfl
  have r6 := b1.cell 6 (.bool v') rfl
  have r7 := b1.cell 7 (.slice D' k' l') rfl
  unfold set8 at r0 r1 r2 r3 r4 r5 r6 r7
  have q1 := b2 _ _ _ _ _ _ (h'.low.ext ext).num
  have q2 := b2 _ _ _ _ _ _ (h'.low.ext ext).den
  have q3 := b2 _ _ _ _ _ _ (h'.high.ext ext).num
  have q4 := b2 _ _ _ _ _ _ (h'.high.ext ext).den
  refine bodyPost_ret (v := .tuple #[.agg #[.bool u, .slice C i j, .bool v, .slice D k l, .bool u', .slice C' i' j', .bool v', .slice D' k' l'], .bool true]) (by simp [results, Tryz.results42, go_sem, r0, r1, r2, r3, r4, r5, r6, r7]) rfl (by rw [RetMeet, HM.out.1, HM.out.2]; exact .inl ⟨HC.out, u, C, i, j, v, D, k, l, u', C', i', j', v', D', k', l', rfl, ⟨⟨q1, q2⟩, ⟨q3, q4⟩⟩, b3 _ (ext.trans hx1) (by omega)⟩)
set_option maxHeartbeats 8000000 in
set_option maxRecDepth 100000 in
theorem q_Meet_110 (h : IV w lo hi L s A n c t B m d s' A' n' c' t' B' m' d') (h' : IV w lo' hi' L u C i j v D k l u' C' i' j' v' D' k' l') (hL : L ≤ 20) (c1 : lo < lo') (c2 : hi' < hi) (c3 : hi' < lo') : Calls Tryz.prog 42 #[.agg #[.bool s, .slice A n c, .bool t, .slice B m d, .bool s', .slice A' n' c', .bool t', .slice B' m' d'], .agg #[.bool u, .slice C i j, .bool v, .slice D k l, .bool u', .slice C' i' j', .bool v', .slice D' k' l']] w (RetMeet lo hi lo' hi' L w) := by
  have hmx : mxR lo lo' = lo' := by unfold mxR; rw [if_pos c1]
  have hmn : mnR hi hi' = hi' := by unfold mnR; rw [if_pos c2]
  have HM := Lib.hid (And.intro hmx hmn)
  have HC := Lib.hid (show ¬ lo' ≤ hi' from fun k => Rat.not_le.2 c3 k)
  obtain ⟨U1, hU1, d1⟩ : ∃ S, ratCmp lo' lo = S ∧ decide (0 < S) = true := ⟨_, rfl, decide_eq_true (ratCmp_gt.2 c1)⟩
  obtain ⟨U2, hU2, d2⟩ : ∃ S, ratCmp hi' hi = S ∧ decide (S < 0) = true := ⟨_, rfl, decide_eq_true (ratCmp_lt.2 c2)⟩
  obtain ⟨U3, hU3, d3⟩ : ∃ S, ratCmp lo' hi' = S ∧ decide (0 < S) = true := ⟨_, rfl, decide_eq_true (ratCmp_gt.2 c3)⟩
  have HU1 := Lib.hid hU1
  have HU2 := Lib.hid hU2
  have HU3 := Lib.hid hU3
  clear hmx hmn c1 c2 c3 hU1 hU2 hU3
  go_enter Tryz.func42, Tryz.ntmps42
  go_upto_region 1 with (fail)
  obtain ⟨W, hW, ext, bx, by_, bz, hz⟩ := box3 w 28 28 28 #[.bool s, .slice A n c, .bool t, .slice B m d, .bool s', .slice A' n' c', .bool t', .slice B' m' d'] #[.bool u, .slice C i j, .bool v, .slice D k l, .bool u', .slice C' i' j', .bool v', .slice D' k' l'] #[Value.bool false, Value.slice none 0 0, Value.bool false, Value.slice none 0 0, Value.bool false, Value.slice none 0 0, Value.bool false, Value.slice none 0 0]
  rw [← hW]
  clear hW hz
  have hlz := bz.lt
  have k0 := bx.cell 0 (.bool s) rfl
  have k1 := bx.cell 1 (.slice A n c) rfl
  have k2 := bx.cell 2 (.bool t) rfl
  have k3 := bx.cell 3 (.slice B m d) rfl
  have k4 := bx.cell 4 (.bool s') rfl
  have k5 := bx.cell 5 (.slice A' n' c') rfl
  have k6 := bx.cell 6 (.bool t') rfl
  have k7 := bx.cell 7 (.slice B' m' d') rfl
  go_upto_region 2 with (fail)
  refine at_world (fun V => Ext w V ∧ Box V (w.heap.size + 1) 28 #[.bool u, .slice C i j, .bool v, .slice D k l, .bool u', .slice C' i' j', .bool v', .slice D' k' l'] ∧ Box V (w.heap.size + 1 + 1) 28 #[Value.bool false, Value.slice none 0 0, Value.bool false, Value.slice none 0 0, Value.bool false, Value.slice none 0 0, Value.bool false, Value.slice none 0 0] ∧ Box V W.heap.size 28 #[.bool s, .slice A n c, .bool t, .slice B m d, .bool s', .slice A' n' c', .bool t', .slice B' m' d']) ⟨ext.alloc _, by_.ext ((Ext.refl W).alloc _), bz.ext ((Ext.refl W).alloc _), Box.new W _ _⟩ ?_
  generalize W.heap.size = g6 at hlz ⊢
  clear k0 k1 k2 k3 k4 k5 k6 k7 ext bx by_ bz
  rintro V ⟨ext, by_, bz, b6⟩
  have x0 := by_.cell 0 (.bool u) rfl
  have x1 := by_.cell 1 (.slice C i j) rfl
  have x2 := by_.cell 2 (.bool v) rfl
  have x3 := by_.cell 3 (.slice D k l) rfl
  have x4 := by_.cell 4 (.bool u') rfl
  have x5 := by_.cell 5 (.slice C' i' j') rfl
  have x6 := by_.cell 6 (.bool v') rfl
  have x7 := by_.cell 7 (.slice D' k' l') rfl
  have k0 := b6.cell 0 (.bool s) rfl
  have k1 := b6.cell 1 (.slice A n c) rfl
  have k2 := b6.cell 2 (.bool t) rfl
  have k3 := b6.cell 3 (.slice B m d) rfl
  have k4 := b6.cell 4 (.bool s') rfl
  have k5 := b6.cell 5 (.slice A' n' c') rfl
  have k6 := b6.cell 6 (.bool t') rfl
  have k7 := b6.cell 7 (.slice B' m' d') rfl
  go_wp2_with fail
  refine (q_CmpR (h'.low.ext ext) (h.low.ext ext) (by omega) (by omega)).mono ?_
  rintro e Wa ⟨rfl, hxt⟩
  rw [HU1.out]
  replace by_ := by_.ext hxt
  replace bz := bz.ext hxt
  replace b6 := b6.ext hxt
  replace ext := ext.trans hxt
  clear hxt x0 x1 x2 x3 x4 x5 x6 x7 k0 k1 k2 k3 k4 k5 k6 k7
  have y0 := b6.cell 0 _ rfl
  have y1 := b6.cell 1 _ rfl
  have y2 := b6.cell 2 _ rfl
  have y3 := b6.cell 3 _ rfl
  have f0 := b6.frozen 0
  have f1 := b6.frozen 1
  have f2 := b6.frozen 2
  have f3 := b6.frozen 3
  have x0 := by_.cell 0 (.bool u) rfl
  have x1 := by_.cell 1 (.slice C i j) rfl
  have x2 := by_.cell 2 (.bool v) rfl
  have x3 := by_.cell 3 (.slice D k l) rfl
  have x4 := by_.cell 4 (.bool u') rfl
  have x5 := by_.cell 5 (.slice C' i' j') rfl
  have x6 := by_.cell 6 (.bool v') rfl
  have x7 := by_.cell 7 (.slice D' k' l') rfl
  go_upto_region 4 with (fail)
  have F := (((((FinOK.refl (T := 28) b6 NoWord.oct).step 0 (v := .bool u) (by intro k h; cases h)).step 1 (v := .slice C i j) (by intro k h; cases h)).step 2 (v := .bool v) (by intro k h; cases h)).step 3 (v := .slice D k l) (by intro k h; cases h))
  simp only [List.setIfInBounds_toArray, List.set_cons_succ, List.set_cons_zero] at F
  refine at_world (fun Y1 => Ext w Y1 ∧ Box Y1 (w.heap.size + 1) 28 #[.bool u, .slice C i j, .bool v, .slice D k l, .bool u', .slice C' i' j', .bool v', .slice D' k' l'] ∧ Box Y1 (w.heap.size + 1 + 1) 28 #[Value.bool false, Value.slice none 0 0, Value.bool false, Value.slice none 0 0, Value.bool false, Value.slice none 0 0, Value.bool false, Value.slice none 0 0] ∧ Box Y1 g6 28 #[.bool u, .slice C i j, .bool v, .slice D k l, .bool s', .slice A' n' c', .bool t', .slice B' m' d']) ⟨F.ext _ ext (by omega), F.far _ _ _ (by omega) by_, F.far _ _ _ (by omega) bz, F.box⟩ ?_
  clear F x0 x1 x2 x3 x4 x5 x6 x7 y0 y1 y2 y3 f0 f1 f2 f3 ext by_ bz b6
  rintro Y1 ⟨ext, by_, bz, b6⟩
  have x0 := by_.cell 0 (.bool u) rfl
  have x1 := by_.cell 1 (.slice C i j) rfl
  have x2 := by_.cell 2 (.bool v) rfl
  have x3 := by_.cell 3 (.slice D k l) rfl
  have x4 := by_.cell 4 (.bool u') rfl
  have x5 := by_.cell 5 (.slice C' i' j') rfl
  have x6 := by_.cell 6 (.bool v') rfl
  have x7 := by_.cell 7 (.slice D' k' l') rfl
  have k0 := b6.cell 0 (.bool u) rfl
  have k1 := b6.cell 1 (.slice C i j) rfl
  have k2 := b6.cell 2 (.bool v) rfl
  have k3 := b6.cell 3 (.slice D k l) rfl
  have k4 := b6.cell 4 (.bool s') rfl
  have k5 := b6.cell 5 (.slice A' n' c') rfl
  have k6 := b6.cell 6 (.bool t') rfl
  have k7 := b6.cell 7 (.slice B' m' d') rfl
  go_wp2_with fail
  refine (q_CmpR (h'.high.ext ext) (h.high.ext ext) (by omega) (by omega)).mono ?_
  rintro e Wb ⟨rfl, hxt⟩
  rw [HU2.out]
  replace by_ := by_.ext hxt
  replace bz := bz.ext hxt
  replace b6 := b6.ext hxt
  replace ext := ext.trans hxt
  clear hxt x0 x1 x2 x3 x4 x5 x6 x7 k0 k1 k2 k3 k4 k5 k6 k7
  have y0 := b6.cell 4 _ rfl
  have y1 := b6.cell 5 _ rfl
  have y2 := b6.cell 6 _ rfl
  have y3 := b6.cell 7 _ rfl
  have f0 := b6.frozen 4
  have f1 := b6.frozen 5
  have f2 := b6.frozen 6
  have f3 := b6.frozen 7
  have x0 := by_.cell 0 (.bool u) rfl
  have x1 := by_.cell 1 (.slice C i j) rfl
  have x2 := by_.cell 2 (.bool v) rfl
  have x3 := by_.cell 3 (.slice D k l) rfl
  have x4 := by_.cell 4 (.bool u') rfl
  have x5 := by_.cell 5 (.slice C' i' j') rfl
  have x6 := by_.cell 6 (.bool v') rfl
  have x7 := by_.cell 7 (.slice D' k' l') rfl
  go_upto_region 6 with (fail)
  have F := (((((FinOK.refl (T := 28) b6 NoWord.oct).step 4 (v := .bool u') (by intro k h; cases h)).step 5 (v := .slice C' i' j') (by intro k h; cases h)).step 6 (v := .bool v') (by intro k h; cases h)).step 7 (v := .slice D' k' l') (by intro k h; cases h))
  simp only [List.setIfInBounds_toArray, List.set_cons_succ, List.set_cons_zero] at F
  refine at_world (fun Y2 => Ext w Y2 ∧ Box Y2 (w.heap.size + 1) 28 #[.bool u, .slice C i j, .bool v, .slice D k l, .bool u', .slice C' i' j', .bool v', .slice D' k' l'] ∧ Box Y2 (w.heap.size + 1 + 1) 28 #[Value.bool false, Value.slice none 0 0, Value.bool false, Value.slice none 0 0, Value.bool false, Value.slice none 0 0, Value.bool false, Value.slice none 0 0] ∧ Box Y2 g6 28 #[.bool u, .slice C i j, .bool v, .slice D k l, .bool u', .slice C' i' j', .bool v', .slice D' k' l']) ⟨F.ext _ ext (by omega), F.far _ _ _ (by omega) by_, F.far _ _ _ (by omega) bz, F.box⟩ ?_
  clear F x0 x1 x2 x3 x4 x5 x6 x7 y0 y1 y2 y3 f0 f1 f2 f3 ext by_ bz b6
  rintro Y2 ⟨ext, by_, bz, b6⟩
  have x0 := by_.cell 0 (.bool u) rfl
  have x1 := by_.cell 1 (.slice C i j) rfl
  have x2 := by_.cell 2 (.bool v) rfl
  have x3 := by_.cell 3 (.slice D k l) rfl
  have x4 := by_.cell 4 (.bool u') rfl
  have x5 := by_.cell 5 (.slice C' i' j') rfl
  have x6 := by_.cell 6 (.bool v') rfl
  have x7 := by_.cell 7 (.slice D' k' l') rfl
  have k0 := b6.cell 0 (.bool u) rfl
  have k1 := b6.cell 1 (.slice C i j) rfl
  have k2 := b6.cell 2 (.bool v) rfl
  have k3 := b6.cell 3 (.slice D k l) rfl
  have k4 := b6.cell 4 (.bool u') rfl
  have k5 := b6.cell 5 (.slice C' i' j') rfl
  have k6 := b6.cell 6 (.bool v') rfl
  have k7 := b6.cell 7 (.slice D' k' l') rfl
  go_wp2_with fail
  refine (q_CmpR (h'.low.ext ext) (h'.high.ext ext) (by omega) (by omega)).mono ?_
  rintro e Wc ⟨rfl, hxt⟩
  rw [HU3.out]
  replace by_ := by_.ext hxt
  replace bz := bz.ext hxt
  replace b6 := b6.ext hxt
  replace ext := ext.trans hxt
  clear hxt x0 x1 x2 x3 x4 x5 x6 x7 k0 k1 k2 k3 k4 k5 k6 k7
  have hx1 := Ext.refl Wc
  have z0 := (bz.ext hx1).cell 0 _ rfl
  have f0 := (bz.ext hx1).frozen 0
  have z1 := (bz.ext hx1).cell 1 _ rfl
  have f1 := (bz.ext hx1).frozen 1
  have z2 := (bz.ext hx1).cell 2 _ rfl
  have f2 := (bz.ext hx1).frozen 2
  have z3 := (bz.ext hx1).cell 3 _ rfl
  have f3 := (bz.ext hx1).frozen 3
  have z4 := (bz.ext hx1).cell 4 _ rfl
  have f4 := (bz.ext hx1).frozen 4
  have z5 := (bz.ext hx1).cell 5 _ rfl
  have f5 := (bz.ext hx1).frozen 5
  have z6 := (bz.ext hx1).cell 6 _ rfl
  have f6 := (bz.ext hx1).frozen 6
  have z7 := (bz.ext hx1).cell 7 _ rfl
  have f7 := (bz.ext hx1).frozen 7
  go_wp2_with fail
  obtain ⟨b1, b2, b3, b4⟩ := fin_oct (v0 := (.bool false)) (v1 := (.slice none 0 0)) (v2 := (.bool false)) (v3 := (.slice none 0 0)) (v4 := (.bool false)) (v5 := (.slice none 0 0)) (v6 := (.bool false)) (v7 := (.slice none 0 0)) (bz.ext hx1)
  have r0 := b1.cell 0 (.bool false) rfl
  have r1 := b1.cell 1 (.slice none 0 0) rfl
  have r2 := b1.cell 2 (.bool false) rfl
  have r3 := b1.cell 3 (.slice none 0 0) rfl
  have r4 := b1.cell 4 (.bool false) rfl
  have r5 := b1.cell 5 (.slice none 0 0) rfl
  have r6 := b1.cell 6 (.bool false) rfl
  have r7 := b1.cell 7 (.slice none 0 0) rfl
  unfold set8 at r0 r1 r2 r3 r4 r5 r6 r7
  refine bodyPost_ret (v := .tuple #[.agg #[.bool false, .slice none 0 0, .bool false, .slice none 0 0, .bool false, .slice none 0 0, .bool false, .slice none 0 0], .bool false]) (by simp [results, Tryz.results42, go_sem, r0, r1, r2, r3, r4, r5, r6, r7]) rfl (by rw [RetMeet, HM.out.1, HM.out.2]; exact .inr ⟨HC.out, rfl, b3 _ (ext.trans hx1) (by omega)⟩)
set_option maxHeartbeats 8000000 in
set_option maxRecDepth 100000 in
theorem q_Meet_101 (h : IV w lo hi L s A n c t B m d s' A' n' c' t' B' m' d') (h' : IV w lo' hi' L u C i j v D k l u' C' i' j' v' D' k' l') (hL : L ≤ 20) (c1 : lo < lo') (c2 : ¬ hi' < hi) (c3 : ¬ hi < lo') : Calls Tryz.prog 42 #[.agg #[.bool s, .slice A n c, .bool t, .slice B m d, .bool s', .slice A' n' c', .bool t', .slice B' m' d'], .agg #[.bool u, .slice C i j, .bool v, .slice D k l, .bool u', .slice C' i' j', .bool v', .slice D' k' l']] w (RetMeet lo hi lo' hi' L w) := by
  have hmx : mxR lo lo' = lo' := by unfold mxR; rw [if_pos c1]
  have hmn : mnR hi hi' = hi := by unfold mnR; rw [if_neg c2]
  have HM := Lib.hid (And.intro hmx hmn)
  have HC := Lib.hid (show lo' ≤ hi from Rat.not_lt.1 c3)
  obtain ⟨U1, hU1, d1⟩ : ∃ S, ratCmp lo' lo = S ∧ decide (0 < S) = true := ⟨_, rfl, decide_eq_true (ratCmp_gt.2 c1)⟩
  obtain ⟨U2, hU2, d2⟩ : ∃ S, ratCmp hi' hi = S ∧ decide (S < 0) = false := ⟨_, rfl, decide_eq_false (fun k => c2 (ratCmp_lt.1 k))⟩
  obtain ⟨U3, hU3, d3⟩ : ∃ S, ratCmp lo' hi = S ∧ decide (0 < S) = false := ⟨_, rfl, decide_eq_false (fun k => c3 (ratCmp_gt.1 k))⟩
  have HU1 := Lib.hid hU1
  have HU2 := Lib.hid hU2
  have HU3 := Lib.hid hU3
  clear hmx hmn c1 c2 c3 hU1 hU2 hU3
  go_enter Tryz.func42, Tryz.ntmps42
  go_upto_region 1 with (fail)
  obtain ⟨W, hW, ext, bx, by_, bz, hz⟩ := box3 w 28 28 28 #[.bool s, .slice A n c, .bool t, .slice B m d, .bool s', .slice A' n' c', .bool t', .slice B' m' d'] #[.bool u, .slice C i j, .bool v, .slice D k l, .bool u', .slice C' i' j', .bool v', .slice D' k' l'] #[Value.bool false, Value.slice none 0 0, Value.bool false, Value.slice none 0 0, Value.bool false, Value.slice none 0 0, Value.bool false, Value.slice none 0 0]
  rw [← hW]
  clear hW hz
  have hlz := bz.lt
  have k0 := bx.cell 0 (.bool s) rfl
  have k1 := bx.cell 1 (.slice A n c) rfl
  have k2 := bx.cell 2 (.bool t) rfl
  have k3 := bx.cell 3 (.slice B m d) rfl
  have k4 := bx.cell 4 (.bool s') rfl
  have k5 := bx.cell 5 (.slice A' n' c') rfl
  have k6 := bx.cell 6 (.bool t') rfl
  have k7 := bx.cell 7 (.slice B' m' d') rfl
  go_upto_region 2 with (fail)
  refine at_world (fun V => Ext w V ∧ Box V (w.heap.size + 1) 28 #[.bool u, .slice C i j, .bool v, .slice D k l, .bool u', .slice C' i' j', .bool v', .slice D' k' l'] ∧ Box V (w.heap.size + 1 + 1) 28 #[Value.bool false, Value.slice none 0 0, Value.bool false, Value.slice none 0 0, Value.bool false, Value.slice none 0 0, Value.bool false, Value.slice none 0 0] ∧ Box V W.heap.size 28 #[.bool s, .slice A n c, .bool t, .slice B m d, .bool s', .slice A' n' c', .bool t', .slice B' m' d']) ⟨ext.alloc _, by_.ext ((Ext.refl W).alloc _), bz.ext ((Ext.refl W).alloc _), Box.new W _ _⟩ ?_
  generalize W.heap.size = g6 at hlz ⊢
  clear k0 k1 k2 k3 k4 k5 k6 k7 ext bx by_ bz
  rintro V ⟨ext, by_, bz, b6⟩
  have x0 := by_.cell 0 (.bool u) rfl
  have x1 := by_.cell 1 (.slice C i j) rfl
  have x2 := by_.cell 2 (.bool v) rfl
  have x3 := by_.cell 3 (.slice D k l) rfl
  have x4 := by_.cell 4 (.bool u') rfl
  have x5 := by_.cell 5 (.slice C' i' j') rfl
  have x6 := by_.cell 6 (.bool v') rfl
  have x7 := by_.cell 7 (.slice D' k' l') rfl
  have k0 := b6.cell 0 (.bool s) rfl
  have k1 := b6.cell 1 (.slice A n c) rfl
  have k2 := b6.cell 2 (.bool t) rfl
  have k3 := b6.cell 3 (.slice B m d) rfl
  have k4 := b6.cell 4 (.bool s') rfl
  have k5 := b6.cell 5 (.slice A' n' c') rfl
  have k6 := b6.cell 6 (.bool t') rfl
  have k7 := b6.cell 7 (.slice B' m' d') rfl
  go_wp2_with fail
  refine (q_CmpR (h'.low.ext ext) (h.low.ext ext) (by omega) (by omega)).mono ?_
  rintro e Wa ⟨rfl, hxt⟩
  rw [HU1.out]
  replace by_ := by_.ext hxt
  replace bz := bz.ext hxt
  replace b6 := b6.ext hxt
  replace ext := ext.trans hxt
  clear hxt x0 x1 x2 x3 x4 x5 x6 x7 k0 k1 k2 k3 k4 k5 k6 k7
  have y0 := b6.cell 0 _ rfl
  have y1 := b6.cell 1 _ rfl
  have y2 := b6.cell 2 _ rfl
  have y3 := b6.cell 3 _ rfl
  have f0 := b6.frozen 0
  have f1 := b6.frozen 1
  have f2 := b6.frozen 2
  have f3 := b6.frozen 3
  have x0 := by_.cell 0 (.bool u) rfl
  have x1 := by_.cell 1 (.slice C i j) rfl
  have x2 := by_.cell 2 (.bool v) rfl
  have x3 := by_.cell 3 (.slice D k l) rfl
  have x4 := by_.cell 4 (.bool u') rfl
  have x5 := by_.cell 5 (.slice C' i' j') rfl
  have x6 := by_.cell 6 (.bool v') rfl
  have x7 := by_.cell 7 (.slice D' k' l') rfl
  go_upto_region 4 with (fail)
  have F := (((((FinOK.refl (T := 28) b6 NoWord.oct).step 0 (v := .bool u) (by intro k h; cases h)).step 1 (v := .slice C i j) (by intro k h; cases h)).step 2 (v := .bool v) (by intro k h; cases h)).step 3 (v := .slice D k l) (by intro k h; cases h))
  simp only [List.setIfInBounds_toArray, List.set_cons_succ, List.set_cons_zero] at F
  refine at_world (fun Y1 => Ext w Y1 ∧ Box Y1 (w.heap.size + 1) 28 #[.bool u, .slice C i j, .bool v, .slice D k l, .bool u', .slice C' i' j', .bool v', .slice D' k' l'] ∧ Box Y1 (w.heap.size + 1 + 1) 28 #[Value.bool false, Value.slice none 0 0, Value.bool false, Value.slice none 0 0, Value.bool false, Value.slice none 0 0, Value.bool false, Value.slice none 0 0] ∧ Box Y1 g6 28 #[.bool u, .slice C i j, .bool v, .slice D k l, .bool s', .slice A' n' c', .bool t', .slice B' m' d']) ⟨F.ext _ ext (by omega), F.far _ _ _ (by omega) by_, F.far _ _ _ (by omega) bz, F.box⟩ ?_
  clear F x0 x1 x2 x3 x4 x5 x6 x7 y0 y1 y2 y3 f0 f1 f2 f3 ext by_ bz b6
  rintro Y1 ⟨ext, by_, bz, b6⟩
  have x0 := by_.cell 0 (.bool u) rfl
  have x1 := by_.cell 1 (.slice C i j) rfl
  have x2 := by_.cell 2 (.bool v) rfl
  have x3 := by_.cell 3 (.slice D k l) rfl
  have x4 := by_.cell 4 (.bool u') rfl
  have x5 := by_.cell 5 (.slice C' i' j') rfl
  have x6 := by_.cell 6 (.bool v') rfl
  have x7 := by_.cell 7 (.slice D' k' l') rfl
  have k0 := b6.cell 0 (.bool u) rfl
  have k1 := b6.cell 1 (.slice C i j) rfl
  have k2 := b6.cell 2 (.bool v) rfl
  have k3 := b6.cell 3 (.slice D k l) rfl
  have k4 := b6.cell 4 (.bool s') rfl
  have k5 := b6.cell 5 (.slice A' n' c') rfl
  have k6 := b6.cell 6 (.bool t') rfl
  have k7 := b6.cell 7 (.slice B' m' d') rfl
  go_wp2_with fail
  refine (q_CmpR (h'.high.ext ext) (h.high.ext ext) (by omega) (by omega)).mono ?_
  rintro e Wb ⟨rfl, hxt⟩
  rw [HU2.out]
  replace by_ := by_.ext hxt
  replace bz := bz.ext hxt
  replace b6 := b6.ext hxt
  replace ext := ext.trans hxt
  clear hxt x0 x1 x2 x3 x4 x5 x6 x7 k0 k1 k2 k3 k4 k5 k6 k7
  have x0 := by_.cell 0 (.bool u) rfl
  have x1 := by_.cell 1 (.slice C i j) rfl
  have x2 := by_.cell 2 (.bool v) rfl
  have x3 := by_.cell 3 (.slice D k l) rfl
  have x4 := by_.cell 4 (.bool u') rfl
  have x5 := by_.cell 5 (.slice C' i' j') rfl
  have x6 := by_.cell 6 (.bool v') rfl
  have x7 := by_.cell 7 (.slice D' k' l') rfl
  have k0 := b6.cell 0 (.bool u) rfl
  have k1 := b6.cell 1 (.slice C i j) rfl
  have k2 := b6.cell 2 (.bool v) rfl
  have k3 := b6.cell 3 (.slice D k l) rfl
  have k4 := b6.cell 4 (.bool s') rfl
  have k5 := b6.cell 5 (.slice A' n' c') rfl
  have k6 := b6.cell 6 (.bool t') rfl
  have k7 := b6.cell 7 (.slice B' m' d') rfl
  go_wp2_with fail
  refine (q_CmpR (h'.low.ext ext) (h.high.ext ext) (by omega) (by omega)).mono ?_
  rintro e Wc ⟨rfl, hxt⟩
  rw [HU3.out]
  replace by_ := by_.ext hxt
  replace bz := bz.ext hxt
  replace b6 := b6.ext hxt
  replace ext := ext.trans hxt
  clear hxt x0 x1 x2 x3 x4 x5 x6 x7 k0 k1 k2 k3 k4 k5 k6 k7
  have k0 := b6.cell 0 (.bool u) rfl
  have k1 := b6.cell 1 (.slice C i j) rfl
  have k2 := b6.cell 2 (.bool v) rfl
  have k3 := b6.cell 3 (.slice D k l) rfl
  have k4 := b6.cell 4 (.bool s') rfl
  have k5 := b6.cell 5 (.slice A' n' c') rfl
  have k6 := b6.cell 6 (.bool t') rfl
  have k7 := b6.cell 7 (.slice B' m' d') rfl
  have hx1 := Ext.refl Wc
  have z0 := (bz.ext hx1).cell 0 _ rfl
  have f0 := (bz.ext hx1).frozen 0
  have z1 := (bz.ext hx1).cell 1 _ rfl
  have f1 := (bz.ext hx1).frozen 1
  have z2 := (bz.ext hx1).cell 2 _ rfl
  have f2 := (bz.ext hx1).frozen 2
  have z3 := (bz.ext hx1).cell 3 _ rfl
  have f3 := (bz.ext hx1).frozen 3
  have z4 := (bz.ext hx1).cell 4 _ rfl
  have f4 := (bz.ext hx1).frozen 4
  have z5 := (bz.ext hx1).cell 5 _ rfl
  have f5 := (bz.ext hx1).frozen 5
  have z6 := (bz.ext hx1).cell 6 _ rfl
  have f6 := (bz.ext hx1).frozen 6
  have z7 := (bz.ext hx1).cell 7 _ rfl
  have f7 := (bz.ext hx1).frozen 7
  go_wp2_with fail
  obtain ⟨b1, b2, b3, b4⟩ := fin_oct (v0 := (.bool u)) (v1 := (.slice C i j)) (v2 := (.bool v)) (v3 := (.slice D k l)) (v4 := (.bool s')) (v5 := (.slice A' n' c')) (v6 := (.bool t')) (v7 := (.slice B' m' d')) (bz.ext hx1)
  have r0 := b1.cell 0 (.bool u) rfl
  have r1 := b1.cell 1 (.slice C i j) rfl
  have r2 := b1.cell 2 (.bool v) rfl
  have r3 := b1.cell 3 (.slice D k l) rfl
  have r4 := b1.cell 4 (.bool s') rfl
  have r5 := b1.cell 5 (.slice A' n' c') rfl
  have r6 := b1.cell 6 (.bool t') rfl
  have r7 := b1.cell 7 (.slice B' m' d') rfl
  unfold set8 at r0 r1 r2 r3 r4 r5 r6 r7
  have q1 := b2 _ _ _ _ _ _ (h'.low.ext ext).num
  have q2 := b2 _ _ _ _ _ _ (h'.low.ext ext).den
  have q3 := b2 _ _ _ _ _ _ (h.high.ext ext).num
  have q4 := b2 _ _ _ _ _ _ (h.high.ext ext).den
  refine bodyPost_ret (v := .tuple #[.agg #[.bool u, .slice C i j, .bool v, .slice D k l, .bool s', .slice A' n' c', .bool t', .slice B' m' d'], .bool true]) (by simp [results, Tryz.results42, go_sem, r0, r1, r2, r3, r4, r5, r6, r7]) rfl (by rw [RetMeet, HM.out.1, HM.out.2]; exact .inl ⟨HC.out, u, C, i, j, v, D, k, l, s', A', n', c', t', B', m', d', rfl, ⟨⟨q1, q2⟩, ⟨q3, q4⟩⟩, b3 _ (ext.trans hx1) (by omega)⟩)
set_option maxHeartbeats 8000000 in
set_option maxRecDepth 100000 in
theorem q_Meet_100 (h : IV w lo hi L s A n c t B m d s' A' n' c' t' B' m' d') (h' : IV w lo' hi' L u C i j v D k l u' C' i' j' v' D' k' l') (hL : L ≤ 20) (c1 : lo < lo') (c2 : ¬ hi' < hi) (c3 : hi < lo') : Calls Tryz.prog 42 #[.agg #[.bool s, .slice A n c, .bool t, .slice B m d, .bool s', .slice A' n' c', .bool t', .slice B' m' d'], .agg #[.bool u, .slice C i j, .bool v, .slice D k l, .bool u', .slice C' i' j', .bool v', .slice D' k' l']] w (RetMeet lo hi lo' hi' L w) := by
  have hmx : mxR lo lo' = lo' := by unfold mxR; rw [if_pos c1]
  have hmn : mnR hi hi' = hi := by unfold mnR; rw [if_neg c2]
  have HM := Lib.hid (And.intro hmx hmn)
  have HC := Lib.hid (show ¬ lo' ≤ hi from fun k => Rat.not_le.2 c3 k)
  obtain ⟨U1, hU1, d1⟩ : ∃ S, ratCmp lo' lo = S ∧ decide (0 < S) = true := ⟨_, rfl, decide_eq_true (ratCmp_gt.2 c1)⟩
  obtain ⟨U2, hU2, d2⟩ : ∃ S, ratCmp hi' hi = S ∧ decide (S < 0) = false := ⟨_, rfl, decide_eq_false (fun k => c2 (ratCmp_lt.1 k))⟩
  obtain ⟨U3, hU3, d3⟩ : ∃ S, ratCmp lo' hi = S ∧ decide (0 < S) = true := ⟨_, rfl, decide_eq_true (ratCmp_gt.2 c3)⟩
  have HU1 := Lib.hid hU1
  have HU2 := Lib.hid hU2
  have HU3 := Lib.hid hU3
  clear hmx hmn c1 c2 c3 hU1 hU2 hU3
  go_enter Tryz.func42, Tryz.ntmps42
  go_upto_region 1 with (fail)
  obtain ⟨W, hW, ext, bx, by_, bz, hz⟩ := box3 w 28 28 28 #[.bool s, .slice A n c, .bool t, .slice B m d, .bool s', .slice A' n' c', .bool t', .slice B' m' d'] #[.bool u, .slice C i j, .bool v, .slice D k l, .bool u', .slice C' i' j', .bool v', .slice D' k' l'] #[Value.bool false, Value.slice none 0 0, Value.bool false, Value.slice none 0 0, Value.bool false, Value.slice none 0 0, Value.bool false, Value.slice none 0 0]
  rw [← hW]
  clear hW hz
  have hlz := bz.lt
  have k0 := bx.cell 0 (.bool s) rfl
  have k1 := bx.cell 1 (.slice A n c) rfl
  have k2 := bx.cell 2 (.bool t) rfl
  have k3 := bx.cell 3 (.slice B m d) rfl
  have k4 := bx.cell 4 (.bool s') rfl
  have k5 := bx.cell 5 (.slice A' n' c') rfl
  have k6 := bx.cell 6 (.bool t') rfl
  have k7 := bx.cell 7 (.slice B' m' d') rfl
  go_upto_region 2 with (fail)
  refine at_world (fun V => Ext w V ∧ Box V (w.heap.size + 1) 28 #[.bool u, .slice C i j, .bool v, .slice D k l, .bool u', .slice C' i' j', .bool v', .slice D' k' l'] ∧ Box V (w.heap.size + 1 + 1) 28 #[Value.bool false, Value.slice none 0 0, Value.bool false, Value.slice none 0 0, Value.bool false, Value.slice none 0 0, Value.bool false, Value.slice none 0 0] ∧ Box V W.heap.size 28 #[.bool s, .slice A n c, .bool t, .slice B m d, .bool s', .slice A' n' c', .bool t', .slice B' m' d']) ⟨ext.alloc _, by_.ext ((Ext.refl W).alloc _), bz.ext ((Ext.refl W).alloc _), Box.new W _ _⟩ ?_
  generalize W.heap.size = g6 at hlz ⊢
  clear k0 k1 k2 k3 k4 k5 k6 k7 ext bx by_ bz
  rintro V ⟨ext, by_, bz, b6⟩
  have x0 := by_.cell 0 (.bool u) rfl
  have x1 := by_.cell 1 (.slice C i j) rfl
  have x2 := by_.cell 2 (.bool v) rfl
  have x3 := by_.cell 3 (.slice D k l) rfl
  have x4 := by_.cell 4 (.bool u') rfl
  have x5 := by_.cell 5 (.slice C' i' j') rfl
  have x6 := by_.cell 6 (.bool v') rfl
  have x7 := by_.cell 7 (.slice D' k' l') rfl
  have k0 := b6.cell 0 (.bool s) rfl
  have k1 := b6.cell 1 (.slice A n c) rfl
  have k2 := b6.cell 2 (.bool t) rfl
  have k3 := b6.cell 3 (.slice B m d) rfl
  have k4 := b6.cell 4 (.bool s') rfl
  have k5 := b6.cell 5 (.slice A' n' c') rfl
  have k6 := b6.cell 6 (.bool t') rfl
  have k7 := b6.cell 7 (.slice B' m' d') rfl
  go_wp2_with fail
  refine (q_CmpR (h'.low.ext ext) (h.low.ext ext) (by omega) (by omega)).mono ?_
  rintro e Wa ⟨rfl, hxt⟩
  rw [HU1.out]
  replace by_ := by_.ext hxt
  replace bz := bz.ext hxt
  replace b6 := b6.ext hxt
  replace ext := ext.trans hxt
  clear hxt x0 x1 x2 x3 x4 x5 x6 x7 k0 k1 k2 k3 k4 k5 k6 k7
  have y0 := b6.cell 0 _ rfl
  have y1 := b6.cell 1 _ rfl
  have y2 := b6.cell 2 _ rfl
  have y3 := b6.cell 3 _ rfl
  have f0 := b6.frozen 0
  have f1 := b6.frozen 1
  have f2 := b6.frozen 2
  have f3 := b6.frozen 3
  have x0 := by_.cell 0 (.bool u) rfl
  have x1 := by_.cell 1 (.slice C i j) rfl
  have x2 := by_.cell 2 (.bool v) rfl
  have x3 := by_.cell 3 (.slice D k l) rfl
  have x4 := by_.cell 4 (.bool u') rfl
  have x5 := by_.cell 5 (.slice C' i' j') rfl
  have x6 := by_.cell 6 (.bool v') rfl
  have x7 := by_.cell 7 (.slice D' k' l') rfl
  go_upto_region 4 with (fail)
  have F := (((((FinOK.refl (T := 28) b6 NoWord.oct).step 0 (v := .bool u) (by intro k h; cases h)).step 1 (v := .slice C i j) (by intro k h; cases h)).step 2 (v := .bool v) (by intro k h; cases h)).step 3 (v := .slice D k l) (by intro k h; cases h))
  simp only [List.setIfInBounds_toArray, List.set_cons_succ, List.set_cons_zero] at F
  refine at_world (fun Y1 => Ext w Y1 ∧ Box Y1 (w.heap.size + 1) 28 #[.bool u, .slice C i j, .bool v, .slice D k l, .bool u', .slice C' i' j', .bool v', .slice D' k' l'] ∧ Box Y1 (w.heap.size + 1 + 1) 28 #[Value.bool false, Value.slice none 0 0, Value.bool false, Value.slice none 0 0, Value.bool false, Value.slice none 0 0, Value.bool false, Value.slice none 0 0] ∧ Box Y1 g6 28 #[.bool u, .slice C i j, .bool v, .slice D k l, .bool s', .slice A' n' c', .bool t', .slice B' m' d']) ⟨F.ext _ ext (by omega), F.far _ _ _ (by omega) by_, F.far _ _ _ (by omega) bz, F.box⟩ ?_
  clear F x0 x1 x2 x3 x4 x5 x6 x7 y0 y1 y2 y3 f0 f1 f2 f3 ext by_ bz b6
  rintro Y1 ⟨ext, by_, bz, b6⟩
  have x0 := by_.cell 0 (.bool u) rfl
  have x1 := by_.cell 1 (.slice C i j) rfl
  have x2 := by_.cell 2 (.bool v) rfl
  have x3 := by_.cell 3 (.slice D k l) rfl
  have x4 := by_.cell 4 (.bool u') rfl
  have x5 := by_.cell 5 (.slice C' i' j') rfl
  have x6 := by_.cell 6 (.bool v') rfl
  have x7 := by_.cell 7 (.slice D' k' l') rfl
  have k0 := b6.cell 0 (.bool u) rfl
  have k1 := b6.cell 1 (.slice C i j) rfl
  have k2 := b6.cell 2 (.bool v) rfl
  have k3 := b6.cell 3 (.slice D k l) rfl
  have k4 := b6.cell 4 (.bool s') rfl
  have k5 := b6.cell 5 (.slice A' n' c') rfl
  have k6 := b6.cell 6 (.bool t') rfl
  have k7 := b6.cell 7 (.slice B' m' d') rfl
  go_wp2_with fail
  refine (q_CmpR (h'.high.ext ext) (h.high.ext ext) (by omega) (by omega)).mono ?_
  rintro e Wb ⟨rfl, hxt⟩
  rw [HU2.out]
  replace by_ := by_.ext hxt
  replace bz := bz.ext hxt
  replace b6 := b6.ext hxt
  replace ext := ext.trans hxt
  clear hxt x0 x1 x2 x3 x4 x5 x6 x7 k0 k1 k2 k3 k4 k5 k6 k7
  have x0 := by_.cell 0 (.bool u) rfl
  have x1 := by_.cell 1 (.slice C i j) rfl
  have x2 := by_.cell 2 (.bool v) rfl
  have x3 := by_.cell 3 (.slice D k l) rfl
  have x4 := by_.cell 4 (.bool u') rfl
  have x5 := by_.cell 5 (.slice C' i' j') rfl
  have x6 := by_.cell 6 (.bool v') rfl
  have x7 := by_.cell 7 (.slice D' k' l') rfl
  have k0 := b6.cell 0 (.bool u) rfl
  have k1 := b6.cell 1 (.slice C i j) rfl
  have k2 := b6.cell 2 (.bool v) rfl
  have k3 := b6.cell 3 (.slice D k l) rfl
  have k4 := b6.cell 4 (.bool s') rfl
  have k5 := b6.cell 5 (.slice A' n' c') rfl
  have k6 := b6.cell 6 (.bool t') rfl
  have k7 := b6.cell 7 (.slice B' m' d') rfl
  go_wp2_with fail
  refine (q_CmpR (h'.low.ext ext) (h.high.ext ext) (by omega) (by omega)).mono ?_
  rintro e Wc ⟨rfl, hxt⟩
  rw [HU3.out]
  replace by_ := by_.ext hxt
  replace bz := bz.ext hxt
  replace b6 := b6.ext hxt
  replace ext := ext.trans hxt
  clear hxt x0 x1 x2 x3 x4 x5 x6 x7 k0 k1 k2 k3 k4 k5 k6 k7
  have hx1 := Ext.refl Wc
  have z0 := (bz.ext hx1).cell 0 _ rfl
  have f0 := (bz.ext hx1).frozen 0
  have z1 := (bz.ext hx1).cell 1 _ rfl
  have f1 := (bz.ext hx1).frozen 1
  have z2 := (bz.ext hx1).cell 2 _ rfl
  have f2 := (bz.ext hx1).frozen 2
  have z3 := (bz.ext hx1).cell 3 _ rfl
  have f3 := (bz.ext hx1).frozen 3
  have z4 := (bz.ext hx1).cell 4 _ rfl
  have f4 := (bz.ext hx1).frozen 4
  have z5 := (bz.ext hx1).cell 5 _ rfl
  have f5 := (bz.ext hx1).frozen 5
  have z6 := (bz.ext hx1).cell 6 _ rfl
  have f6 := (bz.ext hx1).frozen 6
  have z7 := (bz.ext hx1).cell 7 _ rfl
  have f7 := (bz.ext hx1).frozen 7
  go_wp2_with fail
  obtain ⟨b1, b2, b3, b4⟩ := fin_oct (v0 := (.bool false)) (v1 := (.slice none 0 0)) (v2 := (.bool false)) (v3 := (.slice none 0 0)) (v4 := (.bool false)) (v5 := (.slice none 0 0)) (v6 := (.bool false)) (v7 := (.slice none 0 0)) (bz.ext hx1)
  have r0 := b1.cell 0 (.bool false) rfl
  have r1 := b1.cell 1 (.slice none 0 0) rfl
  have r2 := b1.cell 2 (.bool false) rfl
  have r3 := b1.cell 3 (.slice none 0 0) rfl
  have r4 := b1.cell 4 (.bool false) rfl
  have r5 := b1.cell 5 (.slice none 0 0) rfl
  have r6 := b1.cell 6 (.bool false) rfl
  have r7 := b1.cell 7 (.slice none 0 0) rfl
  unfold set8 at r0 r1 r2 r3 r4 r5 r6 r7
  refine bodyPost_ret (v := .tuple #[.agg #[.bool false, .slice none 0 0, .bool false, .slice none 0 0, .bool false, .slice none 0 0, .bool false, .slice none 0 0], .bool false]) (by simp [results, Tryz.results42, go_sem, r0, r1, r2, r3, r4, r5, r6, r7]) rfl (by rw [RetMeet, HM.out.1, HM.out.2]; exact .inr ⟨HC.out, rfl, b3 _ (ext.trans hx1) (by omega)⟩)
set_option maxHeartbeats 8000000 in
set_option maxRecDepth 100000 in
theorem q_Meet_011 (h : IV w lo hi L s A n c t B m d s' A' n' c' t' B' m' d') (h' : IV w lo' hi' L u C i j v D k l u' C' i' j' v' D' k' l') (hL : L ≤ 20) (c1 : ¬ lo < lo') (c2 : hi' < hi) (c3 : ¬ hi' < lo) : Calls Tryz.prog 42 #[.agg #[.bool s, .slice A n c, .bool t, .slice B m d, .bool s', .slice A' n' c', .bool t', .slice B' m' d'], .agg #[.bool u, .slice C i j, .bool v, .slice D k l, .bool u', .slice C' i' j', .bool v', .slice D' k' l']] w (RetMeet lo hi lo' hi' L w) := by
  have hmx : mxR lo lo' = lo := by unfold mxR; rw [if_neg c1]
  have hmn : mnR hi hi' = hi' := by unfold mnR; rw [if_pos c2]
  have HM := Lib.hid (And.intro hmx hmn)
  have HC := Lib.hid (show lo ≤ hi' from Rat.not_lt.1 c3)
  obtain ⟨U1, hU1, d1⟩ : ∃ S, ratCmp lo' lo = S ∧ decide (0 < S) = false := ⟨_, rfl, decide_eq_false (fun k => c1 (ratCmp_gt.1 k))⟩
  obtain ⟨U2, hU2, d2⟩ : ∃ S, ratCmp hi' hi = S ∧ decide (S < 0) = true := ⟨_, rfl, decide_eq_true (ratCmp_lt.2 c2)⟩
  obtain ⟨U3, hU3, d3⟩ : ∃ S, ratCmp lo hi' = S ∧ decide (0 < S) = false := ⟨_, rfl, decide_eq_false (fun k => c3 (ratCmp_gt.1 k))⟩
  have HU1 := Lib.hid hU1
  have HU2 := Lib.hid hU2
  have HU3 := Lib.hid hU3
  clear hmx hmn c1 c2 c3 hU1 hU2 hU3
  go_enter Tryz.func42, Tryz.ntmps42
  go_upto_region 1 with (fail)
  obtain ⟨W, hW, ext, bx, by_, bz, hz⟩ := box3 w 28 28 28 #[.bool s, .slice A n c, .bool t, .slice B m d, .bool s', .slice A' n' c', .bool t', .slice B' m' d'] #[.bool u, .slice C i j, .bool v, .slice D k l, .bool u', .slice C' i' j', .bool v', .slice D' k' l'] #[Value.bool false, Value.slice none 0 0, Value.bool false, Value.slice none 0 0, Value.bool false, Value.slice none 0 0, Value.bool false, Value.slice none 0 0]
  rw [← hW]
  clear hW hz
  have hlz := bz.lt
  have k0 := bx.cell 0 (.bool s) rfl
  have k1 := bx.cell 1 (.slice A n c) rfl
  have k2 := bx.cell 2 (.bool t) rfl
  have k3 := bx.cell 3 (.slice B m d) rfl
  have k4 := bx.cell 4 (.bool s') rfl
  have k5 := bx.cell 5 (.slice A' n' c') rfl
  have k6 := bx.cell 6 (.bool t') rfl
  have k7 := bx.cell 7 (.slice B' m' d') rfl
  go_upto_region 2 with (fail)
  refine at_world (fun V => Ext w V ∧ Box V (w.heap.size + 1) 28 #[.bool u, .slice C i j, .bool v, .slice D k l, .bool u', .slice C' i' j', .bool v', .slice D' k' l'] ∧ Box V (w.heap.size + 1 + 1) 28 #[Value.bool false, Value.slice none 0 0, Value.bool false, Value.slice none 0 0, Value.bool false, Value.slice none 0 0, Value.bool false, Value.slice none 0 0] ∧ Box V W.heap.size 28 #[.bool s, .slice A n c, .bool t, .slice B m d, .bool s', .slice A' n' c', .bool t', .slice B' m' d']) ⟨ext.alloc _, by_.ext ((Ext.refl W).alloc _), bz.ext ((Ext.refl W).alloc _), Box.new W _ _⟩ ?_
  generalize W.heap.size = g6 at hlz ⊢
  clear k0 k1 k2 k3 k4 k5 k6 k7 ext bx by_ bz
  rintro V ⟨ext, by_, bz, b6⟩
  have x0 := by_.cell 0 (.bool u) rfl
  have x1 := by_.cell 1 (.slice C i j) rfl
  have x2 := by_.cell 2 (.bool v) rfl
  have x3 := by_.cell 3 (.slice D k l) rfl
  have x4 := by_.cell 4 (.bool u') rfl
  have x5 := by_.cell 5 (.slice C' i' j') rfl
  have x6 := by_.cell 6 (.bool v') rfl
  have x7 := by_.cell 7 (.slice D' k' l') rfl
  have k0 := b6.cell 0 (.bool s) rfl
  have k1 := b6.cell 1 (.slice A n c) rfl
  have k2 := b6.cell 2 (.bool t) rfl
  have k3 := b6.cell 3 (.slice B m d) rfl
  have k4 := b6.cell 4 (.bool s') rfl
  have k5 := b6.cell 5 (.slice A' n' c') rfl
  have k6 := b6.cell 6 (.bool t') rfl
  have k7 := b6.cell 7 (.slice B' m' d') rfl
  go_wp2_with fail
  refine (q_CmpR (h'.low.ext ext) (h.low.ext ext) (by omega) (by omega)).mono ?_
  rintro e Wa ⟨rfl, hxt⟩
  rw [HU1.out]
  replace by_ := by_.ext hxt
  replace bz := bz.ext hxt
  replace b6 := b6.ext hxt
  replace ext := ext.trans hxt
  clear hxt x0 x1 x2 x3 x4 x5 x6 x7 k0 k1 k2 k3 k4 k5 k6 k7
  have x0 := by_.cell 0 (.bool u) rfl
  have x1 := by_.cell 1 (.slice C i j) rfl
  have x2 := by_.cell 2 (.bool v) rfl
  have x3 := by_.cell 3 (.slice D k l) rfl
  have x4 := by_.cell 4 (.bool u') rfl
  have x5 := by_.cell 5 (.slice C' i' j') rfl
  have x6 := by_.cell 6 (.bool v') rfl
  have x7 := by_.cell 7 (.slice D' k' l') rfl
  have k0 := b6.cell 0 (.bool s) rfl
  have k1 := b6.cell 1 (.slice A n c) rfl
  have k2 := b6.cell 2 (.bool t) rfl
  have k3 := b6.cell 3 (.slice B m d) rfl
  have k4 := b6.cell 4 (.bool s') rfl
  have k5 := b6.cell 5 (.slice A' n' c') rfl
  have k6 := b6.cell 6 (.bool t') rfl
  have k7 := b6.cell 7 (.slice B' m' d') rfl
  go_wp2_with fail
  refine (q_CmpR (h'.high.ext ext) (h.high.ext ext) (by omega) (by omega)).mono ?_
  rintro e Wb ⟨rfl, hxt⟩
  rw [HU2.out]
  replace by_ := by_.ext hxt
  replace bz := bz.ext hxt
  replace b6 := b6.ext hxt
  replace ext := ext.trans hxt
  clear hxt x0 x1 x2 x3 x4 x5 x6 x7 k0 k1 k2 k3 k4 k5 k6 k7
  have y0 := b6.cell 4 _ rfl
  have y1 := b6.cell 5 _ rfl
  have y2 := b6.cell 6 _ rfl
  have y3 := b6.cell 7 _ rfl
  have f0 := b6.frozen 4
  have f1 := b6.frozen 5
  have f2 := b6.frozen 6
  have f3 := b6.frozen 7
  have x0 := by_.cell 0 (.bool u) rfl
  have x1 := by_.cell 1 (.slice C i j) rfl
  have x2 := by_.cell 2 (.bool v) rfl
  have x3 := by_.cell 3 (.slice D k l) rfl
  have x4 := by_.cell 4 (.bool u') rfl
  have x5 := by_.cell 5 (.slice C' i' j') rfl
  have x6 := by_.cell 6 (.bool v') rfl
  have x7 := by_.cell 7 (.slice D' k' l') rfl
  go_upto_region 6 with (fail)
  have F := (((((FinOK.refl (T := 28) b6 NoWord.oct).step 4 (v := .bool u') (by intro k h; cases h)).step 5 (v := .slice C' i' j') (by intro k h; cases h)).step 6 (v := .bool v') (by intro k h; cases h)).step 7 (v := .slice D' k' l') (by intro k h; cases h))
  simp only [List.setIfInBounds_toArray, List.set_cons_succ, List.set_cons_zero] at F
  refine at_world (fun Y2 => Ext w Y2 ∧ Box Y2 (w.heap.size + 1) 28 #[.bool u, .slice C i j, .bool v, .slice D k l, .bool u', .slice C' i' j', .bool v', .slice D' k' l'] ∧ Box Y2 (w.heap.size + 1 + 1) 28 #[Value.bool false, Value.slice none 0 0, Value.bool false, Value.slice none 0 0, Value.bool false, Value.slice none 0 0, Value.bool false, Value.slice none 0 0] ∧ Box Y2 g6 28 #[.bool s, .slice A n c, .bool t, .slice B m d, .bool u', .slice C' i' j', .bool v', .slice D' k' l']) ⟨F.ext _ ext (by omega), F.far _ _ _ (by omega) by_, F.far _ _ _ (by omega) bz, F.box⟩ ?_
  clear F x0 x1 x2 x3 x4 x5 x6 x7 y0 y1 y2 y3 f0 f1 f2 f3 ext by_ bz b6
  rintro Y2 ⟨ext, by_, bz, b6⟩
  have x0 := by_.cell 0 (.bool u) rfl
  have x1 := by_.cell 1 (.slice C i j) rfl
  have x2 := by_.cell 2 (.bool v) rfl
  have x3 := by_.cell 3 (.slice D k l) rfl
  have x4 := by_.cell 4 (.bool u') rfl
  have x5 := by_.cell 5 (.slice C' i' j') rfl
  have x6 := by_.cell 6 (.bool v') rfl
  have x7 := by_.cell 7 (.slice D' k' l') rfl
  have k0 := b6.cell 0 (.bool s) rfl
  have k1 := b6.cell 1 (.slice A n c) rfl
  have k2 := b6.cell 2 (.bool t) rfl
  have k3 := b6.cell 3 (.slice B m d) rfl
  have k4 := b6.cell 4 (.bool u') rfl
  have k5 := b6.cell 5 (.slice C' i' j') rfl
  have k6 := b6.cell 6 (.bool v') rfl
  have k7 := b6.cell 7 (.slice D' k' l') rfl
  go_wp2_with fail
  refine (q_CmpR (h.low.ext ext) (h'.high.ext ext) (by omega) (by omega)).mono ?_
  rintro e Wc ⟨rfl, hxt⟩
  rw [HU3.out]
  replace by_ := by_.ext hxt
  replace bz := bz.ext hxt
  replace b6 := b6.ext hxt
  replace ext := ext.trans hxt
  clear hxt x0 x1 x2 x3 x4 x5 x6 x7 k0 k1 k2 k3 k4 k5 k6 k7
  have k0 := b6.cell 0 (.bool s) rfl
  have k1 := b6.cell 1 (.slice A n c) rfl
  have k2 := b6.cell 2 (.bool t) rfl
  have k3 := b6.cell 3 (.slice B m d) rfl
  have k4 := b6.cell 4 (.bool u') rfl
  have k5 := b6.cell 5 (.slice C' i' j') rfl
  have k6 := b6.cell 6 (.bool v') rfl
  have k7 := b6.cell 7 (.slice D' k' l') rfl
  have hx1 := Ext.refl Wc
  have z0 := (bz.ext hx1).cell 0 _ rfl
  have f0 := (bz.ext hx1).frozen 0
  have z1 := (bz.ext hx1).cell 1 _ rfl
  have f1 := (bz.ext hx1).frozen 1
  have z2 := (bz.ext hx1).cell 2 _ rfl
  have f2 := (bz.ext hx1).frozen 2
  have z3 := (bz.ext hx1).cell 3 _ rfl
  have f3 := (bz.ext hx1).frozen 3
  have z4 := (bz.ext hx1).cell 4 _ rfl
  have f4 := (bz.ext hx1).frozen 4
  have z5 := (bz.ext hx1).cell 5 _ rfl
  have f5 := (bz.ext hx1).frozen 5
  have z6 := (bz.ext hx1).cell 6 _ rfl
  have f6 := (bz.ext hx1).frozen 6
  have z7 := (bz.ext hx1).cell 7 _ rfl
  have f7 := (bz.ext hx1).frozen 7
  go_wp2_with fail
  obtain ⟨b1, b2, b3, b4⟩ := fin_oct (v0 := (.bool s)) (v1 := (.slice A n c)) (v2 := (.bool t)) (v3 := (.slice B m d)) (v4 := (.bool u')) (v5 := (.slice C' i' j')) (v6 := (.bool v')) (v7 := (.slice D' k' l')) (bz.ext hx1)
  have r0 := b1.cell 0 (.bool s) rfl
  have r1 := b1.cell 1 (.slice A n c) rfl
  have r2 := b1.cell 2 (.bool t) rfl
  have r3 := b1.cell 3 (.slice B m d) rfl
  have r4 := b1.cell 4 (.bool u') rfl
  have r5 := b1.cell 5 (.slice C' i' j') rfl
  have r6 := b1.cell 6 (.bool v') rfl
  have r7 := b1.cell 7 (.slice D' k' l') rfl
  unfold set8 at r0 r1 r2 r3 r4 r5 r6 r7
  have q1 := b2 _ _ _ _ _ _ (h.low.ext ext).num
  have q2 := b2 _ _ _ _ _ _ (h.low.ext ext).den
  have q3 := b2 _ _ _ _ _ _ (h'.high.ext ext).num
  have q4 := b2 _ _ _ _ _ _ (h'.high.ext ext).den
  refine bodyPost_ret (v := .tuple #[.agg #[.bool s, .slice A n c, .bool t, .slice B m d, .bool u', .slice C' i' j', .bool v', .slice D' k' l'], .bool true]) (by simp [results, Tryz.results42, go_sem, r0, r1, r2, r3, r4, r5, r6, r7]) rfl (by rw [RetMeet, HM.out.1, HM.out.2]; exact .inl ⟨HC.out, s, A, n, c, t, B, m, d, u', C', i', j', v', D', k', l', rfl, ⟨⟨q1, q2⟩, ⟨q3, q4⟩⟩, b3 _ (ext.trans hx1) (by omega)⟩)
set_option maxHeartbeats 8000000 in
set_option maxRecDepth 100000 in
theorem q_Meet_010 (h : IV w lo hi L s A n c t B m d s' A' n' c' t' B' m' d') (h' : IV w lo' hi' L u C i j v D k l u' C' i' j' v' D' k' l') (hL : L ≤ 20) (c1 : ¬ lo < lo') (c2 : hi' < hi) (c3 : hi' < lo) : Calls Tryz.prog 42 #[.agg #[.bool s, .slice A n c, .bool t, .slice B m d, .bool s', .slice A' n' c', .bool t', .slice B' m' d'], .agg #[.bool u, .slice C i j, .bool v, .slice D k l, .bool u', .slice C' i' j', .bool v', .slice D' k' l']] w (RetMeet lo hi lo' hi' L w) := by
  have hmx : mxR lo lo' = lo := by unfold mxR; rw [if_neg c1]
  have hmn : mnR hi hi' = hi' := by unfold mnR; rw [if_pos c2]
  have HM := Lib.hid (And.intro hmx hmn)
  have HC := Lib.hid (show ¬ lo ≤ hi' from fun k => Rat.not_le.2 c3 k)
  obtain ⟨U1, hU1, d1⟩ : ∃ S, ratCmp lo' lo = S ∧ decide (0 < S) = false := ⟨_, rfl, decide_eq_false (fun k => c1 (ratCmp_gt.1 k))⟩
  obtain ⟨U2, hU2, d2⟩ : ∃ S, ratCmp hi' hi = S ∧ decide (S < 0) = true := ⟨_, rfl, decide_eq_true (ratCmp_lt.2 c2)⟩
  obtain ⟨U3, hU3, d3⟩ : ∃ S, ratCmp lo hi' = S ∧ decide (0 < S) = true := ⟨_, rfl, decide_eq_true (ratCmp_gt.2 c3)⟩
  have HU1 := Lib.hid hU1
  have HU2 := Lib.hid hU2
  have HU3 := Lib.hid hU3
  clear hmx hmn c1 c2 c3 hU1 hU2 hU3
  go_enter Tryz.func42, Tryz.ntmps42
  go_upto_region 1 with (fail)
  obtain ⟨W, hW, ext, bx, by_, bz, hz⟩ := box3 w 28 28 28 #[.bool s, .slice A n c, .bool t, .slice B m d, .bool s', .slice A' n' c', .bool t', .slice B' m' d'] #[.bool u, .slice C i j, .bool v, .slice D k l, .bool u', .slice C' i' j', .bool v', .slice D' k' l'] #[Value.bool false, Value.slice none 0 0, Value.bool false, Value.slice none 0 0, Value.bool false, Value.slice none 0 0, Value.bool false, Value.slice none 0 0]
  rw [← hW]
  clear hW hz
  have hlz := bz.lt
  have k0 := bx.cell 0 (.bool s) rfl
  have k1 := bx.cell 1 (.slice A n c) rfl
  have k2 := bx.cell 2 (.bool t) rfl
  have k3 := bx.cell 3 (.slice B m d) rfl
  have k4 := bx.cell 4 (.bool s') rfl
  have k5 := bx.cell 5 (.slice A' n' c') rfl
  have k6 := bx.cell 6 (.bool t') rfl
  have k7 := bx.cell 7 (.slice B' m' d') rfl
  go_upto_region 2 with (fail)
  refine at_world (fun V => Ext w V ∧ Box V (w.heap.size + 1) 28 #[.bool u, .slice C i j, .bool v, .slice D k l, .bool u', .slice C' i' j', .bool v', .slice D' k' l'] ∧ Box V (w.heap.size + 1 + 1) 28 #[Value.bool false, Value.slice none 0 0, Value.bool false, Value.slice none 0 0, Value.bool false, Value.slice none 0 0, Value.bool false, Value.slice none 0 0] ∧ Box V W.heap.size 28 #[.bool s, .slice A n c, .bool t, .slice B m d, .bool s', .slice A' n' c', .bool t', .slice B' m' d']) ⟨ext.alloc _, by_.ext ((Ext.refl W).alloc _), bz.ext ((Ext.refl W).alloc _), Box.new W _ _⟩ ?_
  generalize W.heap.size = g6 at hlz ⊢
  clear k0 k1 k2 k3 k4 k5 k6 k7 ext bx by_ bz
  rintro V ⟨ext, by_, bz, b6⟩
  have x0 := by_.cell 0 (.bool u) rfl
  have x1 := by_.cell 1 (.slice C i j) rfl
  have x2 := by_.cell 2 (.bool v) rfl
  have x3 := by_.cell 3 (.slice D k l) rfl
  have x4 := by_.cell 4 (.bool u') rfl
  have x5 := by_.cell 5 (.slice C' i' j') rfl
  have x6 := by_.cell 6 (.bool v') rfl
  have x7 := by_.cell 7 (.slice D' k' l') rfl
  have k0 := b6.cell 0 (.bool s) rfl
  have k1 := b6.cell 1 (.slice A n c) rfl
  have k2 := b6.cell 2 (.bool t) rfl
  have k3 := b6.cell 3 (.slice B m d) rfl
  have k4 := b6.cell 4 (.bool s') rfl
  have k5 := b6.cell 5 (.slice A' n' c') rfl
  have k6 := b6.cell 6 (.bool t') rfl
  have k7 := b6.cell 7 (.slice B' m' d') rfl
  go_wp2_with fail
  refine (q_CmpR (h'.low.ext ext) (h.low.ext ext) (by omega) (by omega)).mono ?_
  rintro e Wa ⟨rfl, hxt⟩
  rw [HU1.out]
  replace by_ := by_.ext hxt
  replace bz := bz.ext hxt
  replace b6 := b6.ext hxt
  replace ext := ext.trans hxt
  clear hxt x0 x1 x2 x3 x4 x5 x6 x7 k0 k1 k2 k3 k4 k5 k6 k7
  have x0 := by_.cell 0 (.bool u) rfl
  have x1 := by_.cell 1 (.slice C i j) rfl
  have x2 := by_.cell 2 (.bool v) rfl
  have x3 := by_.cell 3 (.slice D k l) rfl
  have x4 := by_.cell 4 (.bool u') rfl
  have x5 := by_.cell 5 (.slice C' i' j') rfl
  have x6 := by_.cell 6 (.bool v') rfl
  have x7 := by_.cell 7 (.slice D' k' l') rfl
  have k0 := b6.cell 0 (.bool s) rfl
  have k1 := b6.cell 1 (.slice A n c) rfl
  have k2 := b6.cell 2 (.bool t) rfl
  have k3 := b6.cell 3 (.slice B m d) rfl
  have k4 := b6.cell 4 (.bool s') rfl
  have k5 := b6.cell 5 (.slice A' n' c') rfl
  have k6 := b6.cell 6 (.bool t') rfl
  have k7 := b6.cell 7 (.slice B' m' d') rfl
  go_wp2_with fail
  refine (q_CmpR (h'.high.ext ext) (h.high.ext ext) (by omega) (by omega)).mono ?_
  rintro e Wb ⟨rfl, hxt⟩
  rw [HU2.out]
  replace by_ := by_.ext hxt
  replace bz := bz.ext hxt
  replace b6 := b6.ext hxt
  replace ext := ext.trans hxt
  clear hxt x0 x1 x2 x3 x4 x5 x6 x7 k0 k1 k2 k3 k4 k5 k6 k7
  have y0 := b6.cell 4 _ rfl
  have y1 := b6.cell 5 _ rfl
  have y2 := b6.cell 6 _ rfl
  have y3 := b6.cell 7 _ rfl
  have f0 := b6.frozen 4
  have f1 := b6.frozen 5
  have f2 := b6.frozen 6
  have f3 := b6.frozen 7
  have x0 := by_.cell 0 (.bool u) rfl
  have x1 := by_.cell 1 (.slice C i j) rfl
  have x2 := by_.cell 2 (.bool v) rfl
  have x3 := by_.cell 3 (.slice D k l) rfl
  have x4 := by_.cell 4 (.bool u') rfl
  have x5 := by_.cell 5 (.slice C' i' j') rfl
  have x6 := by_.cell 6 (.bool v') rfl
  have x7 := by_.cell 7 (.slice D' k' l') rfl
  go_upto_region 6 with (fail)
  have F := (((((FinOK.refl (T := 28) b6 NoWord.oct).step 4 (v := .bool u') (by intro k h; cases h)).step 5 (v := .slice C' i' j') (by intro k h; cases h)).step 6 (v := .bool v') (by intro k h; cases h)).step 7 (v := .slice D' k' l') (by intro k h; cases h))
  simp only [List.setIfInBounds_toArray, List.set_cons_succ, List.set_cons_zero] at F
  refine at_world (fun Y2 => Ext w Y2 ∧ Box Y2 (w.heap.size + 1) 28 #[.bool u, .slice C i j, .bool v, .slice D k l, .bool u', .slice C' i' j', .bool v', .slice D' k' l'] ∧ Box Y2 (w.heap.size + 1 + 1) 28 #[Value.bool false, Value.slice none 0 0, Value.bool false, Value.slice none 0 0, Value.bool false, Value.slice none 0 0, Value.bool false, Value.slice none 0 0] ∧ Box Y2 g6 28 #[.bool s, .slice A n c, .bool t, .slice B m d, .bool u', .slice C' i' j', .bool v', .slice D' k' l']) ⟨F.ext _ ext (by omega), F.far _ _ _ (by omega) by_, F.far _ _ _ (by omega) bz, F.box⟩ ?_
  clear F x0 x1 x2 x3 x4 x5 x6 x7 y0 y1 y2 y3 f0 f1 f2 f3 ext by_ bz b6
  rintro Y2 ⟨ext, by_, bz, b6⟩
  have x0 := by_.cell 0 (.bool u) rfl
  have x1 := by_.cell 1 (.slice C i j) rfl
  have x2 := by_.cell 2 (.bool v) rfl
  have x3 := by_.cell 3 (.slice D k l) rfl
  have x4 := by_.cell 4 (.bool u') rfl
  have x5 := by_.cell 5 (.slice C' i' j') rfl
  have x6 := by_.cell 6 (.bool v') rfl
  have x7 := by_.cell 7 (.slice D' k' l') rfl
  have k0 := b6.cell 0 (.bool s) rfl
  have k1 := b6.cell 1 (.slice A n c) rfl
  have k2 := b6.cell 2 (.bool t) rfl
  have k3 := b6.cell 3 (.slice B m d) rfl
  have k4 := b6.cell 4 (.bool u') rfl
  have k5 := b6.cell 5 (.slice C' i' j') rfl
  have k6 := b6.cell 6 (.bool v') rfl
  have k7 := b6.cell 7 (.slice D' k' l') rfl
  go_wp2_with fail
  refine (q_CmpR (h.low.ext ext) (h'.high.ext ext) (by omega) (by omega)).mono ?_
  rintro e Wc ⟨rfl, hxt⟩
  rw [HU3.out]
  replace by_ := by_.ext hxt
  replace bz := bz.ext hxt
  replace b6 := b6.ext hxt
  replace ext := ext.trans hxt
  clear hxt x0 x1 x2 x3 x4 x5 x6 x7 k0 k1 k2 k3 k4 k5 k6 k7
  have hx1 := Ext.refl Wc
  have z0 := (bz.ext hx1).cell 0 _ rfl
  have f0 := (bz.ext hx1).frozen 0
  have z1 := (bz.ext hx1).cell 1 _ rfl
  have f1 := (bz.ext hx1).frozen 1
  have z2 := (bz.ext hx1).cell 2 _ rfl
  have f2 := (bz.ext hx1).frozen 2
  have z3 := (bz.ext hx1).cell 3 _ rfl
  have f3 := (bz.ext hx1).frozen 3
  have z4 := (bz.ext hx1).cell 4 _ rfl
  have f4 := (bz.ext hx1).frozen 4
  have z5 := (bz.ext hx1).cell 5 _ rfl
  have f5 := (bz.ext hx1).frozen 5
  have z6 := (bz.ext hx1).cell 6 _ rfl
  have f6 := (bz.ext hx1).frozen 6
  have z7 := (bz.ext hx1).cell 7 _ rfl
  have f7 := (bz.ext hx1).frozen 7
  go_wp2_with fail
  obtain ⟨b1, b2, b3, b4⟩ := fin_oct (v0 := (.bool false)) (v1 := (.slice none 0 0)) (v2 := (.bool false)) (v3 := (.slice none 0 0)) (v4 := (.bool false)) (v5 := (.slice none 0 0)) (v6 := (.bool false)) (v7 := (.slice none 0 0)) (bz.ext hx1)
  have r0 := b1.cell 0 (.bool false) rfl
  have r1 := b1.cell 1 (.slice none 0 0) rfl
  have r2 := b1.cell 2 (.bool false) rfl
  have r3 := b1.cell 3 (.slice none 0 0) rfl
  have r4 := b1.cell 4 (.bool false) rfl
  have r5 := b1.cell 5 (.slice none 0 0) rfl
  have r6 := b1.cell 6 (.bool false) rfl
  have r7 := b1.cell 7 (.slice none 0 0) rfl
  unfold set8 at r0 r1 r2 r3 r4 r5 r6 r7
  refine bodyPost_ret (v := .tuple #[.agg #[.bool false, .slice none 0 0, .bool false, .slice none 0 0, .bool false, .slice none 0 0, .bool false, .slice none 0 0], .bool false]) (by simp [results, Tryz.results42, go_sem, r0, r1, r2, r3, r4, r5, r6, r7]) rfl (by rw [RetMeet, HM.out.1, HM.out.2]; exact .inr ⟨HC.out, rfl, b3 _ (ext.trans hx1) (by omega)⟩)
set_option maxHeartbeats 8000000 in
set_option maxRecDepth 100000 in
theorem q_Meet_001 (h : IV w lo hi L s A n c t B m d s' A' n' c' t' B' m' d') (h' : IV w lo' hi' L u C i j v D k l u' C' i' j' v' D' k' l') (hL : L ≤ 20) (c1 : ¬ lo < lo') (c2 : ¬ hi' < hi) (c3 : ¬ hi < lo) : Calls Tryz.prog 42 #[.agg #[.bool s, .slice A n c, .bool t, .slice B m d, .bool s', .slice A' n' c', .bool t', .slice B' m' d'], .agg #[.bool u, .slice C i j, .bool v, .slice D k l, .bool u', .slice C' i' j', .bool v', .slice D' k' l']] w (RetMeet lo hi lo' hi' L w) := by
  have hmx : mxR lo lo' = lo := by unfold mxR; rw [if_neg c1]
  have hmn : mnR hi hi' = hi := by unfold mnR; rw [if_neg c2]
  have HM := Lib.hid (And.intro hmx hmn)
  have HC := Lib.hid (show lo ≤ hi from Rat.not_lt.1 c3)
  obtain ⟨U1, hU1, d1⟩ : ∃ S, ratCmp lo' lo = S ∧ decide (0 < S) = false := ⟨_, rfl, decide_eq_false (fun k => c1 (ratCmp_gt.1 k))⟩
  obtain ⟨U2, hU2, d2⟩ : ∃ S, ratCmp hi' hi = S ∧ decide (S < 0) = false := ⟨_, rfl, decide_eq_false (fun k => c2 (ratCmp_lt.1 k))⟩
  obtain ⟨U3, hU3, d3⟩ : ∃ S, ratCmp lo hi = S ∧ decide (0 < S) = false := ⟨_, rfl, decide_eq_false (fun k => c3 (ratCmp_gt.1 k))⟩
  have HU1 := Lib.hid hU1
  have HU2 := Lib.hid hU2
  have HU3 := Lib.hid hU3
  clear hmx hmn c1 c2 c3 hU1 hU2 hU3
  go_enter Tryz.func42, Tryz.ntmps42
  go_upto_region 1 with (fail)
  obtain ⟨W, hW, ext, bx, by_, bz, hz⟩ := box3 w 28 28 28 #[.bool s, .slice A n c, .bool t, .slice B m d, .bool s', .slice A' n' c', .bool t', .slice B' m' d'] #[.bool u, .slice C i j, .bool v, .slice D k l, .bool u', .slice C' i' j', .bool v', .slice D' k' l'] #[Value.bool false, Value.slice none 0 0, Value.bool false, Value.slice none 0 0, Value.bool false, Value.slice none 0 0, Value.bool false, Value.slice none 0 0]
  rw [← hW]
  clear hW hz
  have hlz := bz.lt
  have k0 := bx.cell 0 (.bool s) rfl
  have k1 := bx.cell 1 (.slice A n c) rfl
  have k2 := bx.cell 2 (.bool t) rfl
  have k3 := bx.cell 3 (.slice B m d) rfl
  have k4 := bx.cell 4 (.bool s') rfl
  have k5 := bx.cell 5 (.slice A' n' c') rfl
  have k6 := bx.cell 6 (.bool t') rfl
  have k7 := bx.cell 7 (.slice B' m' d') rfl
  go_upto_region 2 with (fail)
  refine at_world (fun V => Ext w V ∧ Box V (w.heap.size + 1) 28 #[.bool u, .slice C i j, .bool v, .slice D k l, .bool u', .slice C' i' j', .bool v', .slice D' k' l'] ∧ Box V (w.heap.size + 1 + 1) 28 #[Value.bool false, Value.slice none 0 0, Value.bool false, Value.slice none 0 0, Value.bool false, Value.slice none 0 0, Value.bool false, Value.slice none 0 0] ∧ Box V W.heap.size 28 #[.bool s, .slice A n c, .bool t, .slice B m d, .bool s', .slice A' n' c', .bool t', .slice B' m' d']) ⟨ext.alloc _, by_.ext ((Ext.refl W).alloc _), bz.ext ((Ext.refl W).alloc _), Box.new W _ _⟩ ?_
  generalize W.heap.size = g6 at hlz ⊢
  clear k0 k1 k2 k3 k4 k5 k6 k7 ext bx by_ bz
  rintro V ⟨ext, by_, bz, b6⟩
  have x0 := by_.cell 0 (.bool u) rfl
  have x1 := by_.cell 1 (.slice C i j) rfl
  have x2 := by_.cell 2 (.bool v) rfl
  have x3 := by_.cell 3 (.slice D k l) rfl
  have x4 := by_.cell 4 (.bool u') rfl
  have x5 := by_.cell 5 (.slice C' i' j') rfl
  have x6 := by_.cell 6 (.bool v') rfl
  have x7 := by_.cell 7 (.slice D' k' l') rfl
  have k0 := b6.cell 0 (.bool s) rfl
  have k1 := b6.cell 1 (.slice A n c) rfl
  have k2 := b6.cell 2 (.bool t) rfl
  have k3 := b6.cell 3 (.slice B m d) rfl
  have k4 := b6.cell 4 (.bool s') rfl
  have k5 := b6.cell 5 (.slice A' n' c') rfl
  have k6 := b6.cell 6 (.bool t') rfl
  have k7 := b6.cell 7 (.slice B' m' d') rfl
  go_wp2_with fail
  refine (q_CmpR (h'.low.ext ext) (h.low.ext ext) (by omega) (by omega)).mono ?_
  rintro e Wa ⟨rfl, hxt⟩
  rw [HU1.out]
  replace by_ := by_.ext hxt
  replace bz := bz.ext hxt
  replace b6 := b6.ext hxt
  replace ext := ext.trans hxt
  clear hxt x0 x1 x2 x3 x4 x5 x6 x7 k0 k1 k2 k3 k4 k5 k6 k7
  have x0 := by_.cell 0 (.bool u) rfl
  have x1 := by_.cell 1 (.slice C i j) rfl
  have x2 := by_.cell 2 (.bool v) rfl
  have x3 := by_.cell 3 (.slice D k l) rfl
  have x4 := by_.cell 4 (.bool u') rfl
  have x5 := by_.cell 5 (.slice C' i' j') rfl
  have x6 := by_.cell 6 (.bool v') rfl
  have x7 := by_.cell 7 (.slice D' k' l') rfl
  have k0 := b6.cell 0 (.bool s) rfl
  have k1 := b6.cell 1 (.slice A n c) rfl
  have k2 := b6.cell 2 (.bool t) rfl
  have k3 := b6.cell 3 (.slice B m d) rfl
  have k4 := b6.cell 4 (.bool s') rfl
  have k5 := b6.cell 5 (.slice A' n' c') rfl
  have k6 := b6.cell 6 (.bool t') rfl
  have k7 := b6.cell 7 (.slice B' m' d') rfl
  go_wp2_with fail
  refine (q_CmpR (h'.high.ext ext) (h.high.ext ext) (by omega) (by omega)).mono ?_
  rintro e Wb ⟨rfl, hxt⟩
  rw [HU2.out]
  replace by_ := by_.ext hxt
  replace bz := bz.ext hxt
  replace b6 := b6.ext hxt
  replace ext := ext.trans hxt
  clear hxt x0 x1 x2 x3 x4 x5 x6 x7 k0 k1 k2 k3 k4 k5 k6 k7
  have x0 := by_.cell 0 (.bool u) rfl
  have x1 := by_.cell 1 (.slice C i j) rfl
  have x2 := by_.cell 2 (.bool v) rfl
  have x3 := by_.cell 3 (.slice D k l) rfl
  have x4 := by_.cell 4 (.bool u') rfl
  have x5 := by_.cell 5 (.slice C' i' j') rfl
  have x6 := by_.cell 6 (.bool v') rfl
  have x7 := by_.cell 7 (.slice D' k' l') rfl
  have k0 := b6.cell 0 (.bool s) rfl
  have k1 := b6.cell 1 (.slice A n c) rfl
  have k2 := b6.cell 2 (.bool t) rfl
  have k3 := b6.cell 3 (.slice B m d) rfl
  have k4 := b6.cell 4 (.bool s') rfl
  have k5 := b6.cell 5 (.slice A' n' c') rfl
  have k6 := b6.cell 6 (.bool t') rfl
  have k7 := b6.cell 7 (.slice B' m' d') rfl
  go_wp2_with fail
  refine (q_CmpR (h.low.ext ext) (h.high.ext ext) (by omega) (by omega)).mono ?_
  rintro e Wc ⟨rfl, hxt⟩
  rw [HU3.out]
  replace by_ := by_.ext hxt
  replace bz := bz.ext hxt
  replace b6 := b6.ext hxt
  replace ext := ext.trans hxt
  clear hxt x0 x1 x2 x3 x4 x5 x6 x7 k0 k1 k2 k3 k4 k5 k6 k7
  have k0 := b6.cell 0 (.bool s) rfl
  have k1 := b6.cell 1 (.slice A n c) rfl
  have k2 := b6.cell 2 (.bool t) rfl
  have k3 := b6.cell 3 (.slice B m d) rfl
  have k4 := b6.cell 4 (.bool s') rfl
  have k5 := b6.cell 5 (.slice A' n' c') rfl
  have k6 := b6.cell 6 (.bool t') rfl
  have k7 := b6.cell 7 (.slice B' m' d') rfl
  have hx1 := Ext.refl Wc
  have z0 := (bz.ext hx1).cell 0 _ rfl
  have f0 := (bz.ext hx1).frozen 0
  have z1 := (bz.ext hx1).cell 1 _ rfl
  have f1 := (bz.ext hx1).frozen 1
  have z2 := (bz.ext hx1).cell 2 _ rfl
  have f2 := (bz.ext hx1).frozen 2
  have z3 := (bz.ext hx1).cell 3 _ rfl
  have f3 := (bz.ext hx1).frozen 3
  have z4 := (bz.ext hx1).cell 4 _ rfl
  have f4 := (bz.ext hx1).frozen 4
  have z5 := (bz.ext hx1).cell 5 _ rfl
  have f5 := (bz.ext hx1).frozen 5
  have z6 := (bz.ext hx1).cell 6 _ rfl
  have f6 := (bz.ext hx1).frozen 6
  have z7 := (bz.ext hx1).cell 7 _ rfl
  have f7 := (bz.ext hx1).frozen 7
  go_wp2_with fail
  obtain ⟨b1, b2, b3, b4⟩ := fin_oct (v0 := (.bool s)) (v1 := (.slice A n c)) (v2 := (.bool t)) (v3 := (.slice B m d)) (v4 := (.bool s')) (v5 := (.slice A' n' c')) (v6 := (.bool t')) (v7 := (.slice B' m' d')) (bz.ext hx1)
  have r0 := b1.cell 0 (.bool s) rfl
  have r1 := b1.cell 1 (.slice A n c) rfl
  have r2 := b1.cell 2 (.bool t) rfl
  have r3 := b1.cell 3 (.slice B m d) rfl
  have r4 := b1.cell 4 (.bool s') rfl
  have r5 := b1.cell 5 (.slice A' n' c') rfl
  have r6 := b1.cell 6 (.bool t') rfl
  have r7 := b1.cell 7 (.slice B' m' d') rfl
  unfold set8 at r0 r1 r2 r3 r4 r5 r6 r7
  have q1 := b2 _ _ _ _ _ _ (h.low.ext ext).num
  have q2 := b2 _ _ _ _ _ _ (h.low.ext ext).den
  have q3 := b2 _ _ _ _ _ _ (h.high.ext ext).num
  have q4 := b2 _ _ _ _ _ _ (h.high.ext ext).den
  refine bodyPost_ret (v := .tuple #[.agg #[.bool s, .slice A n c, .bool t, .slice B m d, .bool s', .slice A' n' c', .bool t', .slice B' m' d'], .bool true]) (by simp [results, Tryz.results42, go_sem, r0, r1, r2, r3, r4, r5, r6, r7]) rfl (by rw [RetMeet, HM.out.1, HM.out.2]; exact .inl ⟨HC.out, s, A, n, c, t, B, m, d, s', A', n', c', t', B', m', d', rfl, ⟨⟨q1, q2⟩, ⟨q3, q4⟩⟩, b3 _ (ext.trans hx1) (by omega)⟩)
set_option maxHeartbeats 8000000 in
set_option maxRecDepth 100000 in
theorem q_Meet_000 (h : IV w lo hi L s A n c t B m d s' A' n' c' t' B' m' d') (h' : IV w lo' hi' L u C i j v D k l u' C' i' j' v' D' k' l') (hL : L ≤ 20) (c1 : ¬ lo < lo') (c2 : ¬ hi' < hi) (c3 : hi < lo) : Calls Tryz.prog 42 #[.agg #[.bool s, .slice A n c, .bool t, .slice B m d, .bool s', .slice A' n' c', .bool t', .slice B' m' d'], .agg #[.bool u, .slice C i j, .bool v, .slice D k l, .bool u', .slice C' i' j', .bool v', .slice D' k' l']] w (RetMeet lo hi lo' hi' L w) := by
  have hmx : mxR lo lo' = lo := by unfold mxR; rw [if_neg c1]
  have hmn : mnR hi hi' = hi := by unfold mnR; rw [if_neg c2]
  have HM := Lib.hid (And.intro hmx hmn)
  have HC := Lib.hid (show ¬ lo ≤ hi from fun k => Rat.not_le.2 c3 k)
  obtain ⟨U1, hU1, d1⟩ : ∃ S, ratCmp lo' lo = S ∧ decide (0 < S) = false := ⟨_, rfl, decide_eq_false (fun k => c1 (ratCmp_gt.1 k))⟩
  obtain ⟨U2, hU2, d2⟩ : ∃ S, ratCmp hi' hi = S ∧ decide (S < 0) = false := ⟨_, rfl, decide_eq_false (fun k => c2 (ratCmp_lt.1 k))⟩
  obtain ⟨U3, hU3, d3⟩ : ∃ S, ratCmp lo hi = S ∧ decide (0 < S) = true := ⟨_, rfl, decide_eq_true (ratCmp_gt.2 c3)⟩
  have HU1 := Lib.hid hU1
  have HU2 := Lib.hid hU2
  have HU3 := Lib.hid hU3
  clear hmx hmn c1 c2 c3 hU1 hU2 hU3
  go_enter Tryz.func42, Tryz.ntmps42
  go_upto_region 1 with (fail)
  obtain ⟨W, hW, ext, bx, by_, bz, hz⟩ := box3 w 28 28 28 #[.bool s, .slice A n c, .bool t, .slice B m d, .bool s', .slice A' n' c', .bool t', .slice B' m' d'] #[.bool u, .slice C i j, .bool v, .slice D k l, .bool u', .slice C' i' j', .bool v', .slice D' k' l'] #[Value.bool false, Value.slice none 0 0, Value.bool false, Value.slice none 0 0, Value.bool false, Value.slice none 0 0, Value.bool false, Value.slice none 0 0]
  rw [← hW]
  clear hW hz
  have hlz := bz.lt
  have k0 := bx.cell 0 (.bool s) rfl
  have k1 := bx.cell 1 (.slice A n c) rfl
  have k2 := bx.cell 2 (.bool t) rfl
  have k3 := bx.cell 3 (.slice B m d) rfl
  have k4 := bx.cell 4 (.bool s') rfl
  have k5 := bx.cell 5 (.slice A' n' c') rfl
  have k6 := bx.cell 6 (.bool t') rfl
  have k7 := bx.cell 7 (.slice B' m' d') rfl
  go_upto_region 2 with (fail)
  refine at_world (fun V => Ext w V ∧ Box V (w.heap.size + 1) 28 #[.bool u, .slice C i j, .bool v, .slice D k l, .bool u', .slice C' i' j', .bool v', .slice D' k' l'] ∧ Box V (w.heap.size + 1 + 1) 28 #[Value.bool false, Value.slice none 0 0, Value.bool false, Value.slice none 0 0, Value.bool false, Value.slice none 0 0, Value.bool false, Value.slice none 0 0] ∧ Box V W.heap.size 28 #[.bool s, .slice A n c, .bool t, .slice B m d, .bool s', .slice A' n' c', .bool t', .slice B' m' d']) ⟨ext.alloc _, by_.ext ((Ext.refl W).alloc _), bz.ext ((Ext.refl W).alloc _), Box.new W _ _⟩ ?_
  generalize W.heap.size = g6 at hlz ⊢
  clear k0 k1 k2 k3 k4 k5 k6 k7 ext bx by_ bz
  rintro V ⟨ext, by_, bz, b6⟩
  have x0 := by_.cell 0 (.bool u) rfl
  have x1 := by_.cell 1 (.slice C i j) rfl
  have x2 := by_.cell 2 (.bool v) rfl
  have x3 := by_.cell 3 (.slice D k l) rfl
  have x4 := by_.cell 4 (.bool u') rfl
  have x5 := by_.cell 5 (.slice C' i' j') rfl
  have x6 := by_.cell 6 (.bool v') rfl
  have x7 := by_.cell 7 (.slice D' k' l') rfl
  have k0 := b6.cell 0 (.bool s) rfl
  have k1 := b6.cell 1 (.slice A n c) rfl
  have k2 := b6.cell 2 (.bool t) rfl
  have k3 := b6.cell 3 (.slice B m d) rfl
  have k4 := b6.cell 4 (.bool s') rfl
  have k5 := b6.cell 5 (.slice A' n' c') rfl
  have k6 := b6.cell 6 (.bool t') rfl
  have k7 := b6.cell 7 (.slice B' m' d') rfl
  go_wp2_with fail
  refine (q_CmpR (h'.low.ext ext) (h.low.ext ext) (by omega) (by omega)).mono ?_
  rintro e Wa ⟨rfl, hxt⟩
  rw [HU1.out]
  replace by_ := by_.ext hxt
  replace bz := bz.ext hxt
  replace b6 := b6.ext hxt
  replace ext := ext.trans hxt
  clear hxt x0 x1 x2 x3 x4 x5 x6 x7 k0 k1 k2 k3 k4 k5 k6 k7
  have x0 := by_.cell 0 (.bool u) rfl
  have x1 := by_.cell 1 (.slice C i j) rfl
  have x2 := by_.cell 2 (.bool v) rfl
  have x3 := by_.cell 3 (.slice D k l) rfl
  have x4 := by_.cell 4 (.bool u') rfl
  have x5 := by_.cell 5 (.slice C' i' j') rfl
  have x6 := by_.cell 6 (.bool v') rfl
  have x7 := by_.cell 7 (.slice D' k' l') rfl
  have k0 := b6.cell 0 (.bool s) rfl
  have k1 := b6.cell 1 (.slice A n c) rfl
  have k2 := b6.cell 2 (.bool t) rfl
  have k3 := b6.cell 3 (.slice B m d) rfl
  have k4 := b6.cell 4 (.bool s') rfl
  have k5 := b6.cell 5 (.slice A' n' c') rfl
  have k6 := b6.cell 6 (.bool t') rfl
  have k7 := b6.cell 7 (.slice B' m' d') rfl
  go_wp2_with fail
  refine (q_CmpR (h'.high.ext ext) (h.high.ext ext) (by omega) (by omega)).mono ?_
  rintro e Wb ⟨rfl, hxt⟩
  rw [HU2.out]
  replace by_ := by_.ext hxt
  replace bz := bz.ext hxt
  replace b6 := b6.ext hxt
  replace ext := ext.trans hxt
  clear hxt x0 x1 x2 x3 x4 x5 x6 x7 k0 k1 k2 k3 k4 k5 k6 k7
  have x0 := by_.cell 0 (.bool u) rfl
  have x1 := by_.cell 1 (.slice C i j) rfl
  have x2 := by_.cell 2 (.bool v) rfl
  have x3 := by_.cell 3 (.slice D k l) rfl
  have x4 := by_.cell 4 (.bool u') rfl
  have x5 := by_.cell 5 (.slice C' i' j') rfl
  have x6 := by_.cell 6 (.bool v') rfl
  have x7 := by_.cell 7 (.slice D' k' l') rfl
  have k0 := b6.cell 0 (.bool s) rfl
  have k1 := b6.cell 1 (.slice A n c) rfl
  have k2 := b6.cell 2 (.bool t) rfl
  have k3 := b6.cell 3 (.slice B m d) rfl
  have k4 := b6.cell 4 (.bool s') rfl
  have k5 := b6.cell 5 (.slice A' n' c') rfl
  have k6 := b6.cell 6 (.bool t') rfl
  have k7 := b6.cell 7 (.slice B' m' d') rfl
  go_wp2_with fail
  refine (q_CmpR (h.low.ext ext) (h.high.ext ext) (by omega) (by omega)).mono ?_
  rintro e Wc ⟨rfl, hxt⟩
  rw [HU3.out]
  replace by_ := by_.ext hxt
  replace bz := bz.ext hxt
  replace b6 := b6.ext hxt
  replace ext := ext.trans hxt
  clear hxt x0 x1 x2 x3 x4 x5 x6 x7 k0 k1 k2 k3 k4 k5 k6 k7
  have hx1 := Ext.refl Wc
  have z0 := (bz.ext hx1).cell 0 _ rfl
  have f0 := (bz.ext hx1).frozen 0
  have z1 := (bz.ext hx1).cell 1 _ rfl
  have f1 := (bz.ext hx1).frozen 1
  have z2 := (bz.ext hx1).cell 2 _ rfl
  have f2 := (bz.ext hx1).frozen 2
  have z3 := (bz.ext hx1).cell 3 _ rfl
  have f3 := (bz.ext hx1).frozen 3
  have z4 := (bz.ext hx1).cell 4 _ rfl
  have f4 := (bz.ext hx1).frozen 4
  have z5 := (bz.ext hx1).cell 5 _ rfl
  have f5 := (bz.ext hx1).frozen 5
  have z6 := (bz.ext hx1).cell 6 _ rfl
  have f6 := (bz.ext hx1).frozen 6
  have z7 := (bz.ext hx1).cell 7 _ rfl
  have f7 := (bz.ext hx1).frozen 7
  go_wp2_with fail
  obtain ⟨b1, b2, b3, b4⟩ := fin_oct (v0 := (.bool false)) (v1 := (.slice none 0 0)) (v2 := (.bool false)) (v3 := (.slice none 0 0)) (v4 := (.bool false)) (v5 := (.slice none 0 0)) (v6 := (.bool false)) (v7 := (.slice none 0 0)) (bz.ext hx1)
  have r0 := b1.cell 0 (.bool false) rfl
  have r1 := b1.cell 1 (.slice none 0 0) rfl
  have r2 := b1.cell 2 (.bool false) rfl
  have r3 := b1.cell 3 (.slice none 0 0) rfl
  have r4 := b1.cell 4 (.bool false) rfl
  have r5 := b1.cell 5 (.slice none 0 0) rfl
  have r6 := b1.cell 6 (.bool false) rfl
  have r7 := b1.cell 7 (.slice none 0 0) rfl
  unfold set8 at r0 r1 r2 r3 r4 r5 r6 r7
  refine bodyPost_ret (v := .tuple #[.agg #[.bool false, .slice none 0 0, .bool false, .slice none 0 0, .bool false, .slice none 0 0, .bool false, .slice none 0 0], .bool false]) (by simp [results, Tryz.results42, go_sem, r0, r1, r2, r3, r4, r5, r6, r7]) rfl (by rw [RetMeet, HM.out.1, HM.out.2]; exact .inr ⟨HC.out, rfl, b3 _ (ext.trans hx1) (by omega)⟩)
theorem q_MeetV (h : IV w lo hi L s A n c t B m d s' A' n' c' t' B' m' d') (h' : IV w lo' hi' L u C i j v D k l u' C' i' j' v' D' k' l') (hL : L ≤ 20) : Calls Tryz.prog 42 #[.agg #[.bool s, .slice A n c, .bool t, .slice B m d, .bool s', .slice A' n' c', .bool t', .slice B' m' d'], .agg #[.bool u, .slice C i j, .bool v, .slice D k l, .bool u', .slice C' i' j', .bool v', .slice D' k' l']] w (RetMeet lo hi lo' hi' L w) := by
  by_cases c1 : lo < lo' <;> by_cases c2 : hi' < hi
  · by_cases c3 : hi' < lo'
    · exact q_Meet_110 h h' hL c1 c2 c3
    · exact q_Meet_111 h h' hL c1 c2 c3
  · by_cases c3 : hi < lo'
    · exact q_Meet_100 h h' hL c1 c2 c3
    · exact q_Meet_101 h h' hL c1 c2 c3
  · by_cases c3 : hi' < lo
    · exact q_Meet_010 h h' hL c1 c2 c3
    · exact q_Meet_011 h h' hL c1 c2 c3
  · by_cases c3 : hi < lo
    · exact q_Meet_000 h h' hL c1 c2 c3
    · exact q_Meet_001 h h' hL c1 c2 c3
end
end Go.Proofs.YtoabhnofppledaaGreatDoor
namespace Go.Proofs.YtoabhnofppledaaGreatDoor
open Go.RowKit
theorem within_of {F : Rat → Rat → Rat} {dlo dhi elo ehi l h l' h' : Rat} {alo ahi blo bhi : Rat} (hF : ∀ x y, alo ≤ x → x ≤ ahi → blo ≤ y → y ≤ bhi → l' ≤ F x y ∧ F x y ≤ h') (hu : IsHull l h (prods F (endsOf dlo dhi) (endsOf elo ehi)))
    (h1 : alo ≤ dlo) (h2 : dlo ≤ dhi) (h3 : dhi ≤ ahi) (k1 : blo ≤ elo) (k2 : elo ≤ ehi) (k3 : ehi ≤ bhi) : (inB l' h' l && inB l' h' h) = true := by
  have g := hull_within hu (l := l') (h := h') (fun z hz => by
    obtain ⟨x, hx, y, hy, rfl⟩ := mem_prods.1 hz
    have ax : alo ≤ x ∧ x ≤ ahi := by
      rcases mem_ends.1 hx with e | e <;> subst e
      · exact ⟨h1, Rat.le_trans h2 h3⟩
      · exact ⟨Rat.le_trans h1 h2, h3⟩
    have by_ : blo ≤ y ∧ y ≤ bhi := by
      rcases mem_ends.1 hy with e | e <;> subst e
      · exact ⟨k1, Rat.le_trans k2 k3⟩
      · exact ⟨Rat.le_trans k1 k2, k3⟩
    exact hF x y ax.1 ax.2 by_.1 by_.2)
  unfold inB
  rw [decide_eq_true g.1.1, decide_eq_true g.1.2, decide_eq_true g.2.1, decide_eq_true g.2.2]
  rfl
theorem mxR_l (a b : Rat) : a ≤ mxR a b := by
  unfold mxR; split
  · rename_i h; exact Rat.le_of_lt h
  · exact Rat.le_refl
theorem mnR_l (a b : Rat) : mnR a b ≤ a := by
  unfold mnR; split
  · rename_i h; exact Rat.le_of_lt h
  · exact Rat.le_refl
theorem inB_part {alo ahi dlo dhi : Rat} (h1 : alo ≤ dlo) (h3 : dhi ≤ ahi) (h : inB alo ahi ((0 : Int) : Rat) = false) : inB dlo dhi ((0 : Int) : Rat) = false := by
  cases hd : inB dlo dhi ((0 : Int) : Rat) with
  | false => rfl
  | true =>
    obtain ⟨i1, i2⟩ := inB_zero hd
    have : inB alo ahi ((0 : Int) : Rat) = true := by
      have h0 : ((0 : Int) : Rat) = 0 := rfl
      rw [h0]
      unfold inB
      rw [decide_eq_true (Rat.le_trans h1 i1), decide_eq_true (Rat.le_trans i2 h3)]; rfl
    rw [this] at h
    cases h
theorem RetMeet.yes {lo hi lo' hi' : Rat} {L : Nat} {w w' : World} {e : Ending} (h : RetMeet lo hi lo' hi' L w e w') (hm : mxR lo lo' ≤ mnR hi hi') : ∃ s A n c t B m d s' A' n' c' t' B' m' d', e = .returned (.tuple #[.agg #[.bool s, .slice A n c, .bool t, .slice B m d, .bool s', .slice A' n' c', .bool t', .slice B' m' d'], .bool true]) ∧ IV w' (mxR lo lo') (mnR hi hi') L s A n c t B m d s' A' n' c' t' B' m' d' ∧ Ext w w' :=
  h.elim (fun k => k.2) (fun k => absurd hm k.1)
theorem RetMeet.no {lo hi lo' hi' : Rat} {L : Nat} {w w' : World} {e : Ending} (h : RetMeet lo hi lo' hi' L w e w') (hm : ¬ mxR lo lo' ≤ mnR hi hi') : e = .returned (.tuple #[.agg #[.bool false, .slice none 0 0, .bool false, .slice none 0 0, .bool false, .slice none 0 0, .bool false, .slice none 0 0], .bool false]) ∧ Ext w w' :=
  h.elim (fun k => absurd k.1 hm) (fun k => k.2)
end Go.Proofs.YtoabhnofppledaaGreatDoor
