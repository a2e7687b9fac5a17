/- The walk of the law IntegerDivMod. -/
import Derived.Test.YtmjmcinnbmjpdaaRe
import Derived.Test.YtmjmcinnbmjpdaaPo
import Derived.Test.YtmjmcinnbmjpdaaVd
import Derived.Test.YtmjmcinnbmjpdaaWx
namespace Go.Proofs.Ytmjmcinnbmjpdaa
open Go.RowKit
attribute [local go_sem ↓] Go.wp_at_zero Go.wp_at_succ
theorem IsDM.unique {a b q r q' r' : Int} (hb : b ≠ 0) (h : IsDM a b q r) (k : IsDM a b q' r') : q = q' ∧ r = r' := by
  obtain ⟨h1, h2⟩ := h
  obtain ⟨k1, k2⟩ := k
  have hq : q = q' := by
    refine Decidable.byContradiction fun hne => ?_
    have e : (q - q') * b = r' - r := by grind
    have hr : -(b.natAbs : Int) < r' - r ∧ r' - r < (b.natAbs : Int) := by omega
    have hd : q - q' ≠ 0 := by omega
    have h3 : b.natAbs ≤ ((q - q') * b).natAbs := by
      rw [Int.natAbs_mul]
      exact Nat.le_mul_of_pos_left _ (Int.natAbs_pos.2 hd)
    rw [e] at h3
    omega
  refine ⟨hq, ?_⟩
  subst hq
  omega
section
variable {A B : Option Addr} {c d n m : Nat} {xs ys : List Nat} {w : World} {s t : Bool}
set_option maxHeartbeats 16000000 in
theorem div_nz (hn : xs.length = n) (hm : ys.length = m) (hx : Rd w A xs) (hy : Rd w B ys) (hc : n ≤ c) (hcm : c ≤ maxLen) (hd : m ≤ d) (hdm : d ≤ maxLen) (h1 : n ≤ 20) (h2 : m ≤ 20) (h0 : val ys ≠ 0) :
    Calls Try.prog 6 #[.agg #[.bool s, .slice A n c], .agg #[.bool t, .slice B m d]] w fun e w' => e = .returned (.bool true) ∧ Ext w w' := by
  have Hn := Lib.hid hn
  have Hm := Lib.hid hm
  have HA := Lib.hid awake
  clear hn hm
  go_enter Try.func6, Try.ntmps6
  go_upto_region 1 with (fail)
  obtain ⟨W0, hW, extW, bx, by_, hz⟩ := box2 w 24 24 #[.bool s, .slice A n c] #[.bool t, .slice B m d]
  rw [← hW]
  clear hW
  go_wp2_with fail
  refine (HA.out _).mono ?_
  rintro e W ⟨rfl, hxt⟩
  replace extW := extW.trans hxt
  replace bx := bx.ext hxt
  replace by_ := by_.ext hxt
  clear hxt hz
  have x0 := bx.cell 0 (.bool s) rfl
  have x1 := bx.cell 1 (.slice A n c) rfl
  have y0 := by_.cell 0 (.bool t) rfl
  have y1 := by_.cell 1 (.slice B m d) rfl
  have hnb := Box.new W 24 #[.bool s, .slice A n c, .bool t, .slice B m d]
  have e1 := (Ext.refl W).alloc (.cells #[.bool s, .slice A n c, .bool t, .slice B m d] 24)
  go_wp2_with fail
  refine (small_yes2 hnb h1 h2).mono ?_
  rintro e W1 ⟨rfl, hxt⟩
  have ES := e1.trans hxt
  clear hnb e1 hxt x0 x1 y0 y1
  replace bx := bx.ext ES
  replace by_ := by_.ext ES
  replace extW := extW.trans ES
  replace hx := hx.ext extW
  replace hy := hy.ext extW
  clear ES
  have x0 := bx.cell 0 (.bool s) rfl
  have x1 := bx.cell 1 (.slice A n c) rfl
  have y0 := by_.cell 0 (.bool t) rfl
  have y1 := by_.cell 1 (.slice B m d) rfl
  go_wp2_with fail
  go_cut [5, 6, 7] (fun p q e X => ∃ g5 g6 b3 A3 c3 qs b4 A4 c4 rs Q R, p = .pointer (some ⟨g5, 0, none⟩) ∧ q = .pointer (some ⟨g6, 0, none⟩) ∧ e = .int .i64 0 ∧ Ext W1 X ∧ Box X g5 24 #[.bool b3, .slice A3 (List.length qs) c3] ∧ Box X g6 24 #[.bool b4, .slice A4 (List.length rs) c4] ∧ Rd X A3 qs ∧ Rd X A4 rs ∧ qs.length ≤ c3 ∧ c3 ≤ maxLen ∧ rs.length ≤ c4 ∧ c4 ≤ maxLen ∧ IsInt Q b3 qs ∧ IsInt R b4 rs ∧ IsDM (ival s xs) (ival t ys) Q R ∧ qs.length ≤ 100 ∧ rs.length ≤ 100)
  case first =>
    have ES0 := Ext.refl W1
    refine wp_region_held_drew (S := Ext W1) (by kernel_rfl) ES0.drew (fun ES => ?_)
    clear ES0
    refine Late.start2 (x := ⟨9, 5, 24, #[Value.bool false, Value.slice none 0 0]⟩) (y := ⟨10, 6, 24, #[Value.bool false, Value.slice none 0 0]⟩) (n := 12) ⟨_, rfl, rfl, rfl, fun a w => by go_simp⟩ ⟨_, rfl, rfl, rfl, fun a w => by go_simp⟩ (fun _ _ _ _ _ => ⟨fun h => h, fun h => h⟩) ES rfl (fun hAl hQ => ?_)
    refine Late.take (i := 0) (d := some 22) (v := ?v0_1) rfl rfl (by kernel_rfl) (by kernel_rfl) (by kernel_rfl) (by kernel_rfl) hQ (Or.inl ⟨by rfl, ?y0_1⟩) ?r0_1
    case y0_1 =>
      intro w' hSw
      have k0 := (bx.ext hSw).cell 0 _ rfl
      have k1 := (bx.ext hSw).cell 1 _ rfl
      go_simp
      try with_reducible rfl
    try simp only [Act.put]
    try simp only [List.setIfInBounds_toArray]
    try simp only [List.set_cons_succ]
    try simp only [List.set_cons_zero]
    refine Late.take (i := 2) (d := some 24) (v := ?v2_2) rfl rfl (by kernel_rfl) (by kernel_rfl) (by kernel_rfl) (by kernel_rfl) hQ (Or.inl ⟨by rfl, ?y2_2⟩) ?r2_2
    case y2_2 =>
      intro w' hSw
      have k0 := (by_.ext hSw).cell 0 _ rfl
      have k1 := (by_.ext hSw).cell 1 _ rfl
      go_simp
      try with_reducible rfl
    try simp only [Act.put]
    try simp only [List.setIfInBounds_toArray]
    try simp only [List.set_cons_succ]
    try simp only [List.set_cons_zero]
    refine Late.call (i := 1) rfl (by kernel_rfl) hAl (by kernel_rfl) (by kernel_rfl) (by kernel_rfl) hQ (fun w1 e1 E1 K hK => ?_)
    go_simp
    (go_at_call 13; refine (law_cp Hn.out (hx.ext E1) (by omega)).mono ?_; rintro e wa ⟨A1, c1, rfl, hr1, hc1, hm1, hxa⟩)
    refine hK.out _ _ hxa ?_
    clear hK K
    try simp only [Act.put]
    try simp only [List.setIfInBounds_toArray]
    try simp only [List.set_cons_succ]
    try simp only [List.set_cons_zero]
    refine Late.call (i := 3) rfl (by kernel_rfl) hAl (by kernel_rfl) (by kernel_rfl) (by kernel_rfl) hQ (fun w3 e3 E3 K hK => ?_)
    go_simp
    (go_at_call 13; refine (law_cp Hm.out (hy.ext E3) (by omega)).mono ?_; rintro e wb ⟨A2, c2, rfl, hr2, hc2, hm2, hxb⟩)
    refine hK.out _ _ hxb ?_
    clear hK K
    try simp only [Act.put]
    try simp only [List.setIfInBounds_toArray]
    try simp only [List.set_cons_succ]
    try simp only [List.set_cons_zero]
    refine Late.call (i := 4) rfl (by kernel_rfl) hAl (by kernel_rfl) (by kernel_rfl) (by kernel_rfl) hQ (fun w4 e4 E4 K hK => ?_)
    go_simp
    (go_at_call 36; refine (int_DivMod_L divide_ok rfl rfl (hr1.ext (e3.trans (hxb.trans e4))) (hr2.ext e4) hc1 hm1 hc2 hm2 (by have := Hn.out; omega) (by have := Hm.out; omega) (by have := Hn.out; omega) h0).mono ?_; rintro e wd ⟨b3, A3, c3, qs, b4, A4, c4, rs, Q, R, rfl, hr3, hr4, hc3, hm3, hc4, hm4, hi3, hi4, hdm3, hl3, hl4, hxd⟩)
    refine hK.out _ _ hxd ?_
    clear hK K
    try simp only [Act.put]
    try simp only [List.setIfInBounds_toArray]
    try simp only [List.set_cons_succ]
    try simp only [List.set_cons_zero]
    refine Late.take (i := 5) (d := some 21) (v := ?v5_3) rfl rfl (by kernel_rfl) (by kernel_rfl) (by kernel_rfl) (by kernel_rfl) hQ (Or.inl ⟨by rfl, ?y5_3⟩) ?r5_3
    case y5_3 =>
      intro w' hSw
      go_simp
      try with_reducible rfl
    try simp only [Act.put]
    try simp only [List.setIfInBounds_toArray]
    try simp only [List.set_cons_succ]
    try simp only [List.set_cons_zero]
    refine Late.take (i := 6) (d := some 27) (v := ?v6_4) rfl rfl (by kernel_rfl) (by kernel_rfl) (by kernel_rfl) (by kernel_rfl) hQ (Or.inl ⟨by rfl, ?y6_4⟩) ?r6_4
    case y6_4 =>
      intro w' hSw
      go_simp
      try with_reducible rfl
    try simp only [Act.put]
    try simp only [List.setIfInBounds_toArray]
    try simp only [List.set_cons_succ]
    try simp only [List.set_cons_zero]
    refine Late.take (i := 7) (d := some 28) (v := ?v7_5) rfl rfl (by kernel_rfl) (by kernel_rfl) (by kernel_rfl) (by kernel_rfl) hQ (Or.inl ⟨by rfl, ?y7_5⟩) ?r7_5
    case y7_5 =>
      intro w' hSw
      go_simp
      try with_reducible rfl
    try simp only [Act.put]
    try simp only [List.setIfInBounds_toArray]
    try simp only [List.set_cons_succ]
    try simp only [List.set_cons_zero]
    refine Late.take (i := 8) (d := some 29) (v := ?v8_6) rfl rfl (by kernel_rfl) (by kernel_rfl) (by kernel_rfl) (by kernel_rfl) hQ (Or.inl ⟨by rfl, ?y8_6⟩) ?r8_6
    case y8_6 =>
      intro w' hSw
      go_simp
      try with_reducible rfl
    try simp only [Act.put]
    try simp only [List.setIfInBounds_toArray]
    try simp only [List.set_cons_succ]
    try simp only [List.set_cons_zero]
    refine Late.finish2 (hAl _ (by simp)) (hAl _ (by simp)) (by decide) (by decide) (by kernel_rfl) (by kernel_rfl) (by kernel_rfl) (fun wz g5 g6 ez Ez lg5 lg6 hne xb1 xb2 => ?_)
    clear x0 x1 y0 y1
    have p10 := xb1.cell 0 (Value.bool false) rfl
    have p11 := xb1.cell 1 (Value.slice none 0 0) rfl
    have f10 := xb1.frozen 0
    have f11 := xb1.frozen 1
    have p20 := xb2.cell 0 (Value.bool false) rfl
    have p21 := xb2.cell 1 (Value.slice none 0 0) rfl
    have f20 := xb2.frozen 0
    have f21 := xb2.frozen 1
    try simp only [Act.put]
    try simp only [List.setIfInBounds_toArray]
    try simp only [List.set_cons_succ]
    try simp only [List.set_cons_zero]
    replace xb1 : Box wz g5 24 #[Value.bool false, Value.slice none 0 0] := xb1
    replace xb2 : Box wz g6 24 #[Value.bool false, Value.slice none 0 0] := xb2
    have hp := put_box (b := b3) (A := A3) (n := List.length qs) (c := c3) xb1
    have ra := hp.2.2.1 A3 qs (hr3.ext ez)
    have rb := hp.2.2.1 A4 rs (hr4.ext ez)
    refine wpAnyH_ready (rs := [11]) (by kernel_rfl) (by simp) (AllReadyH.cons rfl (fun K hK => ?_) AllReadyH.nil)
    go_simp
    refine hK.out _ _ (hp.2.2.2 _ Ez lg5) (fun _ => ?_)
    clear hK K
    try simp only [Act.put]
    try simp only [List.setIfInBounds_toArray]
    try simp only [List.set_cons_succ]
    try simp only [List.set_cons_zero]
    refine any_world (fun V => Box V g5 24 #[.bool b3, .slice A3 (List.length qs) c3] ∧ Box V g6 24 #[Value.bool false, Value.slice none 0 0] ∧ Rd V A3 qs ∧ Rd V A4 rs ∧ Ext W1 V) ⟨hp.1, hp.2.1 _ _ _ (Ne.symm hne) xb2, ra, rb, hp.2.2.2 _ Ez lg5⟩ ?_
    clear hp ra rb xb1 xb2 p10 p11 p20 p21 f10 f11 f20 f21
    rintro V ⟨xb1, xb2, ra, rb, EV⟩
    have p20 := xb2.cell 0 (Value.bool false) rfl
    have p21 := xb2.cell 1 (Value.slice none 0 0) rfl
    have f20 := xb2.frozen 0
    have f21 := xb2.frozen 1
    have hp := put_box (b := b4) (A := A4) (n := List.length rs) (c := c4) xb2
    have rc := hp.2.2.1 A3 qs ra
    have rd := hp.2.2.1 A4 rs rb
    refine wpAnyH_ready (rs := [12]) (by kernel_rfl) (by simp) (AllReadyH.cons rfl (fun K hK => ?_) AllReadyH.nil)
    go_simp
    refine hK.out _ _ (hp.2.2.2 _ EV lg6) (fun _ => ?_)
    clear hK K
    try simp only [Act.put]
    try simp only [List.setIfInBounds_toArray]
    try simp only [List.set_cons_succ]
    try simp only [List.set_cons_zero]
    refine any_world (fun U => Box U g5 24 #[.bool b3, .slice A3 (List.length qs) c3] ∧ Box U g6 24 #[.bool b4, .slice A4 (List.length rs) c4] ∧ Rd U A3 qs ∧ Rd U A4 rs ∧ Ext W1 U) ⟨hp.2.1 _ _ _ hne xb1, hp.1, rc, rd, hp.2.2.2 _ EV lg6⟩ ?_
    clear hp ra rb rc rd xb1 xb2 p20 p21 f20 f21
    rintro U ⟨xb1, xb2, ra, rb, EU⟩
    refine wpAnyH_ready (rs := [13]) (by kernel_rfl) (by simp) (AllReadyH.cons rfl (fun K hK => ?_) AllReadyH.nil)
    go_simp
    refine hK.out _ _ EU (fun _ => ?_)
    clear hK K
    try simp only [Act.put]
    try simp only [List.setIfInBounds_toArray]
    try simp only [List.set_cons_succ]
    try simp only [List.set_cons_zero]
    refine wpAnyH_done (by kernel_rfl) ?_ _
    go_wp2_with fail
    go_meet
    exact ⟨g5, g6, b3, A3, c3, qs, b4, A4, c4, rs, Q, R, rfl, rfl, rfl, EU, xb1, xb2, ra, rb, hc3, hm3, hc4, hm4, hi3, hi4, hdm3, by have := Hn.out; have := Hm.out; omega, by have := Hn.out; have := Hm.out; omega⟩
  case rest =>
    clear x0 x1 y0 y1
    obtain ⟨g5, g6, b3, A3, c3, qs, b4, A4, c4, rs, Q, R, rfl, rfl, rfl, EX, x5, x6, hr3, hr4, hc3, hm3, hc4, hm4, hi3, hi4, hdm3, hl3, hl4⟩ := hcut
    replace bx := bx.ext EX
    replace by_ := by_.ext EX
    replace hx := hx.ext EX
    replace hy := hy.ext EX
    replace extW := extW.trans EX
    clear EX
    have x0 := bx.cell 0 (.bool s) rfl
    have x1 := bx.cell 1 (.slice A n c) rfl
    have y0 := by_.cell 0 (.bool t) rfl
    have y1 := by_.cell 1 (.slice B m d) rfl
    go_wp2_with fail
    refine (ref_DivMod_nz Hn.out Hm.out hx hy hc hcm hd hdm (by omega) (by omega) h0).mono ?_
    rintro e w6 ⟨b5, A5, c5, q2, b6, A6, c6, r2, Q2, R2, rfl, hr5, hr6, hc5, hm5, hc6, hm6, hi5, hi6, hdm2, hl5, hl6, hxt⟩
    have hb : ival t ys ≠ 0 := by unfold ival; cases t <;> simp <;> omega
    obtain ⟨rfl, rfl⟩ := hdm3.unique hb hdm2
    have Hdm := Lib.hid hdm3.1
    clear hdm2 hdm3 hb x0 x1 y0 y1
    go_upto_region 5 with (fail)
    refine at_world (fun V => Ext wc V ∧ Box V w6.heap.size 24 #[.bool b5, .slice A5 q2.length c5] ∧ Box V (w6.heap.size + 1) 24 #[.bool b6, .slice A6 r2.length c6] ∧ Rd V A5 q2 ∧ Rd V A6 r2) ?_ ?_
    · obtain ⟨e1, e2, e3⟩ := two_new w6 24 #[.bool b5, .slice A5 q2.length c5] #[.bool b6, .slice A6 r2.length c6]
      exact ⟨hxt.trans e1, e2, e3, hr5.ext e1, hr6.ext e1⟩
    generalize w6.heap.size = g8
    clear hr5 hr6 hxt
    rintro V ⟨EV, x8, x9, hr5, hr6⟩
    replace bx := bx.ext EV
    replace by_ := by_.ext EV
    replace hx := hx.ext EV
    replace hy := hy.ext EV
    replace x5 := x5.ext EV
    replace x6 := x6.ext EV
    replace hr3 := hr3.ext EV
    replace hr4 := hr4.ext EV
    replace extW := extW.trans EV
    clear EV
    have EU := Ext.refl V
    have bxc0 := bx.cell 0 (.bool s) rfl
    have bxc1 := bx.cell 1 (.slice A n c) rfl
    have by_c0 := by_.cell 0 (.bool t) rfl
    have by_c1 := by_.cell 1 (.slice B m d) rfl
    have x5c0 := x5.cell 0 (.bool b3) rfl
    have x5c1 := x5.cell 1 (.slice A3 qs.length c3) rfl
    have x6c0 := x6.cell 0 (.bool b4) rfl
    have x6c1 := x6.cell 1 (.slice A4 rs.length c4) rfl
    have x8c0 := x8.cell 0 (.bool b5) rfl
    have x8c1 := x8.cell 1 (.slice A5 q2.length c5) rfl
    have x9c0 := x9.cell 0 (.bool b6) rfl
    have x9c1 := x9.cell 1 (.slice A6 r2.length c6) rfl
    go_wp2_with fail
    go_region_held3 (fun w' => w'.cell? ⟨w.heap.size, 0, none⟩ = some (.bool s) ∧ w'.cell? ⟨w.heap.size, 1, none⟩ = some (.slice A n c) ∧ w'.cell? ⟨(w.heap.size + 1), 0, none⟩ = some (.bool t) ∧ w'.cell? ⟨(w.heap.size + 1), 1, none⟩ = some (.slice B m d) ∧ w'.cell? ⟨g5, 0, none⟩ = some (.bool b3) ∧ w'.cell? ⟨g5, 1, none⟩ = some (.slice A3 qs.length c3) ∧ w'.cell? ⟨g6, 0, none⟩ = some (.bool b4) ∧ w'.cell? ⟨g6, 1, none⟩ = some (.slice A4 rs.length c4) ∧ w'.cell? ⟨g8, 0, none⟩ = some (.bool b5) ∧ w'.cell? ⟨g8, 1, none⟩ = some (.slice A5 q2.length c5) ∧ w'.cell? ⟨(g8 + 1), 0, none⟩ = some (.bool b6) ∧ w'.cell? ⟨(g8 + 1), 1, none⟩ = some (.slice A6 r2.length c6)) (first | exact ⟨(bx.ext EU).cell 0 _ rfl, (bx.ext EU).cell 1 _ rfl, (by_.ext EU).cell 0 _ rfl, (by_.ext EU).cell 1 _ rfl, (x5.ext EU).cell 0 _ rfl, (x5.ext EU).cell 1 _ rfl, (x6.ext EU).cell 0 _ rfl, (x6.ext EU).cell 1 _ rfl, (x8.ext EU).cell 0 _ rfl, (x8.ext EU).cell 1 _ rfl, (x9.ext EU).cell 0 _ rfl, (x9.ext EU).cell 1 _ rfl⟩ | exact ⟨(bx.ext EU.drew).cell 0 _ rfl, (bx.ext EU.drew).cell 1 _ rfl, (by_.ext EU.drew).cell 0 _ rfl, (by_.ext EU.drew).cell 1 _ rfl, (x5.ext EU.drew).cell 0 _ rfl, (x5.ext EU.drew).cell 1 _ rfl, (x6.ext EU.drew).cell 0 _ rfl, (x6.ext EU.drew).cell 1 _ rfl, (x8.ext EU.drew).cell 0 _ rfl, (x8.ext EU.drew).cell 1 _ rfl, (x9.ext EU.drew).cell 0 _ rfl, (x9.ext EU.drew).cell 1 _ rfl⟩ | exact ⟨(bx.ext (EU.drewN _)).cell 0 _ rfl, (bx.ext (EU.drewN _)).cell 1 _ rfl, (by_.ext (EU.drewN _)).cell 0 _ rfl, (by_.ext (EU.drewN _)).cell 1 _ rfl, (x5.ext (EU.drewN _)).cell 0 _ rfl, (x5.ext (EU.drewN _)).cell 1 _ rfl, (x6.ext (EU.drewN _)).cell 0 _ rfl, (x6.ext (EU.drewN _)).cell 1 _ rfl, (x8.ext (EU.drewN _)).cell 0 _ rfl, (x8.ext (EU.drewN _)).cell 1 _ rfl, (x9.ext (EU.drewN _)).cell 0 _ rfl, (x9.ext (EU.drewN _)).cell 1 _ rfl⟩)
      (first | (go_at_call_of 15 A3; refine (law_same_int rfl rfl (hr3.ext (by first | exact EU | exact EU.drew | exact EU.drewN _)) (hr5.ext (by first | exact EU | exact EU.drew | exact EU.drewN _)) (by omega) hi3 hi5).mono ?_; rintro e wk ⟨rfl, hxt⟩; replace EU := (by first | exact EU.trans hxt | exact EU.drew.trans hxt : Ext V _)) | (go_at_call_of 15 A4; refine (law_same_int rfl rfl (hr4.ext (by first | exact EU | exact EU.drew | exact EU.drewN _)) (hr6.ext (by first | exact EU | exact EU.drew | exact EU.drewN _)) (by omega) hi4 hi6).mono ?_; rintro e wk ⟨rfl, hxt⟩; replace EU := (by first | exact EU.trans hxt | exact EU.drew.trans hxt : Ext V _)) | (go_at_call 35; refine (ref_Mul rfl Hm.out (hr3.ext (by first | exact EU | exact EU.drew | exact EU.drewN _)) (hy.ext (by first | exact EU | exact EU.drew | exact EU.drewN _)) hc3 hm3 hd hdm (by omega) (by omega)).mono ?_; rintro e wk ⟨b7, A7, c7, ms, rfl, hr7, hc7, hm7, hi7, hl7, hxt⟩; replace EU := (by first | exact EU.trans hxt | exact EU.drew.trans hxt : Ext V _)) | (go_at_call 27; refine (ref_Add rfl rfl hr7 (hr4.ext (by first | exact EU | exact EU.drew | exact EU.drewN _)) hc7 hm7 hc4 hm4 (by have := Hm.out; omega) (by omega)).mono ?_; rintro e wk ⟨b8, A8, c8, ns, rfl, hr8, hc8, hm8, hi8, hl8, hxt⟩; replace EU := (by first | exact EU.trans hxt | exact EU.drew.trans hxt : Ext V _); rw [hi7.eq, hi3.eq, hi4.eq, ← Hdm.out] at hi8) | (go_at_call 17; refine (ref_Norm Hn.out (hx.ext (by first | exact EU | exact EU.drew | exact EU.drewN _)) hc hcm (by omega)).mono ?_; rintro e wk ⟨b9, A9, c9, os, rfl, hr9, hc9, hm9, hi9, hl9, hxt⟩; replace EU := (by first | exact EU.trans hxt | exact EU.drew.trans hxt : Ext V _); replace hr8 := hr8.ext hxt) | (go_at_call_of 15 A8; refine (law_same_int rfl rfl hr8 hr9 (by have := Hm.out; omega) hi8 hi9).mono ?_; rintro e wk ⟨rfl, hxt⟩; replace EU := (by first | exact EU.trans hxt | exact EU.drew.trans hxt : Ext V _)))
    go_wp2_with fail
    go_ret
    exact ⟨rfl, extW.trans (by first | exact EU | exact EU.drew | exact EU.drewN _)⟩
set_option maxHeartbeats 16000000 in
theorem div_z (hn : xs.length = n) (hm : ys.length = m) (hx : Rd w A xs) (hy : Rd w B ys) (hc : n ≤ c) (hcm : c ≤ maxLen) (hd : m ≤ d) (hdm : d ≤ maxLen) (h1 : n ≤ 20) (h2 : m ≤ 20) (h0 : val ys = 0) :
    Calls Try.prog 6 #[.agg #[.bool s, .slice A n c], .agg #[.bool t, .slice B m d]] w fun e w' => e = .returned (.bool true) ∧ Ext w w' := by
  have Hn := Lib.hid hn
  have Hm := Lib.hid hm
  have HA := Lib.hid awake
  clear hn hm
  go_enter Try.func6, Try.ntmps6
  go_upto_region 1 with (fail)
  obtain ⟨W0, hW, extW, bx, by_, hz⟩ := box2 w 24 24 #[.bool s, .slice A n c] #[.bool t, .slice B m d]
  rw [← hW]
  clear hW
  go_wp2_with fail
  refine (HA.out _).mono ?_
  rintro e W ⟨rfl, hxt⟩
  replace extW := extW.trans hxt
  replace bx := bx.ext hxt
  replace by_ := by_.ext hxt
  clear hxt hz
  have x0 := bx.cell 0 (.bool s) rfl
  have x1 := bx.cell 1 (.slice A n c) rfl
  have y0 := by_.cell 0 (.bool t) rfl
  have y1 := by_.cell 1 (.slice B m d) rfl
  have hnb := Box.new W 24 #[.bool s, .slice A n c, .bool t, .slice B m d]
  have e1 := (Ext.refl W).alloc (.cells #[.bool s, .slice A n c, .bool t, .slice B m d] 24)
  go_wp2_with fail
  refine (small_yes2 hnb h1 h2).mono ?_
  rintro e W1 ⟨rfl, hxt⟩
  have ES := e1.trans hxt
  clear hnb e1 hxt x0 x1 y0 y1
  replace bx := bx.ext ES
  replace by_ := by_.ext ES
  replace extW := extW.trans ES
  replace hx := hx.ext extW
  replace hy := hy.ext extW
  clear ES
  have x0 := bx.cell 0 (.bool s) rfl
  have x1 := bx.cell 1 (.slice A n c) rfl
  have y0 := by_.cell 0 (.bool t) rfl
  have y1 := by_.cell 1 (.slice B m d) rfl
  go_wp2_with fail
  go_cut [5, 6, 7] (fun p q e X => ∃ g5 g6, p = .pointer (some ⟨g5, 0, none⟩) ∧ q = .pointer (some ⟨g6, 0, none⟩) ∧ e = .int .i64 6 ∧ Ext W1 X ∧ Box X g5 24 #[Value.bool false, Value.slice none 0 0] ∧ Box X g6 24 #[Value.bool false, Value.slice none 0 0])
  case first =>
    have ES0 := Ext.refl W1
    refine wp_region_held_drew (S := Ext W1) (by kernel_rfl) ES0.drew (fun ES => ?_)
    clear ES0
    refine Late.start2 (x := ⟨9, 5, 24, #[Value.bool false, Value.slice none 0 0]⟩) (y := ⟨10, 6, 24, #[Value.bool false, Value.slice none 0 0]⟩) (n := 12) ⟨_, rfl, rfl, rfl, fun a w => by go_simp⟩ ⟨_, rfl, rfl, rfl, fun a w => by go_simp⟩ (fun _ _ _ _ _ => ⟨fun h => h, fun h => h⟩) ES rfl (fun hAl hQ => ?_)
    refine Late.take (i := 0) (d := some 22) (v := ?v0_1) rfl rfl (by kernel_rfl) (by kernel_rfl) (by kernel_rfl) (by kernel_rfl) hQ (Or.inl ⟨by rfl, ?y0_1⟩) ?r0_1
    case y0_1 =>
      intro w' hSw
      have k0 := (bx.ext hSw).cell 0 _ rfl
      have k1 := (bx.ext hSw).cell 1 _ rfl
      go_simp
      try with_reducible rfl
    try simp only [Act.put]
    try simp only [List.setIfInBounds_toArray]
    try simp only [List.set_cons_succ]
    try simp only [List.set_cons_zero]
    refine Late.take (i := 2) (d := some 24) (v := ?v2_2) rfl rfl (by kernel_rfl) (by kernel_rfl) (by kernel_rfl) (by kernel_rfl) hQ (Or.inl ⟨by rfl, ?y2_2⟩) ?r2_2
    case y2_2 =>
      intro w' hSw
      have k0 := (by_.ext hSw).cell 0 _ rfl
      have k1 := (by_.ext hSw).cell 1 _ rfl
      go_simp
      try with_reducible rfl
    try simp only [Act.put]
    try simp only [List.setIfInBounds_toArray]
    try simp only [List.set_cons_succ]
    try simp only [List.set_cons_zero]
    refine Late.call (i := 1) rfl (by kernel_rfl) hAl (by kernel_rfl) (by kernel_rfl) (by kernel_rfl) hQ (fun w1 e1 E1 K hK => ?_)
    go_simp
    (go_at_call 13; refine (law_cp Hn.out (hx.ext E1) (by omega)).mono ?_; rintro e wa ⟨A1, c1, rfl, hr1, hc1, hm1, hxa⟩)
    refine hK.out _ _ hxa ?_
    clear hK K
    try simp only [Act.put]
    try simp only [List.setIfInBounds_toArray]
    try simp only [List.set_cons_succ]
    try simp only [List.set_cons_zero]
    refine Late.call (i := 3) rfl (by kernel_rfl) hAl (by kernel_rfl) (by kernel_rfl) (by kernel_rfl) hQ (fun w3 e3 E3 K hK => ?_)
    go_simp
    (go_at_call 13; refine (law_cp Hm.out (hy.ext E3) (by omega)).mono ?_; rintro e wb ⟨A2, c2, rfl, hr2, hc2, hm2, hxb⟩)
    refine hK.out _ _ hxb ?_
    clear hK K
    try simp only [Act.put]
    try simp only [List.setIfInBounds_toArray]
    try simp only [List.set_cons_succ]
    try simp only [List.set_cons_zero]
    refine Late.call (i := 4) rfl (by kernel_rfl) hAl (by kernel_rfl) (by kernel_rfl) (by kernel_rfl) hQ (fun w4 e4 E4 K hK => ?_)
    go_simp
    (go_at_call 36; refine (int_DivMod_0 rfl rfl (hr1.ext (e3.trans (hxb.trans e4))) (hr2.ext e4) hc1 hm1 hc2 hm2 (by have := Hn.out; omega) (by have := Hm.out; omega) h0).mono ?_; rintro e wd ⟨rfl, hxd⟩)
    refine hK.out _ _ hxd ?_
    clear hK K
    try simp only [Act.put]
    try simp only [List.setIfInBounds_toArray]
    try simp only [List.set_cons_succ]
    try simp only [List.set_cons_zero]
    refine Late.take (i := 5) (d := some 21) (v := ?v5_3) rfl rfl (by kernel_rfl) (by kernel_rfl) (by kernel_rfl) (by kernel_rfl) hQ (Or.inl ⟨by rfl, ?y5_3⟩) ?r5_3
    case y5_3 =>
      intro w' hSw
      go_simp
      try with_reducible rfl
    try simp only [Act.put]
    try simp only [List.setIfInBounds_toArray]
    try simp only [List.set_cons_succ]
    try simp only [List.set_cons_zero]
    refine Late.take (i := 6) (d := some 27) (v := ?v6_4) rfl rfl (by kernel_rfl) (by kernel_rfl) (by kernel_rfl) (by kernel_rfl) hQ (Or.inl ⟨by rfl, ?y6_4⟩) ?r6_4
    case y6_4 =>
      intro w' hSw
      go_simp
      try with_reducible rfl
    try simp only [Act.put]
    try simp only [List.setIfInBounds_toArray]
    try simp only [List.set_cons_succ]
    try simp only [List.set_cons_zero]
    refine Late.take (i := 7) (d := some 28) (v := ?v7_5) rfl rfl (by kernel_rfl) (by kernel_rfl) (by kernel_rfl) (by kernel_rfl) hQ (Or.inl ⟨by rfl, ?y7_5⟩) ?r7_5
    case y7_5 =>
      intro w' hSw
      go_simp
      try with_reducible rfl
    try simp only [Act.put]
    try simp only [List.setIfInBounds_toArray]
    try simp only [List.set_cons_succ]
    try simp only [List.set_cons_zero]
    refine Late.take (i := 8) (d := some 29) (v := ?v8_6) rfl rfl (by kernel_rfl) (by kernel_rfl) (by kernel_rfl) (by kernel_rfl) hQ (Or.inl ⟨by rfl, ?y8_6⟩) ?r8_6
    case y8_6 =>
      intro w' hSw
      go_simp
      try with_reducible rfl
    try simp only [Act.put]
    try simp only [List.setIfInBounds_toArray]
    try simp only [List.set_cons_succ]
    try simp only [List.set_cons_zero]
    refine Late.finish2 (hAl _ (by simp)) (hAl _ (by simp)) (by decide) (by decide) (by kernel_rfl) (by kernel_rfl) (by kernel_rfl) (fun wz g5 g6 ez Ez lg5 lg6 hne xb1 xb2 => ?_)
    clear x0 x1 y0 y1
    have p10 := xb1.cell 0 (Value.bool false) rfl
    have p11 := xb1.cell 1 (Value.slice none 0 0) rfl
    have f10 := xb1.frozen 0
    have f11 := xb1.frozen 1
    have p20 := xb2.cell 0 (Value.bool false) rfl
    have p21 := xb2.cell 1 (Value.slice none 0 0) rfl
    have f20 := xb2.frozen 0
    have f21 := xb2.frozen 1
    try simp only [Act.put]
    try simp only [List.setIfInBounds_toArray]
    try simp only [List.set_cons_succ]
    try simp only [List.set_cons_zero]
    replace xb1 : Box wz g5 24 #[Value.bool false, Value.slice none 0 0] := xb1
    replace xb2 : Box wz g6 24 #[Value.bool false, Value.slice none 0 0] := xb2
    have hp := put_box (b := false) (A := none) (n := 0) (c := 0) xb1
    refine wpAnyH_ready (rs := [11]) (by kernel_rfl) (by simp) (AllReadyH.cons rfl (fun K hK => ?_) AllReadyH.nil)
    go_simp
    refine hK.out _ _ (hp.2.2.2 _ Ez lg5) (fun _ => ?_)
    clear hK K
    try simp only [Act.put]
    try simp only [List.setIfInBounds_toArray]
    try simp only [List.set_cons_succ]
    try simp only [List.set_cons_zero]
    refine any_world (fun V => Box V g5 24 #[Value.bool false, Value.slice none 0 0] ∧ Box V g6 24 #[Value.bool false, Value.slice none 0 0] ∧ Ext W1 V) ⟨hp.1, hp.2.1 _ _ _ (Ne.symm hne) xb2, hp.2.2.2 _ Ez lg5⟩ ?_
    clear hp xb1 xb2 p10 p11 p20 p21 f10 f11 f20 f21
    rintro V ⟨xb1, xb2, EV⟩
    have p20 := xb2.cell 0 (Value.bool false) rfl
    have p21 := xb2.cell 1 (Value.slice none 0 0) rfl
    have f20 := xb2.frozen 0
    have f21 := xb2.frozen 1
    have hp := put_box (b := false) (A := none) (n := 0) (c := 0) xb2
    refine wpAnyH_ready (rs := [12]) (by kernel_rfl) (by simp) (AllReadyH.cons rfl (fun K hK => ?_) AllReadyH.nil)
    go_simp
    refine hK.out _ _ (hp.2.2.2 _ EV lg6) (fun _ => ?_)
    clear hK K
    try simp only [Act.put]
    try simp only [List.setIfInBounds_toArray]
    try simp only [List.set_cons_succ]
    try simp only [List.set_cons_zero]
    refine any_world (fun U => Box U g5 24 #[Value.bool false, Value.slice none 0 0] ∧ Box U g6 24 #[Value.bool false, Value.slice none 0 0] ∧ Ext W1 U) ⟨hp.2.1 _ _ _ hne xb1, hp.1, hp.2.2.2 _ EV lg6⟩ ?_
    clear hp xb1 xb2 p20 p21 f20 f21
    rintro U ⟨xb1, xb2, EU⟩
    refine wpAnyH_ready (rs := [13]) (by kernel_rfl) (by simp) (AllReadyH.cons rfl (fun K hK => ?_) AllReadyH.nil)
    go_simp
    refine hK.out _ _ EU (fun _ => ?_)
    clear hK K
    try simp only [Act.put]
    try simp only [List.setIfInBounds_toArray]
    try simp only [List.set_cons_succ]
    try simp only [List.set_cons_zero]
    refine wpAnyH_done (by kernel_rfl) ?_ _
    go_wp2_with fail
    go_meet
    exact ⟨g5, g6, rfl, rfl, rfl, EU, xb1, xb2⟩
  case rest =>
    clear x0 x1 y0 y1
    obtain ⟨g5, g6, rfl, rfl, rfl, EX, x5, x6⟩ := hcut
    replace bx := bx.ext EX
    replace by_ := by_.ext EX
    replace hx := hx.ext EX
    replace hy := hy.ext EX
    replace extW := extW.trans EX
    clear EX
    have x0 := bx.cell 0 (.bool s) rfl
    have x1 := bx.cell 1 (.slice A n c) rfl
    have y0 := by_.cell 0 (.bool t) rfl
    have y1 := by_.cell 1 (.slice B m d) rfl
    go_wp2_with fail
    refine (ref_DivMod_0 Hn.out Hm.out hx hy hc hcm hd hdm (by omega) (by omega) h0).mono ?_
    rintro e w6 ⟨rfl, hxt⟩
    clear x0 x1 y0 y1
    go_upto_region 5 with (fail)
    refine at_world (fun V => Ext wc V ∧ Box V w6.heap.size 24 #[Value.bool false, Value.slice none 0 0] ∧ Box V (w6.heap.size + 1) 24 #[Value.bool false, Value.slice none 0 0]) ?_ ?_
    · obtain ⟨e1, e2, e3⟩ := two_new w6 24 #[Value.bool false, Value.slice none 0 0] #[Value.bool false, Value.slice none 0 0]
      exact ⟨hxt.trans e1, e2, e3⟩
    generalize w6.heap.size = g8
    clear hxt
    rintro V ⟨EV, x8, x9⟩
    replace bx := bx.ext EV
    replace by_ := by_.ext EV
    replace x5 := x5.ext EV
    replace x6 := x6.ext EV
    replace extW := extW.trans EV
    clear EV
    go_wp2_with fail
    have ES0 := Ext.refl V
    refine wp_region_held_drew (S := Ext V) (by kernel_rfl) ES0.drew (fun ES => ?_)
    clear ES0
    refine Late.start0 (fun _ _ _ _ _ => ⟨fun h => h, fun h => h⟩) ES (fun hAl hQ => ?_)
    refine Late.take (i := 0) (d := some 37) (v := ?v0_7) rfl rfl (by kernel_rfl) (by kernel_rfl) (by kernel_rfl) (by kernel_rfl) hQ (Or.inl ⟨by rfl, ?y0_7⟩) ?r0_7
    case y0_7 =>
      intro w' hSw
      go_simp
      try with_reducible rfl
    try simp only [Act.put]
    try simp only [List.setIfInBounds_toArray]
    try simp only [List.set_cons_succ]
    try simp only [List.set_cons_zero]
    refine Late.take (i := 1) (d := some 38) (v := ?v1_8) rfl rfl (by kernel_rfl) (by kernel_rfl) (by kernel_rfl) (by kernel_rfl) hQ (Or.inl ⟨by rfl, ?y1_8⟩) ?r1_8
    case y1_8 =>
      intro w' hSw
      go_simp
      try with_reducible rfl
    try simp only [Act.put]
    try simp only [List.setIfInBounds_toArray]
    try simp only [List.set_cons_succ]
    try simp only [List.set_cons_zero]
    refine Late.take (i := 2) (d := some 39) (v := ?v2_9) rfl rfl (by kernel_rfl) (by kernel_rfl) (by kernel_rfl) (by kernel_rfl) hQ (Or.inl ⟨by rfl, ?y2_9⟩) ?r2_9
    case y2_9 =>
      intro w' hSw
      go_simp
      try with_reducible rfl
    try simp only [Act.put]
    try simp only [List.setIfInBounds_toArray]
    try simp only [List.set_cons_succ]
    try simp only [List.set_cons_zero]
    refine Late.take (i := 3) (d := some 40) (v := ?v3_10) rfl rfl (by kernel_rfl) (by kernel_rfl) (by kernel_rfl) (by kernel_rfl) hQ (Or.inl ⟨by rfl, ?y3_10⟩) ?r3_10
    case y3_10 =>
      intro w' hSw
      go_simp
      try with_reducible rfl
    try simp only [Act.put]
    try simp only [List.setIfInBounds_toArray]
    try simp only [List.set_cons_succ]
    try simp only [List.set_cons_zero]
    refine Late.take (i := 4) (d := some 41) (v := ?v4_11) rfl rfl (by kernel_rfl) (by kernel_rfl) (by kernel_rfl) (by kernel_rfl) hQ (Or.inl ⟨by rfl, ?y4_11⟩) ?r4_11
    case y4_11 =>
      intro w' hSw
      have k0 := (x5.ext hSw).cell 0 _ rfl
      have k1 := (x5.ext hSw).cell 1 _ rfl
      go_simp
      try with_reducible rfl
    try simp only [Act.put]
    try simp only [List.setIfInBounds_toArray]
    try simp only [List.set_cons_succ]
    try simp only [List.set_cons_zero]
    refine Late.take (i := 5) (d := some 42) (v := ?v5_12) rfl rfl (by kernel_rfl) (by kernel_rfl) (by kernel_rfl) (by kernel_rfl) hQ (Or.inl ⟨by rfl, ?y5_12⟩) ?r5_12
    case y5_12 =>
      intro w' hSw
      have k0 := (x8.ext hSw).cell 0 _ rfl
      have k1 := (x8.ext hSw).cell 1 _ rfl
      go_simp
      try with_reducible rfl
    try simp only [Act.put]
    try simp only [List.setIfInBounds_toArray]
    try simp only [List.set_cons_succ]
    try simp only [List.set_cons_zero]
    refine Late.call (i := 6) rfl (by kernel_rfl) hAl (by kernel_rfl) (by kernel_rfl) (by kernel_rfl) hQ (fun w6 e6 E6 K hK => ?_)
    go_simp
    (go_at_call 15; refine (law_same_int rfl rfl (Rd.nil _ _) (Rd.nil _ _) (Nat.zero_le _) (IsInt.nil false) (IsInt.nil false)).mono ?_; rintro e wk6 ⟨rfl, hx6⟩)
    refine hK.out _ _ hx6 ?_
    clear hK K
    try simp only [Act.put]
    try simp only [List.setIfInBounds_toArray]
    try simp only [List.set_cons_succ]
    try simp only [List.set_cons_zero]
    refine Late.take (i := 7) (d := some 44) (v := ?v7_13) rfl rfl (by kernel_rfl) (by kernel_rfl) (by kernel_rfl) (by kernel_rfl) hQ (Or.inl ⟨by rfl, ?y7_13⟩) ?r7_13
    case y7_13 =>
      intro w' hSw
      go_simp
      try with_reducible rfl
    try simp only [Act.put]
    try simp only [List.setIfInBounds_toArray]
    try simp only [List.set_cons_succ]
    try simp only [List.set_cons_zero]
    refine Late.take (i := 8) (d := some 45) (v := ?v8_14) rfl rfl (by kernel_rfl) (by kernel_rfl) (by kernel_rfl) (by kernel_rfl) hQ (Or.inl ⟨by rfl, ?y8_14⟩) ?r8_14
    case y8_14 =>
      intro w' hSw
      go_simp
      try with_reducible rfl
    try simp only [Act.put]
    try simp only [List.setIfInBounds_toArray]
    try simp only [List.set_cons_succ]
    try simp only [List.set_cons_zero]
    refine Late.take (i := 9) (d := some 46) (v := ?v9_15) rfl rfl (by kernel_rfl) (by kernel_rfl) (by kernel_rfl) (by kernel_rfl) hQ (Or.inl ⟨by rfl, ?y9_15⟩) ?r9_15
    case y9_15 =>
      intro w' hSw
      have k0 := (x6.ext hSw).cell 0 _ rfl
      have k1 := (x6.ext hSw).cell 1 _ rfl
      go_simp
      try with_reducible rfl
    try simp only [Act.put]
    try simp only [List.setIfInBounds_toArray]
    try simp only [List.set_cons_succ]
    try simp only [List.set_cons_zero]
    refine Late.take (i := 10) (d := some 47) (v := ?v10_16) rfl rfl (by kernel_rfl) (by kernel_rfl) (by kernel_rfl) (by kernel_rfl) hQ (Or.inl ⟨by rfl, ?y10_16⟩) ?r10_16
    case y10_16 =>
      intro w' hSw
      have k0 := (x9.ext hSw).cell 0 _ rfl
      have k1 := (x9.ext hSw).cell 1 _ rfl
      go_simp
      try with_reducible rfl
    try simp only [Act.put]
    try simp only [List.setIfInBounds_toArray]
    try simp only [List.set_cons_succ]
    try simp only [List.set_cons_zero]
    refine Late.call (i := 11) rfl (by kernel_rfl) hAl (by kernel_rfl) (by kernel_rfl) (by kernel_rfl) hQ (fun w11 e11 E11 K hK => ?_)
    go_simp
    (go_at_call 15; refine (law_same_int rfl rfl (Rd.nil _ _) (Rd.nil _ _) (Nat.zero_le _) (IsInt.nil false) (IsInt.nil false)).mono ?_; rintro e wk11 ⟨rfl, hx11⟩)
    refine hK.out _ _ hx11 ?_
    clear hK K
    try simp only [Act.put]
    try simp only [List.setIfInBounds_toArray]
    try simp only [List.set_cons_succ]
    try simp only [List.set_cons_zero]
    refine Late.take (i := 12) (d := some 49) (v := ?v12_17) rfl rfl (by kernel_rfl) (by kernel_rfl) (by kernel_rfl) (by kernel_rfl) hQ (Or.inl ⟨by rfl, ?y12_17⟩) ?r12_17
    case y12_17 =>
      intro w' hSw
      go_simp
      try with_reducible rfl
    try simp only [Act.put]
    try simp only [List.setIfInBounds_toArray]
    try simp only [List.set_cons_succ]
    try simp only [List.set_cons_zero]
    refine Late.take (i := 13) (d := some 50) (v := ?v13_18) rfl rfl (by kernel_rfl) (by kernel_rfl) (by kernel_rfl) (by kernel_rfl) hQ (Or.inl ⟨by rfl, ?y13_18⟩) ?r13_18
    case y13_18 =>
      intro w' hSw
      go_simp
      try with_reducible rfl
    try simp only [Act.put]
    try simp only [List.setIfInBounds_toArray]
    try simp only [List.set_cons_succ]
    try simp only [List.set_cons_zero]
    refine Late.take (i := 14) (d := some 51) (v := ?v14_19) rfl rfl (by kernel_rfl) (by kernel_rfl) (by kernel_rfl) (by kernel_rfl) hQ (Or.inl ⟨by rfl, ?y14_19⟩) ?r14_19
    case y14_19 =>
      intro w' hSw
      go_simp
      try with_reducible rfl
    try simp only [Act.put]
    try simp only [List.setIfInBounds_toArray]
    try simp only [List.set_cons_succ]
    try simp only [List.set_cons_zero]
    refine Late.take (i := 15) (d := some 52) (v := ?v15_20) rfl rfl (by kernel_rfl) (by kernel_rfl) (by kernel_rfl) (by kernel_rfl) hQ (Or.inl ⟨by rfl, ?y15_20⟩) ?r15_20
    case y15_20 =>
      intro w' hSw
      go_simp
      try with_reducible rfl
    try simp only [Act.put]
    try simp only [List.setIfInBounds_toArray]
    try simp only [List.set_cons_succ]
    try simp only [List.set_cons_zero]
    refine Late.take (i := 16) (d := some 53) (v := ?v16_21) rfl rfl (by kernel_rfl) (by kernel_rfl) (by kernel_rfl) (by kernel_rfl) hQ (Or.inl ⟨by rfl, ?y16_21⟩) ?r16_21
    case y16_21 =>
      intro w' hSw
      go_simp
      try with_reducible rfl
    try simp only [Act.put]
    try simp only [List.setIfInBounds_toArray]
    try simp only [List.set_cons_succ]
    try simp only [List.set_cons_zero]
    refine Late.take (i := 17) (d := some 54) (v := undef) rfl rfl (by kernel_rfl) (by kernel_rfl) (by kernel_rfl) (by kernel_rfl) hQ (Or.inr ⟨by kernel_rfl, rfl⟩) ?_
    try simp only [Act.put]
    try simp only [List.setIfInBounds_toArray]
    try simp only [List.set_cons_succ]
    try simp only [List.set_cons_zero]
    refine Late.take (i := 18) (d := some 55) (v := undef) rfl rfl (by kernel_rfl) (by kernel_rfl) (by kernel_rfl) (by kernel_rfl) hQ (Or.inr ⟨by kernel_rfl, rfl⟩) ?_
    try simp only [Act.put]
    try simp only [List.setIfInBounds_toArray]
    try simp only [List.set_cons_succ]
    try simp only [List.set_cons_zero]
    refine Late.take (i := 19) (d := some 56) (v := undef) rfl rfl (by kernel_rfl) (by kernel_rfl) (by kernel_rfl) (by kernel_rfl) hQ (Or.inr ⟨by kernel_rfl, rfl⟩) ?_
    try simp only [Act.put]
    try simp only [List.setIfInBounds_toArray]
    try simp only [List.set_cons_succ]
    try simp only [List.set_cons_zero]
    refine Late.take (i := 20) (d := some 57) (v := undef) rfl rfl (by kernel_rfl) (by kernel_rfl) (by kernel_rfl) (by kernel_rfl) hQ (Or.inr ⟨by kernel_rfl, rfl⟩) ?_
    try simp only [Act.put]
    try simp only [List.setIfInBounds_toArray]
    try simp only [List.set_cons_succ]
    try simp only [List.set_cons_zero]
    refine Late.take (i := 21) (d := some 58) (v := undef) rfl rfl (by kernel_rfl) (by kernel_rfl) (by kernel_rfl) (by kernel_rfl) hQ (Or.inr ⟨by kernel_rfl, rfl⟩) ?_
    try simp only [Act.put]
    try simp only [List.setIfInBounds_toArray]
    try simp only [List.set_cons_succ]
    try simp only [List.set_cons_zero]
    refine Late.take (i := 22) (d := some 59) (v := undef) rfl rfl (by kernel_rfl) (by kernel_rfl) (by kernel_rfl) (by kernel_rfl) hQ (Or.inr ⟨by kernel_rfl, rfl⟩) ?_
    try simp only [Act.put]
    try simp only [List.setIfInBounds_toArray]
    try simp only [List.set_cons_succ]
    try simp only [List.set_cons_zero]
    refine Late.take (i := 23) (d := some 60) (v := undef) rfl rfl (by kernel_rfl) (by kernel_rfl) (by kernel_rfl) (by kernel_rfl) hQ (Or.inr ⟨by kernel_rfl, rfl⟩) ?_
    try simp only [Act.put]
    try simp only [List.setIfInBounds_toArray]
    try simp only [List.set_cons_succ]
    try simp only [List.set_cons_zero]
    refine Late.take (i := 24) (d := some 61) (v := undef) rfl rfl (by kernel_rfl) (by kernel_rfl) (by kernel_rfl) (by kernel_rfl) hQ (Or.inr ⟨by kernel_rfl, rfl⟩) ?_
    try simp only [Act.put]
    try simp only [List.setIfInBounds_toArray]
    try simp only [List.set_cons_succ]
    try simp only [List.set_cons_zero]
    refine Late.take (i := 25) (d := some 62) (v := ?v25_22) rfl rfl (by kernel_rfl) (by kernel_rfl) (by kernel_rfl) (by kernel_rfl) hQ (Or.inl ⟨by rfl, ?y25_22⟩) ?r25_22
    case y25_22 =>
      intro w' hSw
      go_simp
      try with_reducible rfl
    try simp only [Act.put]
    try simp only [List.setIfInBounds_toArray]
    try simp only [List.set_cons_succ]
    try simp only [List.set_cons_zero]
    refine Late.take (i := 26) (d := some 63) (v := ?v26_23) rfl rfl (by kernel_rfl) (by kernel_rfl) (by kernel_rfl) (by kernel_rfl) hQ (Or.inl ⟨by rfl, ?y26_23⟩) ?r26_23
    case y26_23 =>
      intro w' hSw
      go_simp
      try with_reducible rfl
    try simp only [Act.put]
    try simp only [List.setIfInBounds_toArray]
    try simp only [List.set_cons_succ]
    try simp only [List.set_cons_zero]
    refine Late.take (i := 27) (d := some 4) (v := ?v27_24) rfl rfl (by kernel_rfl) (by kernel_rfl) (by kernel_rfl) (by kernel_rfl) hQ (Or.inl ⟨by rfl, ?y27_24⟩) ?r27_24
    case y27_24 =>
      intro w' hSw
      go_simp
      try with_reducible rfl
    try simp only [Act.put]
    try simp only [List.setIfInBounds_toArray]
    try simp only [List.set_cons_succ]
    try simp only [List.set_cons_zero]
    refine Late.done0 (by kernel_rfl) (fun wz ez Ez => ?_)
    go_wp2_with fail
    go_ret
    exact ⟨rfl, extW.trans Ez⟩
set_option maxHeartbeats 1000000 in
theorem div_no (hn : xs.length = n) (hm : ys.length = m) (_hx : Rd w A xs) (_hy : Rd w B ys) (_hc : n ≤ c) (_hcm : c ≤ maxLen) (_hd : m ≤ d) (_hdm : d ≤ maxLen) (hno : ¬ (n ≤ 20 ∧ m ≤ 20)) :
    Calls Try.prog 6 #[.agg #[.bool s, .slice A n c], .agg #[.bool t, .slice B m d]] w fun e w' => e = .returned (.bool true) ∧ Ext w w' := by
  have Hn := Lib.hid hn
  have Hm := Lib.hid hm
  have HA := Lib.hid awake
  clear hn hm
  go_enter Try.func6, Try.ntmps6
  go_upto_region 1 with (fail)
  obtain ⟨W0, hW, extW, bx, by_, hz⟩ := box2 w 24 24 #[.bool s, .slice A n c] #[.bool t, .slice B m d]
  rw [← hW]
  clear hW
  go_wp2_with fail
  refine (HA.out _).mono ?_
  rintro e W ⟨rfl, hxt⟩
  replace extW := extW.trans hxt
  replace bx := bx.ext hxt
  replace by_ := by_.ext hxt
  clear hxt hz
  have x0 := bx.cell 0 (.bool s) rfl
  have x1 := bx.cell 1 (.slice A n c) rfl
  have y0 := by_.cell 0 (.bool t) rfl
  have y1 := by_.cell 1 (.slice B m d) rfl
  have hnb := Box.new W 24 #[.bool s, .slice A n c, .bool t, .slice B m d]
  have e1 := (Ext.refl W).alloc (.cells #[.bool s, .slice A n c, .bool t, .slice B m d] 24)
  go_wp2_with fail
  refine (small_no2 hnb hno).mono ?_
  rintro e W1 ⟨rfl, hxt⟩
  have ES := e1.trans hxt
  clear hnb e1 hxt x0 x1 y0 y1
  go_wp2_with fail
  refine (HA.out _).mono ?_
  rintro e W2 ⟨rfl, hxt⟩
  go_wp2_with fail
  go_ret
  exact ⟨rfl, (extW.trans ES).trans hxt⟩
theorem div_any (hn : xs.length = n) (hm : ys.length = m) (hx : Rd w A xs) (hy : Rd w B ys) (hc : n ≤ c) (hcm : c ≤ maxLen) (hd : m ≤ d) (hdm : d ≤ maxLen) :
    Calls Try.prog 6 #[.agg #[.bool s, .slice A n c], .agg #[.bool t, .slice B m d]] w fun e w' => e = .returned (.bool true) ∧ Ext w w' := by
  by_cases h : n ≤ 20 ∧ m ≤ 20
  · by_cases h0 : val ys = 0
    · exact div_z hn hm hx hy hc hcm hd hdm h.1 h.2 h0
    · exact div_nz hn hm hx hy hc hcm hd hdm h.1 h.2 h0
  · exact div_no hn hm hx hy hc hcm hd hdm h
end
end Go.Proofs.Ytmjmcinnbmjpdaa
