/- Walks and laws, a part. -/
import Derived.Test.YtiioodgpkdbndaaGreatDoorM0
import Derived.Test.YtiioodgpkdbndaaGreatDoorM1
import Derived.Test.YtiioodgpkdbndaaGreatDoorM2
import Derived.Test.YtiioodgpkdbndaaGreatDoorM3
import Derived.Test.YtiioodgpkdbndaaGreatDoorM4
import Derived.Test.YtiioodgpkdbndaaGreatDoorM5
import Derived.Test.YtiioodgpkdbndaaGreatDoorM6
import Derived.Test.YtiioodgpkdbndaaGreatDoorM7
import Derived.Test.YtiioodgpkdbndaaGreatDoorM8
import Derived.Test.YtiioodgpkdbndaaGreatDoorM9
import Derived.Deep.RegionHeld
import Derived.BigQuiet
import Derived.Laws.BytesArg
import Derived.Test.YtiioodgpkdbndaaGreatDoorRows
import Derived.ProofKit
import Derived.Lib.SmallJoins
import Derived.Test.YtiioodgpkdbndaaGreatDoorCards
import Derived.Test.YtiioodgpkdbndaaGreatDoorTie
import Derived.LaidMore
import Derived.OpenShut
import Derived.LaidLaws
import Derived.Lay
import Derived.Lib.LaidTab
import Derived.SevenTiedAt
import Derived.Stop.Joined
import Derived.Stop.LaidErr
namespace Go.Proofs.YtiioodgpkdbndaaGreatDoor
/-- the product by way of the common parts of numerators and denominators. -/
theorem rat_mul (a b : Rat) {g h : Nat} (hg : g = a.num.natAbs.gcd b.den) (hh : h = b.num.natAbs.gcd a.den) :
    (a * b).num = a.num / (g : Int) * (b.num / (h : Int)) ∧ (a * b).den = a.den / h * (b.den / g) := by
  subst hg
  subst hh
  show (Rat.mul a b).num = _ ∧ (Rat.mul a b).den = _
  delta Rat.mul
  exact ⟨rfl, rfl⟩
end Go.Proofs.YtiioodgpkdbndaaGreatDoor
namespace Go.Proofs.YtiioodgpkdbndaaGreatDoor
open Go.RowKit
section
variable {P : Program} {ops : Array Oper} {Q : Exit → Act → World → Prop} {md : Region.Mode} {S : World → Prop} {W0 : World}
theorem Late.finish2 {x y : Al} {n : Nat} {L : Array Bool} {a : Act} {w : World} (hx : IsAl P ops x) (hy : IsAl P ops y) (hne : x.i ≠ y.i) (hd : x.d ≠ y.d)
    (hrx : Region.ready md ops (L.setIfInBounds y.i true) = [x.i]) (hry : Region.ready md ops (L.setIfInBounds x.i true) = [y.i])
    (hr : ((Region.ready md ops L).contains x.i && (Region.ready md ops L).contains y.i) = true)
    (h : ∀ w' g k, Ext w w' → Ext W0 w' → W0.heap.size ≤ g → W0.heap.size ≤ k → g ≠ k → Box w' g x.t x.cs → Box w' k y.t y.cs →
      wpAnyH P md ops Q (Ext W0) n ((L.setIfInBounds x.i true).setIfInBounds y.i true) ((a.put (some x.d) (.pointer (some ⟨g, 0, none⟩))).put (some y.d) (.pointer (some ⟨k, 0, none⟩))) w') :
    Late P md ops Q W0 [x, y] n L a w := by
  have hne' : (y.i == x.i) = false := by simpa using Ne.symm hne
  have hne2 : (x.i == y.i) = false := by simpa using hne
  refine Late.finish (by simp [hne]) (by simp [hx, hy]) ?_ (by simpa using hr) ?_
  · intro z hz j hj
    rcases List.mem_cons.1 hz with rfl | hz
    · simp [bne, hne', allMarks] at hj
      simpa [hrx] using hj
    · rw [List.mem_singleton] at hz
      subst hz
      simp [bne, hne2, allMarks] at hj
      simpa [hry] using hj
  · intro w' e hS D hD hl
    match D, hl with
    | [(u, g), (v, k)], _ =>
      have hu := hD.mem (u, g) (by simp)
      have hv := hD.mem (v, k) (by simp)
      have hnd := hD.nd
      have hng := hD.ng
      simp only [List.map_cons, List.map_nil, List.nodup_cons, List.mem_singleton, List.not_mem_nil, not_false_eq_true, List.nodup_nil, and_true] at hnd hng
      have bu := hD.box (u, g) (by simp)
      have bv := hD.box (v, k) (by simp)
      have gu := hD.ge (u, g) (by simp)
      have gv := hD.ge (v, k) (by simp)
      rcases List.mem_cons.1 hu with rfl | hu
      · rcases List.mem_cons.1 hv with rfl | hv
        · exact absurd rfl hnd
        · rw [List.mem_singleton] at hv
          subst hv
          exact h w' g k e hS gu gv hng bu bv
      · rw [List.mem_singleton] at hu
        subst hu
        rcases List.mem_cons.1 hv with rfl | hv
        · have := h w' k g e hS gv gu (Ne.symm hng) bv bu
          rw [Act.put_comm a _ _ (fun d h1 h2 => by injection h1 with h1; injection h2 with h2; exact hd (h1.trans h2.symm)), Array.setIfInBounds_comm _ _ hne] at this
          exact this
        · rw [List.mem_singleton] at hv
          subst hv
          exact absurd rfl hnd
end
end Go.Proofs.YtiioodgpkdbndaaGreatDoor
namespace Go.Proofs.YtiioodgpkdbndaaGreatDoor
open Go.RowKit
section
variable {A B : Option Addr} {c d n m : Nat} {xs ys : List Nat} {w : World} {s t : Bool}
set_option maxHeartbeats 2000000 in
theorem ref_Valid (hn : xs.length = n) (hx : Rd w A xs) (hc : n ≤ c) (hcm : c ≤ maxLen) (h1 : n ≤ 100000) :
    Calls Tryz.prog 41 #[.agg #[.bool s, .slice A n c]] w fun e w' => e = .returned (.bool (validB s xs)) ∧ Ext w w' := by
  obtain ⟨W, hW, extW, bx, hz⟩ := box1 w 24 #[.bool s, .slice A n c]
  have x0 := bx.cell 0 (.bool s) rfl
  have x1 := bx.cell 1 (.slice A n c) rfl
  have Hn := Lib.hid hn
  have Hv := Lib.hid (show validB s xs = (decide ((trimL xs).length = n) && (!s || decide (0 < n))) by unfold validB; rw [hn])
  clear hn
  by_cases ht : (trimL xs).length = n
  · have t1 : (((trimL xs).length : Int) == (n : Int)) = true := by rw [beq_iff_eq]; omega
    have t2 : decide ((trimL xs).length = n) = true := decide_eq_true ht
    rw [t2] at Hv
    cases s
    · have Hv2 := Lib.hid (show validB false xs = true by rw [Hv.out]; rfl)
      go_enter Tryz.func41, Tryz.ntmps41
      go_upto_region 1 with (fail)
      rw [← hW]
      clear hW
      go_quiet ((go_at_call 79; exact quiet_left (ref_trimN Hn.out (hx.ext (extW.drewN _)) hc hcm)))
      go_wp2_with fail
      go_ret
      exact ⟨by rw [Hv2.out]; rfl, by first | exact extW | exact extW.drew | exact extW.drewN _⟩
    · by_cases h0 : 0 < n
      · have Hv2 := Lib.hid (show validB true xs = true by rw [Hv.out, decide_eq_true h0]; rfl)
        have t3 : decide ((0 : Int) < (n : Int)) = true := decide_eq_true (by omega)
        go_enter Tryz.func41, Tryz.ntmps41
        go_upto_region 1 with (fail)
        rw [← hW]
        clear hW
        go_quiet ((go_at_call 79; exact quiet_left (ref_trimN Hn.out (hx.ext (extW.drewN _)) hc hcm)))
        go_wp2_with fail
        go_ret
        exact ⟨by rw [Hv2.out]; rfl, by first | exact extW | exact extW.drew | exact extW.drewN _⟩
      · have Hv2 := Lib.hid (show validB true xs = false by rw [Hv.out, decide_eq_false h0]; rfl)
        have t3 : decide ((0 : Int) < (n : Int)) = false := decide_eq_false (by omega)
        go_enter Tryz.func41, Tryz.ntmps41
        go_upto_region 1 with (fail)
        rw [← hW]
        clear hW
        go_quiet ((go_at_call 79; exact quiet_left (ref_trimN Hn.out (hx.ext (extW.drewN _)) hc hcm)))
        go_wp2_with fail
        go_ret
        exact ⟨by rw [Hv2.out]; rfl, by first | exact extW | exact extW.drew | exact extW.drewN _⟩
  · have t1 : (((trimL xs).length : Int) == (n : Int)) = false := by rw [beq_eq_false_iff_ne]; omega
    have Hv2 := Lib.hid (show validB s xs = false by rw [Hv.out, decide_eq_false ht]; rfl)
    go_enter Tryz.func41, Tryz.ntmps41
    go_upto_region 1 with (fail)
    rw [← hW]
    clear hW
    go_quiet ((go_at_call 79; exact quiet_left (ref_trimN Hn.out (hx.ext (extW.drewN _)) hc hcm)))
    go_wp2_with fail
    go_ret
    exact ⟨by rw [Hv2.out]; rfl, by first | exact extW | exact extW.drew | exact extW.drewN _⟩
end
end Go.Proofs.YtiioodgpkdbndaaGreatDoor
namespace Go.Proofs.YtiioodgpkdbndaaGreatDoor
open Go.RowKit
attribute [local go_sem ↓] Go.wp_at_zero Go.wp_at_succ
section
variable {w w' : World} {z y : Int} {q p : Rat} {L M : Nat} {s t s' t' : Bool} {A B A' B' : Option Addr} {n c m d n' c' m' d' : Nat}
set_option maxHeartbeats 1000000 in
theorem p_times {a b a' b' : Int} (h : Sm q a b) (k : Sm p a' b') : Calls Tryz.prog 75 #[.agg #[.int .i64 a, .int .i64 b], .agg #[.int .i64 a', .int .i64 b']] w (RetNR (q * p) 2 w) := by
  obtain ⟨h1, h2, h3, h4⟩ := h
  obtain ⟨k1, k2, k3, k4⟩ := k
  have hb0 : 0 < b := by have := q.den_pos; omega
  have hb0' : 0 < b' := by have := p.den_pos; omega
  have m1 := mul31 h3 k4
  have m2 := mul31 k3 h4
  have m3 := mul31 h4 k4
  have m4 := mul31 h3 k3
  have hpos : 0 < b * b' := Int.mul_pos hb0 hb0'
  have hval : mkRat (a * a') (b * b').natAbs = q * p := by
    rw [Rat.mul_def', Int.natAbs_mul, h1, h2, k1, k2, Int.natAbs_natCast, Int.natAbs_natCast]
  have Hval := Lib.hid hval
  clear hval h1 h2 k1 k2
  obtain ⟨u1, hu1⟩ : ∃ u, a * b' = u := ⟨_, rfl⟩
  obtain ⟨u2, hu2⟩ : ∃ u, a' * b = u := ⟨_, rfl⟩
  obtain ⟨u3, hu3⟩ : ∃ u, b * b' = u := ⟨_, rfl⟩
  obtain ⟨u4, hu4⟩ : ∃ u, a * a' = u := ⟨_, rfl⟩
  rw [hu1] at m1
  rw [hu2] at m2
  rw [hu3] at m3 hpos
  rw [hu4] at m4
  have Hu1 := Lib.hid hu1
  have Hu2 := Lib.hid hu2
  have Hu3 := Lib.hid hu3
  have Hu4 := Lib.hid hu4
  have w1 : IntKind.i64.wrap u1 = u1 := IntWalk.i64_in _ (by omega)
  have w2 : IntKind.i64.wrap u2 = u2 := IntWalk.i64_in _ (by omega)
  have w3 : IntKind.i64.wrap u3 = u3 := IntWalk.i64_in _ (by omega)
  have w4 : IntKind.i64.wrap u4 = u4 := IntWalk.i64_in _ (by omega)
  have v1 : wrap64 u1 = u1 := IntWalk.wrap64_in _ (by omega)
  have v2 : wrap64 u2 = u2 := IntWalk.wrap64_in _ (by omega)
  have v3 : wrap64 u3 = u3 := IntWalk.wrap64_in _ (by omega)
  have v4 : wrap64 u4 = u4 := IntWalk.wrap64_in _ (by omega)
  have w5 : IntKind.i64.wrap (u1 + u2) = u1 + u2 := IntWalk.i64_in _ (by omega)
  have v5 : wrap64 (u1 + u2) = u1 + u2 := IntWalk.wrap64_in _ (by omega)
  go_enter Tryz.func75, Tryz.ntmps75
  go_upto_region 1 with (fail)
  obtain ⟨W, hW, extW, bx, by_, bz, hz⟩ := box3 w 63 63 27 #[.int .i64 a, .int .i64 b] #[.int .i64 a', .int .i64 b'] #[Value.bool false, Value.slice none 0 0, Value.bool false, Value.slice none 0 0]
  rw [← hW]
  clear hW
  have x0 := bx.cell 0 (.int .i64 a) rfl
  have x1 := bx.cell 1 (.int .i64 b) rfl
  have y0 := by_.cell 0 (.int .i64 a') rfl
  have y1 := by_.cell 1 (.int .i64 b') rfl
  go_wp2_with fail
  refine (p_lowest _ _ hpos (by omega) (by omega)).mono ?_
  rintro e wa ⟨s, A, n, c, t, B, m, d, rfl, hr, hxa⟩
  rw [← Hu3.out] at hr
  have z0 := (bz.ext hxa).cell 0 _ rfl
  have z1 := (bz.ext hxa).cell 1 _ rfl
  have z2 := (bz.ext hxa).cell 2 _ rfl
  have z3 := (bz.ext hxa).cell 3 _ rfl
  have f0 := (bz.ext hxa).frozen 0
  have f1 := (bz.ext hxa).frozen 1
  have f2 := (bz.ext hxa).frozen 2
  have f3 := (bz.ext hxa).frozen 3
  go_wp2_with fail
  rw [← Hu4.out, Hval.out] at hr
  obtain ⟨b1, b2, b3, b4⟩ := fin_quad (s := s) (A := A) (n := n) (c := c) (t := t) (B := B) (m := m) (d := d) (bz.ext hxa)
  have r0 := b1.cell 0 (.bool s) rfl
  have r1 := b1.cell 1 (.slice A n c) rfl
  have r2 := b1.cell 2 (.bool t) rfl
  have r3 := b1.cell 3 (.slice B m d) rfl
  unfold set4 at r0 r1 r2 r3
  refine bodyPost_ret (v := .agg #[.bool s, .slice A n c, .bool t, .slice B m d]) (by simp [results, Tryz.results75, go_sem, r0, r1, r2, r3]) rfl ⟨s, A, n, c, t, B, m, d, rfl, ⟨?_, ?_⟩, b3 _ (extW.trans hxa) (by omega)⟩
  · exact b2 _ _ _ _ _ _ hr.num
  · exact b2 _ _ _ _ _ _ hr.den
end
end Go.Proofs.YtiioodgpkdbndaaGreatDoor
namespace Go.Proofs.YtiioodgpkdbndaaGreatDoor
open Go.RowKit
attribute [local go_sem ↓] Go.wp_at_zero Go.wp_at_succ
section
variable {w w' : World} {z y : Int} {q p : Rat} {L M : Nat} {s t s' t' : Bool} {A B A' B' : Option Addr} {n c m d n' c' m' d' : Nat}
set_option maxHeartbeats 16000000 in
set_option maxRecDepth 100000 in
theorem p_MulR (h : NR w q L s A n c t B m d) (k : NR w p M s' A' n' c' t' B' m' d') (hL : L ≤ 1000) (hM : M ≤ 1000) (h64 : min L M < 64) (hT : Tab w) : Calls Tryz.prog 34 #[.agg #[.bool s, .slice A n c, .bool t, .slice B m d], .agg #[.bool s', .slice A' n' c', .bool t', .slice B' m' d']] w (RetNR (q * p) (L + M) w) := by
  have hL1 := h.pos
  have hM1 := k.pos
  go_enter Tryz.func34, Tryz.ntmps34
  go_upto_region 1 with (fail)
  obtain ⟨W, hW, extW, bx, by_, bz, hz⟩ := box3 w 27 27 27 #[.bool s, .slice A n c, .bool t, .slice B m d] #[.bool s', .slice A' n' c', .bool t', .slice B' m' d'] #[Value.bool false, Value.slice none 0 0, Value.bool false, Value.slice none 0 0]
  rw [← hW]
  clear hW
  replace h := h.ext extW
  replace k := k.ext extW
  have x0 := bx.cell 0 (.bool s) rfl
  have x1 := bx.cell 1 (.slice A n c) rfl
  have x2 := bx.cell 2 (.bool t) rfl
  have x3 := bx.cell 3 (.slice B m d) rfl
  have y0 := by_.cell 0 (.bool s') rfl
  have y1 := by_.cell 1 (.slice A' n' c') rfl
  have y2 := by_.cell 2 (.bool t') rfl
  have y3 := by_.cell 3 (.slice B' m' d') rfl
  go_wp2_with fail
  refine (p_smallPair h k (by omega) (by omega)).mono ?_
  rintro e wa ⟨a1, a2, c1, c2, ok, rfl, hok, hxa⟩
  have Hok := Lib.hid hok
  clear hok
  clear x0 x1 x2 x3
  clear y0 y1 y2 y3
  go_upto_region 2 with (fail)
  refine at_world (fun V => Ext W V ∧ Box V wa.heap.size 63 #[.int .i64 a1, .int .i64 a2] ∧ Box V (wa.heap.size + 1) 63 #[.int .i64 c1, .int .i64 c2]) ?_ ?_
  · obtain ⟨e1, e2, e3⟩ := two_new wa 63 #[.int .i64 a1, .int .i64 a2] #[.int .i64 c1, .int .i64 c2]
    exact ⟨hxa.trans e1, e2, e3⟩
  generalize wa.heap.size = g5
  clear hxa
  rintro V ⟨EV, b5, b6⟩
  replace bx := bx.ext EV
  replace by_ := by_.ext EV
  replace bz := bz.ext EV
  replace h := h.ext EV
  replace k := k.ext EV
  replace extW := extW.trans EV
  clear EV
  cases ok with
  | true =>
    obtain ⟨sm1, sm2⟩ := Hok.out (by first | rfl | trivial)
    have j0 := b5.cell 0 (.int .i64 a1) rfl
    have j1 := b5.cell 1 (.int .i64 a2) rfl
    have j2 := b6.cell 0 (.int .i64 c1) rfl
    have j3 := b6.cell 1 (.int .i64 c2) rfl
    go_wp2_with fail
    refine (p_times sm1 sm2).mono ?_
    rintro e wb ⟨s1, A1, n1, c1', t1, B1, m1, d1, rfl, hr, hxb⟩
    have z0 := (bz.ext hxb).cell 0 _ rfl
    have z1 := (bz.ext hxb).cell 1 _ rfl
    have z2 := (bz.ext hxb).cell 2 _ rfl
    have z3 := (bz.ext hxb).cell 3 _ rfl
    have f0 := (bz.ext hxb).frozen 0
    have f1 := (bz.ext hxb).frozen 1
    have f2 := (bz.ext hxb).frozen 2
    have f3 := (bz.ext hxb).frozen 3
    go_wp2_with fail
    obtain ⟨b1, b2, b3, b4⟩ := fin_quad (s := s1) (A := A1) (n := n1) (c := c1') (t := t1) (B := B1) (m := m1) (d := d1) (bz.ext hxb)
    have r0 := b1.cell 0 (.bool s1) rfl
    have r1 := b1.cell 1 (.slice A1 n1 c1') rfl
    have r2 := b1.cell 2 (.bool t1) rfl
    have r3 := b1.cell 3 (.slice B1 m1 d1) rfl
    unfold set4 at r0 r1 r2 r3
    refine bodyPost_ret (v := .agg #[.bool s1, .slice A1 n1 c1', .bool t1, .slice B1 m1 d1]) (by simp [results, Tryz.results34, go_sem, r0, r1, r2, r3]) rfl ⟨s1, A1, n1, c1', t1, B1, m1, d1, rfl, ⟨?_, ?_⟩, b3 _ (extW.trans hxb) (by omega)⟩
    · exact (b2 _ _ _ _ _ _ hr.num).le (by omega)
    · exact (b2 _ _ _ _ _ _ hr.den).le (by omega)
  | false =>
    go_wp2_with fail
    have ES0 := Ext.refl V
    refine wp_region_held_drew (S := Ext V) (by kernel_rfl) ES0.drew (fun ES => ?_)
    clear ES0
    refine Late.start2 (x := ⟨10, 8, 24, #[Value.bool false, Value.slice none 0 0]⟩) (y := ⟨11, 9, 24, #[Value.bool false, Value.slice none 0 0]⟩) (n := 12) ⟨_, rfl, rfl, rfl, fun a w => by go_simp⟩ ⟨_, rfl, rfl, rfl, fun a w => by go_simp⟩ (fun _ _ _ _ _ => ⟨fun h => h, fun h => h⟩) ES rfl (fun hAl hQ => ?_)
    refine Late.take (i := 0) (d := some 21) (v := ?v0_31) rfl rfl (by kernel_rfl) (by kernel_rfl) (by kernel_rfl) (by kernel_rfl) hQ (Or.inl ⟨by rfl, ?y0_31⟩) ?r0_31
    case y0_31 =>
      intro w' hSw
      have k00 := (bx.ext hSw).c4
      have k10 := (by_.ext hSw).c4
      go_simp
      try with_reducible rfl
    try simp only [Act.put]
    try simp only [List.setIfInBounds_toArray]
    try simp only [List.set_cons_succ]
    try simp only [List.set_cons_zero]
    refine Late.take (i := 2) (d := some 23) (v := ?v2_32) rfl rfl (by kernel_rfl) (by kernel_rfl) (by kernel_rfl) (by kernel_rfl) hQ (Or.inl ⟨by rfl, ?y2_32⟩) ?r2_32
    case y2_32 =>
      intro w' hSw
      have k00 := (bx.ext hSw).c4
      have k10 := (by_.ext hSw).c4
      go_simp
      try with_reducible rfl
    try simp only [Act.put]
    try simp only [List.setIfInBounds_toArray]
    try simp only [List.set_cons_succ]
    try simp only [List.set_cons_zero]
    refine Late.take (i := 5) (d := some 26) (v := ?v5_33) rfl rfl (by kernel_rfl) (by kernel_rfl) (by kernel_rfl) (by kernel_rfl) hQ (Or.inl ⟨by rfl, ?y5_33⟩) ?r5_33
    case y5_33 =>
      intro w' hSw
      have k00 := (bx.ext hSw).c4
      have k10 := (by_.ext hSw).c4
      go_simp
      try with_reducible rfl
    try simp only [Act.put]
    try simp only [List.setIfInBounds_toArray]
    try simp only [List.set_cons_succ]
    try simp only [List.set_cons_zero]
    refine Late.take (i := 7) (d := some 28) (v := ?v7_34) rfl rfl (by kernel_rfl) (by kernel_rfl) (by kernel_rfl) (by kernel_rfl) hQ (Or.inl ⟨by rfl, ?y7_34⟩) ?r7_34
    case y7_34 =>
      intro w' hSw
      have k00 := (bx.ext hSw).c4
      have k10 := (by_.ext hSw).c4
      go_simp
      try with_reducible rfl
    try simp only [Act.put]
    try simp only [List.setIfInBounds_toArray]
    try simp only [List.set_cons_succ]
    try simp only [List.set_cons_zero]
    refine Late.take (i := 1) (d := some 22) (v := ?v1_35) rfl rfl (by kernel_rfl) (by kernel_rfl) (by kernel_rfl) (by kernel_rfl) hQ (Or.inl ⟨by rfl, ?y1_35⟩) ?r1_35
    case y1_35 =>
      intro w' hSw
      have k00 := (bx.ext hSw).c4
      have k10 := (by_.ext hSw).c4
      go_simp
      try with_reducible rfl
    try simp only [Act.put]
    try simp only [List.setIfInBounds_toArray]
    try simp only [List.set_cons_succ]
    try simp only [List.set_cons_zero]
    refine Late.take (i := 3) (d := some 24) (v := ?v3_36) rfl rfl (by kernel_rfl) (by kernel_rfl) (by kernel_rfl) (by kernel_rfl) hQ (Or.inl ⟨by rfl, ?y3_36⟩) ?r3_36
    case y3_36 =>
      intro w' hSw
      have k00 := (bx.ext hSw).c4
      have k10 := (by_.ext hSw).c4
      go_simp
      try with_reducible rfl
    try simp only [Act.put]
    try simp only [List.setIfInBounds_toArray]
    try simp only [List.set_cons_succ]
    try simp only [List.set_cons_zero]
    refine Late.take (i := 6) (d := some 27) (v := ?v6_37) rfl rfl (by kernel_rfl) (by kernel_rfl) (by kernel_rfl) (by kernel_rfl) hQ (Or.inl ⟨by rfl, ?y6_37⟩) ?r6_37
    case y6_37 =>
      intro w' hSw
      have k00 := (bx.ext hSw).c4
      have k10 := (by_.ext hSw).c4
      go_simp
      try with_reducible rfl
    try simp only [Act.put]
    try simp only [List.setIfInBounds_toArray]
    try simp only [List.set_cons_succ]
    try simp only [List.set_cons_zero]
    refine Late.take (i := 8) (d := some 29) (v := ?v8_38) rfl rfl (by kernel_rfl) (by kernel_rfl) (by kernel_rfl) (by kernel_rfl) hQ (Or.inl ⟨by rfl, ?y8_38⟩) ?r8_38
    case y8_38 =>
      intro w' hSw
      have k00 := (bx.ext hSw).c4
      have k10 := (by_.ext hSw).c4
      go_simp
      try with_reducible rfl
    try simp only [Act.put]
    try simp only [List.setIfInBounds_toArray]
    try simp only [List.set_cons_succ]
    try simp only [List.set_cons_zero]
    refine Late.call (i := 4) rfl (by kernel_rfl) hAl (by kernel_rfl) (by kernel_rfl) (by kernel_rfl) hQ (fun w4 e4 E4 K hK => ?_)
    go_simp
    (go_at_call 56; refine (p_GCD (h.num.ext E4) (k.den.ext E4) (by omega) (by omega) (hT.ext (extW.trans E4))).mono ?_; rintro e wk1 ⟨s1, A1, n1, c1', rfl, h1, hx4⟩; rw [Int.natAbs_natCast] at h1)
    refine hK.out _ _ hx4 ?_
    clear hK K
    try simp only [Act.put]
    try simp only [List.setIfInBounds_toArray]
    try simp only [List.set_cons_succ]
    try simp only [List.set_cons_zero]
    refine Late.call (i := 9) rfl (by kernel_rfl) hAl (by kernel_rfl) (by kernel_rfl) (by kernel_rfl) hQ (fun w9 e9 E9 K hK => ?_)
    go_simp
    (go_at_call 56; refine (p_GCD (k.num.ext E9) (h.den.ext E9) (by omega) (by omega) (hT.ext (extW.trans E9))).mono ?_; rintro e wk2 ⟨s2, A2, n2, c2', rfl, h2, hx9⟩; rw [Int.natAbs_natCast] at h2)
    refine hK.out _ _ hx9 ?_
    clear hK K
    try simp only [Act.put]
    try simp only [List.setIfInBounds_toArray]
    try simp only [List.set_cons_succ]
    try simp only [List.set_cons_zero]
    refine Late.finish2 (hAl _ (by simp)) (hAl _ (by simp)) (by decide) (by decide) (by kernel_rfl) (by kernel_rfl) (by kernel_rfl) (fun wz g5 g6 ez Ez lg5 lg6 hne xb1 xb2 => ?_)
    clear hAl hQ ES
    have p10 := xb1.cell 0 (Value.bool false) rfl
    have p11 := xb1.cell 1 (Value.slice none 0 0) rfl
    have f10 := xb1.frozen 0
    have f11 := xb1.frozen 1
    have e4 := fin_dual (s := s1) (A := A1) (n := n1) (c := c1') xb1
    try simp only [Act.put]
    try simp only [List.setIfInBounds_toArray]
    try simp only [List.set_cons_succ]
    try simp only [List.set_cons_zero]
    refine wpAnyH_ready (rs := [12]) (by kernel_rfl) (by simp) (AllReadyH.cons rfl (fun K hK => ?_) AllReadyH.nil)
    go_simp
    refine hK.out _ _ (e4.2.2.1 _ Ez lg5) (fun _ => ?_)
    clear hK K
    try simp only [Act.put]
    try simp only [List.setIfInBounds_toArray]
    try simp only [List.set_cons_succ]
    try simp only [List.set_cons_zero]
    have e5 := e4.2.2.2 _ _ _ (Ne.symm hne) xb2
    refine any_world (fun U => Ext V U ∧ Box U g5 24 #[.bool s1, .slice A1 n1 c1'] ∧ Box U g6 24 #[Value.bool false, Value.slice none 0 0] ∧ NI U ((q.num.natAbs.gcd p.den : Nat) : Int) (max L M) s1 A1 n1 c1' ∧ NI U ((p.num.natAbs.gcd q.den : Nat) : Int) (max M L) s2 A2 n2 c2') ⟨e4.2.2.1 _ Ez lg5, e4.1, e5, e4.2.1 _ _ _ _ _ _ (h1.ext (e9.trans (hx9.trans ez))), e4.2.1 _ _ _ _ _ _ (h2.ext ez)⟩ ?_
    clear e4 e5 p10 p11 f10 f11 xb1 xb2
    rintro U ⟨EU, b8, xb2, h1, h2⟩
    have p10 := xb2.cell 0 (Value.bool false) rfl
    have p11 := xb2.cell 1 (Value.slice none 0 0) rfl
    have f10 := xb2.frozen 0
    have f11 := xb2.frozen 1
    have e4 := fin_dual (s := s2) (A := A2) (n := n2) (c := c2') xb2
    refine wpAnyH_ready (rs := [13]) (by kernel_rfl) (by simp) (AllReadyH.cons rfl (fun K hK => ?_) AllReadyH.nil)
    go_simp
    refine hK.out _ _ (e4.2.2.1 _ EU lg6) (fun _ => ?_)
    clear hK K
    try simp only [Act.put]
    try simp only [List.setIfInBounds_toArray]
    try simp only [List.set_cons_succ]
    try simp only [List.set_cons_zero]
    refine any_world (fun U2 => Ext V U2 ∧ Box U2 g5 24 #[.bool s1, .slice A1 n1 c1'] ∧ Box U2 g6 24 #[.bool s2, .slice A2 n2 c2'] ∧ NI U2 ((q.num.natAbs.gcd p.den : Nat) : Int) (max L M) s1 A1 n1 c1' ∧ NI U2 ((p.num.natAbs.gcd q.den : Nat) : Int) (max M L) s2 A2 n2 c2') ⟨e4.2.2.1 _ EU lg6, e4.2.2.2 _ _ _ hne b8, e4.1, e4.2.1 _ _ _ _ _ _ h1, e4.2.1 _ _ _ _ _ _ h2⟩ ?_
    clear e4 p10 p11 f10 f11 xb2 b8 h1 h2 lg5 lg6
    rintro U2 ⟨EU2, b8, b9, h1, h2⟩
    refine wpAnyH_done (by kernel_rfl) ?_ _
    replace bx := bx.ext EU2
    replace by_ := by_.ext EU2
    replace bz := bz.ext EU2
    replace h := h.ext EU2
    replace k := k.ext EU2
    replace extW := extW.trans EU2
    clear EU EU2 Ez ez
    obtain ⟨g, hge⟩ : ∃ g, q.num.natAbs.gcd p.den = g := ⟨_, rfl⟩
    obtain ⟨hq, hhe⟩ : ∃ g, p.num.natAbs.gcd q.den = g := ⟨_, rfl⟩
    rw [hge] at h1
    rw [hhe] at h2
    obtain ⟨q1, q2⟩ := rat_mul q p hge.symm hhe.symm
    have Hq1 := Lib.hid q1
    have Hq2 := Lib.hid q2
    have hgq : g ∣ q.num.natAbs := by rw [← hge]; exact Nat.gcd_dvd_left _ _
    have hgp : g ∣ p.den := by rw [← hge]; exact Nat.gcd_dvd_right _ _
    have hhp : hq ∣ p.num.natAbs := by rw [← hhe]; exact Nat.gcd_dvd_left _ _
    have hhq : hq ∣ q.den := by rw [← hhe]; exact Nat.gcd_dvd_right _ _
    have hg0 : (g : Int) ≠ 0 := by
      intro h0
      have : g = 0 := by omega
      rw [this] at hgp
      exact p.den_nz (Nat.eq_zero_of_zero_dvd hgp)
    have hh0 : (hq : Int) ≠ 0 := by
      intro h0
      have : hq = 0 := by omega
      rw [this] at hhq
      exact q.den_nz (Nat.eq_zero_of_zero_dvd hhq)
    have Hg0 := Lib.hid hg0
    have Hh0 := Lib.hid hh0
    have Hgq := Lib.hid (Int.ofNat_dvd_left.2 hgq)
    have Hgp := Lib.hid (Int.ofNat_dvd.2 hgp)
    have Hhp := Lib.hid (Int.ofNat_dvd_left.2 hhp)
    have Hhq := Lib.hid (Int.ofNat_dvd.2 hhq)
    have hg := h1
    have hh := h2
    clear hge hhe q1 q2 hgq hgp hhp hhq hg0 hh0 h1 h2
    go_wp2_with fail
    refine wpL.start 19 (by kernel_rfl) (fun _ _ _ _ _ => ⟨fun h => h, fun h => h⟩) (fun hQ ES => ?_)
    refine wpL.take (i := 0) (d := some 31) (v := ?v0_39) rfl rfl (by kernel_rfl) (by kernel_rfl) (by kernel_rfl) (by kernel_rfl) hQ (Or.inl ⟨by rfl, ?y0_39⟩) ES ?r0_39
    case y0_39 =>
      intro w' hSw
      have k00 := (bx.ext hSw).c4
      have k10 := (by_.ext hSw).c4
      have k20 := (b8.ext hSw).c2
      have k30 := (b9.ext hSw).c2
      go_simp
      try with_reducible rfl
    try simp only [Act.put]
    try simp only [List.setIfInBounds_toArray]
    try simp only [List.set_cons_succ]
    try simp only [List.set_cons_zero]
    refine wpL.take (i := 2) (d := some 33) (v := ?v2_40) rfl rfl (by kernel_rfl) (by kernel_rfl) (by kernel_rfl) (by kernel_rfl) hQ (Or.inl ⟨by rfl, ?y2_40⟩) ES ?r2_40
    case y2_40 =>
      intro w' hSw
      have k00 := (bx.ext hSw).c4
      have k10 := (by_.ext hSw).c4
      have k20 := (b8.ext hSw).c2
      have k30 := (b9.ext hSw).c2
      go_simp
      try with_reducible rfl
    try simp only [Act.put]
    try simp only [List.setIfInBounds_toArray]
    try simp only [List.set_cons_succ]
    try simp only [List.set_cons_zero]
    refine wpL.take (i := 4) (d := some 35) (v := ?v4_41) rfl rfl (by kernel_rfl) (by kernel_rfl) (by kernel_rfl) (by kernel_rfl) hQ (Or.inl ⟨by rfl, ?y4_41⟩) ES ?r4_41
    case y4_41 =>
      intro w' hSw
      have k00 := (bx.ext hSw).c4
      have k10 := (by_.ext hSw).c4
      have k20 := (b8.ext hSw).c2
      have k30 := (b9.ext hSw).c2
      go_simp
      try with_reducible rfl
    try simp only [Act.put]
    try simp only [List.setIfInBounds_toArray]
    try simp only [List.set_cons_succ]
    try simp only [List.set_cons_zero]
    refine wpL.take (i := 6) (d := some 37) (v := ?v6_42) rfl rfl (by kernel_rfl) (by kernel_rfl) (by kernel_rfl) (by kernel_rfl) hQ (Or.inl ⟨by rfl, ?y6_42⟩) ES ?r6_42
    case y6_42 =>
      intro w' hSw
      have k00 := (bx.ext hSw).c4
      have k10 := (by_.ext hSw).c4
      have k20 := (b8.ext hSw).c2
      have k30 := (b9.ext hSw).c2
      go_simp
      try with_reducible rfl
    try simp only [Act.put]
    try simp only [List.setIfInBounds_toArray]
    try simp only [List.set_cons_succ]
    try simp only [List.set_cons_zero]
    refine wpL.take (i := 9) (d := some 40) (v := ?v9_43) rfl rfl (by kernel_rfl) (by kernel_rfl) (by kernel_rfl) (by kernel_rfl) hQ (Or.inl ⟨by rfl, ?y9_43⟩) ES ?r9_43
    case y9_43 =>
      intro w' hSw
      have k00 := (bx.ext hSw).c4
      have k10 := (by_.ext hSw).c4
      have k20 := (b8.ext hSw).c2
      have k30 := (b9.ext hSw).c2
      go_simp
      try with_reducible rfl
    try simp only [Act.put]
    try simp only [List.setIfInBounds_toArray]
    try simp only [List.set_cons_succ]
    try simp only [List.set_cons_zero]
    refine wpL.take (i := 11) (d := some 42) (v := ?v11_44) rfl rfl (by kernel_rfl) (by kernel_rfl) (by kernel_rfl) (by kernel_rfl) hQ (Or.inl ⟨by rfl, ?y11_44⟩) ES ?r11_44
    case y11_44 =>
      intro w' hSw
      have k00 := (bx.ext hSw).c4
      have k10 := (by_.ext hSw).c4
      have k20 := (b8.ext hSw).c2
      have k30 := (b9.ext hSw).c2
      go_simp
      try with_reducible rfl
    try simp only [Act.put]
    try simp only [List.setIfInBounds_toArray]
    try simp only [List.set_cons_succ]
    try simp only [List.set_cons_zero]
    refine wpL.take (i := 13) (d := some 44) (v := ?v13_45) rfl rfl (by kernel_rfl) (by kernel_rfl) (by kernel_rfl) (by kernel_rfl) hQ (Or.inl ⟨by rfl, ?y13_45⟩) ES ?r13_45
    case y13_45 =>
      intro w' hSw
      have k00 := (bx.ext hSw).c4
      have k10 := (by_.ext hSw).c4
      have k20 := (b8.ext hSw).c2
      have k30 := (b9.ext hSw).c2
      go_simp
      try with_reducible rfl
    try simp only [Act.put]
    try simp only [List.setIfInBounds_toArray]
    try simp only [List.set_cons_succ]
    try simp only [List.set_cons_zero]
    refine wpL.take (i := 15) (d := some 46) (v := ?v15_46) rfl rfl (by kernel_rfl) (by kernel_rfl) (by kernel_rfl) (by kernel_rfl) hQ (Or.inl ⟨by rfl, ?y15_46⟩) ES ?r15_46
    case y15_46 =>
      intro w' hSw
      have k00 := (bx.ext hSw).c4
      have k10 := (by_.ext hSw).c4
      have k20 := (b8.ext hSw).c2
      have k30 := (b9.ext hSw).c2
      go_simp
      try with_reducible rfl
    try simp only [Act.put]
    try simp only [List.setIfInBounds_toArray]
    try simp only [List.set_cons_succ]
    try simp only [List.set_cons_zero]
    refine wpL.take (i := 1) (d := some 32) (v := ?v1_47) rfl rfl (by kernel_rfl) (by kernel_rfl) (by kernel_rfl) (by kernel_rfl) hQ (Or.inl ⟨by rfl, ?y1_47⟩) ES ?r1_47
    case y1_47 =>
      intro w' hSw
      have k00 := (bx.ext hSw).c4
      have k10 := (by_.ext hSw).c4
      have k20 := (b8.ext hSw).c2
      have k30 := (b9.ext hSw).c2
      go_simp
      try with_reducible rfl
    try simp only [Act.put]
    try simp only [List.setIfInBounds_toArray]
    try simp only [List.set_cons_succ]
    try simp only [List.set_cons_zero]
    refine wpL.take (i := 5) (d := some 36) (v := ?v5_48) rfl rfl (by kernel_rfl) (by kernel_rfl) (by kernel_rfl) (by kernel_rfl) hQ (Or.inl ⟨by rfl, ?y5_48⟩) ES ?r5_48
    case y5_48 =>
      intro w' hSw
      have k00 := (bx.ext hSw).c4
      have k10 := (by_.ext hSw).c4
      have k20 := (b8.ext hSw).c2
      have k30 := (b9.ext hSw).c2
      go_simp
      try with_reducible rfl
    try simp only [Act.put]
    try simp only [List.setIfInBounds_toArray]
    try simp only [List.set_cons_succ]
    try simp only [List.set_cons_zero]
    refine wpL.take (i := 10) (d := some 41) (v := ?v10_49) rfl rfl (by kernel_rfl) (by kernel_rfl) (by kernel_rfl) (by kernel_rfl) hQ (Or.inl ⟨by rfl, ?y10_49⟩) ES ?r10_49
    case y10_49 =>
      intro w' hSw
      have k00 := (bx.ext hSw).c4
      have k10 := (by_.ext hSw).c4
      have k20 := (b8.ext hSw).c2
      have k30 := (b9.ext hSw).c2
      go_simp
      try with_reducible rfl
    try simp only [Act.put]
    try simp only [List.setIfInBounds_toArray]
    try simp only [List.set_cons_succ]
    try simp only [List.set_cons_zero]
    refine wpL.take (i := 14) (d := some 45) (v := ?v14_50) rfl rfl (by kernel_rfl) (by kernel_rfl) (by kernel_rfl) (by kernel_rfl) hQ (Or.inl ⟨by rfl, ?y14_50⟩) ES ?r14_50
    case y14_50 =>
      intro w' hSw
      have k00 := (bx.ext hSw).c4
      have k10 := (by_.ext hSw).c4
      have k20 := (b8.ext hSw).c2
      have k30 := (b9.ext hSw).c2
      go_simp
      try with_reducible rfl
    try simp only [Act.put]
    try simp only [List.setIfInBounds_toArray]
    try simp only [List.set_cons_succ]
    try simp only [List.set_cons_zero]
    refine wpL.call (i := 3) rfl (by kernel_rfl) (fun K hK => ?_)
    go_simp
    (go_at_call 57; refine (p_divide (h.num.ext ES) (hg.ext ES) (by omega) (by omega) Hg0.out Hgq.out).mono ?_; rintro e wk1 ⟨s3, A3, n3, c3, rfl, h3, hx0⟩; have E0_5 := Ext.trans ES hx0)
    refine hK.out _ _ E0_5 ?_
    clear hK K
    try simp only [Act.put]
    try simp only [List.setIfInBounds_toArray]
    try simp only [List.set_cons_succ]
    try simp only [List.set_cons_zero]
    refine wpL.call (i := 7) rfl (by kernel_rfl) (fun K hK => ?_)
    go_simp
    (go_at_call 57; refine (p_divide (k.num.ext E0_5) (hh.ext E0_5) (by omega) (by omega) Hh0.out Hhp.out).mono ?_; rintro e wk2 ⟨s4, A4, n4, c4, rfl, h4, hx1⟩; have E1_5 := Ext.trans E0_5 hx1)
    refine hK.out _ _ E1_5 ?_
    clear hK K
    try simp only [Act.put]
    try simp only [List.setIfInBounds_toArray]
    try simp only [List.set_cons_succ]
    try simp only [List.set_cons_zero]
    refine wpL.call (i := 8) rfl (by kernel_rfl) (fun K hK => ?_)
    go_simp
    (go_at_call 72; refine (p_Mul (h3.ext hx1) h4 (by omega) (by omega) h64).mono ?_; rintro e wk3 ⟨s5, A5, n5, c5, rfl, h5, hx2⟩; have E2_5 := Ext.trans E1_5 hx2)
    refine hK.out _ _ E2_5 ?_
    clear hK K
    try simp only [Act.put]
    try simp only [List.setIfInBounds_toArray]
    try simp only [List.set_cons_succ]
    try simp only [List.set_cons_zero]
    refine wpL.call (i := 12) rfl (by kernel_rfl) (fun K hK => ?_)
    go_simp
    (go_at_call 57; refine (p_divide (h.den.ext E2_5) (hh.ext E2_5) (by omega) (by omega) Hh0.out Hhq.out).mono ?_; rintro e wk4 ⟨s6, A6, n6, c6, rfl, h6, hx3⟩; have E3_5 := Ext.trans E2_5 hx3)
    refine hK.out _ _ E3_5 ?_
    clear hK K
    try simp only [Act.put]
    try simp only [List.setIfInBounds_toArray]
    try simp only [List.set_cons_succ]
    try simp only [List.set_cons_zero]
    refine wpL.call (i := 16) rfl (by kernel_rfl) (fun K hK => ?_)
    go_simp
    (go_at_call 57; refine (p_divide (k.den.ext E3_5) (hg.ext E3_5) (by omega) (by omega) Hg0.out Hgp.out).mono ?_; rintro e wk5 ⟨s7, A7, n7, c7, rfl, h7, hx4⟩; have E4_5 := Ext.trans E3_5 hx4)
    refine hK.out _ _ E4_5 ?_
    clear hK K
    try simp only [Act.put]
    try simp only [List.setIfInBounds_toArray]
    try simp only [List.set_cons_succ]
    try simp only [List.set_cons_zero]
    refine wpL.call (i := 17) rfl (by kernel_rfl) (fun K hK => ?_)
    go_simp
    (go_at_call 72; refine (p_Mul (h6.ext hx4) h7 (by omega) (by omega) h64).mono ?_; rintro e wk6 ⟨s8, A8, n8, c8, rfl, h8, hx5⟩; have E5_5 := Ext.trans E4_5 hx5)
    refine hK.out _ _ E5_5 ?_
    clear hK K
    try simp only [Act.put]
    try simp only [List.setIfInBounds_toArray]
    try simp only [List.set_cons_succ]
    try simp only [List.set_cons_zero]
    refine wpL.take (i := 18) (d := some 49) (v := ?v18_51) rfl rfl (by kernel_rfl) (by kernel_rfl) (by kernel_rfl) (by kernel_rfl) hQ (Or.inl ⟨by rfl, ?y18_51⟩) E5_5 ?r18_51
    case y18_51 =>
      intro w' hSw
      have k00 := (bx.ext hSw).c4
      have k10 := (by_.ext hSw).c4
      have k20 := (b8.ext hSw).c2
      have k30 := (b9.ext hSw).c2
      go_simp
      try with_reducible rfl
    try simp only [Act.put]
    try simp only [List.setIfInBounds_toArray]
    try simp only [List.set_cons_succ]
    try simp only [List.set_cons_zero]
    have z0 := (bz.ext E5_5).cell 0 _ rfl
    have z1 := (bz.ext E5_5).cell 1 _ rfl
    have z2 := (bz.ext E5_5).cell 2 _ rfl
    have z3 := (bz.ext E5_5).cell 3 _ rfl
    have f0 := (bz.ext E5_5).frozen 0
    have f1 := (bz.ext E5_5).frozen 1
    have f2 := (bz.ext E5_5).frozen 2
    have f3 := (bz.ext E5_5).frozen 3
    refine wpL.tail (i := 19) rfl (by kernel_rfl) (by kernel_rfl) (fun K hK => ?_)
    go_simp
    refine hK.out _ _ ?_
    clear hK K
    try simp only [Act.put]
    try simp only [List.setIfInBounds_toArray]
    try simp only [List.set_cons_succ]
    try simp only [List.set_cons_zero]
    refine wpL.done (by kernel_rfl) ?_ _
    clear hQ
    go_wp2_with fail
    have hk1 : ((q.den : Int) / (hq : Int)) * ((p.den : Int) / (g : Int)) = ((q * p).den : Int) := by rw [Hq2.out]; simp
    rw [hk1] at h8
    rw [← Hq1.out] at h5
    obtain ⟨b1, b2, b3, b4⟩ := fin_quad (s := s5) (A := A5) (n := n5) (c := c5) (t := s8) (B := A8) (m := n8) (d := c8) (bz.ext E5_5)
    have r0 := b1.cell 0 (.bool s5) rfl
    have r1 := b1.cell 1 (.slice A5 n5 c5) rfl
    have r2 := b1.cell 2 (.bool s8) rfl
    have r3 := b1.cell 3 (.slice A8 n8 c8) rfl
    unfold set4 at r0 r1 r2 r3
    refine bodyPost_ret (v := .agg #[.bool s5, .slice A5 n5 c5, .bool s8, .slice A8 n8 c8]) (by simp [results, Tryz.results34, go_sem, r0, r1, r2, r3]) rfl ⟨s5, A5, n5, c5, s8, A8, n8, c8, rfl, ⟨?_, ?_⟩, b3 _ (extW.trans E5_5) (by omega)⟩
    · exact b2 _ _ _ _ _ _ (h5.ext (hx3.trans (hx4.trans hx5)))
    · exact b2 _ _ _ _ _ _ h8
end
end Go.Proofs.YtiioodgpkdbndaaGreatDoor
namespace Go.Proofs.YtiioodgpkdbndaaGreatDoor
open Go.RowKit
attribute [local go_sem ↓] Go.wp_at_zero Go.wp_at_succ
section
variable {w w' : World} {z y : Int} {q p : Rat} {L M : Nat} {s t s' t' : Bool} {A B A' B' : Option Addr} {n c m d n' c' m' d' : Nat}
theorem NR.inv (h : NR w p M s A n c t B m d) (hp : 0 < p.num) : NR w p⁻¹ M t B m d s A n c := by
  refine ⟨?_, ?_⟩
  · rw [Rat.num_inv, Int.sign_eq_one_of_pos hp, Int.one_mul]; exact h.den
  · rw [Rat.den_inv, if_neg (by omega)]
    have : ((p.num.natAbs : Nat) : Int) = p.num := Int.natAbs_of_nonneg (by omega)
    rw [this]; exact h.num
theorem rat_neg_div (q p : Rat) (hp : p ≠ 0) : -q * (-p)⁻¹ = q / p := by
  have h1 : (-p)⁻¹ = -(p⁻¹) := by
    refine Rat.inv_eq_of_mul_eq_one ?_
    rw [Rat.neg_mul, Rat.mul_neg, Rat.neg_neg, Rat.mul_inv_cancel _ hp]
  rw [h1, Rat.neg_mul, Rat.mul_neg, Rat.neg_neg, Rat.div_def]
set_option maxHeartbeats 4000000 in
theorem p_Div_0 (h : NR w q L s A n c t B m d) (k : NR w p M s' A' n' c' t' B' m' d') (_hL : L ≤ 1000) (hM : M ≤ 1000) (hp : p = 0) : Calls Tryz.prog 26 #[.agg #[.bool s, .slice A n c, .bool t, .slice B m d], .agg #[.bool s', .slice A' n' c', .bool t', .slice B' m' d']] w (RetZE 6 w) := by
  have hs : p.num.sign = 0 := by rw [hp]; rfl
  go_enter Tryz.func26, Tryz.ntmps26
  go_upto_region 1 with (fail)
  obtain ⟨W, hW, extW, bx, by_, bz, hz⟩ := box3 w 27 27 27 #[.bool s, .slice A n c, .bool t, .slice B m d] #[.bool s', .slice A' n' c', .bool t', .slice B' m' d'] #[Value.bool false, Value.slice none 0 0, Value.bool false, Value.slice none 0 0]
  rw [← hW]
  clear hW
  replace h := h.ext extW
  replace k := k.ext extW
  have y0 := by_.cell 0 (.bool s') rfl
  have y1 := by_.cell 1 (.slice A' n' c') rfl
  have y2 := by_.cell 2 (.bool t') rfl
  have y3 := by_.cell 3 (.slice B' m' d') rfl
  go_wp2_with fail
  refine (p_SignR k (by omega)).mono ?_
  rintro e V ⟨rfl, hxa⟩
  rw [hs]
  replace bx := bx.ext hxa
  replace by_ := by_.ext hxa
  replace bz := bz.ext hxa
  replace h := h.ext hxa
  replace k := k.ext hxa
  replace extW := extW.trans hxa
  clear hxa y0 y1 y2 y3
  have hE := Ext.refl V
  have z0 := (bz.ext hE).cell 0 _ rfl
  have z1 := (bz.ext hE).cell 1 _ rfl
  have z2 := (bz.ext hE).cell 2 _ rfl
  have z3 := (bz.ext hE).cell 3 _ rfl
  have f0 := (bz.ext hE).frozen 0
  have f1 := (bz.ext hE).frozen 1
  have f2 := (bz.ext hE).frozen 2
  have f3 := (bz.ext hE).frozen 3
  go_wp2_with fail
  obtain ⟨b1, b2, b3, b4⟩ := fin_quad (s := false) (A := none) (n := 0) (c := 0) (t := false) (B := none) (m := 0) (d := 0) (bz.ext hE)
  have r0 := b1.cell 0 (.bool false) rfl
  have r1 := b1.cell 1 (.slice none 0 0) rfl
  have r2 := b1.cell 2 (.bool false) rfl
  have r3 := b1.cell 3 (.slice none 0 0) rfl
  unfold set4 at r0 r1 r2 r3
  refine bodyPost_ret (v := .tuple #[.agg #[.bool false, .slice none 0 0, .bool false, .slice none 0 0], .int .i64 6]) (by simp [results, Tryz.results26, go_sem, r0, r1, r2, r3]) rfl ⟨rfl, b3 _ (extW.trans hE) (by omega)⟩
set_option maxHeartbeats 4000000 in
theorem p_Div_pos (h : NR w q L s A n c t B m d) (k : NR w p M s' A' n' c' t' B' m' d') (hL : L ≤ 1000) (hM : M ≤ 1000) (h64 : min L M < 64) (hT : Tab w) (hp : 0 < p.num) : Calls Tryz.prog 26 #[.agg #[.bool s, .slice A n c, .bool t, .slice B m d], .agg #[.bool s', .slice A' n' c', .bool t', .slice B' m' d']] w (RetNRE (q / p) (L + M) w) := by
  have hs : p.num.sign = 1 := Int.sign_eq_one_of_pos hp
  go_enter Tryz.func26, Tryz.ntmps26
  go_upto_region 1 with (fail)
  obtain ⟨W, hW, extW, bx, by_, bz, hz⟩ := box3 w 27 27 27 #[.bool s, .slice A n c, .bool t, .slice B m d] #[.bool s', .slice A' n' c', .bool t', .slice B' m' d'] #[Value.bool false, Value.slice none 0 0, Value.bool false, Value.slice none 0 0]
  rw [← hW]
  clear hW
  replace h := h.ext extW
  replace k := k.ext extW
  have y0 := by_.cell 0 (.bool s') rfl
  have y1 := by_.cell 1 (.slice A' n' c') rfl
  have y2 := by_.cell 2 (.bool t') rfl
  have y3 := by_.cell 3 (.slice B' m' d') rfl
  go_wp2_with fail
  refine (p_SignR k (by omega)).mono ?_
  rintro e V ⟨rfl, hxa⟩
  rw [hs]
  replace bx := bx.ext hxa
  replace by_ := by_.ext hxa
  replace bz := bz.ext hxa
  replace h := h.ext hxa
  replace k := k.ext hxa
  replace extW := extW.trans hxa
  clear hxa y0 y1 y2 y3
  have x0 := bx.cell 0 (.bool s) rfl
  have x1 := bx.cell 1 (.slice A n c) rfl
  have x2 := bx.cell 2 (.bool t) rfl
  have x3 := bx.cell 3 (.slice B m d) rfl
  have y0 := by_.cell 0 (.bool s') rfl
  have y1 := by_.cell 1 (.slice A' n' c') rfl
  have y2 := by_.cell 2 (.bool t') rfl
  have y3 := by_.cell 3 (.slice B' m' d') rfl
  go_wp2_with fail
  refine (p_MulR h (k.inv (by exact hp)) (by omega) (by omega) h64 (hT.ext extW)).mono ?_
  rintro e wm ⟨s9, A9, n9, c9, t9, B9, m9, d9, rfl, hr, hxm⟩
  have z0 := (bz.ext hxm).cell 0 _ rfl
  have z1 := (bz.ext hxm).cell 1 _ rfl
  have z2 := (bz.ext hxm).cell 2 _ rfl
  have z3 := (bz.ext hxm).cell 3 _ rfl
  have f0 := (bz.ext hxm).frozen 0
  have f1 := (bz.ext hxm).frozen 1
  have f2 := (bz.ext hxm).frozen 2
  have f3 := (bz.ext hxm).frozen 3
  go_wp2_with fail
  rw [← Rat.div_def] at hr
  obtain ⟨b1, b2, b3, b4⟩ := fin_quad (s := s9) (A := A9) (n := n9) (c := c9) (t := t9) (B := B9) (m := m9) (d := d9) (bz.ext hxm)
  have r0 := b1.cell 0 (.bool s9) rfl
  have r1 := b1.cell 1 (.slice A9 n9 c9) rfl
  have r2 := b1.cell 2 (.bool t9) rfl
  have r3 := b1.cell 3 (.slice B9 m9 d9) rfl
  unfold set4 at r0 r1 r2 r3
  refine bodyPost_ret (v := .tuple #[.agg #[.bool s9, .slice A9 n9 c9, .bool t9, .slice B9 m9 d9], .int .i64 0]) (by simp [results, Tryz.results26, go_sem, r0, r1, r2, r3]) rfl ⟨s9, A9, n9, c9, t9, B9, m9, d9, rfl, ⟨b2 _ _ _ _ _ _ hr.num, b2 _ _ _ _ _ _ hr.den⟩, b3 _ (extW.trans hxm) (by omega)⟩
set_option maxHeartbeats 8000000 in
theorem p_Div_neg (h : NR w q L s A n c t B m d) (k : NR w p M s' A' n' c' t' B' m' d') (hL : L ≤ 1000) (hM : M ≤ 1000) (h64 : min L M < 64) (hT : Tab w) (hp : p.num < 0) : Calls Tryz.prog 26 #[.agg #[.bool s, .slice A n c, .bool t, .slice B m d], .agg #[.bool s', .slice A' n' c', .bool t', .slice B' m' d']] w (RetNRE (q / p) (L + M) w) := by
  have hs : p.num.sign = -1 := Int.sign_eq_neg_one_of_neg hp
  have hp0 : p ≠ 0 := by rintro rfl; simp at hp
  go_enter Tryz.func26, Tryz.ntmps26
  go_upto_region 1 with (fail)
  obtain ⟨W, hW, extW, bx, by_, bz, hz⟩ := box3 w 27 27 27 #[.bool s, .slice A n c, .bool t, .slice B m d] #[.bool s', .slice A' n' c', .bool t', .slice B' m' d'] #[Value.bool false, Value.slice none 0 0, Value.bool false, Value.slice none 0 0]
  rw [← hW]
  clear hW
  replace h := h.ext extW
  replace k := k.ext extW
  have y0 := by_.cell 0 (.bool s') rfl
  have y1 := by_.cell 1 (.slice A' n' c') rfl
  have y2 := by_.cell 2 (.bool t') rfl
  have y3 := by_.cell 3 (.slice B' m' d') rfl
  go_wp2_with fail
  refine (p_SignR k (by omega)).mono ?_
  rintro e V ⟨rfl, hxa⟩
  rw [hs]
  replace bx := bx.ext hxa
  replace by_ := by_.ext hxa
  replace bz := bz.ext hxa
  replace h := h.ext hxa
  replace k := k.ext hxa
  replace extW := extW.trans hxa
  clear hxa y0 y1 y2 y3
  go_upto_region 5 with (fail)
  refine wpL.start 4 (by kernel_rfl) (fun _ _ _ _ _ => ⟨fun h => h, fun h => h⟩) (fun hQ ES => ?_)
  refine wpL.take (i := 0) (d := some 13) (v := ?v0_52) rfl rfl (by kernel_rfl) (by kernel_rfl) (by kernel_rfl) (by kernel_rfl) hQ (Or.inl ⟨by rfl, ?y0_52⟩) ES ?r0_52
  case y0_52 =>
    intro w' hSw
    have k00 := (bx.ext hSw).c4
    have k10 := (by_.ext hSw).c4
    go_simp
    try with_reducible rfl
  try simp only [Act.put]
  try simp only [List.setIfInBounds_toArray]
  try simp only [List.set_cons_succ]
  try simp only [List.set_cons_zero]
  refine wpL.take2 3 (i := 2) (d := some 15) (v := ?v2_53) rfl rfl (by kernel_rfl) (by kernel_rfl) (by kernel_rfl) (by kernel_rfl) hQ (Or.inl ⟨by rfl, ?y2_53⟩) ES ?r2_53
  case y2_53 =>
    intro w' hSw
    have k00 := (bx.ext hSw).c4
    have k10 := (by_.ext hSw).c4
    go_simp
    try with_reducible rfl
  try simp only [Act.put]
  try simp only [List.setIfInBounds_toArray]
  try simp only [List.set_cons_succ]
  try simp only [List.set_cons_zero]
  refine wpL.call (i := 1) rfl (by kernel_rfl) (fun K hK => ?_)
  go_simp
  (go_at_call 32; refine (p_NegR (h.ext ES) (by omega)).mono ?_; rintro e wk1 ⟨s1, A1, n1, c1, t1, B1, m1, d1, rfl, h1, hx0⟩; have E0_5 := Ext.trans ES hx0)
  refine hK.out _ _ E0_5 ?_
  clear hK K
  try simp only [Act.put]
  try simp only [List.setIfInBounds_toArray]
  try simp only [List.set_cons_succ]
  try simp only [List.set_cons_zero]
  refine wpL.call (i := 3) rfl (by kernel_rfl) (fun K hK => ?_)
  go_simp
  (go_at_call 32; refine (p_NegR (k.ext E0_5) (by omega)).mono ?_; rintro e wk2 ⟨s2, A2, n2, c2, t2, B2, m2, d2, rfl, h2, hx1⟩; have E1_5 := Ext.trans E0_5 hx1)
  refine hK.out _ _ E1_5 ?_
  clear hK K
  try simp only [Act.put]
  try simp only [List.setIfInBounds_toArray]
  try simp only [List.set_cons_succ]
  try simp only [List.set_cons_zero]
  have z0 := (bx.ext E1_5).cell 0 _ rfl
  have z1 := (bx.ext E1_5).cell 1 _ rfl
  have z2 := (bx.ext E1_5).cell 2 _ rfl
  have z3 := (bx.ext E1_5).cell 3 _ rfl
  have f0 := (bx.ext E1_5).frozen 0
  have f1 := (bx.ext E1_5).frozen 1
  have f2 := (bx.ext E1_5).frozen 2
  have f3 := (bx.ext E1_5).frozen 3
  have u0 := (by_.ext E1_5).cell 0 _ rfl
  have u1 := (by_.ext E1_5).cell 1 _ rfl
  have u2 := (by_.ext E1_5).cell 2 _ rfl
  have u3 := (by_.ext E1_5).cell 3 _ rfl
  have v0 := (by_.ext E1_5).frozen 0
  have v1 := (by_.ext E1_5).frozen 1
  have v2 := (by_.ext E1_5).frozen 2
  have v3 := (by_.ext E1_5).frozen 3
  refine wpL.tail (i := 4) rfl (by kernel_rfl) (by kernel_rfl) (fun K hK => ?_)
  go_simp
  refine hK.out _ _ ?_
  clear hK K
  try simp only [Act.put]
  try simp only [List.setIfInBounds_toArray]
  try simp only [List.set_cons_succ]
  try simp only [List.set_cons_zero]
  refine wpL.tail (i := 5) rfl (by kernel_rfl) (by kernel_rfl) (fun K hK => ?_)
  go_simp
  refine hK.out _ _ ?_
  clear hK K
  try simp only [Act.put]
  try simp only [List.setIfInBounds_toArray]
  try simp only [List.set_cons_succ]
  try simp only [List.set_cons_zero]
  refine wpL.done (by kernel_rfl) ?_ _
  clear hQ
  refine at_exit (fun U => Ext w U ∧ Box U w.heap.size 27 #[.bool s1, .slice A1 n1 c1, .bool t1, .slice B1 m1 d1] ∧ Box U (w.heap.size + 1) 27 #[.bool s2, .slice A2 n2 c2, .bool t2, .slice B2 m2 d2] ∧ Box U (w.heap.size + 1 + 1) 27 #[Value.bool false, Value.slice none 0 0, Value.bool false, Value.slice none 0 0] ∧ NR U (-q) L s1 A1 n1 c1 t1 B1 m1 d1 ∧ NR U (-p) M s2 A2 n2 c2 t2 B2 m2 d2) ?_ ?_
  · have q1 := fin_quad (s := s1) (A := A1) (n := n1) (c := c1) (t := t1) (B := B1) (m := m1) (d := d1) (bx.ext E1_5)
    have q2 := fin_quad (s := s2) (A := A2) (n := n2) (c := c2) (t := t2) (B := B2) (m := m2) (d := d2) (q1.2.2.2 _ _ _ (by omega) (by_.ext E1_5))
    have hn1 : NR wk2 (-q) L s1 A1 n1 c1 t1 B1 m1 d1 := h1.ext hx1
    exact ⟨q2.2.2.1 _ (q1.2.2.1 _ (extW.trans E1_5) (by omega)) (by omega), q2.2.2.2 _ _ _ (by omega) q1.1, q2.1, q2.2.2.2 _ _ _ (by omega) (q1.2.2.2 _ _ _ (by omega) (bz.ext E1_5)), ⟨q2.2.1 _ _ _ _ _ _ (q1.2.1 _ _ _ _ _ _ hn1.num), q2.2.1 _ _ _ _ _ _ (q1.2.1 _ _ _ _ _ _ hn1.den)⟩, ⟨q2.2.1 _ _ _ _ _ _ (q1.2.1 _ _ _ _ _ _ h2.num), q2.2.1 _ _ _ _ _ _ (q1.2.1 _ _ _ _ _ _ h2.den)⟩⟩
  clear extW bx by_ bz h k
  rintro U ⟨extW, bx, by_, bz, h, k⟩
  have x0 := bx.cell 0 (.bool s1) rfl
  have x1 := bx.cell 1 (.slice A1 n1 c1) rfl
  have x2 := bx.cell 2 (.bool t1) rfl
  have x3 := bx.cell 3 (.slice B1 m1 d1) rfl
  have y0 := by_.cell 0 (.bool s2) rfl
  have y1 := by_.cell 1 (.slice A2 n2 c2) rfl
  have y2 := by_.cell 2 (.bool t2) rfl
  have y3 := by_.cell 3 (.slice B2 m2 d2) rfl
  go_wp2_with fail
  refine (p_MulR h (k.inv (by rw [Rat.neg_num]; omega)) (by omega) (by omega) h64 (hT.ext extW)).mono ?_
  rintro e wm ⟨s9, A9, n9, c9, t9, B9, m9, d9, rfl, hr, hxm⟩
  have z0 := (bz.ext hxm).cell 0 _ rfl
  have z1 := (bz.ext hxm).cell 1 _ rfl
  have z2 := (bz.ext hxm).cell 2 _ rfl
  have z3 := (bz.ext hxm).cell 3 _ rfl
  have f0 := (bz.ext hxm).frozen 0
  have f1 := (bz.ext hxm).frozen 1
  have f2 := (bz.ext hxm).frozen 2
  have f3 := (bz.ext hxm).frozen 3
  go_wp2_with fail
  rw [rat_neg_div q p hp0] at hr
  obtain ⟨b1, b2, b3, b4⟩ := fin_quad (s := s9) (A := A9) (n := n9) (c := c9) (t := t9) (B := B9) (m := m9) (d := d9) (bz.ext hxm)
  have r0 := b1.cell 0 (.bool s9) rfl
  have r1 := b1.cell 1 (.slice A9 n9 c9) rfl
  have r2 := b1.cell 2 (.bool t9) rfl
  have r3 := b1.cell 3 (.slice B9 m9 d9) rfl
  unfold set4 at r0 r1 r2 r3
  refine bodyPost_ret (v := .tuple #[.agg #[.bool s9, .slice A9 n9 c9, .bool t9, .slice B9 m9 d9], .int .i64 0]) (by simp [results, Tryz.results26, go_sem, r0, r1, r2, r3]) rfl ⟨s9, A9, n9, c9, t9, B9, m9, d9, rfl, ⟨b2 _ _ _ _ _ _ hr.num, b2 _ _ _ _ _ _ hr.den⟩, b3 _ (extW.trans hxm) (by omega)⟩
end
end Go.Proofs.YtiioodgpkdbndaaGreatDoor
namespace Go.Proofs.YtiioodgpkdbndaaGreatDoor
open Go.RowKit
attribute [local go_sem ↓] Go.wp_at_zero Go.wp_at_succ
section
variable {w w' : World} {z y : Int} {q p : Rat} {L M : Nat} {s t s' t' : Bool} {A B A' B' : Option Addr} {n c m d n' c' m' d' : Nat}
set_option maxHeartbeats 1000000 in
theorem q_one (h : NI w z L s A n c) : Calls Tryz.prog 66 #[.agg #[.bool s, .slice A n c]] w fun e w' => e = .returned (.bool (decide (z = 1))) ∧ Ext w w' := by
  have h1 := h.one_iff
  by_cases hn : n = 1
  · subst hn
    obtain ⟨xs, hl, hx, _⟩ := h.out
    obtain ⟨b, off, rfl, hb, hc⟩ := hx.at_ (i := 0) (by omega)
    simp only [Nat.add_zero] at hc
    cases s with
    | true =>
      have hd : decide (z = 1) = false := decide_eq_false fun hz => by have := (h1.1 hz).1; cases this
      rw [hd]
      generalize (xs[0]'(by omega) : Nat) = k at hc
      have hc2 := ((Ext.refl w).alloc (.cells #[.bool true, .slice (some ⟨b, off, none⟩) 1 c] 24)).cellv hc
      clear h1 h hx hl
      by_cases hk : (k : Int) = 1
      · have hb1 : ((k : Int) == 1) = true := beq_iff_eq.2 hk
        go_enter Tryz.func66, Tryz.ntmps66
        go_wp2
        all_goals (go_ret; exact ⟨rfl, (Ext.refl w).alloc _⟩)
      · have hb1 : ((k : Int) == 1) = false := beq_eq_false_iff_ne.2 hk
        go_enter Tryz.func66, Tryz.ntmps66
        go_wp2
        all_goals (go_ret; exact ⟨rfl, (Ext.refl w).alloc _⟩)
    | false =>
      have hv : (decide (z = 1)) = (((xs[0]'(by omega) : Nat) : Int) == 1) := by
        by_cases hz : z = 1
        · obtain ⟨_, _, b', off', hA, hc'⟩ := h1.1 hz
          injection hA with hA
          injection hA with e1 e2
          subst e1; subst e2
          rw [hc] at hc'
          injection hc' with hc'
          injection hc' with _ hc'
          rw [hc']
          simp [hz]
        · have : ¬ ((xs[0]'(by omega) : Nat) : Int) = 1 := fun h2 => hz (h1.2 ⟨rfl, rfl, b, off, rfl, by rw [hc, h2]⟩)
          rw [decide_eq_false hz]
          exact (beq_eq_false_iff_ne.2 this).symm
      rw [hv]
      generalize (xs[0]'(by omega) : Nat) = k at hc
      have hc2 := ((Ext.refl w).alloc (.cells #[.bool false, .slice (some ⟨b, off, none⟩) 1 c] 24)).cellv hc
      clear h1 h hv hx hl
      by_cases hk : (k : Int) = 1
      · have hb1 : ((k : Int) == 1) = true := beq_iff_eq.2 hk
        rw [hb1]
        go_enter Tryz.func66, Tryz.ntmps66
        go_wp2
        all_goals (go_ret; exact ⟨rfl, (Ext.refl w).alloc _⟩)
      · have hb1 : ((k : Int) == 1) = false := beq_eq_false_iff_ne.2 hk
        rw [hb1]
        go_enter Tryz.func66, Tryz.ntmps66
        go_wp2
        all_goals (go_ret; exact ⟨rfl, (Ext.refl w).alloc _⟩)
  · have hd : decide (z = 1) = false := decide_eq_false fun hz => hn (h1.1 hz).2.1
    have hn2 : ((n : Int) == 1) = false := by rw [beq_eq_false_iff_ne]; omega
    rw [hd]
    go_enter Tryz.func66, Tryz.ntmps66
    go_wp2
    all_goals (go_ret; exact ⟨rfl, (Ext.refl w).alloc _⟩)
end
end Go.Proofs.YtiioodgpkdbndaaGreatDoor
namespace Go.Proofs.YtiioodgpkdbndaaGreatDoor
open Go.RowKit
attribute [local go_sem ↓] Go.wp_at_zero Go.wp_at_succ
section
variable {w w' : World} {z y : Int} {q p : Rat} {L M : Nat} {s t s' t' : Bool} {A B A' B' : Option Addr} {n c m d n' c' m' d' : Nat}
set_option maxHeartbeats 2000000 in
theorem q_SameInt (h : NI w z L s A n c) (k : NI w z M t B m d) : Calls Tryz.prog 42 #[.agg #[.bool s, .slice A n c], .agg #[.bool t, .slice B m d]] w fun e w' => e = .returned (.bool true) ∧ Ext w w' := by
  obtain ⟨xs, hn, hx, hc, hcm, hi, hl⟩ := h.out
  obtain ⟨ys, hm, hy, hd, hdm, hj, hk⟩ := k.out
  obtain ⟨rfl, rfl⟩ := hi.unique hj
  obtain rfl : n = m := by omega
  have hN9 : n ≤ 9223372036854775807 := by unfold maxLen at hcm; omega
  have Hn := Lib.hid hn
  clear h k hi hj hl hk hn hm
  go_enter Tryz.func42, Tryz.ntmps42
  go_upto_region 1 with (fail)
  obtain ⟨W, hW, extW, bx, by_, hz⟩ := box2 w 24 24 #[.bool s, .slice A n c] #[.bool s, .slice B n d]
  rw [← hW]
  clear hW
  replace hx := hx.ext extW
  replace hy := hy.ext extW
  have x0 := bx.cell 0 (.bool s) rfl
  have x1 := bx.cell 1 (.slice A n c) rfl
  have y0 := by_.cell 0 (.bool s) rfl
  have y1 := by_.cell 1 (.slice B n d) rfl
  have hss : (s != s) = false := by simp
  have hnn : ((n : Int) != (n : Int)) = false := by simp
  go_wp2
  clear x0 x1 y0 y1 hss hnn
  go_loopw [5] (fun i V => ∃ k : Nat, i = .int .i64 (k : Int) ∧ k ≤ n ∧ Ext W V) (fun i _ => n - (intOf i).toNat)
  case atStart => exact ⟨0, rfl, by omega, Ext.refl _⟩
  case round =>
    obtain ⟨k, rfl, hk, hext⟩ := hrel
    have x1 := (bx.ext hext).cell 1 (.slice A n c) rfl
    have y1 := (by_.ext hext).cell 1 (.slice B n d) rfl
    by_cases hlt : k < n
    · have hlx : k < xs.length := by rw [Hn.out]; exact hlt
      obtain ⟨b1, o1, rfl, hb1, hc1⟩ := (hx.ext hext).at_ hlx
      obtain ⟨b2, o2, rfl, hb2, hc2⟩ := (hy.ext hext).at_ hlx
      generalize xs[k] = v at hc1 hc2
      have hne : ((v : Int) != (v : Int)) = false := by simp
      have i1 : (k : Int) < (n : Int) := by omega
      go_upto_region 6 with (fail)
      go_quiet (fail)
      go_wp2_with fail
      go_roundw
      case rel => exact ⟨k + 1, by go_num, by omega, hext.drewN _⟩
      case measure => simp [intOf]; omega
    · have hlt2 : decide ((k : Int) < (n : Int)) = false := decide_eq_false (by omega)
      go_wp2
      go_ret
      exact ⟨rfl, extW.trans hext⟩
set_option maxHeartbeats 2000000 in
theorem q_Same (h : NR w q L s A n c t B m d) (k : NR w q M s' A' n' c' t' B' m' d') : Calls Tryz.prog 16 #[.agg #[.bool s, .slice A n c, .bool t, .slice B m d], .agg #[.bool s', .slice A' n' c', .bool t', .slice B' m' d']] w fun e w' => e = .returned (.bool true) ∧ Ext w w' := by
  go_enter Tryz.func16, Tryz.ntmps16
  go_upto_region 1 with (fail)
  obtain ⟨W, hW, extW, bx, by_, hz⟩ := box2 w 27 27 #[.bool s, .slice A n c, .bool t, .slice B m d] #[.bool s', .slice A' n' c', .bool t', .slice B' m' d']
  rw [← hW]
  clear hW
  replace h := h.ext extW
  replace k := k.ext extW
  have x0 := bx.cell 0 (.bool s) rfl
  have x1 := bx.cell 1 (.slice A n c) rfl
  have x2 := bx.cell 2 (.bool t) rfl
  have x3 := bx.cell 3 (.slice B m d) rfl
  have y0 := by_.cell 0 (.bool s') rfl
  have y1 := by_.cell 1 (.slice A' n' c') rfl
  have y2 := by_.cell 2 (.bool t') rfl
  have y3 := by_.cell 3 (.slice B' m' d') rfl
  go_wp2_with fail
  refine (q_SameInt h.num k.num).mono ?_
  rintro e wb ⟨rfl, hxb⟩
  replace bx := bx.ext hxb
  replace by_ := by_.ext hxb
  replace h := h.ext hxb
  replace k := k.ext hxb
  replace extW := extW.trans hxb
  clear hxb x0 x1 x2 x3 y0 y1 y2 y3
  have x0 := bx.cell 0 (.bool s) rfl
  have x1 := bx.cell 1 (.slice A n c) rfl
  have x2 := bx.cell 2 (.bool t) rfl
  have x3 := bx.cell 3 (.slice B m d) rfl
  have y0 := by_.cell 0 (.bool s') rfl
  have y1 := by_.cell 1 (.slice A' n' c') rfl
  have y2 := by_.cell 2 (.bool t') rfl
  have y3 := by_.cell 3 (.slice B' m' d') rfl
  go_wp2_with fail
  refine (q_SameInt h.den k.den).mono ?_
  rintro e wc ⟨rfl, hxc⟩
  go_wp2_with fail
  go_ret
  exact ⟨rfl, extW.trans hxc⟩
end
end Go.Proofs.YtiioodgpkdbndaaGreatDoor
namespace Go.Proofs.YtiioodgpkdbndaaGreatDoor
open Go.RowKit
attribute [local go_sem ↓] Go.wp_at_zero Go.wp_at_succ
/-- the words of a number in lowest terms. -/
theorem NR.raw {w : World} {q : Rat} {L : Nat} {s : Bool} {A : Option Addr} {n c : Nat} {t : Bool} {B : Option Addr} {m d : Nat} (h : NR w q L s A n c t B m d) :
    ∃ xs ys, RI w A n c xs ∧ RI w B m d ys ∧ validQ s xs t ys = true ∧ n ≤ L ∧ m ≤ L ∧ (∀ w' A' c' B' d', RI w' A' n c' xs → RI w' B' m d' ys → NR w' q L s A' n c' t B' m d') := by
  obtain ⟨xs, h1, h2, h3, h4, h5, h6⟩ := h.num.out
  obtain ⟨ys, k1, k2, k3, k4, k5, k6⟩ := h.den.out
  refine ⟨xs, ys, ⟨h1, h2, h3, h4⟩, ⟨k1, k2, k3, k4⟩, ?_, h6, k6, fun w' A' c' B' d' r1 r2 => ⟨⟨xs, r1.len, r1.rd, r1.cap, r1.top, h5, h6⟩, ⟨ys, r2.len, r2.rd, r2.cap, r2.top, k5, k6⟩⟩⟩
  unfold validQ
  rw [validB_int h5, validB_int k5, h5.abs, k5.abs, k5.eq]
  have hd := q.den_pos
  have hr := q.reduced
  unfold Nat.Coprime at hr
  simp [hr]
  omega
section
variable {w w' : World} {z y : Int} {q p : Rat} {L M : Nat} {s t s' t' : Bool} {A B A' B' : Option Addr} {n c m d n' c' m' d' : Nat} {xs ys xs' ys' : List Nat}
set_option maxHeartbeats 4000000 in
theorem q_ValidRaw (h : RI w A n c xs) (k : RI w B m d ys) (h1 : n ≤ 3000) (h2 : m ≤ 3000) : Calls Tryz.prog 24 #[.agg #[.bool s, .slice A n c, .bool t, .slice B m d]] w fun e w' => e = .returned (.bool (validQ s xs t ys)) ∧ Ext w w' := by
  obtain ⟨r, hr⟩ : ∃ r, validQ s xs t ys = r := ⟨_, rfl⟩
  have HR := Lib.hid hr
  rw [hr]
  clear hr
  go_enter Tryz.func24, Tryz.ntmps24
  go_upto_region 1 with (fail)
  obtain ⟨W, hW, extW, bx, hz⟩ := box1 w 27 #[.bool s, .slice A n c, .bool t, .slice B m d]
  rw [← hW]
  clear hW
  replace h := h.ext extW
  replace k := k.ext extW
  have x0 := bx.cell 0 (.bool s) rfl
  have x1 := bx.cell 1 (.slice A n c) rfl
  have x2 := bx.cell 2 (.bool t) rfl
  have x3 := bx.cell 3 (.slice B m d) rfl
  go_wp2_with fail
  refine (ref_Valid h.len h.rd h.cap h.top (by omega)).mono ?_
  rintro e wa ⟨rfl, hxa⟩
  replace bx := bx.ext hxa
  replace h := h.ext hxa
  replace k := k.ext hxa
  replace extW := extW.trans hxa
  clear hxa x0 x1 x2 x3
  have x0 := bx.cell 0 (.bool s) rfl
  have x1 := bx.cell 1 (.slice A n c) rfl
  have x2 := bx.cell 2 (.bool t) rfl
  have x3 := bx.cell 3 (.slice B m d) rfl
  cases hv1 : validB s xs with
  | false =>
    go_wp2_with fail
    go_ret
    exact ⟨by rw [← HR.out]; unfold validQ; rw [hv1]; rfl, extW⟩
  | true =>
    go_wp2_with fail
    refine (ref_Valid k.len k.rd k.cap k.top (by omega)).mono ?_
    rintro e wb ⟨rfl, hxb⟩
    replace bx := bx.ext hxb
    replace h := h.ext hxb
    replace k := k.ext hxb
    replace extW := extW.trans hxb
    clear hxb x0 x1 x2 x3
    have x0 := bx.cell 0 (.bool s) rfl
    have x1 := bx.cell 1 (.slice A n c) rfl
    have x2 := bx.cell 2 (.bool t) rfl
    have x3 := bx.cell 3 (.slice B m d) rfl
    cases hv2 : validB t ys with
    | false =>
      go_wp2_with fail
      go_ret
      exact ⟨by rw [← HR.out]; unfold validQ; rw [hv1, hv2]; rfl, extW⟩
    | true =>
      have H1 := NI.of_raw (L := 3000) h hv1 h1
      have H2 := NI.of_raw (L := 3000) k hv2 h2
      have hvq : validQ s xs t ys = (decide (0 < ival t ys) && decide (((Nat.gcd (val xs) (val ys) : Nat) : Int) = 1)) := by unfold validQ; rw [hv1, hv2]; rfl
      rw [HR.out] at hvq
      have HVQ := Lib.hid hvq
      clear hv1 hv2 hvq HR
      go_wp2_with fail
      refine (q_Sign H2 (by omega)).mono ?_
      rintro e wc ⟨rfl, hxc⟩
      replace bx := bx.ext hxc
      replace H1 := H1.ext hxc
      replace H2 := H2.ext hxc
      replace extW := extW.trans hxc
      clear hxc x0 x1 x2 x3 h k
      have x0 := bx.cell 0 (.bool s) rfl
      have x1 := bx.cell 1 (.slice A n c) rfl
      have x2 := bx.cell 2 (.bool t) rfl
      have x3 := bx.cell 3 (.slice B m d) rfl
      by_cases hp : 0 < ival t ys
      · rw [Int.sign_eq_one_of_pos hp]
        have hvr : r = decide (((Nat.gcd (val xs) (val ys) : Nat) : Int) = 1) := by rw [HVQ.out, decide_eq_true hp, Bool.true_and]
        have HP := Lib.hid hvr
        clear HVQ hvr
        have ab1 := ival_ab s xs
        have ab2 := ival_ab t ys
        clear hp
        go_wp2_with fail
        refine (q_GCD H1 H2 (by omega) (by omega)).mono ?_
        rintro e wd ⟨s1, A1, n1, c1, rfl, hg, hxd⟩
        rw [ab1, ab2] at hg
        go_wp2_with fail
        refine (q_one hg).mono ?_
        rintro e we ⟨rfl, hxe⟩
        go_wp2_with fail
        go_ret
        exact ⟨by rw [HP.out]; rfl, extW.trans (hxd.trans hxe)⟩
      · have hvr : r = false := by rw [HVQ.out, decide_eq_false hp, Bool.false_and]
        subst hvr
        clear HVQ
        have hs : (ival t ys).sign = 0 ∨ (ival t ys).sign = -1 := by
          rcases Int.lt_trichotomy (ival t ys) 0 with h | h | h
          · exact Or.inr (Int.sign_eq_neg_one_of_neg h)
          · exact Or.inl (by rw [h]; rfl)
          · exact absurd h hp
        clear hp
        rcases hs with hs | hs
        · rw [hs]
          go_wp2_with fail
          go_ret
          exact ⟨rfl, extW⟩
        · rw [hs]
          go_wp2_with fail
          go_ret
          exact ⟨rfl, extW⟩
def fewB (n m : Nat) (s : Bool) (xs : List Nat) (t : Bool) (ys : List Nat) : Bool := decide (n ≤ 20) && (decide (m ≤ 20) && validQ s xs t ys)
set_option maxHeartbeats 2000000 in
theorem q_Few (h : RI w A n c xs) (k : RI w B m d ys) : Calls Tryz.prog 67 #[.agg #[.bool s, .slice A n c, .bool t, .slice B m d], .int .i64 20] w fun e w' => e = .returned (.bool (fewB n m s xs t ys)) ∧ Ext w w' := by
  by_cases h1 : n ≤ 20
  · have d1 : decide ((n : Int) ≤ (20 : Int)) = true := decide_eq_true (by omega)
    by_cases h2 : m ≤ 20
    · have d2 : decide ((m : Int) ≤ (20 : Int)) = true := decide_eq_true (by omega)
      have hf : fewB n m s xs t ys = validQ s xs t ys := by unfold fewB; rw [decide_eq_true h1, decide_eq_true h2]; rfl
      rw [hf]
      clear hf
      go_enter Tryz.func67, Tryz.ntmps67
      go_upto_region 1 with (fail)
      obtain ⟨W, hW, extW, bx, hz⟩ := box1 w 27 #[.bool s, .slice A n c, .bool t, .slice B m d]
      rw [← hW]
      clear hW
      replace h := h.ext extW
      replace k := k.ext extW
      have x0 := bx.cell 0 (.bool s) rfl
      have x1 := bx.cell 1 (.slice A n c) rfl
      have x2 := bx.cell 2 (.bool t) rfl
      have x3 := bx.cell 3 (.slice B m d) rfl
      go_wp2_with fail
      refine (q_ValidRaw h k (by omega) (by omega)).mono ?_
      rintro e wd ⟨rfl, hxd⟩
      go_wp2_with fail
      go_ret
      exact ⟨rfl, extW.trans hxd⟩
    · have d2 : decide ((m : Int) ≤ (20 : Int)) = false := decide_eq_false (by omega)
      have hf : fewB n m s xs t ys = false := by unfold fewB; rw [decide_eq_true h1, decide_eq_false h2]; rfl
      rw [hf]
      clear hf
      go_enter Tryz.func67, Tryz.ntmps67
      go_upto_region 1 with (fail)
      obtain ⟨W, hW, extW, bx, hz⟩ := box1 w 27 #[.bool s, .slice A n c, .bool t, .slice B m d]
      rw [← hW]
      clear hW
      replace h := h.ext extW
      replace k := k.ext extW
      have x0 := bx.cell 0 (.bool s) rfl
      have x1 := bx.cell 1 (.slice A n c) rfl
      have x2 := bx.cell 2 (.bool t) rfl
      have x3 := bx.cell 3 (.slice B m d) rfl
      go_wp2_with fail
      go_ret
      exact ⟨rfl, extW⟩
  · have d1 : decide ((n : Int) ≤ (20 : Int)) = false := decide_eq_false (by omega)
    have hf : fewB n m s xs t ys = false := by unfold fewB; rw [decide_eq_false h1]; rfl
    rw [hf]
    clear hf
    go_enter Tryz.func67, Tryz.ntmps67
    go_upto_region 1 with (fail)
    obtain ⟨W, hW, extW, bx, hz⟩ := box1 w 27 #[.bool s, .slice A n c, .bool t, .slice B m d]
    rw [← hW]
    clear hW
    replace h := h.ext extW
    replace k := k.ext extW
    have x0 := bx.cell 0 (.bool s) rfl
    have x1 := bx.cell 1 (.slice A n c) rfl
    have x2 := bx.cell 2 (.bool t) rfl
    have x3 := bx.cell 3 (.slice B m d) rfl
    go_wp2_with fail
    go_ret
    exact ⟨rfl, extW⟩
set_option maxHeartbeats 4000000 in
theorem few3 {g : Nat} {u u' : Bool} {C D : Option Addr} {l e l' e' : Nat} {zs zs' : List Nat} (hb : Box w g 27 #[.bool s, .slice A n c, .bool t, .slice B m d, .bool s', .slice A' n' c', .bool t', .slice B' m' d', .bool u, .slice C l e, .bool u', .slice D l' e']) (h0 : RI w A n c xs) (k0 : RI w B m d ys) (h1 : RI w A' n' c' xs') (k1 : RI w B' m' d' ys') (h2 : RI w C l e zs) (k2 : RI w D l' e' zs') :
    Calls Tryz.prog 25 #[.slice (some ⟨g, 0, none⟩) 3 3] w fun e w' => e = .returned (.bool (fewB n m s xs t ys && (fewB n' m' s' xs' t' ys' && (fewB l l' u zs u' zs')))) ∧ Ext w w' := by
  go_enter Tryz.func25, Tryz.ntmps25
  go_wp2_with fail
  go_loopw [7] (fun i wr => ∃ k : Nat, k ≤ 3 ∧ i = .int .i64 (k : Int) ∧ Ext w wr ∧ ((0 < k → fewB n m s xs t ys = true) ∧ (1 < k → fewB n' m' s' xs' t' ys' = true) ∧ (2 < k → fewB l l' u zs u' zs' = true))) (fun i _ => 3 - (intOf i).toNat)
  case atStart => exact ⟨0, by omega, rfl, Ext.refl _, by simp⟩
  case round =>
    obtain ⟨k, hk, rfl, hext, hall⟩ := hrel
    have HA := Lib.hid hall
    clear hall
    have c0 := (hb.ext hext).cell 0 (.bool s) rfl
    have c1 := (hb.ext hext).cell 1 (.slice A n c) rfl
    have c2 := (hb.ext hext).cell 2 (.bool t) rfl
    have c3 := (hb.ext hext).cell 3 (.slice B m d) rfl
    have c4 := (hb.ext hext).cell 4 (.bool s') rfl
    have c5 := (hb.ext hext).cell 5 (.slice A' n' c') rfl
    have c6 := (hb.ext hext).cell 6 (.bool t') rfl
    have c7 := (hb.ext hext).cell 7 (.slice B' m' d') rfl
    have c8 := (hb.ext hext).cell 8 (.bool u) rfl
    have c9 := (hb.ext hext).cell 9 (.slice C l e) rfl
    have c10 := (hb.ext hext).cell 10 (.bool u') rfl
    have c11 := (hb.ext hext).cell 11 (.slice D l' e') rfl
    have hk2 : k = 0 ∨ k = 1 ∨ k = 2 ∨ k = 3 := by omega
    rcases hk2 with rfl | rfl | rfl | rfl
    · go_wp2_with (fail)
      refine (q_Few (h0.ext (hext.alloc _)) (k0.ext (hext.alloc _))).mono ?_
      rintro e V ⟨rfl, hxv⟩
      replace hext := (hext.alloc _).trans hxv
      cases hf : fewB n m s xs t ys with
      | true =>
        have HF := Lib.hid hf
        clear hf
        go_wp2_with fail
        go_roundw
        case rel => exact ⟨1, by omega, rfl, hext, by have := HA.out; simp [HF.out] at this ⊢⟩
        case measure => simp [intOf]
      | false =>
        have HF := Lib.hid hf
        clear hf
        go_wp2_with fail
        go_ret
        exact ⟨by have := HA.out; simp [HF.out] at this ⊢, hext⟩
    · go_wp2_with (fail)
      refine (q_Few (h1.ext (hext.alloc _)) (k1.ext (hext.alloc _))).mono ?_
      rintro e V ⟨rfl, hxv⟩
      replace hext := (hext.alloc _).trans hxv
      cases hf : fewB n' m' s' xs' t' ys' with
      | true =>
        have HF := Lib.hid hf
        clear hf
        go_wp2_with fail
        go_roundw
        case rel => exact ⟨2, by omega, rfl, hext, by have := HA.out; simp [HF.out] at this ⊢; exact this⟩
        case measure => simp [intOf]
      | false =>
        have HF := Lib.hid hf
        clear hf
        go_wp2_with fail
        go_ret
        exact ⟨by have := HA.out; simp [HF.out] at this ⊢, hext⟩
    · go_wp2_with (fail)
      refine (q_Few (h2.ext (hext.alloc _)) (k2.ext (hext.alloc _))).mono ?_
      rintro e V ⟨rfl, hxv⟩
      replace hext := (hext.alloc _).trans hxv
      cases hf : fewB l l' u zs u' zs' with
      | true =>
        have HF := Lib.hid hf
        clear hf
        go_wp2_with fail
        go_roundw
        case rel => exact ⟨3, by omega, rfl, hext, by have := HA.out; simp [HF.out] at this ⊢; exact this⟩
        case measure => simp [intOf]
      | false =>
        have HF := Lib.hid hf
        clear hf
        go_wp2_with fail
        go_ret
        exact ⟨by have := HA.out; simp [HF.out] at this ⊢, hext⟩
    · go_wp2_with fail
      go_ret
      exact ⟨by have := HA.out; simp at this; simp [this], hext⟩
end
section
variable {A : Option Addr} {c n : Nat} {xs : List Nat} {w : World} {s : Bool}
end
section
variable {w w' : World} {z y : Int} {q p : Rat} {L M : Nat} {s t s' t' : Bool} {A B A' B' : Option Addr} {n c m d n' c' m' d' : Nat} {xs ys xs' ys' : List Nat}
end
end Go.Proofs.YtiioodgpkdbndaaGreatDoor
namespace Go.Proofs.YtiioodgpkdbndaaGreatDoor
open Go.RowKit
attribute [local go_sem ↓] Go.wp_at_zero Go.wp_at_succ
/-- numbers that few accepts. -/
theorem few_nr {w : World} {A B : Option Addr} {n c m d : Nat} {s t : Bool} {xs ys : List Nat} (h : RI w A n c xs) (k : RI w B m d ys) (hf : fewB n m s xs t ys = true) : ∃ q : Rat, NR w q 20 s A n c t B m d := by
  unfold fewB at hf
  simp only [Bool.and_eq_true, decide_eq_true_eq] at hf
  exact NR.of_raw h k hf.2.2 hf.1 hf.2.1
section
variable {w w' : World} {q p r : Rat} {L : Nat} {s t s' t' u u' : Bool} {A B A' B' C D : Option Addr} {n c m d n' c' m' d' l e0 l' e' : Nat} {xs ys xs' ys' zs zs' : List Nat}
variable {z y : Int} {M : Nat}
theorem p_Div_nz (h : NR w q L s A n c t B m d) (k : NR w p M s' A' n' c' t' B' m' d') (hL : L ≤ 1000) (hM : M ≤ 1000) (h64 : min L M < 64) (hT : Tab w) (hp : p ≠ 0) : Calls Tryz.prog 26 #[.agg #[.bool s, .slice A n c, .bool t, .slice B m d], .agg #[.bool s', .slice A' n' c', .bool t', .slice B' m' d']] w (RetNRE (q / p) (L + M) w) := by
  rcases Int.lt_trichotomy p.num 0 with h1 | h1 | h1
  · exact p_Div_neg h k hL hM h64 hT h1
  · exact absurd (Rat.num_eq_zero.1 h1) hp
  · exact p_Div_pos h k hL hM h64 hT h1
end
end Go.Proofs.YtiioodgpkdbndaaGreatDoor
namespace Go.Proofs.YtiioodgpkdbndaaGreatDoor
open Go.ChangeShapes Go.WideShapes Go.ChangeAt Go.RowKit Go.Joins
theorem Tryz.cellsI : Tryz.prog.cellsOf 24 = 2 := by kernel_rfl
theorem Tryz.cellsW : Tryz.prog.cellsOf 71 = 1 := by kernel_rfl
section
variable {H : Type} {enc : TypeId × Value → H} {W : World} {base : Nat} {held : Bool}
theorem open_words {m : Nat} {v : Value} {y : DataW H × List MemPlace} (h : DataW.trod enc Tryz.prog W base (fun _ => true) held m 22 [v] = some y) :
    ∃ A n c xs, v = .slice A n c ∧ List.length xs = n ∧ Rd W A xs ∧ n ≤ c ∧ c ≤ maxLen := by
  rcases open_ints Tryz.underlying22 Tryz.underlying71 Tryz.cellsW h with ⟨hcs, _⟩ | ⟨a, len, cap, zs, hcs, _, hl, hm, hz, _, hcell, hwf⟩
  · injection hcs with hcs _
    subst hcs
    exact ⟨none, 0, 0, [], rfl, rfl, Rd.nil _ _, Nat.le_refl _, Nat.zero_le _⟩
  · injection hcs with hcs _
    subst hcs
    simp only [if_true] at hz
    have hb : ∀ n ∈ zs, 0 ≤ n ∧ n ≤ 4294967295 := by
      intro n hn
      have := hwf n hn
      simp [Lit.wf, IntKind.min, IntKind.max, IntKind.bits, IntKind.signed] at this
      omega
    refine ⟨some a, len, cap, (zs.take len).map Int.toNat, rfl, by simp; omega, ⟨?_, ?_⟩, hl, hm⟩
    · intro x hx
      obtain ⟨n, hn, rfl⟩ := List.mem_map.1 hx
      have := hb n (List.mem_of_mem_take hn)
      omega
    · intro hne
      have hpos : 0 < zs.length := by
        rcases Nat.eq_zero_or_pos zs.length with h0 | h0
        · exfalso
          apply hne
          have : zs = [] := List.eq_nil_of_length_eq_zero h0
          rw [this]; simp
        · exact h0
      obtain ⟨b, off, spot⟩ := a
      have hc0 := hcell 0 hpos
      have hspot : spot = none := by
        cases spot with
        | none => rfl
        | some q => simp [Addr.add, World.cell?] at hc0; split at hc0 <;> simp at hc0
      subst hspot
      refine ⟨b, off, rfl, cell_lt (p := ⟨b, off, none⟩) (by simpa [Addr.add] using hc0), fun i hi => ?_⟩
      simp only [List.length_map, List.length_take] at hi
      have hc := hcell i (by omega)
      have e1 : (⟨b, off, none⟩ : Addr).add i = ⟨b, off + i, none⟩ := by unfold Addr.add; split <;> simp_all
      rw [e1] at hc
      rw [hc]
      simp only [List.getElem_map, List.getElem_take]
      have hi2 : i < zs.length := by omega
      have e2 : zs.getD i 0 = zs[i] := by simp [List.getD, hi2]
      rw [e2]
      have := hb zs[i] (List.getElem_mem hi2)
      congr 2
      omega
end
end Go.Proofs.YtiioodgpkdbndaaGreatDoor
namespace Go.Proofs.YtiioodgpkdbndaaGreatDoor
open Go.ChangeShapes Go.WideShapes Go.ChangeAt Go.RowKit Go.Joins
theorem cellsR : Tryz.prog.cellsOf 27 = 4 := by kernel_rfl
theorem cellsB : Tryz.prog.cellsOf 4 = 1 := by kernel_rfl
theorem cellsS : Tryz.prog.cellsOf 22 = 1 := by kernel_rfl
section
variable {H : Type} {enc : TypeId × Value → H} {W : World} {base : Nat} {held : Bool}
theorem open_intc {m : Nat} {c0 c1 : Value} {y : DataW H × List MemPlace} (h : DataW.trod enc Tryz.prog W base (fun _ => true) held m 24 [c0, c1] = some y) :
    ∃ s A n c xs, c0 = .bool s ∧ c1 = .slice A n c ∧ RI W A n c xs := by
  obtain ⟨y0, y1, k, _, _, h0, h1⟩ := trod_struct2 Tryz.underlying24 h
  rw [cellsB] at h0
  rw [cellsS] at h1
  simp only [List.drop_zero, List.drop_succ_cons, List.take_succ_cons, List.take_zero] at h0 h1
  obtain ⟨s, e0, _⟩ := DataW.trod_bool Tryz.underlying4 h0
  injection e0 with e0 _
  obtain ⟨A, n, c, xs, rfl, g1, g2, g3, g4⟩ := open_words h1
  exact ⟨s, A, n, c, xs, e0, rfl, g1, g2, g3, g4⟩
set_option maxRecDepth 100000 in
theorem open_rat {r : Reach} {b0 : Nat} {v : Value} {d : DataW H} {p : List MemPlace} (hv : Value.okWide Tryz.prog W r b0 27 v) (h : DataW.Trod enc Tryz.prog W base (fun _ => true) held 27 v d p) :
    ∃ s A n c t B m d xs ys, v = .agg #[.bool s, .slice A n c, .bool t, .slice B m d] ∧ RI W A n c xs ∧ RI W B m d ys := by
  obtain ⟨cs, rfl, hsz⟩ := okWide_struct Tryz.underlying27 hv
  obtain ⟨c0, c1, c2, c3, rfl⟩ := array4 (hsz.trans cellsR)
  obtain ⟨fuel, hf⟩ := h
  obtain ⟨y0, y1, k, _, _, h0, h1⟩ := trod_struct2 Tryz.underlying27 hf
  rw [Tryz.cellsI] at h0 h1
  simp only [Value.cells, List.drop_zero, List.drop_succ_cons, List.take_succ_cons, List.take_zero] at h0 h1
  obtain ⟨s, A, n, c, xs, rfl, rfl, r1⟩ := open_intc h0
  obtain ⟨t, B, m, d, ys, rfl, rfl, r2⟩ := open_intc h1
  exact ⟨s, A, n, c, t, B, m, d, xs, ys, rfl, r1, r2⟩
end
set_option maxRecDepth 100000
end Go.Proofs.YtiioodgpkdbndaaGreatDoor
namespace Go.Proofs.YtiioodgpkdbndaaGreatDoor
open Go.RowKit
attribute [local go_sem ↓] Go.wp_at_zero Go.wp_at_succ
section
variable {w w' : World} {q p r : Rat} {L : Nat} {s t s' t' u u' : Bool} {A B A' B' C D : Option Addr} {n c m d n' c' m' d' l e0 l' e' : Nat} {xs ys xs' ys' zs zs' : List Nat}
set_option maxHeartbeats 16000000 in
set_option maxRecDepth 100000 in
theorem field_z (hA : Awake2) (hT : Tab w) (hP : TabP w) (h : NR w q 20 s A n c t B m d) (k : NR w p 20 s' A' n' c' t' B' m' d') (j : NR w r 20 u C l e0 u' D l' e') (hp : p = 0) :
    Calls Tryz.prog 7 #[.agg #[.bool s, .slice A n c, .bool t, .slice B m d], .agg #[.bool s', .slice A' n' c', .bool t', .slice B' m' d'], .agg #[.bool u, .slice C l e0, .bool u', .slice D l' e']] w fun e w' => e = .returned (.bool true) ∧ Ext w w' := by
  have HSG := Lib.hid (show p.num.sign = 0 by rw [hp]; rfl)
  have Hp := Lib.hid hp
  clear hp
  obtain ⟨xs, ys, ra0, rb0, hv0, hn0, hm0, _⟩ := h.raw
  obtain ⟨xs', ys', ra1, rb1, hv1, hn1, hm1, _⟩ := k.raw
  obtain ⟨zs, zs', ra2, rb2, hv2, hn2, hm2, _⟩ := j.raw
  have HF := Lib.hid (show (fewB n m s xs t ys && (fewB n' m' s' xs' t' ys' && (fewB l l' u zs u' zs'))) = true by unfold fewB; rw [decide_eq_true hn0, decide_eq_true hm0, hv0, decide_eq_true hn1, decide_eq_true hm1, hv1, decide_eq_true hn2, decide_eq_true hm2, hv2]; rfl)
  have hr0 := And.intro ra0 rb0
  have hr1 := And.intro ra1 rb1
  have hr2 := And.intro ra2 rb2
  clear ra0 rb0 hv0 hn0 hm0 ra1 rb1 hv1 hn1 hm1 ra2 rb2 hv2 hn2 hm2
  have HA := Lib.hid hA
  clear hA
  go_enter Tryz.func7, Tryz.ntmps7
  go_upto_region 1 with (fail)
  obtain ⟨W0, hW, extW, bx, by_, bz, hzz⟩ := box3 w 27 27 27 #[.bool s, .slice A n c, .bool t, .slice B m d] #[.bool s', .slice A' n' c', .bool t', .slice B' m' d'] #[.bool u, .slice C l e0, .bool u', .slice D l' e']
  rw [← hW]
  clear hW hzz
  go_wp2_with fail
  refine (HA.out _ (hT.ext extW) (hP.ext extW)).mono ?_
  rintro e W ⟨rfl, hxt⟩
  replace extW := extW.trans hxt
  replace bx := bx.ext hxt
  replace by_ := by_.ext hxt
  replace bz := bz.ext hxt
  clear hxt
  have bx0 := bx.cell 0 (.bool s) rfl
  have bx1 := bx.cell 1 (.slice A n c) rfl
  have bx2 := bx.cell 2 (.bool t) rfl
  have bx3 := bx.cell 3 (.slice B m d) rfl
  have by_0 := by_.cell 0 (.bool s') rfl
  have by_1 := by_.cell 1 (.slice A' n' c') rfl
  have by_2 := by_.cell 2 (.bool t') rfl
  have by_3 := by_.cell 3 (.slice B' m' d') rfl
  have bz0 := bz.cell 0 (.bool u) rfl
  have bz1 := bz.cell 1 (.slice C l e0) rfl
  have bz2 := bz.cell 2 (.bool u') rfl
  have bz3 := bz.cell 3 (.slice D l' e') rfl
  have hnb := Box.new W 27 #[.bool s, .slice A n c, .bool t, .slice B m d, .bool s', .slice A' n' c', .bool t', .slice B' m' d', .bool u, .slice C l e0, .bool u', .slice D l' e']
  have e1 := (Ext.refl W).alloc (.cells #[.bool s, .slice A n c, .bool t, .slice B m d, .bool s', .slice A' n' c', .bool t', .slice B' m' d', .bool u, .slice C l e0, .bool u', .slice D l' e'] 27)
  go_wp2_with fail
  refine (few3 hnb (hr0.1.ext (extW.trans e1)) (hr0.2.ext (extW.trans e1)) (hr1.1.ext (extW.trans e1)) (hr1.2.ext (extW.trans e1)) (hr2.1.ext (extW.trans e1)) (hr2.2.ext (extW.trans e1))).mono ?_
  rintro e W1 ⟨rfl, hxt⟩
  rw [HF.out]
  have ES := e1.trans hxt
  clear hnb e1 hxt
  clear bx0 bx1 bx2 bx3 by_0 by_1 by_2 by_3 bz0 bz1 bz2 bz3
  clear hr0 hr1 hr2 HF
  replace bx := bx.ext ES
  replace by_ := by_.ext ES
  replace bz := bz.ext ES
  replace extW := extW.trans ES
  replace h := h.ext extW
  replace k := k.ext extW
  replace j := j.ext extW
  clear ES
  go_upto_region 4 with (fail)
  refine at_world (fun V => Ext w V ∧ Box V (w.heap.size) 27 #[.bool s, .slice A n c, .bool t, .slice B m d] ∧ Box V (w.heap.size + 1) 27 #[.bool s', .slice A' n' c', .bool t', .slice B' m' d'] ∧ Box V (w.heap.size + 1 + 1) 27 #[.bool u, .slice C l e0, .bool u', .slice D l' e'] ∧ NR V q 20 s A n c t B m d ∧ NR V p 20 s' A' n' c' t' B' m' d' ∧ NR V r 20 u C l e0 u' D l' e') ⟨extW, bx, by_, bz, h, k, j⟩ ?_
  clear extW bx by_ bz h k j
  rintro W0x ⟨extW, bx, by_, bz, h, k, j⟩
  have ES0 := Ext.refl W0x
  refine wp_region_held_drew (S := Ext W0x) (by kernel_rfl) ES0.drew (fun ES => ?_)
  clear ES0
  refine Late.start0 (fun _ _ _ _ _ => ⟨fun h => h, fun h => h⟩) ES (fun hAl hQ => ?_)
  refine Late.take (i := 0) (d := some 22) (v := ?v0_29) rfl rfl (by kernel_rfl) (by kernel_rfl) (by kernel_rfl) (by kernel_rfl) hQ (Or.inl ⟨by rfl, ?y0_29⟩) ?r0_29
  case y0_29 =>
    intro w' hSw
    have k00 := (bx.ext hSw).c4
    have k10 := (by_.ext hSw).c4
    have k20 := (bz.ext hSw).c4
    go_simp
    try with_reducible rfl
  try simp only [Act.put]
  try simp only [List.setIfInBounds_toArray]
  try simp only [List.set_cons_succ]
  try simp only [List.set_cons_zero]
  refine Late.take (i := 1) (d := some 23) (v := ?v1_30) rfl rfl (by kernel_rfl) (by kernel_rfl) (by kernel_rfl) (by kernel_rfl) hQ (Or.inl ⟨by rfl, ?y1_30⟩) ?r1_30
  case y1_30 =>
    intro w' hSw
    have k00 := (bx.ext hSw).c4
    have k10 := (by_.ext hSw).c4
    have k20 := (bz.ext hSw).c4
    go_simp
    try with_reducible rfl
  try simp only [Act.put]
  try simp only [List.setIfInBounds_toArray]
  try simp only [List.set_cons_succ]
  try simp only [List.set_cons_zero]
  refine Late.take (i := 2) (d := some 24) (v := ?v2_31) rfl rfl (by kernel_rfl) (by kernel_rfl) (by kernel_rfl) (by kernel_rfl) hQ (Or.inl ⟨by rfl, ?y2_31⟩) ?r2_31
  case y2_31 =>
    intro w' hSw
    have k00 := (bx.ext hSw).c4
    have k10 := (by_.ext hSw).c4
    have k20 := (bz.ext hSw).c4
    go_simp
    try with_reducible rfl
  try simp only [Act.put]
  try simp only [List.setIfInBounds_toArray]
  try simp only [List.set_cons_succ]
  try simp only [List.set_cons_zero]
  refine Late.take (i := 3) (d := some 25) (v := ?v3_32) rfl rfl (by kernel_rfl) (by kernel_rfl) (by kernel_rfl) (by kernel_rfl) hQ (Or.inl ⟨by rfl, ?y3_32⟩) ?r3_32
  case y3_32 =>
    intro w' hSw
    have k00 := (bx.ext hSw).c4
    have k10 := (by_.ext hSw).c4
    have k20 := (bz.ext hSw).c4
    go_simp
    try with_reducible rfl
  try simp only [Act.put]
  try simp only [List.setIfInBounds_toArray]
  try simp only [List.set_cons_succ]
  try simp only [List.set_cons_zero]
  refine Late.take (i := 5) (d := some 27) (v := ?v5_33) rfl rfl (by kernel_rfl) (by kernel_rfl) (by kernel_rfl) (by kernel_rfl) hQ (Or.inl ⟨by rfl, ?y5_33⟩) ?r5_33
  case y5_33 =>
    intro w' hSw
    have k00 := (bx.ext hSw).c4
    have k10 := (by_.ext hSw).c4
    have k20 := (bz.ext hSw).c4
    go_simp
    try with_reducible rfl
  try simp only [Act.put]
  try simp only [List.setIfInBounds_toArray]
  try simp only [List.set_cons_succ]
  try simp only [List.set_cons_zero]
  refine Late.take (i := 7) (d := some 29) (v := ?v7_34) rfl rfl (by kernel_rfl) (by kernel_rfl) (by kernel_rfl) (by kernel_rfl) hQ (Or.inl ⟨by rfl, ?y7_34⟩) ?r7_34
  case y7_34 =>
    intro w' hSw
    have k00 := (bx.ext hSw).c4
    have k10 := (by_.ext hSw).c4
    have k20 := (bz.ext hSw).c4
    go_simp
    try with_reducible rfl
  try simp only [Act.put]
  try simp only [List.setIfInBounds_toArray]
  try simp only [List.set_cons_succ]
  try simp only [List.set_cons_zero]
  refine Late.take (i := 8) (d := some 30) (v := ?v8_35) rfl rfl (by kernel_rfl) (by kernel_rfl) (by kernel_rfl) (by kernel_rfl) hQ (Or.inl ⟨by rfl, ?y8_35⟩) ?r8_35
  case y8_35 =>
    intro w' hSw
    have k00 := (bx.ext hSw).c4
    have k10 := (by_.ext hSw).c4
    have k20 := (bz.ext hSw).c4
    go_simp
    try with_reducible rfl
  try simp only [Act.put]
  try simp only [List.setIfInBounds_toArray]
  try simp only [List.set_cons_succ]
  try simp only [List.set_cons_zero]
  refine Late.take (i := 9) (d := some 31) (v := ?v9_36) rfl rfl (by kernel_rfl) (by kernel_rfl) (by kernel_rfl) (by kernel_rfl) hQ (Or.inl ⟨by rfl, ?y9_36⟩) ?r9_36
  case y9_36 =>
    intro w' hSw
    have k00 := (bx.ext hSw).c4
    have k10 := (by_.ext hSw).c4
    have k20 := (bz.ext hSw).c4
    go_simp
    try with_reducible rfl
  try simp only [Act.put]
  try simp only [List.setIfInBounds_toArray]
  try simp only [List.set_cons_succ]
  try simp only [List.set_cons_zero]
  refine Late.take (i := 10) (d := some 32) (v := ?v10_37) rfl rfl (by kernel_rfl) (by kernel_rfl) (by kernel_rfl) (by kernel_rfl) hQ (Or.inl ⟨by rfl, ?y10_37⟩) ?r10_37
  case y10_37 =>
    intro w' hSw
    have k00 := (bx.ext hSw).c4
    have k10 := (by_.ext hSw).c4
    have k20 := (bz.ext hSw).c4
    go_simp
    try with_reducible rfl
  try simp only [Act.put]
  try simp only [List.setIfInBounds_toArray]
  try simp only [List.set_cons_succ]
  try simp only [List.set_cons_zero]
  refine Late.take (i := 11) (d := some 33) (v := ?v11_38) rfl rfl (by kernel_rfl) (by kernel_rfl) (by kernel_rfl) (by kernel_rfl) hQ (Or.inl ⟨by rfl, ?y11_38⟩) ?r11_38
  case y11_38 =>
    intro w' hSw
    have k00 := (bx.ext hSw).c4
    have k10 := (by_.ext hSw).c4
    have k20 := (bz.ext hSw).c4
    go_simp
    try with_reducible rfl
  try simp only [Act.put]
  try simp only [List.setIfInBounds_toArray]
  try simp only [List.set_cons_succ]
  try simp only [List.set_cons_zero]
  refine Late.call (i := 4) rfl (by kernel_rfl) hAl (by kernel_rfl) (by kernel_rfl) (by kernel_rfl) hQ (fun w4 e4 E4 K hK => ?_)
  go_simp
  (go_at_call 28; refine (p_AddR (h.ext E4) (k.ext E4) (by omega) (by omega) (by omega) (hT.ext (extW.trans E4))).mono ?_; rintro e wk4 ⟨s1_, A1_, n1_, c1_, t1_, B1_, m1_, d1_, rfl, r1, hx4⟩)
  refine hK.out _ _ hx4 ?_
  clear hK K
  try simp only [Act.put]
  try simp only [List.setIfInBounds_toArray]
  try simp only [List.set_cons_succ]
  try simp only [List.set_cons_zero]
  refine Late.call (i := 6) rfl (by kernel_rfl) hAl (by kernel_rfl) (by kernel_rfl) (by kernel_rfl) hQ (fun w6 e6 E6 K hK => ?_)
  go_simp
  (replace r1 := r1.ext e6; go_at_call 28; refine (p_AddR r1 (j.ext E6) (by omega) (by omega) (by omega) (hT.ext (extW.trans E6))).mono ?_; rintro e wk6 ⟨s2_, A2_, n2_, c2_, t2_, B2_, m2_, d2_, rfl, r2, hx6⟩; replace r1 := r1.ext hx6)
  refine hK.out _ _ hx6 ?_
  clear hK K
  try simp only [Act.put]
  try simp only [List.setIfInBounds_toArray]
  try simp only [List.set_cons_succ]
  try simp only [List.set_cons_zero]
  refine Late.call (i := 12) rfl (by kernel_rfl) hAl (by kernel_rfl) (by kernel_rfl) (by kernel_rfl) hQ (fun w12 e12 E12 K hK => ?_)
  go_simp
  (replace r1 := r1.ext e12; replace r2 := r2.ext e12; go_at_call 28; refine (p_AddR (k.ext E12) (j.ext E12) (by omega) (by omega) (by omega) (hT.ext (extW.trans E12))).mono ?_; rintro e wk12 ⟨s3_, A3_, n3_, c3_, t3_, B3_, m3_, d3_, rfl, r3, hx12⟩; replace r1 := r1.ext hx12; replace r2 := r2.ext hx12)
  refine hK.out _ _ hx12 ?_
  clear hK K
  try simp only [Act.put]
  try simp only [List.setIfInBounds_toArray]
  try simp only [List.set_cons_succ]
  try simp only [List.set_cons_zero]
  refine Late.call (i := 13) rfl (by kernel_rfl) hAl (by kernel_rfl) (by kernel_rfl) (by kernel_rfl) hQ (fun w13 e13 E13 K hK => ?_)
  go_simp
  (replace r1 := r1.ext e13; replace r2 := r2.ext e13; replace r3 := r3.ext e13; go_at_call 28; refine (p_AddR (h.ext E13) r3 (by omega) (by omega) (by omega) (hT.ext (extW.trans E13))).mono ?_; rintro e wk13 ⟨s4_, A4_, n4_, c4_, t4_, B4_, m4_, d4_, rfl, r4, hx13⟩; replace r1 := r1.ext hx13; replace r2 := r2.ext hx13; replace r3 := r3.ext hx13; rw [← Rat.add_assoc] at r4)
  refine hK.out _ _ hx13 ?_
  clear hK K
  try simp only [Act.put]
  try simp only [List.setIfInBounds_toArray]
  try simp only [List.set_cons_succ]
  try simp only [List.set_cons_zero]
  refine Late.call (i := 14) rfl (by kernel_rfl) hAl (by kernel_rfl) (by kernel_rfl) (by kernel_rfl) hQ (fun w14 e14 E14 K hK => ?_)
  go_simp
  (replace r1 := r1.ext e14; replace r2 := r2.ext e14; replace r3 := r3.ext e14; replace r4 := r4.ext e14; go_at_call 16; refine (q_Same r2 r4).mono ?_; rintro e wk14 ⟨rfl, hx14⟩; replace r1 := r1.ext hx14; replace r2 := r2.ext hx14; replace r3 := r3.ext hx14; replace r4 := r4.ext hx14)
  refine hK.out _ _ hx14 ?_
  clear hK K
  try simp only [Act.put]
  try simp only [List.setIfInBounds_toArray]
  try simp only [List.set_cons_succ]
  try simp only [List.set_cons_zero]
  refine Late.take (i := 15) (d := some 37) (v := ?v15_39) rfl rfl (by kernel_rfl) (by kernel_rfl) (by kernel_rfl) (by kernel_rfl) hQ (Or.inl ⟨by rfl, ?y15_39⟩) ?r15_39
  case y15_39 =>
    intro w' hSw
    have k00 := (bx.ext hSw).c4
    have k10 := (by_.ext hSw).c4
    have k20 := (bz.ext hSw).c4
    go_simp
    try with_reducible rfl
  try simp only [Act.put]
  try simp only [List.setIfInBounds_toArray]
  try simp only [List.set_cons_succ]
  try simp only [List.set_cons_zero]
  refine Late.take (i := 16) (d := some 38) (v := ?v16_40) rfl rfl (by kernel_rfl) (by kernel_rfl) (by kernel_rfl) (by kernel_rfl) hQ (Or.inl ⟨by rfl, ?y16_40⟩) ?r16_40
  case y16_40 =>
    intro w' hSw
    have k00 := (bx.ext hSw).c4
    have k10 := (by_.ext hSw).c4
    have k20 := (bz.ext hSw).c4
    go_simp
    try with_reducible rfl
  try simp only [Act.put]
  try simp only [List.setIfInBounds_toArray]
  try simp only [List.set_cons_succ]
  try simp only [List.set_cons_zero]
  refine Late.take (i := 17) (d := some 39) (v := ?v17_41) rfl rfl (by kernel_rfl) (by kernel_rfl) (by kernel_rfl) (by kernel_rfl) hQ (Or.inl ⟨by rfl, ?y17_41⟩) ?r17_41
  case y17_41 =>
    intro w' hSw
    have k00 := (bx.ext hSw).c4
    have k10 := (by_.ext hSw).c4
    have k20 := (bz.ext hSw).c4
    go_simp
    try with_reducible rfl
  try simp only [Act.put]
  try simp only [List.setIfInBounds_toArray]
  try simp only [List.set_cons_succ]
  try simp only [List.set_cons_zero]
  refine Late.take (i := 18) (d := some 40) (v := ?v18_42) rfl rfl (by kernel_rfl) (by kernel_rfl) (by kernel_rfl) (by kernel_rfl) hQ (Or.inl ⟨by rfl, ?y18_42⟩) ?r18_42
  case y18_42 =>
    intro w' hSw
    have k00 := (bx.ext hSw).c4
    have k10 := (by_.ext hSw).c4
    have k20 := (bz.ext hSw).c4
    go_simp
    try with_reducible rfl
  try simp only [Act.put]
  try simp only [List.setIfInBounds_toArray]
  try simp only [List.set_cons_succ]
  try simp only [List.set_cons_zero]
  refine Late.take (i := 19) (d := some 41) (v := ?v19_43) rfl rfl (by kernel_rfl) (by kernel_rfl) (by kernel_rfl) (by kernel_rfl) hQ (Or.inl ⟨by rfl, ?y19_43⟩) ?r19_43
  case y19_43 =>
    intro w' hSw
    have k00 := (bx.ext hSw).c4
    have k10 := (by_.ext hSw).c4
    have k20 := (bz.ext hSw).c4
    go_simp
    try with_reducible rfl
  try simp only [Act.put]
  try simp only [List.setIfInBounds_toArray]
  try simp only [List.set_cons_succ]
  try simp only [List.set_cons_zero]
  refine Late.take (i := 20) (d := some 42) (v := ?v20_44) rfl rfl (by kernel_rfl) (by kernel_rfl) (by kernel_rfl) (by kernel_rfl) hQ (Or.inl ⟨by rfl, ?y20_44⟩) ?r20_44
  case y20_44 =>
    intro w' hSw
    have k00 := (bx.ext hSw).c4
    have k10 := (by_.ext hSw).c4
    have k20 := (bz.ext hSw).c4
    go_simp
    try with_reducible rfl
  try simp only [Act.put]
  try simp only [List.setIfInBounds_toArray]
  try simp only [List.set_cons_succ]
  try simp only [List.set_cons_zero]
  refine Late.take (i := 22) (d := some 44) (v := ?v22_45) rfl rfl (by kernel_rfl) (by kernel_rfl) (by kernel_rfl) (by kernel_rfl) hQ (Or.inl ⟨by rfl, ?y22_45⟩) ?r22_45
  case y22_45 =>
    intro w' hSw
    have k00 := (bx.ext hSw).c4
    have k10 := (by_.ext hSw).c4
    have k20 := (bz.ext hSw).c4
    go_simp
    try with_reducible rfl
  try simp only [Act.put]
  try simp only [List.setIfInBounds_toArray]
  try simp only [List.set_cons_succ]
  try simp only [List.set_cons_zero]
  refine Late.take (i := 24) (d := some 46) (v := ?v24_46) rfl rfl (by kernel_rfl) (by kernel_rfl) (by kernel_rfl) (by kernel_rfl) hQ (Or.inl ⟨by rfl, ?y24_46⟩) ?r24_46
  case y24_46 =>
    intro w' hSw
    have k00 := (bx.ext hSw).c4
    have k10 := (by_.ext hSw).c4
    have k20 := (bz.ext hSw).c4
    go_simp
    try with_reducible rfl
  try simp only [Act.put]
  try simp only [List.setIfInBounds_toArray]
  try simp only [List.set_cons_succ]
  try simp only [List.set_cons_zero]
  refine Late.take (i := 25) (d := some 47) (v := ?v25_47) rfl rfl (by kernel_rfl) (by kernel_rfl) (by kernel_rfl) (by kernel_rfl) hQ (Or.inl ⟨by rfl, ?y25_47⟩) ?r25_47
  case y25_47 =>
    intro w' hSw
    have k00 := (bx.ext hSw).c4
    have k10 := (by_.ext hSw).c4
    have k20 := (bz.ext hSw).c4
    go_simp
    try with_reducible rfl
  try simp only [Act.put]
  try simp only [List.setIfInBounds_toArray]
  try simp only [List.set_cons_succ]
  try simp only [List.set_cons_zero]
  refine Late.take (i := 26) (d := some 48) (v := ?v26_48) rfl rfl (by kernel_rfl) (by kernel_rfl) (by kernel_rfl) (by kernel_rfl) hQ (Or.inl ⟨by rfl, ?y26_48⟩) ?r26_48
  case y26_48 =>
    intro w' hSw
    have k00 := (bx.ext hSw).c4
    have k10 := (by_.ext hSw).c4
    have k20 := (bz.ext hSw).c4
    go_simp
    try with_reducible rfl
  try simp only [Act.put]
  try simp only [List.setIfInBounds_toArray]
  try simp only [List.set_cons_succ]
  try simp only [List.set_cons_zero]
  refine Late.take (i := 27) (d := some 49) (v := ?v27_49) rfl rfl (by kernel_rfl) (by kernel_rfl) (by kernel_rfl) (by kernel_rfl) hQ (Or.inl ⟨by rfl, ?y27_49⟩) ?r27_49
  case y27_49 =>
    intro w' hSw
    have k00 := (bx.ext hSw).c4
    have k10 := (by_.ext hSw).c4
    have k20 := (bz.ext hSw).c4
    go_simp
    try with_reducible rfl
  try simp only [Act.put]
  try simp only [List.setIfInBounds_toArray]
  try simp only [List.set_cons_succ]
  try simp only [List.set_cons_zero]
  refine Late.take (i := 28) (d := some 50) (v := ?v28_50) rfl rfl (by kernel_rfl) (by kernel_rfl) (by kernel_rfl) (by kernel_rfl) hQ (Or.inl ⟨by rfl, ?y28_50⟩) ?r28_50
  case y28_50 =>
    intro w' hSw
    have k00 := (bx.ext hSw).c4
    have k10 := (by_.ext hSw).c4
    have k20 := (bz.ext hSw).c4
    go_simp
    try with_reducible rfl
  try simp only [Act.put]
  try simp only [List.setIfInBounds_toArray]
  try simp only [List.set_cons_succ]
  try simp only [List.set_cons_zero]
  refine Late.call (i := 21) rfl (by kernel_rfl) hAl (by kernel_rfl) (by kernel_rfl) (by kernel_rfl) hQ (fun w21 e21 E21 K hK => ?_)
  go_simp
  (replace r1 := r1.ext e21; replace r2 := r2.ext e21; replace r3 := r3.ext e21; replace r4 := r4.ext e21; go_at_call 34; refine (p_MulR (h.ext E21) (k.ext E21) (by omega) (by omega) (by omega) (hT.ext (extW.trans E21))).mono ?_; rintro e wk21 ⟨s5_, A5_, n5_, c5_, t5_, B5_, m5_, d5_, rfl, r5, hx21⟩; replace r1 := r1.ext hx21; replace r2 := r2.ext hx21; replace r3 := r3.ext hx21; replace r4 := r4.ext hx21)
  refine hK.out _ _ hx21 ?_
  clear hK K
  try simp only [Act.put]
  try simp only [List.setIfInBounds_toArray]
  try simp only [List.set_cons_succ]
  try simp only [List.set_cons_zero]
  refine Late.call (i := 23) rfl (by kernel_rfl) hAl (by kernel_rfl) (by kernel_rfl) (by kernel_rfl) hQ (fun w23 e23 E23 K hK => ?_)
  go_simp
  (replace r1 := r1.ext e23; replace r2 := r2.ext e23; replace r3 := r3.ext e23; replace r4 := r4.ext e23; replace r5 := r5.ext e23; go_at_call 34; refine (p_MulR r5 (j.ext E23) (by omega) (by omega) (by omega) (hT.ext (extW.trans E23))).mono ?_; rintro e wk23 ⟨s6_, A6_, n6_, c6_, t6_, B6_, m6_, d6_, rfl, r6, hx23⟩; replace r1 := r1.ext hx23; replace r2 := r2.ext hx23; replace r3 := r3.ext hx23; replace r4 := r4.ext hx23; replace r5 := r5.ext hx23)
  refine hK.out _ _ hx23 ?_
  clear hK K
  try simp only [Act.put]
  try simp only [List.setIfInBounds_toArray]
  try simp only [List.set_cons_succ]
  try simp only [List.set_cons_zero]
  refine Late.call (i := 29) rfl (by kernel_rfl) hAl (by kernel_rfl) (by kernel_rfl) (by kernel_rfl) hQ (fun w29 e29 E29 K hK => ?_)
  go_simp
  (replace r1 := r1.ext e29; replace r2 := r2.ext e29; replace r3 := r3.ext e29; replace r4 := r4.ext e29; replace r5 := r5.ext e29; replace r6 := r6.ext e29; go_at_call 34; refine (p_MulR (k.ext E29) (j.ext E29) (by omega) (by omega) (by omega) (hT.ext (extW.trans E29))).mono ?_; rintro e wk29 ⟨s7_, A7_, n7_, c7_, t7_, B7_, m7_, d7_, rfl, r7, hx29⟩; replace r1 := r1.ext hx29; replace r2 := r2.ext hx29; replace r3 := r3.ext hx29; replace r4 := r4.ext hx29; replace r5 := r5.ext hx29; replace r6 := r6.ext hx29)
  refine hK.out _ _ hx29 ?_
  clear hK K
  try simp only [Act.put]
  try simp only [List.setIfInBounds_toArray]
  try simp only [List.set_cons_succ]
  try simp only [List.set_cons_zero]
  refine Late.call (i := 30) rfl (by kernel_rfl) hAl (by kernel_rfl) (by kernel_rfl) (by kernel_rfl) hQ (fun w30 e30 E30 K hK => ?_)
  go_simp
  (replace r1 := r1.ext e30; replace r2 := r2.ext e30; replace r3 := r3.ext e30; replace r4 := r4.ext e30; replace r5 := r5.ext e30; replace r6 := r6.ext e30; replace r7 := r7.ext e30; go_at_call 34; refine (p_MulR (h.ext E30) r7 (by omega) (by omega) (by omega) (hT.ext (extW.trans E30))).mono ?_; rintro e wk30 ⟨s8_, A8_, n8_, c8_, t8_, B8_, m8_, d8_, rfl, r8, hx30⟩; replace r1 := r1.ext hx30; replace r2 := r2.ext hx30; replace r3 := r3.ext hx30; replace r4 := r4.ext hx30; replace r5 := r5.ext hx30; replace r6 := r6.ext hx30; replace r7 := r7.ext hx30; rw [← Rat.mul_assoc] at r8)
  refine hK.out _ _ hx30 ?_
  clear hK K
  try simp only [Act.put]
  try simp only [List.setIfInBounds_toArray]
  try simp only [List.set_cons_succ]
  try simp only [List.set_cons_zero]
  refine Late.call (i := 31) rfl (by kernel_rfl) hAl (by kernel_rfl) (by kernel_rfl) (by kernel_rfl) hQ (fun w31 e31 E31 K hK => ?_)
  go_simp
  (replace r1 := r1.ext e31; replace r2 := r2.ext e31; replace r3 := r3.ext e31; replace r4 := r4.ext e31; replace r5 := r5.ext e31; replace r6 := r6.ext e31; replace r7 := r7.ext e31; replace r8 := r8.ext e31; go_at_call 16; refine (q_Same r6 r8).mono ?_; rintro e wk31 ⟨rfl, hx31⟩; replace r1 := r1.ext hx31; replace r2 := r2.ext hx31; replace r3 := r3.ext hx31; replace r4 := r4.ext hx31; replace r5 := r5.ext hx31; replace r6 := r6.ext hx31; replace r7 := r7.ext hx31; replace r8 := r8.ext hx31)
  refine hK.out _ _ hx31 ?_
  clear hK K
  try simp only [Act.put]
  try simp only [List.setIfInBounds_toArray]
  try simp only [List.set_cons_succ]
  try simp only [List.set_cons_zero]
  refine Late.take (i := 32) (d := some 54) (v := ?v32_51) rfl rfl (by kernel_rfl) (by kernel_rfl) (by kernel_rfl) (by kernel_rfl) hQ (Or.inl ⟨by rfl, ?y32_51⟩) ?r32_51
  case y32_51 =>
    intro w' hSw
    have k00 := (bx.ext hSw).c4
    have k10 := (by_.ext hSw).c4
    have k20 := (bz.ext hSw).c4
    go_simp
    try with_reducible rfl
  try simp only [Act.put]
  try simp only [List.setIfInBounds_toArray]
  try simp only [List.set_cons_succ]
  try simp only [List.set_cons_zero]
  refine Late.take (i := 33) (d := some 55) (v := ?v33_52) rfl rfl (by kernel_rfl) (by kernel_rfl) (by kernel_rfl) (by kernel_rfl) hQ (Or.inl ⟨by rfl, ?y33_52⟩) ?r33_52
  case y33_52 =>
    intro w' hSw
    have k00 := (bx.ext hSw).c4
    have k10 := (by_.ext hSw).c4
    have k20 := (bz.ext hSw).c4
    go_simp
    try with_reducible rfl
  try simp only [Act.put]
  try simp only [List.setIfInBounds_toArray]
  try simp only [List.set_cons_succ]
  try simp only [List.set_cons_zero]
  refine Late.take (i := 34) (d := some 56) (v := ?v34_53) rfl rfl (by kernel_rfl) (by kernel_rfl) (by kernel_rfl) (by kernel_rfl) hQ (Or.inl ⟨by rfl, ?y34_53⟩) ?r34_53
  case y34_53 =>
    intro w' hSw
    have k00 := (bx.ext hSw).c4
    have k10 := (by_.ext hSw).c4
    have k20 := (bz.ext hSw).c4
    go_simp
    try with_reducible rfl
  try simp only [Act.put]
  try simp only [List.setIfInBounds_toArray]
  try simp only [List.set_cons_succ]
  try simp only [List.set_cons_zero]
  refine Late.take (i := 35) (d := some 57) (v := ?v35_54) rfl rfl (by kernel_rfl) (by kernel_rfl) (by kernel_rfl) (by kernel_rfl) hQ (Or.inl ⟨by rfl, ?y35_54⟩) ?r35_54
  case y35_54 =>
    intro w' hSw
    have k00 := (bx.ext hSw).c4
    have k10 := (by_.ext hSw).c4
    have k20 := (bz.ext hSw).c4
    go_simp
    try with_reducible rfl
  try simp only [Act.put]
  try simp only [List.setIfInBounds_toArray]
  try simp only [List.set_cons_succ]
  try simp only [List.set_cons_zero]
  refine Late.take (i := 36) (d := some 58) (v := ?v36_55) rfl rfl (by kernel_rfl) (by kernel_rfl) (by kernel_rfl) (by kernel_rfl) hQ (Or.inl ⟨by rfl, ?y36_55⟩) ?r36_55
  case y36_55 =>
    intro w' hSw
    have k00 := (bx.ext hSw).c4
    have k10 := (by_.ext hSw).c4
    have k20 := (bz.ext hSw).c4
    go_simp
    try with_reducible rfl
  try simp only [Act.put]
  try simp only [List.setIfInBounds_toArray]
  try simp only [List.set_cons_succ]
  try simp only [List.set_cons_zero]
  refine Late.take (i := 37) (d := some 59) (v := ?v37_56) rfl rfl (by kernel_rfl) (by kernel_rfl) (by kernel_rfl) (by kernel_rfl) hQ (Or.inl ⟨by rfl, ?y37_56⟩) ?r37_56
  case y37_56 =>
    intro w' hSw
    have k00 := (bx.ext hSw).c4
    have k10 := (by_.ext hSw).c4
    have k20 := (bz.ext hSw).c4
    go_simp
    try with_reducible rfl
  try simp only [Act.put]
  try simp only [List.setIfInBounds_toArray]
  try simp only [List.set_cons_succ]
  try simp only [List.set_cons_zero]
  refine Late.take (i := 39) (d := some 61) (v := ?v39_57) rfl rfl (by kernel_rfl) (by kernel_rfl) (by kernel_rfl) (by kernel_rfl) hQ (Or.inl ⟨by rfl, ?y39_57⟩) ?r39_57
  case y39_57 =>
    intro w' hSw
    have k00 := (bx.ext hSw).c4
    have k10 := (by_.ext hSw).c4
    have k20 := (bz.ext hSw).c4
    go_simp
    try with_reducible rfl
  try simp only [Act.put]
  try simp only [List.setIfInBounds_toArray]
  try simp only [List.set_cons_succ]
  try simp only [List.set_cons_zero]
  refine Late.take (i := 40) (d := some 62) (v := ?v40_58) rfl rfl (by kernel_rfl) (by kernel_rfl) (by kernel_rfl) (by kernel_rfl) hQ (Or.inl ⟨by rfl, ?y40_58⟩) ?r40_58
  case y40_58 =>
    intro w' hSw
    have k00 := (bx.ext hSw).c4
    have k10 := (by_.ext hSw).c4
    have k20 := (bz.ext hSw).c4
    go_simp
    try with_reducible rfl
  try simp only [Act.put]
  try simp only [List.setIfInBounds_toArray]
  try simp only [List.set_cons_succ]
  try simp only [List.set_cons_zero]
  refine Late.take (i := 41) (d := some 63) (v := ?v41_59) rfl rfl (by kernel_rfl) (by kernel_rfl) (by kernel_rfl) (by kernel_rfl) hQ (Or.inl ⟨by rfl, ?y41_59⟩) ?r41_59
  case y41_59 =>
    intro w' hSw
    have k00 := (bx.ext hSw).c4
    have k10 := (by_.ext hSw).c4
    have k20 := (bz.ext hSw).c4
    go_simp
    try with_reducible rfl
  try simp only [Act.put]
  try simp only [List.setIfInBounds_toArray]
  try simp only [List.set_cons_succ]
  try simp only [List.set_cons_zero]
  refine Late.call (i := 38) rfl (by kernel_rfl) hAl (by kernel_rfl) (by kernel_rfl) (by kernel_rfl) hQ (fun w38 e38 E38 K hK => ?_)
  go_simp
  (replace r1 := r1.ext e38; replace r2 := r2.ext e38; replace r3 := r3.ext e38; replace r4 := r4.ext e38; replace r5 := r5.ext e38; replace r6 := r6.ext e38; replace r7 := r7.ext e38; replace r8 := r8.ext e38; go_at_call 34; refine (p_MulR (h.ext E38) (k.ext E38) (by omega) (by omega) (by omega) (hT.ext (extW.trans E38))).mono ?_; rintro e wk38 ⟨s9_, A9_, n9_, c9_, t9_, B9_, m9_, d9_, rfl, r9, hx38⟩; replace r1 := r1.ext hx38; replace r2 := r2.ext hx38; replace r3 := r3.ext hx38; replace r4 := r4.ext hx38; replace r5 := r5.ext hx38; replace r6 := r6.ext hx38; replace r7 := r7.ext hx38; replace r8 := r8.ext hx38)
  refine hK.out _ _ hx38 ?_
  clear hK K
  try simp only [Act.put]
  try simp only [List.setIfInBounds_toArray]
  try simp only [List.set_cons_succ]
  try simp only [List.set_cons_zero]
  refine Late.call (i := 42) rfl (by kernel_rfl) hAl (by kernel_rfl) (by kernel_rfl) (by kernel_rfl) hQ (fun w42 e42 E42 K hK => ?_)
  go_simp
  (replace r1 := r1.ext e42; replace r2 := r2.ext e42; replace r3 := r3.ext e42; replace r4 := r4.ext e42; replace r5 := r5.ext e42; replace r6 := r6.ext e42; replace r7 := r7.ext e42; replace r8 := r8.ext e42; replace r9 := r9.ext e42; go_at_call 34; refine (p_MulR (k.ext E42) (h.ext E42) (by omega) (by omega) (by omega) (hT.ext (extW.trans E42))).mono ?_; rintro e wk42 ⟨s10_, A10_, n10_, c10_, t10_, B10_, m10_, d10_, rfl, r10, hx42⟩; replace r1 := r1.ext hx42; replace r2 := r2.ext hx42; replace r3 := r3.ext hx42; replace r4 := r4.ext hx42; replace r5 := r5.ext hx42; replace r6 := r6.ext hx42; replace r7 := r7.ext hx42; replace r8 := r8.ext hx42; replace r9 := r9.ext hx42; rw [Rat.mul_comm p q] at r10)
  refine hK.out _ _ hx42 ?_
  clear hK K
  try simp only [Act.put]
  try simp only [List.setIfInBounds_toArray]
  try simp only [List.set_cons_succ]
  try simp only [List.set_cons_zero]
  refine Late.call (i := 43) rfl (by kernel_rfl) hAl (by kernel_rfl) (by kernel_rfl) (by kernel_rfl) hQ (fun w43 e43 E43 K hK => ?_)
  go_simp
  (replace r1 := r1.ext e43; replace r2 := r2.ext e43; replace r3 := r3.ext e43; replace r4 := r4.ext e43; replace r5 := r5.ext e43; replace r6 := r6.ext e43; replace r7 := r7.ext e43; replace r8 := r8.ext e43; replace r9 := r9.ext e43; replace r10 := r10.ext e43; go_at_call 16; refine (q_Same r9 r10).mono ?_; rintro e wk43 ⟨rfl, hx43⟩; replace r1 := r1.ext hx43; replace r2 := r2.ext hx43; replace r3 := r3.ext hx43; replace r4 := r4.ext hx43; replace r5 := r5.ext hx43; replace r6 := r6.ext hx43; replace r7 := r7.ext hx43; replace r8 := r8.ext hx43; replace r9 := r9.ext hx43; replace r10 := r10.ext hx43)
  refine hK.out _ _ hx43 ?_
  clear hK K
  try simp only [Act.put]
  try simp only [List.setIfInBounds_toArray]
  try simp only [List.set_cons_succ]
  try simp only [List.set_cons_zero]
  refine Late.take (i := 44) (d := some 66) (v := ?v44_60) rfl rfl (by kernel_rfl) (by kernel_rfl) (by kernel_rfl) (by kernel_rfl) hQ (Or.inl ⟨by rfl, ?y44_60⟩) ?r44_60
  case y44_60 =>
    intro w' hSw
    have k00 := (bx.ext hSw).c4
    have k10 := (by_.ext hSw).c4
    have k20 := (bz.ext hSw).c4
    go_simp
    try with_reducible rfl
  try simp only [Act.put]
  try simp only [List.setIfInBounds_toArray]
  try simp only [List.set_cons_succ]
  try simp only [List.set_cons_zero]
  refine Late.take (i := 45) (d := some 67) (v := ?v45_61) rfl rfl (by kernel_rfl) (by kernel_rfl) (by kernel_rfl) (by kernel_rfl) hQ (Or.inl ⟨by rfl, ?y45_61⟩) ?r45_61
  case y45_61 =>
    intro w' hSw
    have k00 := (bx.ext hSw).c4
    have k10 := (by_.ext hSw).c4
    have k20 := (bz.ext hSw).c4
    go_simp
    try with_reducible rfl
  try simp only [Act.put]
  try simp only [List.setIfInBounds_toArray]
  try simp only [List.set_cons_succ]
  try simp only [List.set_cons_zero]
  refine Late.take (i := 46) (d := some 68) (v := ?v46_62) rfl rfl (by kernel_rfl) (by kernel_rfl) (by kernel_rfl) (by kernel_rfl) hQ (Or.inl ⟨by rfl, ?y46_62⟩) ?r46_62
  case y46_62 =>
    intro w' hSw
    have k00 := (bx.ext hSw).c4
    have k10 := (by_.ext hSw).c4
    have k20 := (bz.ext hSw).c4
    go_simp
    try with_reducible rfl
  try simp only [Act.put]
  try simp only [List.setIfInBounds_toArray]
  try simp only [List.set_cons_succ]
  try simp only [List.set_cons_zero]
  refine Late.take (i := 47) (d := some 69) (v := ?v47_63) rfl rfl (by kernel_rfl) (by kernel_rfl) (by kernel_rfl) (by kernel_rfl) hQ (Or.inl ⟨by rfl, ?y47_63⟩) ?r47_63
  case y47_63 =>
    intro w' hSw
    have k00 := (bx.ext hSw).c4
    have k10 := (by_.ext hSw).c4
    have k20 := (bz.ext hSw).c4
    go_simp
    try with_reducible rfl
  try simp only [Act.put]
  try simp only [List.setIfInBounds_toArray]
  try simp only [List.set_cons_succ]
  try simp only [List.set_cons_zero]
  refine Late.take (i := 48) (d := some 70) (v := ?v48_64) rfl rfl (by kernel_rfl) (by kernel_rfl) (by kernel_rfl) (by kernel_rfl) hQ (Or.inl ⟨by rfl, ?y48_64⟩) ?r48_64
  case y48_64 =>
    intro w' hSw
    have k00 := (bx.ext hSw).c4
    have k10 := (by_.ext hSw).c4
    have k20 := (bz.ext hSw).c4
    go_simp
    try with_reducible rfl
  try simp only [Act.put]
  try simp only [List.setIfInBounds_toArray]
  try simp only [List.set_cons_succ]
  try simp only [List.set_cons_zero]
  refine Late.take (i := 49) (d := some 71) (v := ?v49_65) rfl rfl (by kernel_rfl) (by kernel_rfl) (by kernel_rfl) (by kernel_rfl) hQ (Or.inl ⟨by rfl, ?y49_65⟩) ?r49_65
  case y49_65 =>
    intro w' hSw
    have k00 := (bx.ext hSw).c4
    have k10 := (by_.ext hSw).c4
    have k20 := (bz.ext hSw).c4
    go_simp
    try with_reducible rfl
  try simp only [Act.put]
  try simp only [List.setIfInBounds_toArray]
  try simp only [List.set_cons_succ]
  try simp only [List.set_cons_zero]
  refine Late.take (i := 50) (d := some 72) (v := ?v50_66) rfl rfl (by kernel_rfl) (by kernel_rfl) (by kernel_rfl) (by kernel_rfl) hQ (Or.inl ⟨by rfl, ?y50_66⟩) ?r50_66
  case y50_66 =>
    intro w' hSw
    have k00 := (bx.ext hSw).c4
    have k10 := (by_.ext hSw).c4
    have k20 := (bz.ext hSw).c4
    go_simp
    try with_reducible rfl
  try simp only [Act.put]
  try simp only [List.setIfInBounds_toArray]
  try simp only [List.set_cons_succ]
  try simp only [List.set_cons_zero]
  refine Late.take (i := 51) (d := some 73) (v := ?v51_67) rfl rfl (by kernel_rfl) (by kernel_rfl) (by kernel_rfl) (by kernel_rfl) hQ (Or.inl ⟨by rfl, ?y51_67⟩) ?r51_67
  case y51_67 =>
    intro w' hSw
    have k00 := (bx.ext hSw).c4
    have k10 := (by_.ext hSw).c4
    have k20 := (bz.ext hSw).c4
    go_simp
    try with_reducible rfl
  try simp only [Act.put]
  try simp only [List.setIfInBounds_toArray]
  try simp only [List.set_cons_succ]
  try simp only [List.set_cons_zero]
  refine Late.take (i := 54) (d := some 76) (v := ?v54_68) rfl rfl (by kernel_rfl) (by kernel_rfl) (by kernel_rfl) (by kernel_rfl) hQ (Or.inl ⟨by rfl, ?y54_68⟩) ?r54_68
  case y54_68 =>
    intro w' hSw
    have k00 := (bx.ext hSw).c4
    have k10 := (by_.ext hSw).c4
    have k20 := (bz.ext hSw).c4
    go_simp
    try with_reducible rfl
  try simp only [Act.put]
  try simp only [List.setIfInBounds_toArray]
  try simp only [List.set_cons_succ]
  try simp only [List.set_cons_zero]
  refine Late.take (i := 55) (d := some 77) (v := ?v55_69) rfl rfl (by kernel_rfl) (by kernel_rfl) (by kernel_rfl) (by kernel_rfl) hQ (Or.inl ⟨by rfl, ?y55_69⟩) ?r55_69
  case y55_69 =>
    intro w' hSw
    have k00 := (bx.ext hSw).c4
    have k10 := (by_.ext hSw).c4
    have k20 := (bz.ext hSw).c4
    go_simp
    try with_reducible rfl
  try simp only [Act.put]
  try simp only [List.setIfInBounds_toArray]
  try simp only [List.set_cons_succ]
  try simp only [List.set_cons_zero]
  refine Late.take (i := 56) (d := some 78) (v := ?v56_70) rfl rfl (by kernel_rfl) (by kernel_rfl) (by kernel_rfl) (by kernel_rfl) hQ (Or.inl ⟨by rfl, ?y56_70⟩) ?r56_70
  case y56_70 =>
    intro w' hSw
    have k00 := (bx.ext hSw).c4
    have k10 := (by_.ext hSw).c4
    have k20 := (bz.ext hSw).c4
    go_simp
    try with_reducible rfl
  try simp only [Act.put]
  try simp only [List.setIfInBounds_toArray]
  try simp only [List.set_cons_succ]
  try simp only [List.set_cons_zero]
  refine Late.take (i := 57) (d := some 79) (v := ?v57_71) rfl rfl (by kernel_rfl) (by kernel_rfl) (by kernel_rfl) (by kernel_rfl) hQ (Or.inl ⟨by rfl, ?y57_71⟩) ?r57_71
  case y57_71 =>
    intro w' hSw
    have k00 := (bx.ext hSw).c4
    have k10 := (by_.ext hSw).c4
    have k20 := (bz.ext hSw).c4
    go_simp
    try with_reducible rfl
  try simp only [Act.put]
  try simp only [List.setIfInBounds_toArray]
  try simp only [List.set_cons_succ]
  try simp only [List.set_cons_zero]
  refine Late.take (i := 59) (d := some 81) (v := ?v59_72) rfl rfl (by kernel_rfl) (by kernel_rfl) (by kernel_rfl) (by kernel_rfl) hQ (Or.inl ⟨by rfl, ?y59_72⟩) ?r59_72
  case y59_72 =>
    intro w' hSw
    have k00 := (bx.ext hSw).c4
    have k10 := (by_.ext hSw).c4
    have k20 := (bz.ext hSw).c4
    go_simp
    try with_reducible rfl
  try simp only [Act.put]
  try simp only [List.setIfInBounds_toArray]
  try simp only [List.set_cons_succ]
  try simp only [List.set_cons_zero]
  refine Late.take (i := 60) (d := some 82) (v := ?v60_73) rfl rfl (by kernel_rfl) (by kernel_rfl) (by kernel_rfl) (by kernel_rfl) hQ (Or.inl ⟨by rfl, ?y60_73⟩) ?r60_73
  case y60_73 =>
    intro w' hSw
    have k00 := (bx.ext hSw).c4
    have k10 := (by_.ext hSw).c4
    have k20 := (bz.ext hSw).c4
    go_simp
    try with_reducible rfl
  try simp only [Act.put]
  try simp only [List.setIfInBounds_toArray]
  try simp only [List.set_cons_succ]
  try simp only [List.set_cons_zero]
  refine Late.take (i := 61) (d := some 83) (v := ?v61_74) rfl rfl (by kernel_rfl) (by kernel_rfl) (by kernel_rfl) (by kernel_rfl) hQ (Or.inl ⟨by rfl, ?y61_74⟩) ?r61_74
  case y61_74 =>
    intro w' hSw
    have k00 := (bx.ext hSw).c4
    have k10 := (by_.ext hSw).c4
    have k20 := (bz.ext hSw).c4
    go_simp
    try with_reducible rfl
  try simp only [Act.put]
  try simp only [List.setIfInBounds_toArray]
  try simp only [List.set_cons_succ]
  try simp only [List.set_cons_zero]
  refine Late.call (i := 52) rfl (by kernel_rfl) hAl (by kernel_rfl) (by kernel_rfl) (by kernel_rfl) hQ (fun w52 e52 E52 K hK => ?_)
  go_simp
  (replace r1 := r1.ext e52; replace r2 := r2.ext e52; replace r3 := r3.ext e52; replace r4 := r4.ext e52; replace r5 := r5.ext e52; replace r6 := r6.ext e52; replace r7 := r7.ext e52; replace r8 := r8.ext e52; replace r9 := r9.ext e52; replace r10 := r10.ext e52; go_at_call 28; refine (p_AddR (k.ext E52) (j.ext E52) (by omega) (by omega) (by omega) (hT.ext (extW.trans E52))).mono ?_; rintro e wk52 ⟨s11_, A11_, n11_, c11_, t11_, B11_, m11_, d11_, rfl, r11, hx52⟩; replace r1 := r1.ext hx52; replace r2 := r2.ext hx52; replace r3 := r3.ext hx52; replace r4 := r4.ext hx52; replace r5 := r5.ext hx52; replace r6 := r6.ext hx52; replace r7 := r7.ext hx52; replace r8 := r8.ext hx52; replace r9 := r9.ext hx52; replace r10 := r10.ext hx52)
  refine hK.out _ _ hx52 ?_
  clear hK K
  try simp only [Act.put]
  try simp only [List.setIfInBounds_toArray]
  try simp only [List.set_cons_succ]
  try simp only [List.set_cons_zero]
  refine Late.call (i := 53) rfl (by kernel_rfl) hAl (by kernel_rfl) (by kernel_rfl) (by kernel_rfl) hQ (fun w53 e53 E53 K hK => ?_)
  go_simp
  (replace r1 := r1.ext e53; replace r2 := r2.ext e53; replace r3 := r3.ext e53; replace r4 := r4.ext e53; replace r5 := r5.ext e53; replace r6 := r6.ext e53; replace r7 := r7.ext e53; replace r8 := r8.ext e53; replace r9 := r9.ext e53; replace r10 := r10.ext e53; replace r11 := r11.ext e53; go_at_call 34; refine (p_MulR (h.ext E53) r11 (by omega) (by omega) (by omega) (hT.ext (extW.trans E53))).mono ?_; rintro e wk53 ⟨s12_, A12_, n12_, c12_, t12_, B12_, m12_, d12_, rfl, r12, hx53⟩; replace r1 := r1.ext hx53; replace r2 := r2.ext hx53; replace r3 := r3.ext hx53; replace r4 := r4.ext hx53; replace r5 := r5.ext hx53; replace r6 := r6.ext hx53; replace r7 := r7.ext hx53; replace r8 := r8.ext hx53; replace r9 := r9.ext hx53; replace r10 := r10.ext hx53; replace r11 := r11.ext hx53)
  refine hK.out _ _ hx53 ?_
  clear hK K
  try simp only [Act.put]
  try simp only [List.setIfInBounds_toArray]
  try simp only [List.set_cons_succ]
  try simp only [List.set_cons_zero]
  refine Late.call (i := 58) rfl (by kernel_rfl) hAl (by kernel_rfl) (by kernel_rfl) (by kernel_rfl) hQ (fun w58 e58 E58 K hK => ?_)
  go_simp
  (replace r1 := r1.ext e58; replace r2 := r2.ext e58; replace r3 := r3.ext e58; replace r4 := r4.ext e58; replace r5 := r5.ext e58; replace r6 := r6.ext e58; replace r7 := r7.ext e58; replace r8 := r8.ext e58; replace r9 := r9.ext e58; replace r10 := r10.ext e58; replace r11 := r11.ext e58; replace r12 := r12.ext e58; go_at_call 34; refine (p_MulR (h.ext E58) (k.ext E58) (by omega) (by omega) (by omega) (hT.ext (extW.trans E58))).mono ?_; rintro e wk58 ⟨s13_, A13_, n13_, c13_, t13_, B13_, m13_, d13_, rfl, r13, hx58⟩; replace r1 := r1.ext hx58; replace r2 := r2.ext hx58; replace r3 := r3.ext hx58; replace r4 := r4.ext hx58; replace r5 := r5.ext hx58; replace r6 := r6.ext hx58; replace r7 := r7.ext hx58; replace r8 := r8.ext hx58; replace r9 := r9.ext hx58; replace r10 := r10.ext hx58; replace r11 := r11.ext hx58; replace r12 := r12.ext hx58)
  refine hK.out _ _ hx58 ?_
  clear hK K
  try simp only [Act.put]
  try simp only [List.setIfInBounds_toArray]
  try simp only [List.set_cons_succ]
  try simp only [List.set_cons_zero]
  refine Late.call (i := 62) rfl (by kernel_rfl) hAl (by kernel_rfl) (by kernel_rfl) (by kernel_rfl) hQ (fun w62 e62 E62 K hK => ?_)
  go_simp
  (replace r1 := r1.ext e62; replace r2 := r2.ext e62; replace r3 := r3.ext e62; replace r4 := r4.ext e62; replace r5 := r5.ext e62; replace r6 := r6.ext e62; replace r7 := r7.ext e62; replace r8 := r8.ext e62; replace r9 := r9.ext e62; replace r10 := r10.ext e62; replace r11 := r11.ext e62; replace r12 := r12.ext e62; replace r13 := r13.ext e62; go_at_call 34; refine (p_MulR (h.ext E62) (j.ext E62) (by omega) (by omega) (by omega) (hT.ext (extW.trans E62))).mono ?_; rintro e wk62 ⟨s14_, A14_, n14_, c14_, t14_, B14_, m14_, d14_, rfl, r14, hx62⟩; replace r1 := r1.ext hx62; replace r2 := r2.ext hx62; replace r3 := r3.ext hx62; replace r4 := r4.ext hx62; replace r5 := r5.ext hx62; replace r6 := r6.ext hx62; replace r7 := r7.ext hx62; replace r8 := r8.ext hx62; replace r9 := r9.ext hx62; replace r10 := r10.ext hx62; replace r11 := r11.ext hx62; replace r12 := r12.ext hx62; replace r13 := r13.ext hx62)
  refine hK.out _ _ hx62 ?_
  clear hK K
  try simp only [Act.put]
  try simp only [List.setIfInBounds_toArray]
  try simp only [List.set_cons_succ]
  try simp only [List.set_cons_zero]
  refine Late.call (i := 63) rfl (by kernel_rfl) hAl (by kernel_rfl) (by kernel_rfl) (by kernel_rfl) hQ (fun w63 e63 E63 K hK => ?_)
  go_simp
  (replace r1 := r1.ext e63; replace r2 := r2.ext e63; replace r3 := r3.ext e63; replace r4 := r4.ext e63; replace r5 := r5.ext e63; replace r6 := r6.ext e63; replace r7 := r7.ext e63; replace r8 := r8.ext e63; replace r9 := r9.ext e63; replace r10 := r10.ext e63; replace r11 := r11.ext e63; replace r12 := r12.ext e63; replace r13 := r13.ext e63; replace r14 := r14.ext e63; go_at_call 28; refine (p_AddR r13 r14 (by omega) (by omega) (by omega) (hT.ext (extW.trans E63))).mono ?_; rintro e wk63 ⟨s15_, A15_, n15_, c15_, t15_, B15_, m15_, d15_, rfl, r15, hx63⟩; replace r1 := r1.ext hx63; replace r2 := r2.ext hx63; replace r3 := r3.ext hx63; replace r4 := r4.ext hx63; replace r5 := r5.ext hx63; replace r6 := r6.ext hx63; replace r7 := r7.ext hx63; replace r8 := r8.ext hx63; replace r9 := r9.ext hx63; replace r10 := r10.ext hx63; replace r11 := r11.ext hx63; replace r12 := r12.ext hx63; replace r13 := r13.ext hx63; replace r14 := r14.ext hx63; rw [← Rat.mul_add] at r15)
  refine hK.out _ _ hx63 ?_
  clear hK K
  try simp only [Act.put]
  try simp only [List.setIfInBounds_toArray]
  try simp only [List.set_cons_succ]
  try simp only [List.set_cons_zero]
  refine Late.call (i := 64) rfl (by kernel_rfl) hAl (by kernel_rfl) (by kernel_rfl) (by kernel_rfl) hQ (fun w64 e64 E64 K hK => ?_)
  go_simp
  (replace r1 := r1.ext e64; replace r2 := r2.ext e64; replace r3 := r3.ext e64; replace r4 := r4.ext e64; replace r5 := r5.ext e64; replace r6 := r6.ext e64; replace r7 := r7.ext e64; replace r8 := r8.ext e64; replace r9 := r9.ext e64; replace r10 := r10.ext e64; replace r11 := r11.ext e64; replace r12 := r12.ext e64; replace r13 := r13.ext e64; replace r14 := r14.ext e64; replace r15 := r15.ext e64; go_at_call 16; refine (q_Same r12 r15).mono ?_; rintro e wk64 ⟨rfl, hx64⟩; replace r1 := r1.ext hx64; replace r2 := r2.ext hx64; replace r3 := r3.ext hx64; replace r4 := r4.ext hx64; replace r5 := r5.ext hx64; replace r6 := r6.ext hx64; replace r7 := r7.ext hx64; replace r8 := r8.ext hx64; replace r9 := r9.ext hx64; replace r10 := r10.ext hx64; replace r11 := r11.ext hx64; replace r12 := r12.ext hx64; replace r13 := r13.ext hx64; replace r14 := r14.ext hx64; replace r15 := r15.ext hx64)
  refine hK.out _ _ hx64 ?_
  clear hK K
  try simp only [Act.put]
  try simp only [List.setIfInBounds_toArray]
  try simp only [List.set_cons_succ]
  try simp only [List.set_cons_zero]
  refine Late.take (i := 65) (d := some 87) (v := ?v65_75) rfl rfl (by kernel_rfl) (by kernel_rfl) (by kernel_rfl) (by kernel_rfl) hQ (Or.inl ⟨by rfl, ?y65_75⟩) ?r65_75
  case y65_75 =>
    intro w' hSw
    have k00 := (bx.ext hSw).c4
    have k10 := (by_.ext hSw).c4
    have k20 := (bz.ext hSw).c4
    go_simp
    try with_reducible rfl
  try simp only [Act.put]
  try simp only [List.setIfInBounds_toArray]
  try simp only [List.set_cons_succ]
  try simp only [List.set_cons_zero]
  refine Late.take (i := 66) (d := some 88) (v := ?v66_76) rfl rfl (by kernel_rfl) (by kernel_rfl) (by kernel_rfl) (by kernel_rfl) hQ (Or.inl ⟨by rfl, ?y66_76⟩) ?r66_76
  case y66_76 =>
    intro w' hSw
    have k00 := (bx.ext hSw).c4
    have k10 := (by_.ext hSw).c4
    have k20 := (bz.ext hSw).c4
    go_simp
    try with_reducible rfl
  try simp only [Act.put]
  try simp only [List.setIfInBounds_toArray]
  try simp only [List.set_cons_succ]
  try simp only [List.set_cons_zero]
  refine Late.done0 (by kernel_rfl) (fun wz ez Ez => ?_)
  clear hAl hQ ES
  replace bx := bx.ext Ez
  replace by_ := by_.ext Ez
  replace bz := bz.ext Ez
  replace h := h.ext Ez
  replace k := k.ext Ez
  replace j := j.ext Ez
  replace extW := extW.trans Ez
  clear Ez ez
  have bx0 := bx.cell 0 (.bool s) rfl
  have bx1 := bx.cell 1 (.slice A n c) rfl
  have bx2 := bx.cell 2 (.bool t) rfl
  have bx3 := bx.cell 3 (.slice B m d) rfl
  have by_0 := by_.cell 0 (.bool s') rfl
  have by_1 := by_.cell 1 (.slice A' n' c') rfl
  have by_2 := by_.cell 2 (.bool t') rfl
  have by_3 := by_.cell 3 (.slice B' m' d') rfl
  have bz0 := bz.cell 0 (.bool u) rfl
  have bz1 := bz.cell 1 (.slice C l e0) rfl
  have bz2 := bz.cell 2 (.bool u') rfl
  have bz3 := bz.cell 3 (.slice D l' e') rfl
  go_wp2_with fail
  refine (p_Div_0 h k (by omega) (by omega) Hp.out).mono ?_
  rintro e wd ⟨rfl, hxd⟩
  clear bx0 bx1 bx2 bx3 by_0 by_1 by_2 by_3 bz0 bz1 bz2 bz3
  go_upto_region 7 with (fail)
  refine at_world (fun V => Ext wz V ∧ Box V wd.heap.size 27 #[Value.bool false, Value.slice none 0 0, Value.bool false, Value.slice none 0 0]) ⟨hxd.alloc _, Box.new wd _ _⟩ ?_
  generalize wd.heap.size = g9
  clear hxd
  rintro V ⟨EV, b9⟩
  replace bx := bx.ext EV
  replace by_ := by_.ext EV
  replace bz := bz.ext EV
  replace h := h.ext EV
  replace k := k.ext EV
  replace j := j.ext EV
  replace extW := extW.trans EV
  clear EV
  go_wp2_with fail
  have ES0 := Ext.refl V
  refine wp_region_held_drew (S := Ext V) (by kernel_rfl) ES0.drew (fun ES => ?_)
  clear ES0
  refine Late.start0 (fun _ _ _ _ _ => ⟨fun h => h, fun h => h⟩) ES (fun hAl hQ => ?_)
  refine Late.take (i := 0) (d := some 95) (v := ?v0_77) rfl rfl (by kernel_rfl) (by kernel_rfl) (by kernel_rfl) (by kernel_rfl) hQ (Or.inl ⟨by rfl, ?y0_77⟩) ?r0_77
  case y0_77 =>
    intro w' hSw
    have k00 := (b9.ext hSw).c4
    have k10 := (bx.ext hSw).c4
    have k20 := (by_.ext hSw).c4
    go_simp
    try with_reducible rfl
  try simp only [Act.put]
  try simp only [List.setIfInBounds_toArray]
  try simp only [List.set_cons_succ]
  try simp only [List.set_cons_zero]
  refine Late.call (i := 1) rfl (by kernel_rfl) hAl (by kernel_rfl) (by kernel_rfl) (by kernel_rfl) hQ (fun w1 e1 E1 K hK => ?_)
  go_simp
  (go_at_call 37; refine (p_SignR (k.ext E1) (by omega)).mono ?_; rintro e wk1 ⟨rfl, hx1⟩; rw [HSG.out])
  refine hK.out _ _ hx1 ?_
  clear hK K
  try simp only [Act.put]
  try simp only [List.setIfInBounds_toArray]
  try simp only [List.set_cons_succ]
  try simp only [List.set_cons_zero]
  refine Late.take (i := 2) (d := some 97) (v := ?v2_78) rfl rfl (by kernel_rfl) (by kernel_rfl) (by kernel_rfl) (by kernel_rfl) hQ (Or.inl ⟨by rfl, ?y2_78⟩) ?r2_78
  case y2_78 =>
    intro w' hSw
    have k00 := (b9.ext hSw).c4
    have k10 := (bx.ext hSw).c4
    have k20 := (by_.ext hSw).c4
    go_simp
    try with_reducible rfl
  try simp only [Act.put]
  try simp only [List.setIfInBounds_toArray]
  try simp only [List.set_cons_succ]
  try simp only [List.set_cons_zero]
  refine Late.take (i := 3) (d := some 98) (v := ?v3_79) rfl rfl (by kernel_rfl) (by kernel_rfl) (by kernel_rfl) (by kernel_rfl) hQ (Or.inl ⟨by rfl, ?y3_79⟩) ?r3_79
  case y3_79 =>
    intro w' hSw
    have k00 := (b9.ext hSw).c4
    have k10 := (bx.ext hSw).c4
    have k20 := (by_.ext hSw).c4
    go_simp
    try with_reducible rfl
  try simp only [Act.put]
  try simp only [List.setIfInBounds_toArray]
  try simp only [List.set_cons_succ]
  try simp only [List.set_cons_zero]
  refine Late.take (i := 4) (d := some 99) (v := ?v4_80) rfl rfl (by kernel_rfl) (by kernel_rfl) (by kernel_rfl) (by kernel_rfl) hQ (Or.inl ⟨by rfl, ?y4_80⟩) ?r4_80
  case y4_80 =>
    intro w' hSw
    have k00 := (b9.ext hSw).c4
    have k10 := (bx.ext hSw).c4
    have k20 := (by_.ext hSw).c4
    go_simp
    try with_reducible rfl
  try simp only [Act.put]
  try simp only [List.setIfInBounds_toArray]
  try simp only [List.set_cons_succ]
  try simp only [List.set_cons_zero]
  refine Late.take (i := 5) (d := some 100) (v := ?v5_81) rfl rfl (by kernel_rfl) (by kernel_rfl) (by kernel_rfl) (by kernel_rfl) hQ (Or.inl ⟨by rfl, ?y5_81⟩) ?r5_81
  case y5_81 =>
    intro w' hSw
    have k00 := (b9.ext hSw).c4
    have k10 := (bx.ext hSw).c4
    have k20 := (by_.ext hSw).c4
    go_simp
    try with_reducible rfl
  try simp only [Act.put]
  try simp only [List.setIfInBounds_toArray]
  try simp only [List.set_cons_succ]
  try simp only [List.set_cons_zero]
  refine Late.take (i := 6) (d := some 101) (v := ?v6_82) rfl rfl (by kernel_rfl) (by kernel_rfl) (by kernel_rfl) (by kernel_rfl) hQ (Or.inl ⟨by rfl, ?y6_82⟩) ?r6_82
  case y6_82 =>
    intro w' hSw
    have k00 := (b9.ext hSw).c4
    have k10 := (bx.ext hSw).c4
    have k20 := (by_.ext hSw).c4
    go_simp
    try with_reducible rfl
  try simp only [Act.put]
  try simp only [List.setIfInBounds_toArray]
  try simp only [List.set_cons_succ]
  try simp only [List.set_cons_zero]
  refine Late.take (i := 7) (d := some 102) (v := ?v7_83) rfl rfl (by kernel_rfl) (by kernel_rfl) (by kernel_rfl) (by kernel_rfl) hQ (Or.inl ⟨by rfl, ?y7_83⟩) ?r7_83
  case y7_83 =>
    intro w' hSw
    have k00 := (b9.ext hSw).c4
    have k10 := (bx.ext hSw).c4
    have k20 := (by_.ext hSw).c4
    go_simp
    try with_reducible rfl
  try simp only [Act.put]
  try simp only [List.setIfInBounds_toArray]
  try simp only [List.set_cons_succ]
  try simp only [List.set_cons_zero]
  refine Late.take (i := 8) (d := some 103) (v := undef) rfl rfl (by kernel_rfl) (by kernel_rfl) (by kernel_rfl) (by kernel_rfl) hQ (Or.inr ⟨by kernel_rfl, rfl⟩) ?_
  try simp only [Act.put]
  try simp only [List.setIfInBounds_toArray]
  try simp only [List.set_cons_succ]
  try simp only [List.set_cons_zero]
  refine Late.take (i := 9) (d := some 104) (v := undef) rfl rfl (by kernel_rfl) (by kernel_rfl) (by kernel_rfl) (by kernel_rfl) hQ (Or.inr ⟨by kernel_rfl, rfl⟩) ?_
  try simp only [Act.put]
  try simp only [List.setIfInBounds_toArray]
  try simp only [List.set_cons_succ]
  try simp only [List.set_cons_zero]
  refine Late.take (i := 10) (d := some 105) (v := undef) rfl rfl (by kernel_rfl) (by kernel_rfl) (by kernel_rfl) (by kernel_rfl) hQ (Or.inr ⟨by kernel_rfl, rfl⟩) ?_
  try simp only [Act.put]
  try simp only [List.setIfInBounds_toArray]
  try simp only [List.set_cons_succ]
  try simp only [List.set_cons_zero]
  refine Late.take (i := 11) (d := some 106) (v := undef) rfl rfl (by kernel_rfl) (by kernel_rfl) (by kernel_rfl) (by kernel_rfl) hQ (Or.inr ⟨by kernel_rfl, rfl⟩) ?_
  try simp only [Act.put]
  try simp only [List.setIfInBounds_toArray]
  try simp only [List.set_cons_succ]
  try simp only [List.set_cons_zero]
  refine Late.take (i := 12) (d := some 107) (v := undef) rfl rfl (by kernel_rfl) (by kernel_rfl) (by kernel_rfl) (by kernel_rfl) hQ (Or.inr ⟨by kernel_rfl, rfl⟩) ?_
  try simp only [Act.put]
  try simp only [List.setIfInBounds_toArray]
  try simp only [List.set_cons_succ]
  try simp only [List.set_cons_zero]
  refine Late.take (i := 13) (d := some 108) (v := undef) rfl rfl (by kernel_rfl) (by kernel_rfl) (by kernel_rfl) (by kernel_rfl) hQ (Or.inr ⟨by kernel_rfl, rfl⟩) ?_
  try simp only [Act.put]
  try simp only [List.setIfInBounds_toArray]
  try simp only [List.set_cons_succ]
  try simp only [List.set_cons_zero]
  refine Late.take (i := 15) (d := some 110) (v := undef) rfl rfl (by kernel_rfl) (by kernel_rfl) (by kernel_rfl) (by kernel_rfl) hQ (Or.inr ⟨by kernel_rfl, rfl⟩) ?_
  try simp only [Act.put]
  try simp only [List.setIfInBounds_toArray]
  try simp only [List.set_cons_succ]
  try simp only [List.set_cons_zero]
  refine Late.take (i := 14) (d := some 109) (v := undef) rfl rfl (by kernel_rfl) (by kernel_rfl) (by kernel_rfl) (by kernel_rfl) hQ (Or.inr ⟨by kernel_rfl, rfl⟩) ?_
  try simp only [Act.put]
  try simp only [List.setIfInBounds_toArray]
  try simp only [List.set_cons_succ]
  try simp only [List.set_cons_zero]
  refine Late.take (i := 16) (d := some 111) (v := undef) rfl rfl (by kernel_rfl) (by kernel_rfl) (by kernel_rfl) (by kernel_rfl) hQ (Or.inr ⟨by kernel_rfl, rfl⟩) ?_
  try simp only [Act.put]
  try simp only [List.setIfInBounds_toArray]
  try simp only [List.set_cons_succ]
  try simp only [List.set_cons_zero]
  refine Late.take (i := 17) (d := some 112) (v := undef) rfl rfl (by kernel_rfl) (by kernel_rfl) (by kernel_rfl) (by kernel_rfl) hQ (Or.inr ⟨by kernel_rfl, rfl⟩) ?_
  try simp only [Act.put]
  try simp only [List.setIfInBounds_toArray]
  try simp only [List.set_cons_succ]
  try simp only [List.set_cons_zero]
  refine Late.take (i := 18) (d := some 113) (v := ?v18_84) rfl rfl (by kernel_rfl) (by kernel_rfl) (by kernel_rfl) (by kernel_rfl) hQ (Or.inl ⟨by rfl, ?y18_84⟩) ?r18_84
  case y18_84 =>
    intro w' hSw
    have k00 := (b9.ext hSw).c4
    have k10 := (bx.ext hSw).c4
    have k20 := (by_.ext hSw).c4
    go_simp
    try with_reducible rfl
  try simp only [Act.put]
  try simp only [List.setIfInBounds_toArray]
  try simp only [List.set_cons_succ]
  try simp only [List.set_cons_zero]
  refine Late.take (i := 19) (d := some 6) (v := ?v19_85) rfl rfl (by kernel_rfl) (by kernel_rfl) (by kernel_rfl) (by kernel_rfl) hQ (Or.inl ⟨by rfl, ?y19_85⟩) ?r19_85
  case y19_85 =>
    intro w' hSw
    have k00 := (b9.ext hSw).c4
    have k10 := (bx.ext hSw).c4
    have k20 := (by_.ext hSw).c4
    go_simp
    try with_reducible rfl
  try simp only [Act.put]
  try simp only [List.setIfInBounds_toArray]
  try simp only [List.set_cons_succ]
  try simp only [List.set_cons_zero]
  refine Late.done0 (by kernel_rfl) (fun wy ez Ez => ?_)
  clear hAl hQ ES
  go_wp2_with fail
  go_ret
  exact ⟨rfl, extW.trans Ez⟩
set_option maxHeartbeats 16000000 in
set_option maxRecDepth 100000 in
theorem field_nz (hA : Awake2) (hT : Tab w) (hP : TabP w) (h : NR w q 20 s A n c t B m d) (k : NR w p 20 s' A' n' c' t' B' m' d') (j : NR w r 20 u C l e0 u' D l' e') (hp : p ≠ 0) (S0 : Int) (hsg : p.num.sign = S0) (hs1 : (S0 == 0) = false) :
    Calls Tryz.prog 7 #[.agg #[.bool s, .slice A n c, .bool t, .slice B m d], .agg #[.bool s', .slice A' n' c', .bool t', .slice B' m' d'], .agg #[.bool u, .slice C l e0, .bool u', .slice D l' e']] w fun e w' => e = .returned (.bool true) ∧ Ext w w' := by
  have HSG := Lib.hid hsg
  clear hsg
  have Hp := Lib.hid hp
  clear hp
  obtain ⟨xs, ys, ra0, rb0, hv0, hn0, hm0, _⟩ := h.raw
  obtain ⟨xs', ys', ra1, rb1, hv1, hn1, hm1, _⟩ := k.raw
  obtain ⟨zs, zs', ra2, rb2, hv2, hn2, hm2, _⟩ := j.raw
  have HF := Lib.hid (show (fewB n m s xs t ys && (fewB n' m' s' xs' t' ys' && (fewB l l' u zs u' zs'))) = true by unfold fewB; rw [decide_eq_true hn0, decide_eq_true hm0, hv0, decide_eq_true hn1, decide_eq_true hm1, hv1, decide_eq_true hn2, decide_eq_true hm2, hv2]; rfl)
  have hr0 := And.intro ra0 rb0
  have hr1 := And.intro ra1 rb1
  have hr2 := And.intro ra2 rb2
  clear ra0 rb0 hv0 hn0 hm0 ra1 rb1 hv1 hn1 hm1 ra2 rb2 hv2 hn2 hm2
  have HA := Lib.hid hA
  clear hA
  go_enter Tryz.func7, Tryz.ntmps7
  go_upto_region 1 with (fail)
  obtain ⟨W0, hW, extW, bx, by_, bz, hzz⟩ := box3 w 27 27 27 #[.bool s, .slice A n c, .bool t, .slice B m d] #[.bool s', .slice A' n' c', .bool t', .slice B' m' d'] #[.bool u, .slice C l e0, .bool u', .slice D l' e']
  rw [← hW]
  clear hW hzz
  go_wp2_with fail
  refine (HA.out _ (hT.ext extW) (hP.ext extW)).mono ?_
  rintro e W ⟨rfl, hxt⟩
  replace extW := extW.trans hxt
  replace bx := bx.ext hxt
  replace by_ := by_.ext hxt
  replace bz := bz.ext hxt
  clear hxt
  have bx0 := bx.cell 0 (.bool s) rfl
  have bx1 := bx.cell 1 (.slice A n c) rfl
  have bx2 := bx.cell 2 (.bool t) rfl
  have bx3 := bx.cell 3 (.slice B m d) rfl
  have by_0 := by_.cell 0 (.bool s') rfl
  have by_1 := by_.cell 1 (.slice A' n' c') rfl
  have by_2 := by_.cell 2 (.bool t') rfl
  have by_3 := by_.cell 3 (.slice B' m' d') rfl
  have bz0 := bz.cell 0 (.bool u) rfl
  have bz1 := bz.cell 1 (.slice C l e0) rfl
  have bz2 := bz.cell 2 (.bool u') rfl
  have bz3 := bz.cell 3 (.slice D l' e') rfl
  have hnb := Box.new W 27 #[.bool s, .slice A n c, .bool t, .slice B m d, .bool s', .slice A' n' c', .bool t', .slice B' m' d', .bool u, .slice C l e0, .bool u', .slice D l' e']
  have e1 := (Ext.refl W).alloc (.cells #[.bool s, .slice A n c, .bool t, .slice B m d, .bool s', .slice A' n' c', .bool t', .slice B' m' d', .bool u, .slice C l e0, .bool u', .slice D l' e'] 27)
  go_wp2_with fail
  refine (few3 hnb (hr0.1.ext (extW.trans e1)) (hr0.2.ext (extW.trans e1)) (hr1.1.ext (extW.trans e1)) (hr1.2.ext (extW.trans e1)) (hr2.1.ext (extW.trans e1)) (hr2.2.ext (extW.trans e1))).mono ?_
  rintro e W1 ⟨rfl, hxt⟩
  rw [HF.out]
  have ES := e1.trans hxt
  clear hnb e1 hxt
  clear bx0 bx1 bx2 bx3 by_0 by_1 by_2 by_3 bz0 bz1 bz2 bz3
  clear hr0 hr1 hr2 HF
  replace bx := bx.ext ES
  replace by_ := by_.ext ES
  replace bz := bz.ext ES
  replace extW := extW.trans ES
  replace h := h.ext extW
  replace k := k.ext extW
  replace j := j.ext extW
  clear ES
  go_upto_region 4 with (fail)
  refine at_world (fun V => Ext w V ∧ Box V (w.heap.size) 27 #[.bool s, .slice A n c, .bool t, .slice B m d] ∧ Box V (w.heap.size + 1) 27 #[.bool s', .slice A' n' c', .bool t', .slice B' m' d'] ∧ Box V (w.heap.size + 1 + 1) 27 #[.bool u, .slice C l e0, .bool u', .slice D l' e'] ∧ NR V q 20 s A n c t B m d ∧ NR V p 20 s' A' n' c' t' B' m' d' ∧ NR V r 20 u C l e0 u' D l' e') ⟨extW, bx, by_, bz, h, k, j⟩ ?_
  clear extW bx by_ bz h k j
  rintro W0x ⟨extW, bx, by_, bz, h, k, j⟩
  have ES0 := Ext.refl W0x
  refine wp_region_held_drew (S := Ext W0x) (by kernel_rfl) ES0.drew (fun ES => ?_)
  clear ES0
  refine Late.start0 (fun _ _ _ _ _ => ⟨fun h => h, fun h => h⟩) ES (fun hAl hQ => ?_)
  refine Late.take (i := 0) (d := some 22) (v := ?v0_86) rfl rfl (by kernel_rfl) (by kernel_rfl) (by kernel_rfl) (by kernel_rfl) hQ (Or.inl ⟨by rfl, ?y0_86⟩) ?r0_86
  case y0_86 =>
    intro w' hSw
    have k00 := (bx.ext hSw).c4
    have k10 := (by_.ext hSw).c4
    have k20 := (bz.ext hSw).c4
    go_simp
    try with_reducible rfl
  try simp only [Act.put]
  try simp only [List.setIfInBounds_toArray]
  try simp only [List.set_cons_succ]
  try simp only [List.set_cons_zero]
  refine Late.take (i := 1) (d := some 23) (v := ?v1_87) rfl rfl (by kernel_rfl) (by kernel_rfl) (by kernel_rfl) (by kernel_rfl) hQ (Or.inl ⟨by rfl, ?y1_87⟩) ?r1_87
  case y1_87 =>
    intro w' hSw
    have k00 := (bx.ext hSw).c4
    have k10 := (by_.ext hSw).c4
    have k20 := (bz.ext hSw).c4
    go_simp
    try with_reducible rfl
  try simp only [Act.put]
  try simp only [List.setIfInBounds_toArray]
  try simp only [List.set_cons_succ]
  try simp only [List.set_cons_zero]
  refine Late.take (i := 2) (d := some 24) (v := ?v2_88) rfl rfl (by kernel_rfl) (by kernel_rfl) (by kernel_rfl) (by kernel_rfl) hQ (Or.inl ⟨by rfl, ?y2_88⟩) ?r2_88
  case y2_88 =>
    intro w' hSw
    have k00 := (bx.ext hSw).c4
    have k10 := (by_.ext hSw).c4
    have k20 := (bz.ext hSw).c4
    go_simp
    try with_reducible rfl
  try simp only [Act.put]
  try simp only [List.setIfInBounds_toArray]
  try simp only [List.set_cons_succ]
  try simp only [List.set_cons_zero]
  refine Late.take (i := 3) (d := some 25) (v := ?v3_89) rfl rfl (by kernel_rfl) (by kernel_rfl) (by kernel_rfl) (by kernel_rfl) hQ (Or.inl ⟨by rfl, ?y3_89⟩) ?r3_89
  case y3_89 =>
    intro w' hSw
    have k00 := (bx.ext hSw).c4
    have k10 := (by_.ext hSw).c4
    have k20 := (bz.ext hSw).c4
    go_simp
    try with_reducible rfl
  try simp only [Act.put]
  try simp only [List.setIfInBounds_toArray]
  try simp only [List.set_cons_succ]
  try simp only [List.set_cons_zero]
  refine Late.take (i := 5) (d := some 27) (v := ?v5_90) rfl rfl (by kernel_rfl) (by kernel_rfl) (by kernel_rfl) (by kernel_rfl) hQ (Or.inl ⟨by rfl, ?y5_90⟩) ?r5_90
  case y5_90 =>
    intro w' hSw
    have k00 := (bx.ext hSw).c4
    have k10 := (by_.ext hSw).c4
    have k20 := (bz.ext hSw).c4
    go_simp
    try with_reducible rfl
  try simp only [Act.put]
  try simp only [List.setIfInBounds_toArray]
  try simp only [List.set_cons_succ]
  try simp only [List.set_cons_zero]
  refine Late.take (i := 7) (d := some 29) (v := ?v7_91) rfl rfl (by kernel_rfl) (by kernel_rfl) (by kernel_rfl) (by kernel_rfl) hQ (Or.inl ⟨by rfl, ?y7_91⟩) ?r7_91
  case y7_91 =>
    intro w' hSw
    have k00 := (bx.ext hSw).c4
    have k10 := (by_.ext hSw).c4
    have k20 := (bz.ext hSw).c4
    go_simp
    try with_reducible rfl
  try simp only [Act.put]
  try simp only [List.setIfInBounds_toArray]
  try simp only [List.set_cons_succ]
  try simp only [List.set_cons_zero]
  refine Late.take (i := 8) (d := some 30) (v := ?v8_92) rfl rfl (by kernel_rfl) (by kernel_rfl) (by kernel_rfl) (by kernel_rfl) hQ (Or.inl ⟨by rfl, ?y8_92⟩) ?r8_92
  case y8_92 =>
    intro w' hSw
    have k00 := (bx.ext hSw).c4
    have k10 := (by_.ext hSw).c4
    have k20 := (bz.ext hSw).c4
    go_simp
    try with_reducible rfl
  try simp only [Act.put]
  try simp only [List.setIfInBounds_toArray]
  try simp only [List.set_cons_succ]
  try simp only [List.set_cons_zero]
  refine Late.take (i := 9) (d := some 31) (v := ?v9_93) rfl rfl (by kernel_rfl) (by kernel_rfl) (by kernel_rfl) (by kernel_rfl) hQ (Or.inl ⟨by rfl, ?y9_93⟩) ?r9_93
  case y9_93 =>
    intro w' hSw
    have k00 := (bx.ext hSw).c4
    have k10 := (by_.ext hSw).c4
    have k20 := (bz.ext hSw).c4
    go_simp
    try with_reducible rfl
  try simp only [Act.put]
  try simp only [List.setIfInBounds_toArray]
  try simp only [List.set_cons_succ]
  try simp only [List.set_cons_zero]
  refine Late.take (i := 10) (d := some 32) (v := ?v10_94) rfl rfl (by kernel_rfl) (by kernel_rfl) (by kernel_rfl) (by kernel_rfl) hQ (Or.inl ⟨by rfl, ?y10_94⟩) ?r10_94
  case y10_94 =>
    intro w' hSw
    have k00 := (bx.ext hSw).c4
    have k10 := (by_.ext hSw).c4
    have k20 := (bz.ext hSw).c4
    go_simp
    try with_reducible rfl
  try simp only [Act.put]
  try simp only [List.setIfInBounds_toArray]
  try simp only [List.set_cons_succ]
  try simp only [List.set_cons_zero]
  refine Late.take (i := 11) (d := some 33) (v := ?v11_95) rfl rfl (by kernel_rfl) (by kernel_rfl) (by kernel_rfl) (by kernel_rfl) hQ (Or.inl ⟨by rfl, ?y11_95⟩) ?r11_95
  case y11_95 =>
    intro w' hSw
    have k00 := (bx.ext hSw).c4
    have k10 := (by_.ext hSw).c4
    have k20 := (bz.ext hSw).c4
    go_simp
    try with_reducible rfl
  try simp only [Act.put]
  try simp only [List.setIfInBounds_toArray]
  try simp only [List.set_cons_succ]
  try simp only [List.set_cons_zero]
  refine Late.call (i := 4) rfl (by kernel_rfl) hAl (by kernel_rfl) (by kernel_rfl) (by kernel_rfl) hQ (fun w4 e4 E4 K hK => ?_)
  go_simp
  (go_at_call 28; refine (p_AddR (h.ext E4) (k.ext E4) (by omega) (by omega) (by omega) (hT.ext (extW.trans E4))).mono ?_; rintro e wk4 ⟨s16_, A16_, n16_, c16_, t16_, B16_, m16_, d16_, rfl, r1, hx4⟩)
  refine hK.out _ _ hx4 ?_
  clear hK K
  try simp only [Act.put]
  try simp only [List.setIfInBounds_toArray]
  try simp only [List.set_cons_succ]
  try simp only [List.set_cons_zero]
  refine Late.call (i := 6) rfl (by kernel_rfl) hAl (by kernel_rfl) (by kernel_rfl) (by kernel_rfl) hQ (fun w6 e6 E6 K hK => ?_)
  go_simp
  (replace r1 := r1.ext e6; go_at_call 28; refine (p_AddR r1 (j.ext E6) (by omega) (by omega) (by omega) (hT.ext (extW.trans E6))).mono ?_; rintro e wk6 ⟨s17_, A17_, n17_, c17_, t17_, B17_, m17_, d17_, rfl, r2, hx6⟩; replace r1 := r1.ext hx6)
  refine hK.out _ _ hx6 ?_
  clear hK K
  try simp only [Act.put]
  try simp only [List.setIfInBounds_toArray]
  try simp only [List.set_cons_succ]
  try simp only [List.set_cons_zero]
  refine Late.call (i := 12) rfl (by kernel_rfl) hAl (by kernel_rfl) (by kernel_rfl) (by kernel_rfl) hQ (fun w12 e12 E12 K hK => ?_)
  go_simp
  (replace r1 := r1.ext e12; replace r2 := r2.ext e12; go_at_call 28; refine (p_AddR (k.ext E12) (j.ext E12) (by omega) (by omega) (by omega) (hT.ext (extW.trans E12))).mono ?_; rintro e wk12 ⟨s18_, A18_, n18_, c18_, t18_, B18_, m18_, d18_, rfl, r3, hx12⟩; replace r1 := r1.ext hx12; replace r2 := r2.ext hx12)
  refine hK.out _ _ hx12 ?_
  clear hK K
  try simp only [Act.put]
  try simp only [List.setIfInBounds_toArray]
  try simp only [List.set_cons_succ]
  try simp only [List.set_cons_zero]
  refine Late.call (i := 13) rfl (by kernel_rfl) hAl (by kernel_rfl) (by kernel_rfl) (by kernel_rfl) hQ (fun w13 e13 E13 K hK => ?_)
  go_simp
  (replace r1 := r1.ext e13; replace r2 := r2.ext e13; replace r3 := r3.ext e13; go_at_call 28; refine (p_AddR (h.ext E13) r3 (by omega) (by omega) (by omega) (hT.ext (extW.trans E13))).mono ?_; rintro e wk13 ⟨s19_, A19_, n19_, c19_, t19_, B19_, m19_, d19_, rfl, r4, hx13⟩; replace r1 := r1.ext hx13; replace r2 := r2.ext hx13; replace r3 := r3.ext hx13; rw [← Rat.add_assoc] at r4)
  refine hK.out _ _ hx13 ?_
  clear hK K
  try simp only [Act.put]
  try simp only [List.setIfInBounds_toArray]
  try simp only [List.set_cons_succ]
  try simp only [List.set_cons_zero]
  refine Late.call (i := 14) rfl (by kernel_rfl) hAl (by kernel_rfl) (by kernel_rfl) (by kernel_rfl) hQ (fun w14 e14 E14 K hK => ?_)
  go_simp
  (replace r1 := r1.ext e14; replace r2 := r2.ext e14; replace r3 := r3.ext e14; replace r4 := r4.ext e14; go_at_call 16; refine (q_Same r2 r4).mono ?_; rintro e wk14 ⟨rfl, hx14⟩; replace r1 := r1.ext hx14; replace r2 := r2.ext hx14; replace r3 := r3.ext hx14; replace r4 := r4.ext hx14)
  refine hK.out _ _ hx14 ?_
  clear hK K
  try simp only [Act.put]
  try simp only [List.setIfInBounds_toArray]
  try simp only [List.set_cons_succ]
  try simp only [List.set_cons_zero]
  refine Late.take (i := 15) (d := some 37) (v := ?v15_96) rfl rfl (by kernel_rfl) (by kernel_rfl) (by kernel_rfl) (by kernel_rfl) hQ (Or.inl ⟨by rfl, ?y15_96⟩) ?r15_96
  case y15_96 =>
    intro w' hSw
    have k00 := (bx.ext hSw).c4
    have k10 := (by_.ext hSw).c4
    have k20 := (bz.ext hSw).c4
    go_simp
    try with_reducible rfl
  try simp only [Act.put]
  try simp only [List.setIfInBounds_toArray]
  try simp only [List.set_cons_succ]
  try simp only [List.set_cons_zero]
  refine Late.take (i := 16) (d := some 38) (v := ?v16_97) rfl rfl (by kernel_rfl) (by kernel_rfl) (by kernel_rfl) (by kernel_rfl) hQ (Or.inl ⟨by rfl, ?y16_97⟩) ?r16_97
  case y16_97 =>
    intro w' hSw
    have k00 := (bx.ext hSw).c4
    have k10 := (by_.ext hSw).c4
    have k20 := (bz.ext hSw).c4
    go_simp
    try with_reducible rfl
  try simp only [Act.put]
  try simp only [List.setIfInBounds_toArray]
  try simp only [List.set_cons_succ]
  try simp only [List.set_cons_zero]
  refine Late.take (i := 17) (d := some 39) (v := ?v17_98) rfl rfl (by kernel_rfl) (by kernel_rfl) (by kernel_rfl) (by kernel_rfl) hQ (Or.inl ⟨by rfl, ?y17_98⟩) ?r17_98
  case y17_98 =>
    intro w' hSw
    have k00 := (bx.ext hSw).c4
    have k10 := (by_.ext hSw).c4
    have k20 := (bz.ext hSw).c4
    go_simp
    try with_reducible rfl
  try simp only [Act.put]
  try simp only [List.setIfInBounds_toArray]
  try simp only [List.set_cons_succ]
  try simp only [List.set_cons_zero]
  refine Late.take (i := 18) (d := some 40) (v := ?v18_99) rfl rfl (by kernel_rfl) (by kernel_rfl) (by kernel_rfl) (by kernel_rfl) hQ (Or.inl ⟨by rfl, ?y18_99⟩) ?r18_99
  case y18_99 =>
    intro w' hSw
    have k00 := (bx.ext hSw).c4
    have k10 := (by_.ext hSw).c4
    have k20 := (bz.ext hSw).c4
    go_simp
    try with_reducible rfl
  try simp only [Act.put]
  try simp only [List.setIfInBounds_toArray]
  try simp only [List.set_cons_succ]
  try simp only [List.set_cons_zero]
  refine Late.take (i := 19) (d := some 41) (v := ?v19_100) rfl rfl (by kernel_rfl) (by kernel_rfl) (by kernel_rfl) (by kernel_rfl) hQ (Or.inl ⟨by rfl, ?y19_100⟩) ?r19_100
  case y19_100 =>
    intro w' hSw
    have k00 := (bx.ext hSw).c4
    have k10 := (by_.ext hSw).c4
    have k20 := (bz.ext hSw).c4
    go_simp
    try with_reducible rfl
  try simp only [Act.put]
  try simp only [List.setIfInBounds_toArray]
  try simp only [List.set_cons_succ]
  try simp only [List.set_cons_zero]
  refine Late.take (i := 20) (d := some 42) (v := ?v20_101) rfl rfl (by kernel_rfl) (by kernel_rfl) (by kernel_rfl) (by kernel_rfl) hQ (Or.inl ⟨by rfl, ?y20_101⟩) ?r20_101
  case y20_101 =>
    intro w' hSw
    have k00 := (bx.ext hSw).c4
    have k10 := (by_.ext hSw).c4
    have k20 := (bz.ext hSw).c4
    go_simp
    try with_reducible rfl
  try simp only [Act.put]
  try simp only [List.setIfInBounds_toArray]
  try simp only [List.set_cons_succ]
  try simp only [List.set_cons_zero]
  refine Late.take (i := 22) (d := some 44) (v := ?v22_102) rfl rfl (by kernel_rfl) (by kernel_rfl) (by kernel_rfl) (by kernel_rfl) hQ (Or.inl ⟨by rfl, ?y22_102⟩) ?r22_102
  case y22_102 =>
    intro w' hSw
    have k00 := (bx.ext hSw).c4
    have k10 := (by_.ext hSw).c4
    have k20 := (bz.ext hSw).c4
    go_simp
    try with_reducible rfl
  try simp only [Act.put]
  try simp only [List.setIfInBounds_toArray]
  try simp only [List.set_cons_succ]
  try simp only [List.set_cons_zero]
  refine Late.take (i := 24) (d := some 46) (v := ?v24_103) rfl rfl (by kernel_rfl) (by kernel_rfl) (by kernel_rfl) (by kernel_rfl) hQ (Or.inl ⟨by rfl, ?y24_103⟩) ?r24_103
  case y24_103 =>
    intro w' hSw
    have k00 := (bx.ext hSw).c4
    have k10 := (by_.ext hSw).c4
    have k20 := (bz.ext hSw).c4
    go_simp
    try with_reducible rfl
  try simp only [Act.put]
  try simp only [List.setIfInBounds_toArray]
  try simp only [List.set_cons_succ]
  try simp only [List.set_cons_zero]
  refine Late.take (i := 25) (d := some 47) (v := ?v25_104) rfl rfl (by kernel_rfl) (by kernel_rfl) (by kernel_rfl) (by kernel_rfl) hQ (Or.inl ⟨by rfl, ?y25_104⟩) ?r25_104
  case y25_104 =>
    intro w' hSw
    have k00 := (bx.ext hSw).c4
    have k10 := (by_.ext hSw).c4
    have k20 := (bz.ext hSw).c4
    go_simp
    try with_reducible rfl
  try simp only [Act.put]
  try simp only [List.setIfInBounds_toArray]
  try simp only [List.set_cons_succ]
  try simp only [List.set_cons_zero]
  refine Late.take (i := 26) (d := some 48) (v := ?v26_105) rfl rfl (by kernel_rfl) (by kernel_rfl) (by kernel_rfl) (by kernel_rfl) hQ (Or.inl ⟨by rfl, ?y26_105⟩) ?r26_105
  case y26_105 =>
    intro w' hSw
    have k00 := (bx.ext hSw).c4
    have k10 := (by_.ext hSw).c4
    have k20 := (bz.ext hSw).c4
    go_simp
    try with_reducible rfl
  try simp only [Act.put]
  try simp only [List.setIfInBounds_toArray]
  try simp only [List.set_cons_succ]
  try simp only [List.set_cons_zero]
  refine Late.take (i := 27) (d := some 49) (v := ?v27_106) rfl rfl (by kernel_rfl) (by kernel_rfl) (by kernel_rfl) (by kernel_rfl) hQ (Or.inl ⟨by rfl, ?y27_106⟩) ?r27_106
  case y27_106 =>
    intro w' hSw
    have k00 := (bx.ext hSw).c4
    have k10 := (by_.ext hSw).c4
    have k20 := (bz.ext hSw).c4
    go_simp
    try with_reducible rfl
  try simp only [Act.put]
  try simp only [List.setIfInBounds_toArray]
  try simp only [List.set_cons_succ]
  try simp only [List.set_cons_zero]
  refine Late.take (i := 28) (d := some 50) (v := ?v28_107) rfl rfl (by kernel_rfl) (by kernel_rfl) (by kernel_rfl) (by kernel_rfl) hQ (Or.inl ⟨by rfl, ?y28_107⟩) ?r28_107
  case y28_107 =>
    intro w' hSw
    have k00 := (bx.ext hSw).c4
    have k10 := (by_.ext hSw).c4
    have k20 := (bz.ext hSw).c4
    go_simp
    try with_reducible rfl
  try simp only [Act.put]
  try simp only [List.setIfInBounds_toArray]
  try simp only [List.set_cons_succ]
  try simp only [List.set_cons_zero]
  refine Late.call (i := 21) rfl (by kernel_rfl) hAl (by kernel_rfl) (by kernel_rfl) (by kernel_rfl) hQ (fun w21 e21 E21 K hK => ?_)
  go_simp
  (replace r1 := r1.ext e21; replace r2 := r2.ext e21; replace r3 := r3.ext e21; replace r4 := r4.ext e21; go_at_call 34; refine (p_MulR (h.ext E21) (k.ext E21) (by omega) (by omega) (by omega) (hT.ext (extW.trans E21))).mono ?_; rintro e wk21 ⟨s20_, A20_, n20_, c20_, t20_, B20_, m20_, d20_, rfl, r5, hx21⟩; replace r1 := r1.ext hx21; replace r2 := r2.ext hx21; replace r3 := r3.ext hx21; replace r4 := r4.ext hx21)
  refine hK.out _ _ hx21 ?_
  clear hK K
  try simp only [Act.put]
  try simp only [List.setIfInBounds_toArray]
  try simp only [List.set_cons_succ]
  try simp only [List.set_cons_zero]
  refine Late.call (i := 23) rfl (by kernel_rfl) hAl (by kernel_rfl) (by kernel_rfl) (by kernel_rfl) hQ (fun w23 e23 E23 K hK => ?_)
  go_simp
  (replace r1 := r1.ext e23; replace r2 := r2.ext e23; replace r3 := r3.ext e23; replace r4 := r4.ext e23; replace r5 := r5.ext e23; go_at_call 34; refine (p_MulR r5 (j.ext E23) (by omega) (by omega) (by omega) (hT.ext (extW.trans E23))).mono ?_; rintro e wk23 ⟨s21_, A21_, n21_, c21_, t21_, B21_, m21_, d21_, rfl, r6, hx23⟩; replace r1 := r1.ext hx23; replace r2 := r2.ext hx23; replace r3 := r3.ext hx23; replace r4 := r4.ext hx23; replace r5 := r5.ext hx23)
  refine hK.out _ _ hx23 ?_
  clear hK K
  try simp only [Act.put]
  try simp only [List.setIfInBounds_toArray]
  try simp only [List.set_cons_succ]
  try simp only [List.set_cons_zero]
  refine Late.call (i := 29) rfl (by kernel_rfl) hAl (by kernel_rfl) (by kernel_rfl) (by kernel_rfl) hQ (fun w29 e29 E29 K hK => ?_)
  go_simp
  (replace r1 := r1.ext e29; replace r2 := r2.ext e29; replace r3 := r3.ext e29; replace r4 := r4.ext e29; replace r5 := r5.ext e29; replace r6 := r6.ext e29; go_at_call 34; refine (p_MulR (k.ext E29) (j.ext E29) (by omega) (by omega) (by omega) (hT.ext (extW.trans E29))).mono ?_; rintro e wk29 ⟨s22_, A22_, n22_, c22_, t22_, B22_, m22_, d22_, rfl, r7, hx29⟩; replace r1 := r1.ext hx29; replace r2 := r2.ext hx29; replace r3 := r3.ext hx29; replace r4 := r4.ext hx29; replace r5 := r5.ext hx29; replace r6 := r6.ext hx29)
  refine hK.out _ _ hx29 ?_
  clear hK K
  try simp only [Act.put]
  try simp only [List.setIfInBounds_toArray]
  try simp only [List.set_cons_succ]
  try simp only [List.set_cons_zero]
  refine Late.call (i := 30) rfl (by kernel_rfl) hAl (by kernel_rfl) (by kernel_rfl) (by kernel_rfl) hQ (fun w30 e30 E30 K hK => ?_)
  go_simp
  (replace r1 := r1.ext e30; replace r2 := r2.ext e30; replace r3 := r3.ext e30; replace r4 := r4.ext e30; replace r5 := r5.ext e30; replace r6 := r6.ext e30; replace r7 := r7.ext e30; go_at_call 34; refine (p_MulR (h.ext E30) r7 (by omega) (by omega) (by omega) (hT.ext (extW.trans E30))).mono ?_; rintro e wk30 ⟨s23_, A23_, n23_, c23_, t23_, B23_, m23_, d23_, rfl, r8, hx30⟩; replace r1 := r1.ext hx30; replace r2 := r2.ext hx30; replace r3 := r3.ext hx30; replace r4 := r4.ext hx30; replace r5 := r5.ext hx30; replace r6 := r6.ext hx30; replace r7 := r7.ext hx30; rw [← Rat.mul_assoc] at r8)
  refine hK.out _ _ hx30 ?_
  clear hK K
  try simp only [Act.put]
  try simp only [List.setIfInBounds_toArray]
  try simp only [List.set_cons_succ]
  try simp only [List.set_cons_zero]
  refine Late.call (i := 31) rfl (by kernel_rfl) hAl (by kernel_rfl) (by kernel_rfl) (by kernel_rfl) hQ (fun w31 e31 E31 K hK => ?_)
  go_simp
  (replace r1 := r1.ext e31; replace r2 := r2.ext e31; replace r3 := r3.ext e31; replace r4 := r4.ext e31; replace r5 := r5.ext e31; replace r6 := r6.ext e31; replace r7 := r7.ext e31; replace r8 := r8.ext e31; go_at_call 16; refine (q_Same r6 r8).mono ?_; rintro e wk31 ⟨rfl, hx31⟩; replace r1 := r1.ext hx31; replace r2 := r2.ext hx31; replace r3 := r3.ext hx31; replace r4 := r4.ext hx31; replace r5 := r5.ext hx31; replace r6 := r6.ext hx31; replace r7 := r7.ext hx31; replace r8 := r8.ext hx31)
  refine hK.out _ _ hx31 ?_
  clear hK K
  try simp only [Act.put]
  try simp only [List.setIfInBounds_toArray]
  try simp only [List.set_cons_succ]
  try simp only [List.set_cons_zero]
  refine Late.take (i := 32) (d := some 54) (v := ?v32_108) rfl rfl (by kernel_rfl) (by kernel_rfl) (by kernel_rfl) (by kernel_rfl) hQ (Or.inl ⟨by rfl, ?y32_108⟩) ?r32_108
  case y32_108 =>
    intro w' hSw
    have k00 := (bx.ext hSw).c4
    have k10 := (by_.ext hSw).c4
    have k20 := (bz.ext hSw).c4
    go_simp
    try with_reducible rfl
  try simp only [Act.put]
  try simp only [List.setIfInBounds_toArray]
  try simp only [List.set_cons_succ]
  try simp only [List.set_cons_zero]
  refine Late.take (i := 33) (d := some 55) (v := ?v33_109) rfl rfl (by kernel_rfl) (by kernel_rfl) (by kernel_rfl) (by kernel_rfl) hQ (Or.inl ⟨by rfl, ?y33_109⟩) ?r33_109
  case y33_109 =>
    intro w' hSw
    have k00 := (bx.ext hSw).c4
    have k10 := (by_.ext hSw).c4
    have k20 := (bz.ext hSw).c4
    go_simp
    try with_reducible rfl
  try simp only [Act.put]
  try simp only [List.setIfInBounds_toArray]
  try simp only [List.set_cons_succ]
  try simp only [List.set_cons_zero]
  refine Late.take (i := 34) (d := some 56) (v := ?v34_110) rfl rfl (by kernel_rfl) (by kernel_rfl) (by kernel_rfl) (by kernel_rfl) hQ (Or.inl ⟨by rfl, ?y34_110⟩) ?r34_110
  case y34_110 =>
    intro w' hSw
    have k00 := (bx.ext hSw).c4
    have k10 := (by_.ext hSw).c4
    have k20 := (bz.ext hSw).c4
    go_simp
    try with_reducible rfl
  try simp only [Act.put]
  try simp only [List.setIfInBounds_toArray]
  try simp only [List.set_cons_succ]
  try simp only [List.set_cons_zero]
  refine Late.take (i := 35) (d := some 57) (v := ?v35_111) rfl rfl (by kernel_rfl) (by kernel_rfl) (by kernel_rfl) (by kernel_rfl) hQ (Or.inl ⟨by rfl, ?y35_111⟩) ?r35_111
  case y35_111 =>
    intro w' hSw
    have k00 := (bx.ext hSw).c4
    have k10 := (by_.ext hSw).c4
    have k20 := (bz.ext hSw).c4
    go_simp
    try with_reducible rfl
  try simp only [Act.put]
  try simp only [List.setIfInBounds_toArray]
  try simp only [List.set_cons_succ]
  try simp only [List.set_cons_zero]
  refine Late.take (i := 36) (d := some 58) (v := ?v36_112) rfl rfl (by kernel_rfl) (by kernel_rfl) (by kernel_rfl) (by kernel_rfl) hQ (Or.inl ⟨by rfl, ?y36_112⟩) ?r36_112
  case y36_112 =>
    intro w' hSw
    have k00 := (bx.ext hSw).c4
    have k10 := (by_.ext hSw).c4
    have k20 := (bz.ext hSw).c4
    go_simp
    try with_reducible rfl
  try simp only [Act.put]
  try simp only [List.setIfInBounds_toArray]
  try simp only [List.set_cons_succ]
  try simp only [List.set_cons_zero]
  refine Late.take (i := 37) (d := some 59) (v := ?v37_113) rfl rfl (by kernel_rfl) (by kernel_rfl) (by kernel_rfl) (by kernel_rfl) hQ (Or.inl ⟨by rfl, ?y37_113⟩) ?r37_113
  case y37_113 =>
    intro w' hSw
    have k00 := (bx.ext hSw).c4
    have k10 := (by_.ext hSw).c4
    have k20 := (bz.ext hSw).c4
    go_simp
    try with_reducible rfl
  try simp only [Act.put]
  try simp only [List.setIfInBounds_toArray]
  try simp only [List.set_cons_succ]
  try simp only [List.set_cons_zero]
  refine Late.take (i := 39) (d := some 61) (v := ?v39_114) rfl rfl (by kernel_rfl) (by kernel_rfl) (by kernel_rfl) (by kernel_rfl) hQ (Or.inl ⟨by rfl, ?y39_114⟩) ?r39_114
  case y39_114 =>
    intro w' hSw
    have k00 := (bx.ext hSw).c4
    have k10 := (by_.ext hSw).c4
    have k20 := (bz.ext hSw).c4
    go_simp
    try with_reducible rfl
  try simp only [Act.put]
  try simp only [List.setIfInBounds_toArray]
  try simp only [List.set_cons_succ]
  try simp only [List.set_cons_zero]
  refine Late.take (i := 40) (d := some 62) (v := ?v40_115) rfl rfl (by kernel_rfl) (by kernel_rfl) (by kernel_rfl) (by kernel_rfl) hQ (Or.inl ⟨by rfl, ?y40_115⟩) ?r40_115
  case y40_115 =>
    intro w' hSw
    have k00 := (bx.ext hSw).c4
    have k10 := (by_.ext hSw).c4
    have k20 := (bz.ext hSw).c4
    go_simp
    try with_reducible rfl
  try simp only [Act.put]
  try simp only [List.setIfInBounds_toArray]
  try simp only [List.set_cons_succ]
  try simp only [List.set_cons_zero]
  refine Late.take (i := 41) (d := some 63) (v := ?v41_116) rfl rfl (by kernel_rfl) (by kernel_rfl) (by kernel_rfl) (by kernel_rfl) hQ (Or.inl ⟨by rfl, ?y41_116⟩) ?r41_116
  case y41_116 =>
    intro w' hSw
    have k00 := (bx.ext hSw).c4
    have k10 := (by_.ext hSw).c4
    have k20 := (bz.ext hSw).c4
    go_simp
    try with_reducible rfl
  try simp only [Act.put]
  try simp only [List.setIfInBounds_toArray]
  try simp only [List.set_cons_succ]
  try simp only [List.set_cons_zero]
  refine Late.call (i := 38) rfl (by kernel_rfl) hAl (by kernel_rfl) (by kernel_rfl) (by kernel_rfl) hQ (fun w38 e38 E38 K hK => ?_)
  go_simp
  (replace r1 := r1.ext e38; replace r2 := r2.ext e38; replace r3 := r3.ext e38; replace r4 := r4.ext e38; replace r5 := r5.ext e38; replace r6 := r6.ext e38; replace r7 := r7.ext e38; replace r8 := r8.ext e38; go_at_call 34; refine (p_MulR (h.ext E38) (k.ext E38) (by omega) (by omega) (by omega) (hT.ext (extW.trans E38))).mono ?_; rintro e wk38 ⟨s24_, A24_, n24_, c24_, t24_, B24_, m24_, d24_, rfl, r9, hx38⟩; replace r1 := r1.ext hx38; replace r2 := r2.ext hx38; replace r3 := r3.ext hx38; replace r4 := r4.ext hx38; replace r5 := r5.ext hx38; replace r6 := r6.ext hx38; replace r7 := r7.ext hx38; replace r8 := r8.ext hx38)
  refine hK.out _ _ hx38 ?_
  clear hK K
  try simp only [Act.put]
  try simp only [List.setIfInBounds_toArray]
  try simp only [List.set_cons_succ]
  try simp only [List.set_cons_zero]
  refine Late.call (i := 42) rfl (by kernel_rfl) hAl (by kernel_rfl) (by kernel_rfl) (by kernel_rfl) hQ (fun w42 e42 E42 K hK => ?_)
  go_simp
  (replace r1 := r1.ext e42; replace r2 := r2.ext e42; replace r3 := r3.ext e42; replace r4 := r4.ext e42; replace r5 := r5.ext e42; replace r6 := r6.ext e42; replace r7 := r7.ext e42; replace r8 := r8.ext e42; replace r9 := r9.ext e42; go_at_call 34; refine (p_MulR (k.ext E42) (h.ext E42) (by omega) (by omega) (by omega) (hT.ext (extW.trans E42))).mono ?_; rintro e wk42 ⟨s25_, A25_, n25_, c25_, t25_, B25_, m25_, d25_, rfl, r10, hx42⟩; replace r1 := r1.ext hx42; replace r2 := r2.ext hx42; replace r3 := r3.ext hx42; replace r4 := r4.ext hx42; replace r5 := r5.ext hx42; replace r6 := r6.ext hx42; replace r7 := r7.ext hx42; replace r8 := r8.ext hx42; replace r9 := r9.ext hx42; rw [Rat.mul_comm p q] at r10)
  refine hK.out _ _ hx42 ?_
  clear hK K
  try simp only [Act.put]
  try simp only [List.setIfInBounds_toArray]
  try simp only [List.set_cons_succ]
  try simp only [List.set_cons_zero]
  refine Late.call (i := 43) rfl (by kernel_rfl) hAl (by kernel_rfl) (by kernel_rfl) (by kernel_rfl) hQ (fun w43 e43 E43 K hK => ?_)
  go_simp
  (replace r1 := r1.ext e43; replace r2 := r2.ext e43; replace r3 := r3.ext e43; replace r4 := r4.ext e43; replace r5 := r5.ext e43; replace r6 := r6.ext e43; replace r7 := r7.ext e43; replace r8 := r8.ext e43; replace r9 := r9.ext e43; replace r10 := r10.ext e43; go_at_call 16; refine (q_Same r9 r10).mono ?_; rintro e wk43 ⟨rfl, hx43⟩; replace r1 := r1.ext hx43; replace r2 := r2.ext hx43; replace r3 := r3.ext hx43; replace r4 := r4.ext hx43; replace r5 := r5.ext hx43; replace r6 := r6.ext hx43; replace r7 := r7.ext hx43; replace r8 := r8.ext hx43; replace r9 := r9.ext hx43; replace r10 := r10.ext hx43)
  refine hK.out _ _ hx43 ?_
  clear hK K
  try simp only [Act.put]
  try simp only [List.setIfInBounds_toArray]
  try simp only [List.set_cons_succ]
  try simp only [List.set_cons_zero]
  refine Late.take (i := 44) (d := some 66) (v := ?v44_117) rfl rfl (by kernel_rfl) (by kernel_rfl) (by kernel_rfl) (by kernel_rfl) hQ (Or.inl ⟨by rfl, ?y44_117⟩) ?r44_117
  case y44_117 =>
    intro w' hSw
    have k00 := (bx.ext hSw).c4
    have k10 := (by_.ext hSw).c4
    have k20 := (bz.ext hSw).c4
    go_simp
    try with_reducible rfl
  try simp only [Act.put]
  try simp only [List.setIfInBounds_toArray]
  try simp only [List.set_cons_succ]
  try simp only [List.set_cons_zero]
  refine Late.take (i := 45) (d := some 67) (v := ?v45_118) rfl rfl (by kernel_rfl) (by kernel_rfl) (by kernel_rfl) (by kernel_rfl) hQ (Or.inl ⟨by rfl, ?y45_118⟩) ?r45_118
  case y45_118 =>
    intro w' hSw
    have k00 := (bx.ext hSw).c4
    have k10 := (by_.ext hSw).c4
    have k20 := (bz.ext hSw).c4
    go_simp
    try with_reducible rfl
  try simp only [Act.put]
  try simp only [List.setIfInBounds_toArray]
  try simp only [List.set_cons_succ]
  try simp only [List.set_cons_zero]
  refine Late.take (i := 46) (d := some 68) (v := ?v46_119) rfl rfl (by kernel_rfl) (by kernel_rfl) (by kernel_rfl) (by kernel_rfl) hQ (Or.inl ⟨by rfl, ?y46_119⟩) ?r46_119
  case y46_119 =>
    intro w' hSw
    have k00 := (bx.ext hSw).c4
    have k10 := (by_.ext hSw).c4
    have k20 := (bz.ext hSw).c4
    go_simp
    try with_reducible rfl
  try simp only [Act.put]
  try simp only [List.setIfInBounds_toArray]
  try simp only [List.set_cons_succ]
  try simp only [List.set_cons_zero]
  refine Late.take (i := 47) (d := some 69) (v := ?v47_120) rfl rfl (by kernel_rfl) (by kernel_rfl) (by kernel_rfl) (by kernel_rfl) hQ (Or.inl ⟨by rfl, ?y47_120⟩) ?r47_120
  case y47_120 =>
    intro w' hSw
    have k00 := (bx.ext hSw).c4
    have k10 := (by_.ext hSw).c4
    have k20 := (bz.ext hSw).c4
    go_simp
    try with_reducible rfl
  try simp only [Act.put]
  try simp only [List.setIfInBounds_toArray]
  try simp only [List.set_cons_succ]
  try simp only [List.set_cons_zero]
  refine Late.take (i := 48) (d := some 70) (v := ?v48_121) rfl rfl (by kernel_rfl) (by kernel_rfl) (by kernel_rfl) (by kernel_rfl) hQ (Or.inl ⟨by rfl, ?y48_121⟩) ?r48_121
  case y48_121 =>
    intro w' hSw
    have k00 := (bx.ext hSw).c4
    have k10 := (by_.ext hSw).c4
    have k20 := (bz.ext hSw).c4
    go_simp
    try with_reducible rfl
  try simp only [Act.put]
  try simp only [List.setIfInBounds_toArray]
  try simp only [List.set_cons_succ]
  try simp only [List.set_cons_zero]
  refine Late.take (i := 49) (d := some 71) (v := ?v49_122) rfl rfl (by kernel_rfl) (by kernel_rfl) (by kernel_rfl) (by kernel_rfl) hQ (Or.inl ⟨by rfl, ?y49_122⟩) ?r49_122
  case y49_122 =>
    intro w' hSw
    have k00 := (bx.ext hSw).c4
    have k10 := (by_.ext hSw).c4
    have k20 := (bz.ext hSw).c4
    go_simp
    try with_reducible rfl
  try simp only [Act.put]
  try simp only [List.setIfInBounds_toArray]
  try simp only [List.set_cons_succ]
  try simp only [List.set_cons_zero]
  refine Late.take (i := 50) (d := some 72) (v := ?v50_123) rfl rfl (by kernel_rfl) (by kernel_rfl) (by kernel_rfl) (by kernel_rfl) hQ (Or.inl ⟨by rfl, ?y50_123⟩) ?r50_123
  case y50_123 =>
    intro w' hSw
    have k00 := (bx.ext hSw).c4
    have k10 := (by_.ext hSw).c4
    have k20 := (bz.ext hSw).c4
    go_simp
    try with_reducible rfl
  try simp only [Act.put]
  try simp only [List.setIfInBounds_toArray]
  try simp only [List.set_cons_succ]
  try simp only [List.set_cons_zero]
  refine Late.take (i := 51) (d := some 73) (v := ?v51_124) rfl rfl (by kernel_rfl) (by kernel_rfl) (by kernel_rfl) (by kernel_rfl) hQ (Or.inl ⟨by rfl, ?y51_124⟩) ?r51_124
  case y51_124 =>
    intro w' hSw
    have k00 := (bx.ext hSw).c4
    have k10 := (by_.ext hSw).c4
    have k20 := (bz.ext hSw).c4
    go_simp
    try with_reducible rfl
  try simp only [Act.put]
  try simp only [List.setIfInBounds_toArray]
  try simp only [List.set_cons_succ]
  try simp only [List.set_cons_zero]
  refine Late.take (i := 54) (d := some 76) (v := ?v54_125) rfl rfl (by kernel_rfl) (by kernel_rfl) (by kernel_rfl) (by kernel_rfl) hQ (Or.inl ⟨by rfl, ?y54_125⟩) ?r54_125
  case y54_125 =>
    intro w' hSw
    have k00 := (bx.ext hSw).c4
    have k10 := (by_.ext hSw).c4
    have k20 := (bz.ext hSw).c4
    go_simp
    try with_reducible rfl
  try simp only [Act.put]
  try simp only [List.setIfInBounds_toArray]
  try simp only [List.set_cons_succ]
  try simp only [List.set_cons_zero]
  refine Late.take (i := 55) (d := some 77) (v := ?v55_126) rfl rfl (by kernel_rfl) (by kernel_rfl) (by kernel_rfl) (by kernel_rfl) hQ (Or.inl ⟨by rfl, ?y55_126⟩) ?r55_126
  case y55_126 =>
    intro w' hSw
    have k00 := (bx.ext hSw).c4
    have k10 := (by_.ext hSw).c4
    have k20 := (bz.ext hSw).c4
    go_simp
    try with_reducible rfl
  try simp only [Act.put]
  try simp only [List.setIfInBounds_toArray]
  try simp only [List.set_cons_succ]
  try simp only [List.set_cons_zero]
  refine Late.take (i := 56) (d := some 78) (v := ?v56_127) rfl rfl (by kernel_rfl) (by kernel_rfl) (by kernel_rfl) (by kernel_rfl) hQ (Or.inl ⟨by rfl, ?y56_127⟩) ?r56_127
  case y56_127 =>
    intro w' hSw
    have k00 := (bx.ext hSw).c4
    have k10 := (by_.ext hSw).c4
    have k20 := (bz.ext hSw).c4
    go_simp
    try with_reducible rfl
  try simp only [Act.put]
  try simp only [List.setIfInBounds_toArray]
  try simp only [List.set_cons_succ]
  try simp only [List.set_cons_zero]
  refine Late.take (i := 57) (d := some 79) (v := ?v57_128) rfl rfl (by kernel_rfl) (by kernel_rfl) (by kernel_rfl) (by kernel_rfl) hQ (Or.inl ⟨by rfl, ?y57_128⟩) ?r57_128
  case y57_128 =>
    intro w' hSw
    have k00 := (bx.ext hSw).c4
    have k10 := (by_.ext hSw).c4
    have k20 := (bz.ext hSw).c4
    go_simp
    try with_reducible rfl
  try simp only [Act.put]
  try simp only [List.setIfInBounds_toArray]
  try simp only [List.set_cons_succ]
  try simp only [List.set_cons_zero]
  refine Late.take (i := 59) (d := some 81) (v := ?v59_129) rfl rfl (by kernel_rfl) (by kernel_rfl) (by kernel_rfl) (by kernel_rfl) hQ (Or.inl ⟨by rfl, ?y59_129⟩) ?r59_129
  case y59_129 =>
    intro w' hSw
    have k00 := (bx.ext hSw).c4
    have k10 := (by_.ext hSw).c4
    have k20 := (bz.ext hSw).c4
    go_simp
    try with_reducible rfl
  try simp only [Act.put]
  try simp only [List.setIfInBounds_toArray]
  try simp only [List.set_cons_succ]
  try simp only [List.set_cons_zero]
  refine Late.take (i := 60) (d := some 82) (v := ?v60_130) rfl rfl (by kernel_rfl) (by kernel_rfl) (by kernel_rfl) (by kernel_rfl) hQ (Or.inl ⟨by rfl, ?y60_130⟩) ?r60_130
  case y60_130 =>
    intro w' hSw
    have k00 := (bx.ext hSw).c4
    have k10 := (by_.ext hSw).c4
    have k20 := (bz.ext hSw).c4
    go_simp
    try with_reducible rfl
  try simp only [Act.put]
  try simp only [List.setIfInBounds_toArray]
  try simp only [List.set_cons_succ]
  try simp only [List.set_cons_zero]
  refine Late.take (i := 61) (d := some 83) (v := ?v61_131) rfl rfl (by kernel_rfl) (by kernel_rfl) (by kernel_rfl) (by kernel_rfl) hQ (Or.inl ⟨by rfl, ?y61_131⟩) ?r61_131
  case y61_131 =>
    intro w' hSw
    have k00 := (bx.ext hSw).c4
    have k10 := (by_.ext hSw).c4
    have k20 := (bz.ext hSw).c4
    go_simp
    try with_reducible rfl
  try simp only [Act.put]
  try simp only [List.setIfInBounds_toArray]
  try simp only [List.set_cons_succ]
  try simp only [List.set_cons_zero]
  refine Late.call (i := 52) rfl (by kernel_rfl) hAl (by kernel_rfl) (by kernel_rfl) (by kernel_rfl) hQ (fun w52 e52 E52 K hK => ?_)
  go_simp
  (replace r1 := r1.ext e52; replace r2 := r2.ext e52; replace r3 := r3.ext e52; replace r4 := r4.ext e52; replace r5 := r5.ext e52; replace r6 := r6.ext e52; replace r7 := r7.ext e52; replace r8 := r8.ext e52; replace r9 := r9.ext e52; replace r10 := r10.ext e52; go_at_call 28; refine (p_AddR (k.ext E52) (j.ext E52) (by omega) (by omega) (by omega) (hT.ext (extW.trans E52))).mono ?_; rintro e wk52 ⟨s26_, A26_, n26_, c26_, t26_, B26_, m26_, d26_, rfl, r11, hx52⟩; replace r1 := r1.ext hx52; replace r2 := r2.ext hx52; replace r3 := r3.ext hx52; replace r4 := r4.ext hx52; replace r5 := r5.ext hx52; replace r6 := r6.ext hx52; replace r7 := r7.ext hx52; replace r8 := r8.ext hx52; replace r9 := r9.ext hx52; replace r10 := r10.ext hx52)
  refine hK.out _ _ hx52 ?_
  clear hK K
  try simp only [Act.put]
  try simp only [List.setIfInBounds_toArray]
  try simp only [List.set_cons_succ]
  try simp only [List.set_cons_zero]
  refine Late.call (i := 53) rfl (by kernel_rfl) hAl (by kernel_rfl) (by kernel_rfl) (by kernel_rfl) hQ (fun w53 e53 E53 K hK => ?_)
  go_simp
  (replace r1 := r1.ext e53; replace r2 := r2.ext e53; replace r3 := r3.ext e53; replace r4 := r4.ext e53; replace r5 := r5.ext e53; replace r6 := r6.ext e53; replace r7 := r7.ext e53; replace r8 := r8.ext e53; replace r9 := r9.ext e53; replace r10 := r10.ext e53; replace r11 := r11.ext e53; go_at_call 34; refine (p_MulR (h.ext E53) r11 (by omega) (by omega) (by omega) (hT.ext (extW.trans E53))).mono ?_; rintro e wk53 ⟨s27_, A27_, n27_, c27_, t27_, B27_, m27_, d27_, rfl, r12, hx53⟩; replace r1 := r1.ext hx53; replace r2 := r2.ext hx53; replace r3 := r3.ext hx53; replace r4 := r4.ext hx53; replace r5 := r5.ext hx53; replace r6 := r6.ext hx53; replace r7 := r7.ext hx53; replace r8 := r8.ext hx53; replace r9 := r9.ext hx53; replace r10 := r10.ext hx53; replace r11 := r11.ext hx53)
  refine hK.out _ _ hx53 ?_
  clear hK K
  try simp only [Act.put]
  try simp only [List.setIfInBounds_toArray]
  try simp only [List.set_cons_succ]
  try simp only [List.set_cons_zero]
  refine Late.call (i := 58) rfl (by kernel_rfl) hAl (by kernel_rfl) (by kernel_rfl) (by kernel_rfl) hQ (fun w58 e58 E58 K hK => ?_)
  go_simp
  (replace r1 := r1.ext e58; replace r2 := r2.ext e58; replace r3 := r3.ext e58; replace r4 := r4.ext e58; replace r5 := r5.ext e58; replace r6 := r6.ext e58; replace r7 := r7.ext e58; replace r8 := r8.ext e58; replace r9 := r9.ext e58; replace r10 := r10.ext e58; replace r11 := r11.ext e58; replace r12 := r12.ext e58; go_at_call 34; refine (p_MulR (h.ext E58) (k.ext E58) (by omega) (by omega) (by omega) (hT.ext (extW.trans E58))).mono ?_; rintro e wk58 ⟨s28_, A28_, n28_, c28_, t28_, B28_, m28_, d28_, rfl, r13, hx58⟩; replace r1 := r1.ext hx58; replace r2 := r2.ext hx58; replace r3 := r3.ext hx58; replace r4 := r4.ext hx58; replace r5 := r5.ext hx58; replace r6 := r6.ext hx58; replace r7 := r7.ext hx58; replace r8 := r8.ext hx58; replace r9 := r9.ext hx58; replace r10 := r10.ext hx58; replace r11 := r11.ext hx58; replace r12 := r12.ext hx58)
  refine hK.out _ _ hx58 ?_
  clear hK K
  try simp only [Act.put]
  try simp only [List.setIfInBounds_toArray]
  try simp only [List.set_cons_succ]
  try simp only [List.set_cons_zero]
  refine Late.call (i := 62) rfl (by kernel_rfl) hAl (by kernel_rfl) (by kernel_rfl) (by kernel_rfl) hQ (fun w62 e62 E62 K hK => ?_)
  go_simp
  (replace r1 := r1.ext e62; replace r2 := r2.ext e62; replace r3 := r3.ext e62; replace r4 := r4.ext e62; replace r5 := r5.ext e62; replace r6 := r6.ext e62; replace r7 := r7.ext e62; replace r8 := r8.ext e62; replace r9 := r9.ext e62; replace r10 := r10.ext e62; replace r11 := r11.ext e62; replace r12 := r12.ext e62; replace r13 := r13.ext e62; go_at_call 34; refine (p_MulR (h.ext E62) (j.ext E62) (by omega) (by omega) (by omega) (hT.ext (extW.trans E62))).mono ?_; rintro e wk62 ⟨s29_, A29_, n29_, c29_, t29_, B29_, m29_, d29_, rfl, r14, hx62⟩; replace r1 := r1.ext hx62; replace r2 := r2.ext hx62; replace r3 := r3.ext hx62; replace r4 := r4.ext hx62; replace r5 := r5.ext hx62; replace r6 := r6.ext hx62; replace r7 := r7.ext hx62; replace r8 := r8.ext hx62; replace r9 := r9.ext hx62; replace r10 := r10.ext hx62; replace r11 := r11.ext hx62; replace r12 := r12.ext hx62; replace r13 := r13.ext hx62)
  refine hK.out _ _ hx62 ?_
  clear hK K
  try simp only [Act.put]
  try simp only [List.setIfInBounds_toArray]
  try simp only [List.set_cons_succ]
  try simp only [List.set_cons_zero]
  refine Late.call (i := 63) rfl (by kernel_rfl) hAl (by kernel_rfl) (by kernel_rfl) (by kernel_rfl) hQ (fun w63 e63 E63 K hK => ?_)
  go_simp
  (replace r1 := r1.ext e63; replace r2 := r2.ext e63; replace r3 := r3.ext e63; replace r4 := r4.ext e63; replace r5 := r5.ext e63; replace r6 := r6.ext e63; replace r7 := r7.ext e63; replace r8 := r8.ext e63; replace r9 := r9.ext e63; replace r10 := r10.ext e63; replace r11 := r11.ext e63; replace r12 := r12.ext e63; replace r13 := r13.ext e63; replace r14 := r14.ext e63; go_at_call 28; refine (p_AddR r13 r14 (by omega) (by omega) (by omega) (hT.ext (extW.trans E63))).mono ?_; rintro e wk63 ⟨s30_, A30_, n30_, c30_, t30_, B30_, m30_, d30_, rfl, r15, hx63⟩; replace r1 := r1.ext hx63; replace r2 := r2.ext hx63; replace r3 := r3.ext hx63; replace r4 := r4.ext hx63; replace r5 := r5.ext hx63; replace r6 := r6.ext hx63; replace r7 := r7.ext hx63; replace r8 := r8.ext hx63; replace r9 := r9.ext hx63; replace r10 := r10.ext hx63; replace r11 := r11.ext hx63; replace r12 := r12.ext hx63; replace r13 := r13.ext hx63; replace r14 := r14.ext hx63; rw [← Rat.mul_add] at r15)
  refine hK.out _ _ hx63 ?_
  clear hK K
  try simp only [Act.put]
  try simp only [List.setIfInBounds_toArray]
  try simp only [List.set_cons_succ]
  try simp only [List.set_cons_zero]
  refine Late.call (i := 64) rfl (by kernel_rfl) hAl (by kernel_rfl) (by kernel_rfl) (by kernel_rfl) hQ (fun w64 e64 E64 K hK => ?_)
  go_simp
  (replace r1 := r1.ext e64; replace r2 := r2.ext e64; replace r3 := r3.ext e64; replace r4 := r4.ext e64; replace r5 := r5.ext e64; replace r6 := r6.ext e64; replace r7 := r7.ext e64; replace r8 := r8.ext e64; replace r9 := r9.ext e64; replace r10 := r10.ext e64; replace r11 := r11.ext e64; replace r12 := r12.ext e64; replace r13 := r13.ext e64; replace r14 := r14.ext e64; replace r15 := r15.ext e64; go_at_call 16; refine (q_Same r12 r15).mono ?_; rintro e wk64 ⟨rfl, hx64⟩; replace r1 := r1.ext hx64; replace r2 := r2.ext hx64; replace r3 := r3.ext hx64; replace r4 := r4.ext hx64; replace r5 := r5.ext hx64; replace r6 := r6.ext hx64; replace r7 := r7.ext hx64; replace r8 := r8.ext hx64; replace r9 := r9.ext hx64; replace r10 := r10.ext hx64; replace r11 := r11.ext hx64; replace r12 := r12.ext hx64; replace r13 := r13.ext hx64; replace r14 := r14.ext hx64; replace r15 := r15.ext hx64)
  refine hK.out _ _ hx64 ?_
  clear hK K
  try simp only [Act.put]
  try simp only [List.setIfInBounds_toArray]
  try simp only [List.set_cons_succ]
  try simp only [List.set_cons_zero]
  refine Late.take (i := 65) (d := some 87) (v := ?v65_132) rfl rfl (by kernel_rfl) (by kernel_rfl) (by kernel_rfl) (by kernel_rfl) hQ (Or.inl ⟨by rfl, ?y65_132⟩) ?r65_132
  case y65_132 =>
    intro w' hSw
    have k00 := (bx.ext hSw).c4
    have k10 := (by_.ext hSw).c4
    have k20 := (bz.ext hSw).c4
    go_simp
    try with_reducible rfl
  try simp only [Act.put]
  try simp only [List.setIfInBounds_toArray]
  try simp only [List.set_cons_succ]
  try simp only [List.set_cons_zero]
  refine Late.take (i := 66) (d := some 88) (v := ?v66_133) rfl rfl (by kernel_rfl) (by kernel_rfl) (by kernel_rfl) (by kernel_rfl) hQ (Or.inl ⟨by rfl, ?y66_133⟩) ?r66_133
  case y66_133 =>
    intro w' hSw
    have k00 := (bx.ext hSw).c4
    have k10 := (by_.ext hSw).c4
    have k20 := (bz.ext hSw).c4
    go_simp
    try with_reducible rfl
  try simp only [Act.put]
  try simp only [List.setIfInBounds_toArray]
  try simp only [List.set_cons_succ]
  try simp only [List.set_cons_zero]
  refine Late.done0 (by kernel_rfl) (fun wz ez Ez => ?_)
  clear hAl hQ ES
  replace bx := bx.ext Ez
  replace by_ := by_.ext Ez
  replace bz := bz.ext Ez
  replace h := h.ext Ez
  replace k := k.ext Ez
  replace j := j.ext Ez
  replace extW := extW.trans Ez
  clear Ez ez
  have bx0 := bx.cell 0 (.bool s) rfl
  have bx1 := bx.cell 1 (.slice A n c) rfl
  have bx2 := bx.cell 2 (.bool t) rfl
  have bx3 := bx.cell 3 (.slice B m d) rfl
  have by_0 := by_.cell 0 (.bool s') rfl
  have by_1 := by_.cell 1 (.slice A' n' c') rfl
  have by_2 := by_.cell 2 (.bool t') rfl
  have by_3 := by_.cell 3 (.slice B' m' d') rfl
  have bz0 := bz.cell 0 (.bool u) rfl
  have bz1 := bz.cell 1 (.slice C l e0) rfl
  have bz2 := bz.cell 2 (.bool u') rfl
  have bz3 := bz.cell 3 (.slice D l' e') rfl
  go_wp2_with fail
  refine (p_Div_nz h k (by omega) (by omega) (by omega) (hT.ext extW) Hp.out).mono ?_
  rintro e wd ⟨s9, A9, n9, c9, t9, B9, m9, d9, rfl, rq, hxd⟩
  clear bx0 bx1 bx2 bx3 by_0 by_1 by_2 by_3 bz0 bz1 bz2 bz3
  go_upto_region 7 with (fail)
  refine at_world (fun V => Ext wz V ∧ Box V wd.heap.size 27 #[.bool s9, .slice A9 n9 c9, .bool t9, .slice B9 m9 d9] ∧ NR V (q / p) (20 + 20) s9 A9 n9 c9 t9 B9 m9 d9) ⟨hxd.alloc _, Box.new wd _ _, rq.ext ((Ext.refl wd).alloc _)⟩ ?_
  generalize wd.heap.size = g9
  clear hxd rq
  rintro V ⟨EV, b9, rq⟩
  replace bx := bx.ext EV
  replace by_ := by_.ext EV
  replace bz := bz.ext EV
  replace h := h.ext EV
  replace k := k.ext EV
  replace j := j.ext EV
  replace extW := extW.trans EV
  clear EV
  go_wp2_with fail
  have ES0 := Ext.refl V
  refine wp_region_held_drew (S := Ext V) (by kernel_rfl) ES0.drew (fun ES => ?_)
  clear ES0
  refine Late.start0 (fun _ _ _ _ _ => ⟨fun h => h, fun h => h⟩) ES (fun hAl hQ => ?_)
  refine Late.take (i := 0) (d := some 95) (v := ?v0_134) rfl rfl (by kernel_rfl) (by kernel_rfl) (by kernel_rfl) (by kernel_rfl) hQ (Or.inl ⟨by rfl, ?y0_134⟩) ?r0_134
  case y0_134 =>
    intro w' hSw
    have k00 := (b9.ext hSw).c4
    have k10 := (bx.ext hSw).c4
    have k20 := (by_.ext hSw).c4
    go_simp
    try with_reducible rfl
  try simp only [Act.put]
  try simp only [List.setIfInBounds_toArray]
  try simp only [List.set_cons_succ]
  try simp only [List.set_cons_zero]
  refine Late.call (i := 1) rfl (by kernel_rfl) hAl (by kernel_rfl) (by kernel_rfl) (by kernel_rfl) hQ (fun w1 e1 E1 K hK => ?_)
  go_simp
  (go_at_call 37; refine (p_SignR (k.ext E1) (by omega)).mono ?_; rintro e wk1 ⟨rfl, hx1⟩; rw [HSG.out])
  refine hK.out _ _ hx1 ?_
  clear hK K
  try simp only [Act.put]
  try simp only [List.setIfInBounds_toArray]
  try simp only [List.set_cons_succ]
  try simp only [List.set_cons_zero]
  refine Late.take (i := 2) (d := some 97) (v := ?v2_135) rfl rfl (by kernel_rfl) (by kernel_rfl) (by kernel_rfl) (by kernel_rfl) hQ (Or.inl ⟨by rfl, ?y2_135⟩) ?r2_135
  case y2_135 =>
    intro w' hSw
    have k00 := (b9.ext hSw).c4
    have k10 := (bx.ext hSw).c4
    have k20 := (by_.ext hSw).c4
    go_simp
    try with_reducible rfl
  try simp only [Act.put]
  try simp only [List.setIfInBounds_toArray]
  try simp only [List.set_cons_succ]
  try simp only [List.set_cons_zero]
  refine Late.take (i := 3) (d := some 98) (v := ?v3_136) rfl rfl (by kernel_rfl) (by kernel_rfl) (by kernel_rfl) (by kernel_rfl) hQ (Or.inl ⟨by rfl, ?y3_136⟩) ?r3_136
  case y3_136 =>
    intro w' hSw
    have k00 := (b9.ext hSw).c4
    have k10 := (bx.ext hSw).c4
    have k20 := (by_.ext hSw).c4
    go_simp
    try with_reducible rfl
  try simp only [Act.put]
  try simp only [List.setIfInBounds_toArray]
  try simp only [List.set_cons_succ]
  try simp only [List.set_cons_zero]
  refine Late.take (i := 4) (d := some 99) (v := undef) rfl rfl (by kernel_rfl) (by kernel_rfl) (by kernel_rfl) (by kernel_rfl) hQ (Or.inr ⟨by kernel_rfl, rfl⟩) ?_
  try simp only [Act.put]
  try simp only [List.setIfInBounds_toArray]
  try simp only [List.set_cons_succ]
  try simp only [List.set_cons_zero]
  refine Late.take (i := 5) (d := some 100) (v := undef) rfl rfl (by kernel_rfl) (by kernel_rfl) (by kernel_rfl) (by kernel_rfl) hQ (Or.inr ⟨by kernel_rfl, rfl⟩) ?_
  try simp only [Act.put]
  try simp only [List.setIfInBounds_toArray]
  try simp only [List.set_cons_succ]
  try simp only [List.set_cons_zero]
  refine Late.take (i := 6) (d := some 101) (v := ?v6_137) rfl rfl (by kernel_rfl) (by kernel_rfl) (by kernel_rfl) (by kernel_rfl) hQ (Or.inl ⟨by rfl, ?y6_137⟩) ?r6_137
  case y6_137 =>
    intro w' hSw
    have k00 := (b9.ext hSw).c4
    have k10 := (bx.ext hSw).c4
    have k20 := (by_.ext hSw).c4
    go_simp
    try with_reducible rfl
  try simp only [Act.put]
  try simp only [List.setIfInBounds_toArray]
  try simp only [List.set_cons_succ]
  try simp only [List.set_cons_zero]
  refine Late.take (i := 7) (d := some 102) (v := ?v7_138) rfl rfl (by kernel_rfl) (by kernel_rfl) (by kernel_rfl) (by kernel_rfl) hQ (Or.inl ⟨by rfl, ?y7_138⟩) ?r7_138
  case y7_138 =>
    intro w' hSw
    have k00 := (b9.ext hSw).c4
    have k10 := (bx.ext hSw).c4
    have k20 := (by_.ext hSw).c4
    go_simp
    try with_reducible rfl
  try simp only [Act.put]
  try simp only [List.setIfInBounds_toArray]
  try simp only [List.set_cons_succ]
  try simp only [List.set_cons_zero]
  refine Late.take (i := 8) (d := some 103) (v := ?v8_139) rfl rfl (by kernel_rfl) (by kernel_rfl) (by kernel_rfl) (by kernel_rfl) hQ (Or.inl ⟨by rfl, ?y8_139⟩) ?r8_139
  case y8_139 =>
    intro w' hSw
    have k00 := (b9.ext hSw).c4
    have k10 := (bx.ext hSw).c4
    have k20 := (by_.ext hSw).c4
    go_simp
    try with_reducible rfl
  try simp only [Act.put]
  try simp only [List.setIfInBounds_toArray]
  try simp only [List.set_cons_succ]
  try simp only [List.set_cons_zero]
  refine Late.take (i := 9) (d := some 104) (v := ?v9_140) rfl rfl (by kernel_rfl) (by kernel_rfl) (by kernel_rfl) (by kernel_rfl) hQ (Or.inl ⟨by rfl, ?y9_140⟩) ?r9_140
  case y9_140 =>
    intro w' hSw
    have k00 := (b9.ext hSw).c4
    have k10 := (bx.ext hSw).c4
    have k20 := (by_.ext hSw).c4
    go_simp
    try with_reducible rfl
  try simp only [Act.put]
  try simp only [List.setIfInBounds_toArray]
  try simp only [List.set_cons_succ]
  try simp only [List.set_cons_zero]
  refine Late.take (i := 10) (d := some 105) (v := ?v10_141) rfl rfl (by kernel_rfl) (by kernel_rfl) (by kernel_rfl) (by kernel_rfl) hQ (Or.inl ⟨by rfl, ?y10_141⟩) ?r10_141
  case y10_141 =>
    intro w' hSw
    have k00 := (b9.ext hSw).c4
    have k10 := (bx.ext hSw).c4
    have k20 := (by_.ext hSw).c4
    go_simp
    try with_reducible rfl
  try simp only [Act.put]
  try simp only [List.setIfInBounds_toArray]
  try simp only [List.set_cons_succ]
  try simp only [List.set_cons_zero]
  refine Late.take (i := 11) (d := some 106) (v := ?v11_142) rfl rfl (by kernel_rfl) (by kernel_rfl) (by kernel_rfl) (by kernel_rfl) hQ (Or.inl ⟨by rfl, ?y11_142⟩) ?r11_142
  case y11_142 =>
    intro w' hSw
    have k00 := (b9.ext hSw).c4
    have k10 := (bx.ext hSw).c4
    have k20 := (by_.ext hSw).c4
    go_simp
    try with_reducible rfl
  try simp only [Act.put]
  try simp only [List.setIfInBounds_toArray]
  try simp only [List.set_cons_succ]
  try simp only [List.set_cons_zero]
  refine Late.take (i := 12) (d := some 107) (v := ?v12_143) rfl rfl (by kernel_rfl) (by kernel_rfl) (by kernel_rfl) (by kernel_rfl) hQ (Or.inl ⟨by rfl, ?y12_143⟩) ?r12_143
  case y12_143 =>
    intro w' hSw
    have k00 := (b9.ext hSw).c4
    have k10 := (bx.ext hSw).c4
    have k20 := (by_.ext hSw).c4
    go_simp
    try with_reducible rfl
  try simp only [Act.put]
  try simp only [List.setIfInBounds_toArray]
  try simp only [List.set_cons_succ]
  try simp only [List.set_cons_zero]
  refine Late.take (i := 13) (d := some 108) (v := ?v13_144) rfl rfl (by kernel_rfl) (by kernel_rfl) (by kernel_rfl) (by kernel_rfl) hQ (Or.inl ⟨by rfl, ?y13_144⟩) ?r13_144
  case y13_144 =>
    intro w' hSw
    have k00 := (b9.ext hSw).c4
    have k10 := (bx.ext hSw).c4
    have k20 := (by_.ext hSw).c4
    go_simp
    try with_reducible rfl
  try simp only [Act.put]
  try simp only [List.setIfInBounds_toArray]
  try simp only [List.set_cons_succ]
  try simp only [List.set_cons_zero]
  refine Late.take (i := 15) (d := some 110) (v := ?v15_145) rfl rfl (by kernel_rfl) (by kernel_rfl) (by kernel_rfl) (by kernel_rfl) hQ (Or.inl ⟨by rfl, ?y15_145⟩) ?r15_145
  case y15_145 =>
    intro w' hSw
    have k00 := (b9.ext hSw).c4
    have k10 := (bx.ext hSw).c4
    have k20 := (by_.ext hSw).c4
    go_simp
    try with_reducible rfl
  try simp only [Act.put]
  try simp only [List.setIfInBounds_toArray]
  try simp only [List.set_cons_succ]
  try simp only [List.set_cons_zero]
  refine Late.call (i := 14) rfl (by kernel_rfl) hAl (by kernel_rfl) (by kernel_rfl) (by kernel_rfl) hQ (fun w14 e14 E14 K hK => ?_)
  go_simp
  (go_at_call 34; refine (p_MulR (rq.ext E14) (k.ext E14) (by omega) (by omega) (by omega) (hT.ext (extW.trans E14))).mono ?_; rintro e wk14 ⟨s31_, A31_, n31_, c31_, t31_, B31_, m31_, d31_, rfl, r1, hx14⟩; rw [Rat.div_mul_cancel Hp.out] at r1)
  refine hK.out _ _ hx14 ?_
  clear hK K
  try simp only [Act.put]
  try simp only [List.setIfInBounds_toArray]
  try simp only [List.set_cons_succ]
  try simp only [List.set_cons_zero]
  refine Late.call (i := 16) rfl (by kernel_rfl) hAl (by kernel_rfl) (by kernel_rfl) (by kernel_rfl) hQ (fun w16 e16 E16 K hK => ?_)
  go_simp
  (replace r1 := r1.ext e16; go_at_call 16; refine (q_Same r1 (h.ext E16)).mono ?_; rintro e wk16 ⟨rfl, hx16⟩; replace r1 := r1.ext hx16)
  refine hK.out _ _ hx16 ?_
  clear hK K
  try simp only [Act.put]
  try simp only [List.setIfInBounds_toArray]
  try simp only [List.set_cons_succ]
  try simp only [List.set_cons_zero]
  refine Late.take (i := 17) (d := some 112) (v := ?v17_146) rfl rfl (by kernel_rfl) (by kernel_rfl) (by kernel_rfl) (by kernel_rfl) hQ (Or.inl ⟨by rfl, ?y17_146⟩) ?r17_146
  case y17_146 =>
    intro w' hSw
    have k00 := (b9.ext hSw).c4
    have k10 := (bx.ext hSw).c4
    have k20 := (by_.ext hSw).c4
    go_simp
    try with_reducible rfl
  try simp only [Act.put]
  try simp only [List.setIfInBounds_toArray]
  try simp only [List.set_cons_succ]
  try simp only [List.set_cons_zero]
  refine Late.take (i := 18) (d := some 113) (v := ?v18_147) rfl rfl (by kernel_rfl) (by kernel_rfl) (by kernel_rfl) (by kernel_rfl) hQ (Or.inl ⟨by rfl, ?y18_147⟩) ?r18_147
  case y18_147 =>
    intro w' hSw
    have k00 := (b9.ext hSw).c4
    have k10 := (bx.ext hSw).c4
    have k20 := (by_.ext hSw).c4
    go_simp
    try with_reducible rfl
  try simp only [Act.put]
  try simp only [List.setIfInBounds_toArray]
  try simp only [List.set_cons_succ]
  try simp only [List.set_cons_zero]
  refine Late.take (i := 19) (d := some 6) (v := ?v19_148) rfl rfl (by kernel_rfl) (by kernel_rfl) (by kernel_rfl) (by kernel_rfl) hQ (Or.inl ⟨by rfl, ?y19_148⟩) ?r19_148
  case y19_148 =>
    intro w' hSw
    have k00 := (b9.ext hSw).c4
    have k10 := (bx.ext hSw).c4
    have k20 := (by_.ext hSw).c4
    go_simp
    try with_reducible rfl
  try simp only [Act.put]
  try simp only [List.setIfInBounds_toArray]
  try simp only [List.set_cons_succ]
  try simp only [List.set_cons_zero]
  refine Late.done0 (by kernel_rfl) (fun wy ez Ez => ?_)
  clear hAl hQ ES
  go_wp2_with fail
  go_ret
  exact ⟨rfl, extW.trans Ez⟩
set_option maxHeartbeats 2000000 in
theorem field_no (hA : Awake2) (hT : Tab w) (hP : TabP w) (hr0 : RI w A n c xs ∧ RI w B m d ys) (hr1 : RI w A' n' c' xs' ∧ RI w B' m' d' ys') (hr2 : RI w C l e0 zs ∧ RI w D l' e' zs') (hf : (fewB n m s xs t ys && (fewB n' m' s' xs' t' ys' && (fewB l l' u zs u' zs'))) = false) :
    Calls Tryz.prog 7 #[.agg #[.bool s, .slice A n c, .bool t, .slice B m d], .agg #[.bool s', .slice A' n' c', .bool t', .slice B' m' d'], .agg #[.bool u, .slice C l e0, .bool u', .slice D l' e']] w fun e w' => e = .returned (.bool true) ∧ Ext w w' := by
  have HF := Lib.hid hf
  clear hf
  have HA := Lib.hid hA
  clear hA
  go_enter Tryz.func7, Tryz.ntmps7
  go_upto_region 1 with (fail)
  obtain ⟨W0, hW, extW, bx, by_, bz, hzz⟩ := box3 w 27 27 27 #[.bool s, .slice A n c, .bool t, .slice B m d] #[.bool s', .slice A' n' c', .bool t', .slice B' m' d'] #[.bool u, .slice C l e0, .bool u', .slice D l' e']
  rw [← hW]
  clear hW hzz
  go_wp2_with fail
  refine (HA.out _ (hT.ext extW) (hP.ext extW)).mono ?_
  rintro e W ⟨rfl, hxt⟩
  replace extW := extW.trans hxt
  replace bx := bx.ext hxt
  replace by_ := by_.ext hxt
  replace bz := bz.ext hxt
  clear hxt
  have bx0 := bx.cell 0 (.bool s) rfl
  have bx1 := bx.cell 1 (.slice A n c) rfl
  have bx2 := bx.cell 2 (.bool t) rfl
  have bx3 := bx.cell 3 (.slice B m d) rfl
  have by_0 := by_.cell 0 (.bool s') rfl
  have by_1 := by_.cell 1 (.slice A' n' c') rfl
  have by_2 := by_.cell 2 (.bool t') rfl
  have by_3 := by_.cell 3 (.slice B' m' d') rfl
  have bz0 := bz.cell 0 (.bool u) rfl
  have bz1 := bz.cell 1 (.slice C l e0) rfl
  have bz2 := bz.cell 2 (.bool u') rfl
  have bz3 := bz.cell 3 (.slice D l' e') rfl
  have hnb := Box.new W 27 #[.bool s, .slice A n c, .bool t, .slice B m d, .bool s', .slice A' n' c', .bool t', .slice B' m' d', .bool u, .slice C l e0, .bool u', .slice D l' e']
  have e1 := (Ext.refl W).alloc (.cells #[.bool s, .slice A n c, .bool t, .slice B m d, .bool s', .slice A' n' c', .bool t', .slice B' m' d', .bool u, .slice C l e0, .bool u', .slice D l' e'] 27)
  go_wp2_with fail
  refine (few3 hnb (hr0.1.ext (extW.trans e1)) (hr0.2.ext (extW.trans e1)) (hr1.1.ext (extW.trans e1)) (hr1.2.ext (extW.trans e1)) (hr2.1.ext (extW.trans e1)) (hr2.2.ext (extW.trans e1))).mono ?_
  rintro e W1 ⟨rfl, hxt⟩
  rw [HF.out]
  have ES := e1.trans hxt
  clear hnb e1 hxt
  clear bx0 bx1 bx2 bx3 by_0 by_1 by_2 by_3 bz0 bz1 bz2 bz3
  go_wp2_with fail
  refine (HA.out _ (hT.ext (extW.trans ES)) (hP.ext (extW.trans ES))).mono ?_
  rintro e W2 ⟨rfl, hxt⟩
  go_wp2_with fail
  go_ret
  exact ⟨rfl, (extW.trans ES).trans hxt⟩
theorem field_any (hA : Awake2) (hT : Tab w) (hP : TabP w) (hr0 : RI w A n c xs ∧ RI w B m d ys) (hr1 : RI w A' n' c' xs' ∧ RI w B' m' d' ys') (hr2 : RI w C l e0 zs ∧ RI w D l' e' zs') :
    Calls Tryz.prog 7 #[.agg #[.bool s, .slice A n c, .bool t, .slice B m d], .agg #[.bool s', .slice A' n' c', .bool t', .slice B' m' d'], .agg #[.bool u, .slice C l e0, .bool u', .slice D l' e']] w fun e w' => e = .returned (.bool true) ∧ Ext w w' := by
  cases hf : (fewB n m s xs t ys && (fewB n' m' s' xs' t' ys' && (fewB l l' u zs u' zs'))) with
  | false => exact field_no hA hT hP hr0 hr1 hr2 hf
  | true =>
    simp only [Bool.and_eq_true] at hf
    obtain ⟨f0, f1, f2⟩ := hf
    obtain ⟨q, h⟩ := few_nr hr0.1 hr0.2 f0
    obtain ⟨p, k⟩ := few_nr hr1.1 hr1.2 f1
    obtain ⟨r, j⟩ := few_nr hr2.1 hr2.2 f2
    exact (Classical.em (p = 0)).elim (fun hp => field_z hA hT hP h k j hp) (fun hp => field_nz hA hT hP h k j hp _ rfl (beq_eq_false_iff_ne.2 fun h0 => hp (Rat.num_eq_zero.1 (Int.sign_eq_zero_iff_zero.1 h0))))
end
end Go.Proofs.YtiioodgpkdbndaaGreatDoor
