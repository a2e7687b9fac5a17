/- Walks and laws, a part. -/
import Derived.Test.YtoabhnofppledaaGreatDoorM0
import Derived.Test.YtoabhnofppledaaGreatDoorM1
import Derived.Test.YtoabhnofppledaaGreatDoorM2
import Derived.Test.YtoabhnofppledaaGreatDoorM3
import Derived.Test.YtoabhnofppledaaGreatDoorM4
import Derived.Test.YtoabhnofppledaaGreatDoorM5
import Derived.Test.YtoabhnofppledaaGreatDoorM6
import Derived.Test.YtoabhnofppledaaGreatDoorM7
import Derived.Test.YtoabhnofppledaaGreatDoorM8
import Derived.Test.YtoabhnofppledaaGreatDoorM9
import Derived.Deep.RegionHeld
namespace Go.Proofs.YtoabhnofppledaaGreatDoor
/-- the sum by way of the common part of the denominators. -/
theorem rat_add (a b : Rat) {g D1 D2 : Nat} {S : Int} {r : Nat} (hg : g = a.den.gcd b.den) (h1 : D1 = a.den / g) (h2 : D2 = b.den / g) (hS : S = a.num * D2 + b.num * D1) (hr : r = S.natAbs.gcd g) :
    (a + b).num = S / (r : Int) ∧ (a + b).den = D1 * (b.den / r) ∧ r ∣ b.den ∧ r ≠ 0 := by
  have haux : S.natAbs.gcd g = S.natAbs.gcd (D1 * b.den) := by
    rw [hS]
    exact Rat.add.aux a b hg h1 h2
  have hg0 : g ≠ 0 := by rw [hg]; exact Nat.gcd_ne_zero_left a.den_nz
  have e1 : D1 * g = a.den := by rw [h1, hg]; exact Nat.div_mul_cancel (Nat.gcd_dvd_left _ _)
  have e2 : D2 * g = b.den := by rw [h2, hg]; exact Nat.div_mul_cancel (Nat.gcd_dvd_right _ _)
  have hD1 : D1 ≠ 0 := by rintro rfl; have := a.den_nz; simp at e1; omega
  have hsum : a + b = mkRat S (D1 * b.den) := by
    rw [Rat.add_def', ← Rat.mkRat_mul_right hg0 (n := S) (d := D1 * b.den)]
    congr 1
    · rw [hS, Int.add_mul, Int.mul_assoc, Int.mul_assoc, ← Int.natCast_mul, ← Int.natCast_mul, e1, e2]
    · rw [Nat.mul_right_comm, e1]
  have hrg : r ∣ g := by rw [hr]; exact Nat.gcd_dvd_right _ _
  have hrb : r ∣ b.den := Nat.dvd_trans hrg (by rw [hg]; exact Nat.gcd_dvd_right _ _)
  have hr0 : r ≠ 0 := by rintro rfl; exact hg0 (Nat.eq_zero_of_zero_dvd hrg)
  obtain ⟨p1, p2⟩ := mkRat_parts S (D := D1 * b.den) (Nat.mul_ne_zero hD1 b.den_nz)
  rw [hsum, p1, p2, ← haux, ← hr]
  exact ⟨rfl, Nat.mul_div_assoc _ hrb, hrb, hr0⟩
end Go.Proofs.YtoabhnofppledaaGreatDoor
namespace Go.Proofs.YtoabhnofppledaaGreatDoor
open Go.RowKit
section
variable {P : Program} {ops : Array Oper} {Q : Exit → Act → World → Prop} {md : Region.Mode} {S : World → Prop} {W0 : World}
theorem Late.start1 {x : Al} {n f : Nat} {L : Array Bool} {a : Act} {w : World} (hx : IsAl P ops x) (hQ : QStill Q) (hS : Ext W0 w) (hf : n + 1 = f)
    (h : (∀ z ∈ [x], IsAl P ops z) → QStill Q → Late P md ops Q W0 [x] n L a w) : wpAnyH P md ops Q (Ext W0) f L a w :=
  Late.start (h (by simpa using hx) hQ) hS hf
theorem Late.finish1 {x : Al} {n : Nat} {L : Array Bool} {a : Act} {w : World} (hx : IsAl P ops x) (hr : Region.ready md ops L = [x.i])
    (h : ∀ w' g, Ext w w' → Ext W0 w' → W0.heap.size ≤ g → Box w' g x.t x.cs → wpAnyH P md ops Q (Ext W0) n (L.setIfInBounds x.i true) (a.put (some x.d) (.pointer (some ⟨g, 0, none⟩))) w') :
    Late P md ops Q W0 [x] n L a w := by
  refine Late.finish (by simp) (by simpa using hx) ?_ (by simp [hr]) ?_
  · intro z hz j hj
    rw [List.mem_singleton] at hz
    subst hz
    simp only [List.filter_cons, bne_self_eq_false, List.filter_nil, allMarks] at hj
    rw [if_neg (by simp)] at hj
    simpa [hr] using hj
  · intro w' e hS D hD hl
    match D, hl with
    | [y], _ =>
      obtain ⟨u, g⟩ := y
      have hu := hD.mem (u, g) List.mem_cons_self
      simp only [List.mem_singleton] at hu
      subst hu
      exact h w' g e hS (hD.ge (u, g) List.mem_cons_self) (hD.box (u, g) List.mem_cons_self)
end
end Go.Proofs.YtoabhnofppledaaGreatDoor
namespace Go.Proofs.YtoabhnofppledaaGreatDoor
open Go.RowKit
section
variable {w w' : World} {z y : Int} {L L' M : Nat} {s t : Bool} {A B : Option Addr} {n c m d : Nat}
theorem NI.neg (h : NI w z L s A n c) : s = decide (z < 0) := by
  obtain ⟨_, _, _, _, _, h5, _⟩ := h.out
  exact h5.neg
theorem q_Add (h : NI w z L s A n c) (k : NI w y M t B m d) (hL : L ≤ 50000) (hM : M ≤ 50000) : Calls Tryz.prog 79 #[.agg #[.bool s, .slice A n c], .agg #[.bool t, .slice B m d]] w (RetNI (z + y) (max L M + 1) w) := by
  obtain ⟨xs, hn, hx, hc, hcm, hi, hl⟩ := h.out
  obtain ⟨ys, hm, hy, hd, hdm, hj, hk⟩ := k.out
  refine (ref_Add hn hm hx hy hc hcm hd hdm (by omega) (by omega)).mono fun e w' hr => ?_
  rw [hi.eq, hj.eq] at hr
  exact hr.ni (by omega)
end
end Go.Proofs.YtoabhnofppledaaGreatDoor
namespace Go.Proofs.YtoabhnofppledaaGreatDoor
open Go.RowKit
attribute [local go_sem ↓] Go.wp_at_zero Go.wp_at_succ
section
variable {w w' : World} {z y : Int} {q p : Rat} {L M : Nat} {s t s' t' : Bool} {A B A' B' : Option Addr} {n c m d n' c' m' d' : Nat}
set_option maxHeartbeats 1000000 in
theorem p_plus {a b a' b' : Int} (h : Sm q a b) (k : Sm p a' b') : Calls Tryz.prog 99 #[.agg #[.int .i64 a, .int .i64 b], .agg #[.int .i64 a', .int .i64 b']] w (RetNR (q + p) 2 w) := by
  obtain ⟨h1, h2, h3, h4⟩ := h
  obtain ⟨k1, k2, k3, k4⟩ := k
  have hb0 : 0 < b := by have := q.den_pos; omega
  have hb0' : 0 < b' := by have := p.den_pos; omega
  have m1 := mul31 h3 k4
  have m2 := mul31 k3 h4
  have m3 := mul31 h4 k4
  have m4 := mul31 h3 k3
  have hpos : 0 < b * b' := Int.mul_pos hb0 hb0'
  have hval : mkRat (a * b' + a' * b) (b * b').natAbs = q + p := by
    rw [Rat.add_def', Int.natAbs_mul, h1, h2, k1, k2, Int.natAbs_natCast, Int.natAbs_natCast]
  have Hval := Lib.hid hval
  clear hval h1 h2 k1 k2
  obtain ⟨u1, hu1⟩ : ∃ u, a * b' = u := ⟨_, rfl⟩
  obtain ⟨u2, hu2⟩ : ∃ u, a' * b = u := ⟨_, rfl⟩
  obtain ⟨u3, hu3⟩ : ∃ u, b * b' = u := ⟨_, rfl⟩
  obtain ⟨u4, hu4⟩ : ∃ u, a * a' = u := ⟨_, rfl⟩
  rw [hu1] at m1
  rw [hu2] at m2
  rw [hu3] at m3 hpos
  rw [hu4] at m4
  have Hu1 := Lib.hid hu1
  have Hu2 := Lib.hid hu2
  have Hu3 := Lib.hid hu3
  have Hu4 := Lib.hid hu4
  have w1 : IntKind.i64.wrap u1 = u1 := IntWalk.i64_in _ (by omega)
  have w2 : IntKind.i64.wrap u2 = u2 := IntWalk.i64_in _ (by omega)
  have w3 : IntKind.i64.wrap u3 = u3 := IntWalk.i64_in _ (by omega)
  have w4 : IntKind.i64.wrap u4 = u4 := IntWalk.i64_in _ (by omega)
  have v1 : wrap64 u1 = u1 := IntWalk.wrap64_in _ (by omega)
  have v2 : wrap64 u2 = u2 := IntWalk.wrap64_in _ (by omega)
  have v3 : wrap64 u3 = u3 := IntWalk.wrap64_in _ (by omega)
  have v4 : wrap64 u4 = u4 := IntWalk.wrap64_in _ (by omega)
  have w5 : IntKind.i64.wrap (u1 + u2) = u1 + u2 := IntWalk.i64_in _ (by omega)
  have v5 : wrap64 (u1 + u2) = u1 + u2 := IntWalk.wrap64_in _ (by omega)
  go_enter Tryz.func99, Tryz.ntmps99
  go_upto_region 1 with (fail)
  obtain ⟨W, hW, extW, bx, by_, bz, hz⟩ := box3 w 88 88 26 #[.int .i64 a, .int .i64 b] #[.int .i64 a', .int .i64 b'] #[Value.bool false, Value.slice none 0 0, Value.bool false, Value.slice none 0 0]
  rw [← hW]
  clear hW
  have x0 := bx.cell 0 (.int .i64 a) rfl
  have x1 := bx.cell 1 (.int .i64 b) rfl
  have y0 := by_.cell 0 (.int .i64 a') rfl
  have y1 := by_.cell 1 (.int .i64 b') rfl
  go_wp2_with fail
  refine (p_lowest _ _ hpos (by omega) (by omega)).mono ?_
  rintro e wa ⟨s, A, n, c, t, B, m, d, rfl, hr, hxa⟩
  rw [← Hu3.out] at hr
  have z0 := (bz.ext hxa).cell 0 _ rfl
  have z1 := (bz.ext hxa).cell 1 _ rfl
  have z2 := (bz.ext hxa).cell 2 _ rfl
  have z3 := (bz.ext hxa).cell 3 _ rfl
  have f0 := (bz.ext hxa).frozen 0
  have f1 := (bz.ext hxa).frozen 1
  have f2 := (bz.ext hxa).frozen 2
  have f3 := (bz.ext hxa).frozen 3
  go_wp2_with fail
  rw [← Hu1.out, ← Hu2.out, Hval.out] at hr
  obtain ⟨b1, b2, b3, b4⟩ := fin_quad (s := s) (A := A) (n := n) (c := c) (t := t) (B := B) (m := m) (d := d) (bz.ext hxa)
  have r0 := b1.cell 0 (.bool s) rfl
  have r1 := b1.cell 1 (.slice A n c) rfl
  have r2 := b1.cell 2 (.bool t) rfl
  have r3 := b1.cell 3 (.slice B m d) rfl
  unfold set4 at r0 r1 r2 r3
  refine bodyPost_ret (v := .agg #[.bool s, .slice A n c, .bool t, .slice B m d]) (by simp [results, Tryz.results99, go_sem, r0, r1, r2, r3]) rfl ⟨s, A, n, c, t, B, m, d, rfl, ⟨?_, ?_⟩, b3 _ (extW.trans hxa) (by omega)⟩
  · exact b2 _ _ _ _ _ _ hr.num
  · exact b2 _ _ _ _ _ _ hr.den
end
end Go.Proofs.YtoabhnofppledaaGreatDoor
namespace Go.Proofs.YtoabhnofppledaaGreatDoor
open Go.RowKit
attribute [local go_sem ↓] Go.wp_at_zero Go.wp_at_succ
section
variable {w w' : World} {z y : Int} {q p : Rat} {L M : Nat} {s t s' t' : Bool} {A B A' B' : Option Addr} {n c m d n' c' m' d' : Nat}
theorem rat_add_one {q p : Rat} (h1 : (q.den : Int) = 1) (h2 : (p.den : Int) = 1) : ((q.num + p.num : Int) : Rat) = q + p := by
  have e1 : q.den = 1 := by omega
  have e2 : p.den = 1 := by omega
  rw [Rat.add_def', e1, e2]
  simp [Rat.mkRat_one]
set_option maxHeartbeats 16000000 in
set_option maxRecDepth 100000 in
theorem p_AddR (h : NR w q L s A n c t B m d) (k : NR w p M s' A' n' c' t' B' m' d') (hL : L ≤ 1000) (hM : M ≤ 1000) (h64 : min L M < 64) (hT : Tab w) : Calls Tryz.prog 56 #[.agg #[.bool s, .slice A n c, .bool t, .slice B m d], .agg #[.bool s', .slice A' n' c', .bool t', .slice B' m' d']] w (RetNR (q + p) (L + M + 1) w) := by
  have hL1 := h.pos
  have hM1 := k.pos
  replace hL : L ≤ 1000 := hL
  go_enter Tryz.func56, Tryz.ntmps56
  go_upto_region 1 with (fail)
  obtain ⟨W, hW, extW, bx, by_, bz, hz⟩ := box3 w 26 26 26 #[.bool s, .slice A n c, .bool t, .slice B m d] #[.bool s', .slice A' n' c', .bool t', .slice B' m' d'] #[Value.bool false, Value.slice none 0 0, Value.bool false, Value.slice none 0 0]
  rw [← hW]
  clear hW
  replace h := h.ext extW
  replace k := k.ext extW
  have x0 := bx.cell 0 (.bool s) rfl
  have x1 := bx.cell 1 (.slice A n c) rfl
  have x2 := bx.cell 2 (.bool t) rfl
  have x3 := bx.cell 3 (.slice B m d) rfl
  have y0 := by_.cell 0 (.bool s') rfl
  have y1 := by_.cell 1 (.slice A' n' c') rfl
  have y2 := by_.cell 2 (.bool t') rfl
  have y3 := by_.cell 3 (.slice B' m' d') rfl
  go_wp2_with fail
  refine (p_smallPair h k (by omega) (by omega)).mono ?_
  rintro e wa ⟨a1, a2, c1, c2, ok, rfl, hok, hxa⟩
  have Hok := Lib.hid hok
  clear hok
  clear x0 x1 x2 x3
  clear y0 y1 y2 y3
  go_upto_region 2 with (fail)
  refine at_world (fun V => Ext W V ∧ Box V wa.heap.size 88 #[.int .i64 a1, .int .i64 a2] ∧ Box V (wa.heap.size + 1) 88 #[.int .i64 c1, .int .i64 c2]) ?_ ?_
  · obtain ⟨e1, e2, e3⟩ := two_new wa 88 #[.int .i64 a1, .int .i64 a2] #[.int .i64 c1, .int .i64 c2]
    exact ⟨hxa.trans e1, e2, e3⟩
  generalize wa.heap.size = g5
  clear hxa
  rintro V ⟨EV, b5, b6⟩
  replace bx := bx.ext EV
  replace by_ := by_.ext EV
  replace bz := bz.ext EV
  replace h := h.ext EV
  replace k := k.ext EV
  replace extW := extW.trans EV
  clear EV
  cases ok with
  | true =>
    obtain ⟨sm1, sm2⟩ := Hok.out (by first | rfl | trivial)
    have j0 := b5.cell 0 (.int .i64 a1) rfl
    have j1 := b5.cell 1 (.int .i64 a2) rfl
    have j2 := b6.cell 0 (.int .i64 c1) rfl
    have j3 := b6.cell 1 (.int .i64 c2) rfl
    go_wp2_with fail
    refine (p_plus sm1 sm2).mono ?_
    rintro e wb ⟨s1, A1, n1, c1', t1, B1, m1, d1, rfl, hr, hxb⟩
    have z0 := (bz.ext hxb).cell 0 _ rfl
    have z1 := (bz.ext hxb).cell 1 _ rfl
    have z2 := (bz.ext hxb).cell 2 _ rfl
    have z3 := (bz.ext hxb).cell 3 _ rfl
    have f0 := (bz.ext hxb).frozen 0
    have f1 := (bz.ext hxb).frozen 1
    have f2 := (bz.ext hxb).frozen 2
    have f3 := (bz.ext hxb).frozen 3
    go_wp2_with fail
    obtain ⟨b1, b2, b3, b4⟩ := fin_quad (s := s1) (A := A1) (n := n1) (c := c1') (t := t1) (B := B1) (m := m1) (d := d1) (bz.ext hxb)
    have r0 := b1.cell 0 (.bool s1) rfl
    have r1 := b1.cell 1 (.slice A1 n1 c1') rfl
    have r2 := b1.cell 2 (.bool t1) rfl
    have r3 := b1.cell 3 (.slice B1 m1 d1) rfl
    unfold set4 at r0 r1 r2 r3
    refine bodyPost_ret (v := .agg #[.bool s1, .slice A1 n1 c1', .bool t1, .slice B1 m1 d1]) (by simp [results, Tryz.results56, go_sem, r0, r1, r2, r3]) rfl ⟨s1, A1, n1, c1', t1, B1, m1, d1, rfl, ⟨?_, ?_⟩, b3 _ (extW.trans hxb) (by omega)⟩
    · exact (b2 _ _ _ _ _ _ hr.num).le (by omega)
    · exact (b2 _ _ _ _ _ _ hr.den).le (by omega)
  | false =>
    have x2 := bx.cell 2 (.bool t) rfl
    have x3 := bx.cell 3 (.slice B m d) rfl
    go_wp2_with fail
    refine (p_isOne h.den).mono ?_
    rintro e wb ⟨rfl, hxb⟩
    replace bx := bx.ext hxb
    replace by_ := by_.ext hxb
    replace bz := bz.ext hxb
    replace h := h.ext hxb
    replace k := k.ext hxb
    replace extW := extW.trans hxb
    clear hxb x2 x3
    by_cases h1 : (q.den : Int) = 1
    · rw [decide_eq_true h1]
      have H1 := Lib.hid h1
      clear h1
      have y2 := by_.cell 2 (.bool t') rfl
      have y3 := by_.cell 3 (.slice B' m' d') rfl
      go_wp2_with fail
      refine (p_isOne k.den).mono ?_
      rintro e V0 ⟨rfl, hxc⟩
      replace bx := bx.ext hxc
      replace by_ := by_.ext hxc
      replace bz := bz.ext hxc
      replace h := h.ext hxc
      replace k := k.ext hxc
      replace extW := extW.trans hxc
      clear hxc y2 y3
      by_cases h2 : (p.den : Int) = 1
      · rw [decide_eq_true h2]
        have H2 := Lib.hid h2
        clear h2
        have x0 := bx.cell 0 (.bool s) rfl
        have x1 := bx.cell 1 (.slice A n c) rfl
        have y0 := by_.cell 0 (.bool s') rfl
        have y1 := by_.cell 1 (.slice A' n' c') rfl
        go_wp2_with fail
        refine (p_Add h.num k.num (by omega) (by omega)).mono ?_
        rintro e we ⟨s1, A1, n1, c1', rfl, hn1, hxe⟩
        go_wp2_with fail
        refine (p_whole hn1).mono ?_
        rintro e wf ⟨s2, A2, n2, c2', t2, B2, m2, d2, rfl, hr, hxf⟩
        have hE := hxe.trans hxf
        have z0 := (bz.ext hE).cell 0 _ rfl
        have z1 := (bz.ext hE).cell 1 _ rfl
        have z2 := (bz.ext hE).cell 2 _ rfl
        have z3 := (bz.ext hE).cell 3 _ rfl
        have f0 := (bz.ext hE).frozen 0
        have f1 := (bz.ext hE).frozen 1
        have f2 := (bz.ext hE).frozen 2
        have f3 := (bz.ext hE).frozen 3
        go_wp2_with fail
        have hqp : ((q.num + p.num : Int) : Rat) = q + p := rat_add_one H1.out H2.out
        rw [hqp] at hr
        obtain ⟨b1, b2, b3, b4⟩ := fin_quad (s := s2) (A := A2) (n := n2) (c := c2') (t := t2) (B := B2) (m := m2) (d := d2) (bz.ext hE)
        have r0 := b1.cell 0 (.bool s2) rfl
        have r1 := b1.cell 1 (.slice A2 n2 c2') rfl
        have r2 := b1.cell 2 (.bool t2) rfl
        have r3 := b1.cell 3 (.slice B2 m2 d2) rfl
        unfold set4 at r0 r1 r2 r3
        refine bodyPost_ret (v := .agg #[.bool s2, .slice A2 n2 c2', .bool t2, .slice B2 m2 d2]) (by simp [results, Tryz.results56, go_sem, r0, r1, r2, r3]) rfl ⟨s2, A2, n2, c2', t2, B2, m2, d2, rfl, ⟨?_, ?_⟩, b3 _ (extW.trans hE) (by omega)⟩
        · exact (b2 _ _ _ _ _ _ hr.num).le (by omega)
        · exact (b2 _ _ _ _ _ _ hr.den).le (by omega)
      · rw [decide_eq_false h2]
        clear h2
        have x0 := bx.cell 0 (.bool s) rfl
        have x1 := bx.cell 1 (.slice A n c) rfl
        have x2 := bx.cell 2 (.bool t) rfl
        have x3 := bx.cell 3 (.slice B m d) rfl
        have y0 := by_.cell 0 (.bool s') rfl
        have y1 := by_.cell 1 (.slice A' n' c') rfl
        have y2 := by_.cell 2 (.bool t') rfl
        have y3 := by_.cell 3 (.slice B' m' d') rfl
        go_wp2_with fail
        refine (p_GCD h.den k.den (by omega) (by omega) (hT.ext extW)).mono ?_
        rintro e we ⟨s1, A1, n1, c1', rfl, hg, hxe⟩
        rw [Int.natAbs_natCast, Int.natAbs_natCast] at hg
        obtain ⟨g, hge⟩ : ∃ g, Nat.gcd q.den p.den = g := ⟨_, rfl⟩
        rw [hge] at hg
        have hgq : g ∣ q.den := by rw [← hge]; exact Nat.gcd_dvd_left _ _
        have hgp : g ∣ p.den := by rw [← hge]; exact Nat.gcd_dvd_right _ _
        have hg0 : (g : Int) ≠ 0 := by
          intro h0
          have : g = 0 := by omega
          rw [this] at hgq
          have := Nat.eq_zero_of_zero_dvd hgq
          exact q.den_nz this
        have Hge := Lib.hid hge.symm
        have Hg0 := Lib.hid hg0
        have Hgq := Lib.hid (Int.ofNat_dvd.2 hgq)
        have Hgp := Lib.hid (Int.ofNat_dvd.2 hgp)
        clear hge hg0 hgq hgp
        clear x0 x1 x2 x3
        clear y0 y1 y2 y3
        go_upto_region 7 with (fail)
        refine at_world (fun V7 => Ext V0 V7 ∧ Box V7 we.heap.size 24 #[.bool s1, .slice A1 n1 c1'] ∧ NI V7 (g : Int) (max L M) s1 A1 n1 c1') ⟨hxe.alloc _, Box.new we _ _, hg.ext ((Ext.refl we).alloc _)⟩ ?_
        generalize we.heap.size = g8
        clear hxe hg
        rintro V7 ⟨EV, b8, hg⟩
        replace bx := bx.ext EV
        replace by_ := by_.ext EV
        replace bz := bz.ext EV
        replace h := h.ext EV
        replace k := k.ext EV
        replace extW := extW.trans EV
        clear EV
        have x0 := bx.cell 0 (.bool s) rfl
        have x1 := bx.cell 1 (.slice A n c) rfl
        have x2 := bx.cell 2 (.bool t) rfl
        have x3 := bx.cell 3 (.slice B m d) rfl
        have j0 := b8.cell 0 (.bool s1) rfl
        have j1 := b8.cell 1 (.slice A1 n1 c1') rfl
        go_wp2_with fail
        refine (p_divide h.den hg (by omega) (by omega) Hg0.out Hgq.out).mono ?_
        rintro e wf ⟨s2, A2, n2, c2', rfl, hD1, hxf⟩
        clear x0 x1 x2 x3
        clear j0 j1
        go_upto_region 8 with (fail)
        refine at_world (fun V9 => Ext V7 V9 ∧ Box V9 wf.heap.size 24 #[.bool s2, .slice A2 n2 c2'] ∧ NI V9 ((q.den : Int) / (g : Int)) L s2 A2 n2 c2') ⟨hxf.alloc _, Box.new wf _ _, hD1.ext ((Ext.refl wf).alloc _)⟩ ?_
        generalize wf.heap.size = g9
        clear hxf hD1
        rintro V9 ⟨EV, b9, hD1⟩
        replace bx := bx.ext EV
        replace by_ := by_.ext EV
        replace bz := bz.ext EV
        replace b8 := b8.ext EV
        replace h := h.ext EV
        replace k := k.ext EV
        replace hg := hg.ext EV
        replace extW := extW.trans EV
        clear EV
        go_wp2_with fail
        have ES0 := Ext.refl V9
        refine wp_region_held_drew (S := Ext V9) (by kernel_rfl) ES0.drew (fun ES => ?_)
        clear ES0
        refine Late.start1 (x := ⟨12, 10, 24, #[Value.bool false, Value.slice none 0 0]⟩) (n := 13) ⟨_, rfl, rfl, rfl, fun a w => by go_simp⟩ (fun _ _ _ _ _ => ⟨fun h => h, fun h => h⟩) ES rfl (fun hAl hQ => ?_)
        refine Late.take (i := 0) (d := some 46) (v := ?v0_14a) rfl rfl (by kernel_rfl) (by kernel_rfl) (by kernel_rfl) (by kernel_rfl) hQ (Or.inl ⟨by rfl, ?y0_14a⟩) ?r0_14a
        case y0_14a =>
          intro w' hSw
          have k00 := (bx.ext hSw).c4
          have k10 := (by_.ext hSw).c4
          have k20 := (b8.ext hSw).c2
          have k30 := (b9.ext hSw).c2
          go_simp
          try with_reducible rfl
        try simp only [Act.put]
        try simp only [List.setIfInBounds_toArray]
        try simp only [List.set_cons_succ]
        try simp only [List.set_cons_zero]
        refine Late.take (i := 2) (d := some 48) (v := ?v2_15a) rfl rfl (by kernel_rfl) (by kernel_rfl) (by kernel_rfl) (by kernel_rfl) hQ (Or.inl ⟨by rfl, ?y2_15a⟩) ?r2_15a
        case y2_15a =>
          intro w' hSw
          have k00 := (bx.ext hSw).c4
          have k10 := (by_.ext hSw).c4
          have k20 := (b8.ext hSw).c2
          have k30 := (b9.ext hSw).c2
          go_simp
          try with_reducible rfl
        try simp only [Act.put]
        try simp only [List.setIfInBounds_toArray]
        try simp only [List.set_cons_succ]
        try simp only [List.set_cons_zero]
        refine Late.take (i := 4) (d := some 50) (v := ?v4_16a) rfl rfl (by kernel_rfl) (by kernel_rfl) (by kernel_rfl) (by kernel_rfl) hQ (Or.inl ⟨by rfl, ?y4_16a⟩) ?r4_16a
        case y4_16a =>
          intro w' hSw
          have k00 := (bx.ext hSw).c4
          have k10 := (by_.ext hSw).c4
          have k20 := (b8.ext hSw).c2
          have k30 := (b9.ext hSw).c2
          go_simp
          try with_reducible rfl
        try simp only [Act.put]
        try simp only [List.setIfInBounds_toArray]
        try simp only [List.set_cons_succ]
        try simp only [List.set_cons_zero]
        refine Late.take (i := 7) (d := some 53) (v := ?v7_17a) rfl rfl (by kernel_rfl) (by kernel_rfl) (by kernel_rfl) (by kernel_rfl) hQ (Or.inl ⟨by rfl, ?y7_17a⟩) ?r7_17a
        case y7_17a =>
          intro w' hSw
          have k00 := (bx.ext hSw).c4
          have k10 := (by_.ext hSw).c4
          have k20 := (b8.ext hSw).c2
          have k30 := (b9.ext hSw).c2
          go_simp
          try with_reducible rfl
        try simp only [Act.put]
        try simp only [List.setIfInBounds_toArray]
        try simp only [List.set_cons_succ]
        try simp only [List.set_cons_zero]
        refine Late.take (i := 9) (d := some 55) (v := ?v9_18a) rfl rfl (by kernel_rfl) (by kernel_rfl) (by kernel_rfl) (by kernel_rfl) hQ (Or.inl ⟨by rfl, ?y9_18a⟩) ?r9_18a
        case y9_18a =>
          intro w' hSw
          have k00 := (bx.ext hSw).c4
          have k10 := (by_.ext hSw).c4
          have k20 := (b8.ext hSw).c2
          have k30 := (b9.ext hSw).c2
          go_simp
          try with_reducible rfl
        try simp only [Act.put]
        try simp only [List.setIfInBounds_toArray]
        try simp only [List.set_cons_succ]
        try simp only [List.set_cons_zero]
        refine Late.take (i := 1) (d := some 47) (v := ?v1_19a) rfl rfl (by kernel_rfl) (by kernel_rfl) (by kernel_rfl) (by kernel_rfl) hQ (Or.inl ⟨by rfl, ?y1_19a⟩) ?r1_19a
        case y1_19a =>
          intro w' hSw
          have k00 := (bx.ext hSw).c4
          have k10 := (by_.ext hSw).c4
          have k20 := (b8.ext hSw).c2
          have k30 := (b9.ext hSw).c2
          go_simp
          try with_reducible rfl
        try simp only [Act.put]
        try simp only [List.setIfInBounds_toArray]
        try simp only [List.set_cons_succ]
        try simp only [List.set_cons_zero]
        refine Late.take (i := 3) (d := some 49) (v := ?v3_20a) rfl rfl (by kernel_rfl) (by kernel_rfl) (by kernel_rfl) (by kernel_rfl) hQ (Or.inl ⟨by rfl, ?y3_20a⟩) ?r3_20a
        case y3_20a =>
          intro w' hSw
          have k00 := (bx.ext hSw).c4
          have k10 := (by_.ext hSw).c4
          have k20 := (b8.ext hSw).c2
          have k30 := (b9.ext hSw).c2
          go_simp
          try with_reducible rfl
        try simp only [Act.put]
        try simp only [List.setIfInBounds_toArray]
        try simp only [List.set_cons_succ]
        try simp only [List.set_cons_zero]
        refine Late.take (i := 8) (d := some 54) (v := ?v8_21a) rfl rfl (by kernel_rfl) (by kernel_rfl) (by kernel_rfl) (by kernel_rfl) hQ (Or.inl ⟨by rfl, ?y8_21a⟩) ?r8_21a
        case y8_21a =>
          intro w' hSw
          have k00 := (bx.ext hSw).c4
          have k10 := (by_.ext hSw).c4
          have k20 := (b8.ext hSw).c2
          have k30 := (b9.ext hSw).c2
          go_simp
          try with_reducible rfl
        try simp only [Act.put]
        try simp only [List.setIfInBounds_toArray]
        try simp only [List.set_cons_succ]
        try simp only [List.set_cons_zero]
        refine Late.call (i := 5) rfl (by kernel_rfl) hAl (by kernel_rfl) (by kernel_rfl) (by kernel_rfl) hQ (fun w5 e5 E5 K hK => ?_)
        go_simp
        (go_at_call 102; refine (p_divide (k.den.ext E5) (hg.ext E5) (by omega) (by omega) Hg0.out Hgp.out).mono ?_; rintro e wk1 ⟨s1x, A1x, n1x, c1x, rfl, h1, hx5⟩)
        refine hK.out _ _ hx5 ?_
        clear hK K
        try simp only [Act.put]
        try simp only [List.setIfInBounds_toArray]
        try simp only [List.set_cons_succ]
        try simp only [List.set_cons_zero]
        refine Late.call (i := 6) rfl (by kernel_rfl) hAl (by kernel_rfl) (by kernel_rfl) (by kernel_rfl) hQ (fun w6 e6 E6 K hK => ?_)
        go_simp
        (go_at_call 94; refine (p_Mul (h.num.ext E6) (h1.ext e6) (by omega) (by omega) (by omega)).mono ?_; rintro e wk2 ⟨s2x, A2x, n2x, c2x, rfl, h2, hx6⟩)
        refine hK.out _ _ hx6 ?_
        clear hK K
        try simp only [Act.put]
        try simp only [List.setIfInBounds_toArray]
        try simp only [List.set_cons_succ]
        try simp only [List.set_cons_zero]
        refine Late.call (i := 10) rfl (by kernel_rfl) hAl (by kernel_rfl) (by kernel_rfl) (by kernel_rfl) hQ (fun w10 e10 E10 K hK => ?_)
        go_simp
        (go_at_call 94; refine (p_Mul (k.num.ext E10) (hD1.ext E10) (by omega) (by omega) (by omega)).mono ?_; rintro e wk3 ⟨s3, A3, n3, c3, rfl, h3, hx10⟩)
        refine hK.out _ _ hx10 ?_
        clear hK K
        try simp only [Act.put]
        try simp only [List.setIfInBounds_toArray]
        try simp only [List.set_cons_succ]
        try simp only [List.set_cons_zero]
        refine Late.call (i := 11) rfl (by kernel_rfl) hAl (by kernel_rfl) (by kernel_rfl) (by kernel_rfl) hQ (fun w11 e11 E11 K hK => ?_)
        go_simp
        (go_at_call 101; refine (p_Add (h2.ext (e10.trans (hx10.trans e11))) (h3.ext e11) (by omega) (by omega)).mono ?_; rintro e wk4 ⟨s4, A4, n4, c4, rfl, h4, hx11⟩)
        refine hK.out _ _ hx11 ?_
        clear hK K
        try simp only [Act.put]
        try simp only [List.setIfInBounds_toArray]
        try simp only [List.set_cons_succ]
        try simp only [List.set_cons_zero]
        refine Late.finish1 (hAl _ (by simp)) (by kernel_rfl) (fun wz g10 ez Ez lg5 xb1 => ?_)
        clear hAl hQ ES
        have f10 := xb1.cell 0 (Value.bool false) rfl
        have f11 := xb1.cell 1 (Value.slice none 0 0) rfl
        have f12 := xb1.frozen 0
        have f13 := xb1.frozen 1
        have e4 := fin_dual (s := s4) (A := A4) (n := n4) (c := c4) xb1
        try simp only [Act.put]
        try simp only [List.setIfInBounds_toArray]
        try simp only [List.set_cons_succ]
        try simp only [List.set_cons_zero]
        refine wpAnyH_ready (rs := [13]) (by kernel_rfl) (by simp) (AllReadyH.cons rfl (fun K hK => ?_) AllReadyH.nil)
        go_simp
        refine hK.out _ _ (e4.2.2.1 _ Ez lg5) (fun _ => ?_)
        clear hK K
        try simp only [Act.put]
        try simp only [List.setIfInBounds_toArray]
        try simp only [List.set_cons_succ]
        try simp only [List.set_cons_zero]
        refine any_world (fun U => Ext V9 U ∧ Box U g10 24 #[.bool s4, .slice A4 n4 c4] ∧ NI U (q.num * ((p.den : Int) / (g : Int)) + p.num * ((q.den : Int) / (g : Int))) (L + M + 1) s4 A4 n4 c4) ⟨e4.2.2.1 _ Ez lg5, e4.1, (e4.2.1 _ _ _ _ _ _ (h4.ext ez)).le (by omega)⟩ ?_
        clear e4 f10 f11 f12 f13 xb1 lg5
        rintro U ⟨EU, b10, hS⟩
        refine wpAnyH_done (by kernel_rfl) ?_ _
        replace bx := bx.ext EU
        replace by_ := by_.ext EU
        replace bz := bz.ext EU
        replace b8 := b8.ext EU
        replace b9 := b9.ext EU
        replace h := h.ext EU
        replace k := k.ext EU
        replace hg := hg.ext EU
        replace hD1 := hD1.ext EU
        replace extW := extW.trans EU
        clear EU Ez ez
        have j0 := b10.cell 0 (.bool s4) rfl
        have j1 := b10.cell 1 (.slice A4 n4 c4) rfl
        have j2 := b8.cell 0 (.bool s1) rfl
        have j3 := b8.cell 1 (.slice A1 n1 c1') rfl
        go_wp2_with fail
        refine (p_GCD hS hg (by omega) (by omega) (hT.ext extW)).mono ?_
        rintro e wg ⟨s5, A5, n5, c5, rfl, hr, hxg⟩
        rw [Int.natAbs_natCast] at hr
        clear j0 j1 j2 j3
        obtain ⟨S, hSe⟩ : ∃ S : Int, q.num * ((p.den : Int) / (g : Int)) + p.num * ((q.den : Int) / (g : Int)) = S := ⟨_, rfl⟩
        rw [hSe] at hS hr
        obtain ⟨r, hre⟩ : ∃ r, Nat.gcd S.natAbs g = r := ⟨_, rfl⟩
        rw [hre] at hr
        obtain ⟨q1, q2, q3, q4⟩ := rat_add q p (S := S) (r := r) Hge.out rfl rfl (by rw [← hSe]; simp) hre.symm
        have Hq1 := Lib.hid q1
        have Hq2 := Lib.hid q2
        have Hr0 := Lib.hid (show (r : Int) ≠ 0 by omega)
        have Hrp := Lib.hid (Int.ofNat_dvd.2 q3)
        have HrS := Lib.hid (show (r : Int) ∣ S from Int.ofNat_dvd_left.2 (by rw [← hre]; exact Nat.gcd_dvd_left _ _))
        clear q1 q2 q3 q4 hre hSe
        go_upto_region 10 with (fail)
        refine at_world (fun Z9 => Ext U Z9 ∧ Box Z9 wg.heap.size 24 #[.bool s5, .slice A5 n5 c5] ∧ NI Z9 (r : Int) (max (L + M + 1) (max L M)) s5 A5 n5 c5) ⟨hxg.alloc _, Box.new wg _ _, hr.ext ((Ext.refl wg).alloc _)⟩ ?_
        generalize wg.heap.size = g11
        clear hxg hr
        rintro Z9 ⟨EV, b11, hr⟩
        replace bx := bx.ext EV
        replace by_ := by_.ext EV
        replace bz := bz.ext EV
        replace b9 := b9.ext EV
        replace b10 := b10.ext EV
        replace h := h.ext EV
        replace k := k.ext EV
        replace hD1 := hD1.ext EV
        replace hS := hS.ext EV
        replace extW := extW.trans EV
        clear EV
        go_wp2_with fail
        refine wpL.start 10 (by kernel_rfl) (fun _ _ _ _ _ => ⟨fun h => h, fun h => h⟩) (fun hQ ES => ?_)
        refine wpL.take (i := 0) (d := some 61) (v := ?v0_22a) rfl rfl (by kernel_rfl) (by kernel_rfl) (by kernel_rfl) (by kernel_rfl) hQ (Or.inl ⟨by rfl, ?y0_22a⟩) ES ?r0_22a
        case y0_22a =>
          intro w' hSw
          have k00 := (b9.ext hSw).c2
          have k10 := (b10.ext hSw).c2
          have k20 := (b11.ext hSw).c2
          have k30 := (by_.ext hSw).c4
          go_simp
          try with_reducible rfl
        try simp only [Act.put]
        try simp only [List.setIfInBounds_toArray]
        try simp only [List.set_cons_succ]
        try simp only [List.set_cons_zero]
        refine wpL.take (i := 1) (d := some 62) (v := ?v1_23a) rfl rfl (by kernel_rfl) (by kernel_rfl) (by kernel_rfl) (by kernel_rfl) hQ (Or.inl ⟨by rfl, ?y1_23a⟩) ES ?r1_23a
        case y1_23a =>
          intro w' hSw
          have k00 := (b9.ext hSw).c2
          have k10 := (b10.ext hSw).c2
          have k20 := (b11.ext hSw).c2
          have k30 := (by_.ext hSw).c4
          go_simp
          try with_reducible rfl
        try simp only [Act.put]
        try simp only [List.setIfInBounds_toArray]
        try simp only [List.set_cons_succ]
        try simp only [List.set_cons_zero]
        refine wpL.take (i := 3) (d := some 64) (v := ?v3_24a) rfl rfl (by kernel_rfl) (by kernel_rfl) (by kernel_rfl) (by kernel_rfl) hQ (Or.inl ⟨by rfl, ?y3_24a⟩) ES ?r3_24a
        case y3_24a =>
          intro w' hSw
          have k00 := (b9.ext hSw).c2
          have k10 := (b10.ext hSw).c2
          have k20 := (b11.ext hSw).c2
          have k30 := (by_.ext hSw).c4
          go_simp
          try with_reducible rfl
        try simp only [Act.put]
        try simp only [List.setIfInBounds_toArray]
        try simp only [List.set_cons_succ]
        try simp only [List.set_cons_zero]
        refine wpL.take (i := 4) (d := some 65) (v := ?v4_25a) rfl rfl (by kernel_rfl) (by kernel_rfl) (by kernel_rfl) (by kernel_rfl) hQ (Or.inl ⟨by rfl, ?y4_25a⟩) ES ?r4_25a
        case y4_25a =>
          intro w' hSw
          have k00 := (b9.ext hSw).c2
          have k10 := (b10.ext hSw).c2
          have k20 := (b11.ext hSw).c2
          have k30 := (by_.ext hSw).c4
          go_simp
          try with_reducible rfl
        try simp only [Act.put]
        try simp only [List.setIfInBounds_toArray]
        try simp only [List.set_cons_succ]
        try simp only [List.set_cons_zero]
        refine wpL.take (i := 6) (d := some 67) (v := ?v6_26a) rfl rfl (by kernel_rfl) (by kernel_rfl) (by kernel_rfl) (by kernel_rfl) hQ (Or.inl ⟨by rfl, ?y6_26a⟩) ES ?r6_26a
        case y6_26a =>
          intro w' hSw
          have k00 := (b9.ext hSw).c2
          have k10 := (b10.ext hSw).c2
          have k20 := (b11.ext hSw).c2
          have k30 := (by_.ext hSw).c4
          go_simp
          try with_reducible rfl
        try simp only [Act.put]
        try simp only [List.setIfInBounds_toArray]
        try simp only [List.set_cons_succ]
        try simp only [List.set_cons_zero]
        refine wpL.take (i := 5) (d := some 66) (v := ?v5_27a) rfl rfl (by kernel_rfl) (by kernel_rfl) (by kernel_rfl) (by kernel_rfl) hQ (Or.inl ⟨by rfl, ?y5_27a⟩) ES ?r5_27a
        case y5_27a =>
          intro w' hSw
          have k00 := (b9.ext hSw).c2
          have k10 := (b10.ext hSw).c2
          have k20 := (b11.ext hSw).c2
          have k30 := (by_.ext hSw).c4
          go_simp
          try with_reducible rfl
        try simp only [Act.put]
        try simp only [List.setIfInBounds_toArray]
        try simp only [List.set_cons_succ]
        try simp only [List.set_cons_zero]
        refine wpL.call (i := 2) rfl (by kernel_rfl) (fun K hK => ?_)
        go_simp
        (go_at_call 102; refine (p_divide (hS.ext ES) (hr.ext ES) (by omega) (by omega) Hr0.out HrS.out).mono ?_; rintro e wk1 ⟨s1x, A1x, n1x, c1x, rfl, h1, hx0⟩; have E0_10 := Ext.trans ES hx0)
        refine hK.out _ _ E0_10 ?_
        clear hK K
        try simp only [Act.put]
        try simp only [List.setIfInBounds_toArray]
        try simp only [List.set_cons_succ]
        try simp only [List.set_cons_zero]
        refine wpL.call (i := 7) rfl (by kernel_rfl) (fun K hK => ?_)
        go_simp
        (go_at_call 102; refine (p_divide (k.den.ext E0_10) (hr.ext E0_10) (by omega) (by omega) Hr0.out Hrp.out).mono ?_; rintro e wk2 ⟨s2x, A2x, n2x, c2x, rfl, h2, hx1⟩; have E1_10 := Ext.trans E0_10 hx1)
        refine hK.out _ _ E1_10 ?_
        clear hK K
        try simp only [Act.put]
        try simp only [List.setIfInBounds_toArray]
        try simp only [List.set_cons_succ]
        try simp only [List.set_cons_zero]
        refine wpL.call (i := 8) rfl (by kernel_rfl) (fun K hK => ?_)
        go_simp
        (go_at_call 94; refine (p_Mul (hD1.ext E1_10) (h2) (by omega) (by omega) h64).mono ?_; rintro e wk3 ⟨s3, A3, n3, c3, rfl, h3, hx2⟩; have E2_10 := Ext.trans E1_10 hx2)
        refine hK.out _ _ E2_10 ?_
        clear hK K
        try simp only [Act.put]
        try simp only [List.setIfInBounds_toArray]
        try simp only [List.set_cons_succ]
        try simp only [List.set_cons_zero]
        refine wpL.take (i := 9) (d := some 70) (v := ?v9_28a) rfl rfl (by kernel_rfl) (by kernel_rfl) (by kernel_rfl) (by kernel_rfl) hQ (Or.inl ⟨by rfl, ?y9_28a⟩) E2_10 ?r9_28a
        case y9_28a =>
          intro w' hSw
          have k00 := (b9.ext hSw).c2
          have k10 := (b10.ext hSw).c2
          have k20 := (b11.ext hSw).c2
          have k30 := (by_.ext hSw).c4
          go_simp
          try with_reducible rfl
        try simp only [Act.put]
        try simp only [List.setIfInBounds_toArray]
        try simp only [List.set_cons_succ]
        try simp only [List.set_cons_zero]
        have z0 := (bz.ext E2_10).cell 0 _ rfl
        have z1 := (bz.ext E2_10).cell 1 _ rfl
        have z2 := (bz.ext E2_10).cell 2 _ rfl
        have z3 := (bz.ext E2_10).cell 3 _ rfl
        have f0 := (bz.ext E2_10).frozen 0
        have f1 := (bz.ext E2_10).frozen 1
        have f2 := (bz.ext E2_10).frozen 2
        have f3 := (bz.ext E2_10).frozen 3
        refine wpL.tail (i := 10) rfl (by kernel_rfl) (by kernel_rfl) (fun K hK => ?_)
        go_simp
        refine hK.out _ _ ?_
        clear hK K
        try simp only [Act.put]
        try simp only [List.setIfInBounds_toArray]
        try simp only [List.set_cons_succ]
        try simp only [List.set_cons_zero]
        refine wpL.done (by kernel_rfl) ?_ _
        clear hQ
        go_wp2_with fail
        have hk1 : ((q.den : Int) / (g : Int)) * ((p.den : Int) / (r : Int)) = ((q + p).den : Int) := by rw [Hq2.out]; simp
        rw [hk1] at h3
        rw [← Hq1.out] at h1
        obtain ⟨b1, b2, b3, b4⟩ := fin_quad (s := s1x) (A := A1x) (n := n1x) (c := c1x) (t := s3) (B := A3) (m := n3) (d := c3) (bz.ext E2_10)
        have r0 := b1.cell 0 (.bool s1x) rfl
        have r1 := b1.cell 1 (.slice A1x n1x c1x) rfl
        have r2 := b1.cell 2 (.bool s3) rfl
        have r3 := b1.cell 3 (.slice A3 n3 c3) rfl
        unfold set4 at r0 r1 r2 r3
        refine bodyPost_ret (v := .agg #[.bool s1x, .slice A1x n1x c1x, .bool s3, .slice A3 n3 c3]) (by simp [results, Tryz.results56, go_sem, r0, r1, r2, r3]) rfl ⟨s1x, A1x, n1x, c1x, s3, A3, n3, c3, rfl, ⟨?_, ?_⟩, b3 _ (extW.trans E2_10) (by omega)⟩
        · exact (b2 _ _ _ _ _ _ (h1.ext (hx1.trans hx2))).le (by omega)
        · exact (b2 _ _ _ _ _ _ h3).le (by omega)
    · rw [decide_eq_false h1]
      clear h1
      have x0 := bx.cell 0 (.bool s) rfl
      have x1 := bx.cell 1 (.slice A n c) rfl
      have x2 := bx.cell 2 (.bool t) rfl
      have x3 := bx.cell 3 (.slice B m d) rfl
      have y0 := by_.cell 0 (.bool s') rfl
      have y1 := by_.cell 1 (.slice A' n' c') rfl
      have y2 := by_.cell 2 (.bool t') rfl
      have y3 := by_.cell 3 (.slice B' m' d') rfl
      go_wp2_with fail
      refine (p_GCD h.den k.den (by omega) (by omega) (hT.ext extW)).mono ?_
      rintro e we ⟨s1, A1, n1, c1', rfl, hg, hxe⟩
      rw [Int.natAbs_natCast, Int.natAbs_natCast] at hg
      obtain ⟨g, hge⟩ : ∃ g, Nat.gcd q.den p.den = g := ⟨_, rfl⟩
      rw [hge] at hg
      have hgq : g ∣ q.den := by rw [← hge]; exact Nat.gcd_dvd_left _ _
      have hgp : g ∣ p.den := by rw [← hge]; exact Nat.gcd_dvd_right _ _
      have hg0 : (g : Int) ≠ 0 := by
        intro h0
        have : g = 0 := by omega
        rw [this] at hgq
        have := Nat.eq_zero_of_zero_dvd hgq
        exact q.den_nz this
      have Hge := Lib.hid hge.symm
      have Hg0 := Lib.hid hg0
      have Hgq := Lib.hid (Int.ofNat_dvd.2 hgq)
      have Hgp := Lib.hid (Int.ofNat_dvd.2 hgp)
      clear hge hg0 hgq hgp
      clear x0 x1 x2 x3
      clear y0 y1 y2 y3
      go_upto_region 7 with (fail)
      refine at_world (fun V7 => Ext wb V7 ∧ Box V7 we.heap.size 24 #[.bool s1, .slice A1 n1 c1'] ∧ NI V7 (g : Int) (max L M) s1 A1 n1 c1') ⟨hxe.alloc _, Box.new we _ _, hg.ext ((Ext.refl we).alloc _)⟩ ?_
      generalize we.heap.size = g8
      clear hxe hg
      rintro V7 ⟨EV, b8, hg⟩
      replace bx := bx.ext EV
      replace by_ := by_.ext EV
      replace bz := bz.ext EV
      replace h := h.ext EV
      replace k := k.ext EV
      replace extW := extW.trans EV
      clear EV
      have x0 := bx.cell 0 (.bool s) rfl
      have x1 := bx.cell 1 (.slice A n c) rfl
      have x2 := bx.cell 2 (.bool t) rfl
      have x3 := bx.cell 3 (.slice B m d) rfl
      have j0 := b8.cell 0 (.bool s1) rfl
      have j1 := b8.cell 1 (.slice A1 n1 c1') rfl
      go_wp2_with fail
      refine (p_divide h.den hg (by omega) (by omega) Hg0.out Hgq.out).mono ?_
      rintro e wf ⟨s2, A2, n2, c2', rfl, hD1, hxf⟩
      clear x0 x1 x2 x3
      clear j0 j1
      go_upto_region 8 with (fail)
      refine at_world (fun V9 => Ext V7 V9 ∧ Box V9 wf.heap.size 24 #[.bool s2, .slice A2 n2 c2'] ∧ NI V9 ((q.den : Int) / (g : Int)) L s2 A2 n2 c2') ⟨hxf.alloc _, Box.new wf _ _, hD1.ext ((Ext.refl wf).alloc _)⟩ ?_
      generalize wf.heap.size = g9
      clear hxf hD1
      rintro V9 ⟨EV, b9, hD1⟩
      replace bx := bx.ext EV
      replace by_ := by_.ext EV
      replace bz := bz.ext EV
      replace b8 := b8.ext EV
      replace h := h.ext EV
      replace k := k.ext EV
      replace hg := hg.ext EV
      replace extW := extW.trans EV
      clear EV
      go_wp2_with fail
      have ES0 := Ext.refl V9
      refine wp_region_held_drew (S := Ext V9) (by kernel_rfl) ES0.drew (fun ES => ?_)
      clear ES0
      refine Late.start1 (x := ⟨12, 10, 24, #[Value.bool false, Value.slice none 0 0]⟩) (n := 13) ⟨_, rfl, rfl, rfl, fun a w => by go_simp⟩ (fun _ _ _ _ _ => ⟨fun h => h, fun h => h⟩) ES rfl (fun hAl hQ => ?_)
      refine Late.take (i := 0) (d := some 46) (v := ?v0_14b) rfl rfl (by kernel_rfl) (by kernel_rfl) (by kernel_rfl) (by kernel_rfl) hQ (Or.inl ⟨by rfl, ?y0_14b⟩) ?r0_14b
      case y0_14b =>
        intro w' hSw
        have k00 := (bx.ext hSw).c4
        have k10 := (by_.ext hSw).c4
        have k20 := (b8.ext hSw).c2
        have k30 := (b9.ext hSw).c2
        go_simp
        try with_reducible rfl
      try simp only [Act.put]
      try simp only [List.setIfInBounds_toArray]
      try simp only [List.set_cons_succ]
      try simp only [List.set_cons_zero]
      refine Late.take (i := 2) (d := some 48) (v := ?v2_15b) rfl rfl (by kernel_rfl) (by kernel_rfl) (by kernel_rfl) (by kernel_rfl) hQ (Or.inl ⟨by rfl, ?y2_15b⟩) ?r2_15b
      case y2_15b =>
        intro w' hSw
        have k00 := (bx.ext hSw).c4
        have k10 := (by_.ext hSw).c4
        have k20 := (b8.ext hSw).c2
        have k30 := (b9.ext hSw).c2
        go_simp
        try with_reducible rfl
      try simp only [Act.put]
      try simp only [List.setIfInBounds_toArray]
      try simp only [List.set_cons_succ]
      try simp only [List.set_cons_zero]
      refine Late.take (i := 4) (d := some 50) (v := ?v4_16b) rfl rfl (by kernel_rfl) (by kernel_rfl) (by kernel_rfl) (by kernel_rfl) hQ (Or.inl ⟨by rfl, ?y4_16b⟩) ?r4_16b
      case y4_16b =>
        intro w' hSw
        have k00 := (bx.ext hSw).c4
        have k10 := (by_.ext hSw).c4
        have k20 := (b8.ext hSw).c2
        have k30 := (b9.ext hSw).c2
        go_simp
        try with_reducible rfl
      try simp only [Act.put]
      try simp only [List.setIfInBounds_toArray]
      try simp only [List.set_cons_succ]
      try simp only [List.set_cons_zero]
      refine Late.take (i := 7) (d := some 53) (v := ?v7_17b) rfl rfl (by kernel_rfl) (by kernel_rfl) (by kernel_rfl) (by kernel_rfl) hQ (Or.inl ⟨by rfl, ?y7_17b⟩) ?r7_17b
      case y7_17b =>
        intro w' hSw
        have k00 := (bx.ext hSw).c4
        have k10 := (by_.ext hSw).c4
        have k20 := (b8.ext hSw).c2
        have k30 := (b9.ext hSw).c2
        go_simp
        try with_reducible rfl
      try simp only [Act.put]
      try simp only [List.setIfInBounds_toArray]
      try simp only [List.set_cons_succ]
      try simp only [List.set_cons_zero]
      refine Late.take (i := 9) (d := some 55) (v := ?v9_18b) rfl rfl (by kernel_rfl) (by kernel_rfl) (by kernel_rfl) (by kernel_rfl) hQ (Or.inl ⟨by rfl, ?y9_18b⟩) ?r9_18b
      case y9_18b =>
        intro w' hSw
        have k00 := (bx.ext hSw).c4
        have k10 := (by_.ext hSw).c4
        have k20 := (b8.ext hSw).c2
        have k30 := (b9.ext hSw).c2
        go_simp
        try with_reducible rfl
      try simp only [Act.put]
      try simp only [List.setIfInBounds_toArray]
      try simp only [List.set_cons_succ]
      try simp only [List.set_cons_zero]
      refine Late.take (i := 1) (d := some 47) (v := ?v1_19b) rfl rfl (by kernel_rfl) (by kernel_rfl) (by kernel_rfl) (by kernel_rfl) hQ (Or.inl ⟨by rfl, ?y1_19b⟩) ?r1_19b
      case y1_19b =>
        intro w' hSw
        have k00 := (bx.ext hSw).c4
        have k10 := (by_.ext hSw).c4
        have k20 := (b8.ext hSw).c2
        have k30 := (b9.ext hSw).c2
        go_simp
        try with_reducible rfl
      try simp only [Act.put]
      try simp only [List.setIfInBounds_toArray]
      try simp only [List.set_cons_succ]
      try simp only [List.set_cons_zero]
      refine Late.take (i := 3) (d := some 49) (v := ?v3_20b) rfl rfl (by kernel_rfl) (by kernel_rfl) (by kernel_rfl) (by kernel_rfl) hQ (Or.inl ⟨by rfl, ?y3_20b⟩) ?r3_20b
      case y3_20b =>
        intro w' hSw
        have k00 := (bx.ext hSw).c4
        have k10 := (by_.ext hSw).c4
        have k20 := (b8.ext hSw).c2
        have k30 := (b9.ext hSw).c2
        go_simp
        try with_reducible rfl
      try simp only [Act.put]
      try simp only [List.setIfInBounds_toArray]
      try simp only [List.set_cons_succ]
      try simp only [List.set_cons_zero]
      refine Late.take (i := 8) (d := some 54) (v := ?v8_21b) rfl rfl (by kernel_rfl) (by kernel_rfl) (by kernel_rfl) (by kernel_rfl) hQ (Or.inl ⟨by rfl, ?y8_21b⟩) ?r8_21b
      case y8_21b =>
        intro w' hSw
        have k00 := (bx.ext hSw).c4
        have k10 := (by_.ext hSw).c4
        have k20 := (b8.ext hSw).c2
        have k30 := (b9.ext hSw).c2
        go_simp
        try with_reducible rfl
      try simp only [Act.put]
      try simp only [List.setIfInBounds_toArray]
      try simp only [List.set_cons_succ]
      try simp only [List.set_cons_zero]
      refine Late.call (i := 5) rfl (by kernel_rfl) hAl (by kernel_rfl) (by kernel_rfl) (by kernel_rfl) hQ (fun w5 e5 E5 K hK => ?_)
      go_simp
      (go_at_call 102; refine (p_divide (k.den.ext E5) (hg.ext E5) (by omega) (by omega) Hg0.out Hgp.out).mono ?_; rintro e wk1 ⟨s1x, A1x, n1x, c1x, rfl, h1, hx5⟩)
      refine hK.out _ _ hx5 ?_
      clear hK K
      try simp only [Act.put]
      try simp only [List.setIfInBounds_toArray]
      try simp only [List.set_cons_succ]
      try simp only [List.set_cons_zero]
      refine Late.call (i := 6) rfl (by kernel_rfl) hAl (by kernel_rfl) (by kernel_rfl) (by kernel_rfl) hQ (fun w6 e6 E6 K hK => ?_)
      go_simp
      (go_at_call 94; refine (p_Mul (h.num.ext E6) (h1.ext e6) (by omega) (by omega) (by omega)).mono ?_; rintro e wk2 ⟨s2x, A2x, n2x, c2x, rfl, h2, hx6⟩)
      refine hK.out _ _ hx6 ?_
      clear hK K
      try simp only [Act.put]
      try simp only [List.setIfInBounds_toArray]
      try simp only [List.set_cons_succ]
      try simp only [List.set_cons_zero]
      refine Late.call (i := 10) rfl (by kernel_rfl) hAl (by kernel_rfl) (by kernel_rfl) (by kernel_rfl) hQ (fun w10 e10 E10 K hK => ?_)
      go_simp
      (go_at_call 94; refine (p_Mul (k.num.ext E10) (hD1.ext E10) (by omega) (by omega) (by omega)).mono ?_; rintro e wk3 ⟨s3, A3, n3, c3, rfl, h3, hx10⟩)
      refine hK.out _ _ hx10 ?_
      clear hK K
      try simp only [Act.put]
      try simp only [List.setIfInBounds_toArray]
      try simp only [List.set_cons_succ]
      try simp only [List.set_cons_zero]
      refine Late.call (i := 11) rfl (by kernel_rfl) hAl (by kernel_rfl) (by kernel_rfl) (by kernel_rfl) hQ (fun w11 e11 E11 K hK => ?_)
      go_simp
      (go_at_call 101; refine (p_Add (h2.ext (e10.trans (hx10.trans e11))) (h3.ext e11) (by omega) (by omega)).mono ?_; rintro e wk4 ⟨s4, A4, n4, c4, rfl, h4, hx11⟩)
      refine hK.out _ _ hx11 ?_
      clear hK K
      try simp only [Act.put]
      try simp only [List.setIfInBounds_toArray]
      try simp only [List.set_cons_succ]
      try simp only [List.set_cons_zero]
      refine Late.finish1 (hAl _ (by simp)) (by kernel_rfl) (fun wz g10 ez Ez lg5 xb1 => ?_)
      clear hAl hQ ES
      have f10 := xb1.cell 0 (Value.bool false) rfl
      have f11 := xb1.cell 1 (Value.slice none 0 0) rfl
      have f12 := xb1.frozen 0
      have f13 := xb1.frozen 1
      have e4 := fin_dual (s := s4) (A := A4) (n := n4) (c := c4) xb1
      try simp only [Act.put]
      try simp only [List.setIfInBounds_toArray]
      try simp only [List.set_cons_succ]
      try simp only [List.set_cons_zero]
      refine wpAnyH_ready (rs := [13]) (by kernel_rfl) (by simp) (AllReadyH.cons rfl (fun K hK => ?_) AllReadyH.nil)
      go_simp
      refine hK.out _ _ (e4.2.2.1 _ Ez lg5) (fun _ => ?_)
      clear hK K
      try simp only [Act.put]
      try simp only [List.setIfInBounds_toArray]
      try simp only [List.set_cons_succ]
      try simp only [List.set_cons_zero]
      refine any_world (fun U => Ext V9 U ∧ Box U g10 24 #[.bool s4, .slice A4 n4 c4] ∧ NI U (q.num * ((p.den : Int) / (g : Int)) + p.num * ((q.den : Int) / (g : Int))) (L + M + 1) s4 A4 n4 c4) ⟨e4.2.2.1 _ Ez lg5, e4.1, (e4.2.1 _ _ _ _ _ _ (h4.ext ez)).le (by omega)⟩ ?_
      clear e4 f10 f11 f12 f13 xb1 lg5
      rintro U ⟨EU, b10, hS⟩
      refine wpAnyH_done (by kernel_rfl) ?_ _
      replace bx := bx.ext EU
      replace by_ := by_.ext EU
      replace bz := bz.ext EU
      replace b8 := b8.ext EU
      replace b9 := b9.ext EU
      replace h := h.ext EU
      replace k := k.ext EU
      replace hg := hg.ext EU
      replace hD1 := hD1.ext EU
      replace extW := extW.trans EU
      clear EU Ez ez
      have j0 := b10.cell 0 (.bool s4) rfl
      have j1 := b10.cell 1 (.slice A4 n4 c4) rfl
      have j2 := b8.cell 0 (.bool s1) rfl
      have j3 := b8.cell 1 (.slice A1 n1 c1') rfl
      go_wp2_with fail
      refine (p_GCD hS hg (by omega) (by omega) (hT.ext extW)).mono ?_
      rintro e wg ⟨s5, A5, n5, c5, rfl, hr, hxg⟩
      rw [Int.natAbs_natCast] at hr
      clear j0 j1 j2 j3
      obtain ⟨S, hSe⟩ : ∃ S : Int, q.num * ((p.den : Int) / (g : Int)) + p.num * ((q.den : Int) / (g : Int)) = S := ⟨_, rfl⟩
      rw [hSe] at hS hr
      obtain ⟨r, hre⟩ : ∃ r, Nat.gcd S.natAbs g = r := ⟨_, rfl⟩
      rw [hre] at hr
      obtain ⟨q1, q2, q3, q4⟩ := rat_add q p (S := S) (r := r) Hge.out rfl rfl (by rw [← hSe]; simp) hre.symm
      have Hq1 := Lib.hid q1
      have Hq2 := Lib.hid q2
      have Hr0 := Lib.hid (show (r : Int) ≠ 0 by omega)
      have Hrp := Lib.hid (Int.ofNat_dvd.2 q3)
      have HrS := Lib.hid (show (r : Int) ∣ S from Int.ofNat_dvd_left.2 (by rw [← hre]; exact Nat.gcd_dvd_left _ _))
      clear q1 q2 q3 q4 hre hSe
      go_upto_region 10 with (fail)
      refine at_world (fun Z9 => Ext U Z9 ∧ Box Z9 wg.heap.size 24 #[.bool s5, .slice A5 n5 c5] ∧ NI Z9 (r : Int) (max (L + M + 1) (max L M)) s5 A5 n5 c5) ⟨hxg.alloc _, Box.new wg _ _, hr.ext ((Ext.refl wg).alloc _)⟩ ?_
      generalize wg.heap.size = g11
      clear hxg hr
      rintro Z9 ⟨EV, b11, hr⟩
      replace bx := bx.ext EV
      replace by_ := by_.ext EV
      replace bz := bz.ext EV
      replace b9 := b9.ext EV
      replace b10 := b10.ext EV
      replace h := h.ext EV
      replace k := k.ext EV
      replace hD1 := hD1.ext EV
      replace hS := hS.ext EV
      replace extW := extW.trans EV
      clear EV
      go_wp2_with fail
      refine wpL.start 10 (by kernel_rfl) (fun _ _ _ _ _ => ⟨fun h => h, fun h => h⟩) (fun hQ ES => ?_)
      refine wpL.take (i := 0) (d := some 61) (v := ?v0_22b) rfl rfl (by kernel_rfl) (by kernel_rfl) (by kernel_rfl) (by kernel_rfl) hQ (Or.inl ⟨by rfl, ?y0_22b⟩) ES ?r0_22b
      case y0_22b =>
        intro w' hSw
        have k00 := (b9.ext hSw).c2
        have k10 := (b10.ext hSw).c2
        have k20 := (b11.ext hSw).c2
        have k30 := (by_.ext hSw).c4
        go_simp
        try with_reducible rfl
      try simp only [Act.put]
      try simp only [List.setIfInBounds_toArray]
      try simp only [List.set_cons_succ]
      try simp only [List.set_cons_zero]
      refine wpL.take (i := 1) (d := some 62) (v := ?v1_23b) rfl rfl (by kernel_rfl) (by kernel_rfl) (by kernel_rfl) (by kernel_rfl) hQ (Or.inl ⟨by rfl, ?y1_23b⟩) ES ?r1_23b
      case y1_23b =>
        intro w' hSw
        have k00 := (b9.ext hSw).c2
        have k10 := (b10.ext hSw).c2
        have k20 := (b11.ext hSw).c2
        have k30 := (by_.ext hSw).c4
        go_simp
        try with_reducible rfl
      try simp only [Act.put]
      try simp only [List.setIfInBounds_toArray]
      try simp only [List.set_cons_succ]
      try simp only [List.set_cons_zero]
      refine wpL.take (i := 3) (d := some 64) (v := ?v3_24b) rfl rfl (by kernel_rfl) (by kernel_rfl) (by kernel_rfl) (by kernel_rfl) hQ (Or.inl ⟨by rfl, ?y3_24b⟩) ES ?r3_24b
      case y3_24b =>
        intro w' hSw
        have k00 := (b9.ext hSw).c2
        have k10 := (b10.ext hSw).c2
        have k20 := (b11.ext hSw).c2
        have k30 := (by_.ext hSw).c4
        go_simp
        try with_reducible rfl
      try simp only [Act.put]
      try simp only [List.setIfInBounds_toArray]
      try simp only [List.set_cons_succ]
      try simp only [List.set_cons_zero]
      refine wpL.take (i := 4) (d := some 65) (v := ?v4_25b) rfl rfl (by kernel_rfl) (by kernel_rfl) (by kernel_rfl) (by kernel_rfl) hQ (Or.inl ⟨by rfl, ?y4_25b⟩) ES ?r4_25b
      case y4_25b =>
        intro w' hSw
        have k00 := (b9.ext hSw).c2
        have k10 := (b10.ext hSw).c2
        have k20 := (b11.ext hSw).c2
        have k30 := (by_.ext hSw).c4
        go_simp
        try with_reducible rfl
      try simp only [Act.put]
      try simp only [List.setIfInBounds_toArray]
      try simp only [List.set_cons_succ]
      try simp only [List.set_cons_zero]
      refine wpL.take (i := 6) (d := some 67) (v := ?v6_26b) rfl rfl (by kernel_rfl) (by kernel_rfl) (by kernel_rfl) (by kernel_rfl) hQ (Or.inl ⟨by rfl, ?y6_26b⟩) ES ?r6_26b
      case y6_26b =>
        intro w' hSw
        have k00 := (b9.ext hSw).c2
        have k10 := (b10.ext hSw).c2
        have k20 := (b11.ext hSw).c2
        have k30 := (by_.ext hSw).c4
        go_simp
        try with_reducible rfl
      try simp only [Act.put]
      try simp only [List.setIfInBounds_toArray]
      try simp only [List.set_cons_succ]
      try simp only [List.set_cons_zero]
      refine wpL.take (i := 5) (d := some 66) (v := ?v5_27b) rfl rfl (by kernel_rfl) (by kernel_rfl) (by kernel_rfl) (by kernel_rfl) hQ (Or.inl ⟨by rfl, ?y5_27b⟩) ES ?r5_27b
      case y5_27b =>
        intro w' hSw
        have k00 := (b9.ext hSw).c2
        have k10 := (b10.ext hSw).c2
        have k20 := (b11.ext hSw).c2
        have k30 := (by_.ext hSw).c4
        go_simp
        try with_reducible rfl
      try simp only [Act.put]
      try simp only [List.setIfInBounds_toArray]
      try simp only [List.set_cons_succ]
      try simp only [List.set_cons_zero]
      refine wpL.call (i := 2) rfl (by kernel_rfl) (fun K hK => ?_)
      go_simp
      (go_at_call 102; refine (p_divide (hS.ext ES) (hr.ext ES) (by omega) (by omega) Hr0.out HrS.out).mono ?_; rintro e wk1 ⟨s1x, A1x, n1x, c1x, rfl, h1, hx0⟩; have E0_10 := Ext.trans ES hx0)
      refine hK.out _ _ E0_10 ?_
      clear hK K
      try simp only [Act.put]
      try simp only [List.setIfInBounds_toArray]
      try simp only [List.set_cons_succ]
      try simp only [List.set_cons_zero]
      refine wpL.call (i := 7) rfl (by kernel_rfl) (fun K hK => ?_)
      go_simp
      (go_at_call 102; refine (p_divide (k.den.ext E0_10) (hr.ext E0_10) (by omega) (by omega) Hr0.out Hrp.out).mono ?_; rintro e wk2 ⟨s2x, A2x, n2x, c2x, rfl, h2, hx1⟩; have E1_10 := Ext.trans E0_10 hx1)
      refine hK.out _ _ E1_10 ?_
      clear hK K
      try simp only [Act.put]
      try simp only [List.setIfInBounds_toArray]
      try simp only [List.set_cons_succ]
      try simp only [List.set_cons_zero]
      refine wpL.call (i := 8) rfl (by kernel_rfl) (fun K hK => ?_)
      go_simp
      (go_at_call 94; refine (p_Mul (hD1.ext E1_10) (h2) (by omega) (by omega) h64).mono ?_; rintro e wk3 ⟨s3, A3, n3, c3, rfl, h3, hx2⟩; have E2_10 := Ext.trans E1_10 hx2)
      refine hK.out _ _ E2_10 ?_
      clear hK K
      try simp only [Act.put]
      try simp only [List.setIfInBounds_toArray]
      try simp only [List.set_cons_succ]
      try simp only [List.set_cons_zero]
      refine wpL.take (i := 9) (d := some 70) (v := ?v9_28b) rfl rfl (by kernel_rfl) (by kernel_rfl) (by kernel_rfl) (by kernel_rfl) hQ (Or.inl ⟨by rfl, ?y9_28b⟩) E2_10 ?r9_28b
      case y9_28b =>
        intro w' hSw
        have k00 := (b9.ext hSw).c2
        have k10 := (b10.ext hSw).c2
        have k20 := (b11.ext hSw).c2
        have k30 := (by_.ext hSw).c4
        go_simp
        try with_reducible rfl
      try simp only [Act.put]
      try simp only [List.setIfInBounds_toArray]
      try simp only [List.set_cons_succ]
      try simp only [List.set_cons_zero]
      have z0 := (bz.ext E2_10).cell 0 _ rfl
      have z1 := (bz.ext E2_10).cell 1 _ rfl
      have z2 := (bz.ext E2_10).cell 2 _ rfl
      have z3 := (bz.ext E2_10).cell 3 _ rfl
      have f0 := (bz.ext E2_10).frozen 0
      have f1 := (bz.ext E2_10).frozen 1
      have f2 := (bz.ext E2_10).frozen 2
      have f3 := (bz.ext E2_10).frozen 3
      refine wpL.tail (i := 10) rfl (by kernel_rfl) (by kernel_rfl) (fun K hK => ?_)
      go_simp
      refine hK.out _ _ ?_
      clear hK K
      try simp only [Act.put]
      try simp only [List.setIfInBounds_toArray]
      try simp only [List.set_cons_succ]
      try simp only [List.set_cons_zero]
      refine wpL.done (by kernel_rfl) ?_ _
      clear hQ
      go_wp2_with fail
      have hk1 : ((q.den : Int) / (g : Int)) * ((p.den : Int) / (r : Int)) = ((q + p).den : Int) := by rw [Hq2.out]; simp
      rw [hk1] at h3
      rw [← Hq1.out] at h1
      obtain ⟨b1, b2, b3, b4⟩ := fin_quad (s := s1x) (A := A1x) (n := n1x) (c := c1x) (t := s3) (B := A3) (m := n3) (d := c3) (bz.ext E2_10)
      have r0 := b1.cell 0 (.bool s1x) rfl
      have r1 := b1.cell 1 (.slice A1x n1x c1x) rfl
      have r2 := b1.cell 2 (.bool s3) rfl
      have r3 := b1.cell 3 (.slice A3 n3 c3) rfl
      unfold set4 at r0 r1 r2 r3
      refine bodyPost_ret (v := .agg #[.bool s1x, .slice A1x n1x c1x, .bool s3, .slice A3 n3 c3]) (by simp [results, Tryz.results56, go_sem, r0, r1, r2, r3]) rfl ⟨s1x, A1x, n1x, c1x, s3, A3, n3, c3, rfl, ⟨?_, ?_⟩, b3 _ (extW.trans E2_10) (by omega)⟩
      · exact (b2 _ _ _ _ _ _ (h1.ext (hx1.trans hx2))).le (by omega)
      · exact (b2 _ _ _ _ _ _ h3).le (by omega)
end
end Go.Proofs.YtoabhnofppledaaGreatDoor
namespace Go.Proofs.YtoabhnofppledaaGreatDoor
open Go.RowKit
attribute [local go_sem ↓] Go.wp_at_zero Go.wp_at_succ
section
variable {w w' : World} {z y : Int} {q p : Rat} {L M : Nat} {s t s' t' : Bool} {A B A' B' : Option Addr} {n c m d n' c' m' d' : Nat}
set_option maxHeartbeats 2000000 in
theorem p_SubR (h : NR w q L s A n c t B m d) (k : NR w p M s' A' n' c' t' B' m' d') (hL : L ≤ 1000) (hM : M ≤ 1000) (h64 : min L M < 64) (hT : Tab w) : Calls Tryz.prog 59 #[.agg #[.bool s, .slice A n c, .bool t, .slice B m d], .agg #[.bool s', .slice A' n' c', .bool t', .slice B' m' d']] w (RetNR (q - p) (L + M + 1) w) := by
  go_enter Tryz.func59, Tryz.ntmps59
  go_upto_region 1 with (fail)
  obtain ⟨W, hW, extW, bx, by_, bz, hz⟩ := box3 w 26 26 26 #[.bool s, .slice A n c, .bool t, .slice B m d] #[.bool s', .slice A' n' c', .bool t', .slice B' m' d'] #[Value.bool false, Value.slice none 0 0, Value.bool false, Value.slice none 0 0]
  rw [← hW]
  clear hW
  refine wpL.start 4 (by kernel_rfl) (fun _ _ _ _ _ => ⟨fun h => h, fun h => h⟩) (fun hQ ES => ?_)
  refine wpL.take (i := 0) (d := some 5) (v := ?v0_29) rfl rfl (by kernel_rfl) (by kernel_rfl) (by kernel_rfl) (by kernel_rfl) hQ (Or.inl ⟨by rfl, ?y0_29⟩) ES ?r0_29
  case y0_29 =>
    intro w' hSw
    have k00 := (bx.ext hSw).c4
    have k10 := (by_.ext hSw).c4
    go_simp
    try with_reducible rfl
  try simp only [Act.put]
  try simp only [List.setIfInBounds_toArray]
  try simp only [List.set_cons_succ]
  try simp only [List.set_cons_zero]
  refine wpL.take (i := 1) (d := some 6) (v := ?v1_30) rfl rfl (by kernel_rfl) (by kernel_rfl) (by kernel_rfl) (by kernel_rfl) hQ (Or.inl ⟨by rfl, ?y1_30⟩) ES ?r1_30
  case y1_30 =>
    intro w' hSw
    have k00 := (bx.ext hSw).c4
    have k10 := (by_.ext hSw).c4
    go_simp
    try with_reducible rfl
  try simp only [Act.put]
  try simp only [List.setIfInBounds_toArray]
  try simp only [List.set_cons_succ]
  try simp only [List.set_cons_zero]
  refine wpL.call (i := 2) rfl (by kernel_rfl) (fun K hK => ?_)
  go_simp
  (go_at_call 103; refine (p_NegR (k.ext (extW.trans ES)) (by omega)).mono ?_; rintro e wa ⟨s1, A1, n1, c1, t1, B1, m1, d1, rfl, h1, hx0⟩; have E0_1 := Ext.trans ES hx0)
  refine hK.out _ _ E0_1 ?_
  clear hK K
  try simp only [Act.put]
  try simp only [List.setIfInBounds_toArray]
  try simp only [List.set_cons_succ]
  try simp only [List.set_cons_zero]
  refine wpL.call (i := 3) rfl (by kernel_rfl) (fun K hK => ?_)
  go_simp
  (go_at_call 56; refine (p_AddR (h.ext (extW.trans E0_1)) h1 hL hM h64 (hT.ext (extW.trans E0_1))).mono ?_; rintro e wb ⟨s2, A2, n2, c2, t2, B2, m2, d2, rfl, hr, hx1⟩; have E1_1 := Ext.trans E0_1 hx1)
  refine hK.out _ _ E1_1 ?_
  clear hK K
  try simp only [Act.put]
  try simp only [List.setIfInBounds_toArray]
  try simp only [List.set_cons_succ]
  try simp only [List.set_cons_zero]
  have z0 := (bz.ext E1_1).cell 0 _ rfl
  have z1 := (bz.ext E1_1).cell 1 _ rfl
  have z2 := (bz.ext E1_1).cell 2 _ rfl
  have z3 := (bz.ext E1_1).cell 3 _ rfl
  have f0 := (bz.ext E1_1).frozen 0
  have f1 := (bz.ext E1_1).frozen 1
  have f2 := (bz.ext E1_1).frozen 2
  have f3 := (bz.ext E1_1).frozen 3
  refine wpL.tail (i := 4) rfl (by kernel_rfl) (by kernel_rfl) (fun K hK => ?_)
  go_simp
  refine hK.out _ _ ?_
  clear hK K
  try simp only [Act.put]
  try simp only [List.setIfInBounds_toArray]
  try simp only [List.set_cons_succ]
  try simp only [List.set_cons_zero]
  refine wpL.done (by kernel_rfl) ?_ _
  clear hQ
  go_wp2_with fail
  rw [← Rat.sub_eq_add_neg] at hr
  obtain ⟨b1, b2, b3, b4⟩ := fin_quad (s := s2) (A := A2) (n := n2) (c := c2) (t := t2) (B := B2) (m := m2) (d := d2) (bz.ext E1_1)
  have r0 := b1.cell 0 (.bool s2) rfl
  have r1 := b1.cell 1 (.slice A2 n2 c2) rfl
  have r2 := b1.cell 2 (.bool t2) rfl
  have r3 := b1.cell 3 (.slice B2 m2 d2) rfl
  unfold set4 at r0 r1 r2 r3
  refine bodyPost_ret (v := .agg #[.bool s2, .slice A2 n2 c2, .bool t2, .slice B2 m2 d2]) (by simp [results, Tryz.results59, go_sem, r0, r1, r2, r3]) rfl ⟨s2, A2, n2, c2, t2, B2, m2, d2, rfl, ⟨?_, ?_⟩, b3 _ (extW.trans E1_1) (by omega)⟩
  · exact b2 _ _ _ _ _ _ hr.num
  · exact b2 _ _ _ _ _ _ hr.den
end
end Go.Proofs.YtoabhnofppledaaGreatDoor
namespace Go.Proofs.YtoabhnofppledaaGreatDoor
open Go.RowKit
attribute [local go_sem ↓] Go.wp_at_zero Go.wp_at_succ
section
variable {w w' : World} {z y : Int} {q p : Rat} {L M : Nat} {s t s' t' : Bool} {A B A' B' : Option Addr} {n c m d n' c' m' d' : Nat}
set_option maxHeartbeats 1000000 in
theorem q_NegR (h : NR w q L s A n c t B m d) (hL : L ≤ 1000) : Calls Tryz.prog 47 #[.agg #[.bool s, .slice A n c, .bool t, .slice B m d]] w (RetNR (-q) L w) := by
  go_enter Tryz.func47, Tryz.ntmps47
  go_upto_region 1 with (fail)
  obtain ⟨W, hW, extW, bx, bz, hz⟩ := box2 w 26 26 #[.bool s, .slice A n c, .bool t, .slice B m d] #[Value.bool false, Value.slice none 0 0, Value.bool false, Value.slice none 0 0]
  rw [← hW]
  clear hW
  refine wpL.start 6 (by kernel_rfl) (fun _ _ _ _ _ => ⟨fun h => h, fun h => h⟩) (fun hQ ES => ?_)
  refine wpL.take (i := 0) (d := some 3) (v := ?v0_29) rfl rfl (by kernel_rfl) (by kernel_rfl) (by kernel_rfl) (by kernel_rfl) hQ (Or.inl ⟨by rfl, ?y0_29⟩) ES ?r0_29
  case y0_29 =>
    intro w' hSw
    have k00 := (bx.ext hSw).c4
    go_simp
    try with_reducible rfl
  try simp only [Act.put]
  try simp only [List.setIfInBounds_toArray]
  try simp only [List.set_cons_succ]
  try simp only [List.set_cons_zero]
  refine wpL.take (i := 3) (d := some 6) (v := ?v3_30) rfl rfl (by kernel_rfl) (by kernel_rfl) (by kernel_rfl) (by kernel_rfl) hQ (Or.inl ⟨by rfl, ?y3_30⟩) ES ?r3_30
  case y3_30 =>
    intro w' hSw
    have k00 := (bx.ext hSw).c4
    go_simp
    try with_reducible rfl
  try simp only [Act.put]
  try simp only [List.setIfInBounds_toArray]
  try simp only [List.set_cons_succ]
  try simp only [List.set_cons_zero]
  refine wpL.take (i := 1) (d := some 4) (v := ?v1_31) rfl rfl (by kernel_rfl) (by kernel_rfl) (by kernel_rfl) (by kernel_rfl) hQ (Or.inl ⟨by rfl, ?y1_31⟩) ES ?r1_31
  case y1_31 =>
    intro w' hSw
    have k00 := (bx.ext hSw).c4
    go_simp
    try with_reducible rfl
  try simp only [Act.put]
  try simp only [List.setIfInBounds_toArray]
  try simp only [List.set_cons_succ]
  try simp only [List.set_cons_zero]
  refine wpL.take (i := 4) (d := some 7) (v := ?v4_32) rfl rfl (by kernel_rfl) (by kernel_rfl) (by kernel_rfl) (by kernel_rfl) hQ (Or.inl ⟨by rfl, ?y4_32⟩) ES ?r4_32
  case y4_32 =>
    intro w' hSw
    have k00 := (bx.ext hSw).c4
    go_simp
    try with_reducible rfl
  try simp only [Act.put]
  try simp only [List.setIfInBounds_toArray]
  try simp only [List.set_cons_succ]
  try simp only [List.set_cons_zero]
  refine wpL.call (i := 2) rfl (by kernel_rfl) (fun K hK => ?_)
  go_simp
  (go_at_call 87; refine (q_Neg (h.num.ext (extW.trans ES)) (by omega)).mono ?_; rintro e wa ⟨s1, A1, n1, c1, rfl, h1, hx0⟩; have E0_1 := Ext.trans ES hx0)
  refine hK.out _ _ E0_1 ?_
  clear hK K
  try simp only [Act.put]
  try simp only [List.setIfInBounds_toArray]
  try simp only [List.set_cons_succ]
  try simp only [List.set_cons_zero]
  refine wpL.take (i := 5) (d := some 8) (v := ?v5_33) rfl rfl (by kernel_rfl) (by kernel_rfl) (by kernel_rfl) (by kernel_rfl) hQ (Or.inl ⟨by rfl, ?y5_33⟩) E0_1 ?r5_33
  case y5_33 =>
    intro w' hSw
    have k00 := (bx.ext hSw).c4
    go_simp
    try with_reducible rfl
  try simp only [Act.put]
  try simp only [List.setIfInBounds_toArray]
  try simp only [List.set_cons_succ]
  try simp only [List.set_cons_zero]
  have z0 := (bz.ext E0_1).cell 0 _ rfl
  have z1 := (bz.ext E0_1).cell 1 _ rfl
  have z2 := (bz.ext E0_1).cell 2 _ rfl
  have z3 := (bz.ext E0_1).cell 3 _ rfl
  have f0 := (bz.ext E0_1).frozen 0
  have f1 := (bz.ext E0_1).frozen 1
  have f2 := (bz.ext E0_1).frozen 2
  have f3 := (bz.ext E0_1).frozen 3
  refine wpL.tail (i := 6) rfl (by kernel_rfl) (by kernel_rfl) (fun K hK => ?_)
  go_simp
  refine hK.out _ _ ?_
  clear hK K
  try simp only [Act.put]
  try simp only [List.setIfInBounds_toArray]
  try simp only [List.set_cons_succ]
  try simp only [List.set_cons_zero]
  refine wpL.done (by kernel_rfl) ?_ _
  clear hQ
  go_wp2_with fail
  obtain ⟨b1, b2, b3, b4⟩ := fin_quad (s := s1) (A := A1) (n := n1) (c := c1) (t := t) (B := B) (m := m) (d := d) (bz.ext E0_1)
  have r0 := b1.cell 0 (.bool s1) rfl
  have r1 := b1.cell 1 (.slice A1 n1 c1) rfl
  have r2 := b1.cell 2 (.bool t) rfl
  have r3 := b1.cell 3 (.slice B m d) rfl
  unfold set4 at r0 r1 r2 r3
  refine bodyPost_ret (v := .agg #[.bool s1, .slice A1 n1 c1, .bool t, .slice B m d]) (by simp [results, Tryz.results47, go_sem, r0, r1, r2, r3]) rfl ⟨s1, A1, n1, c1, t, B, m, d, rfl, ⟨?_, ?_⟩, b3 _ (extW.trans E0_1) (by omega)⟩
  · exact b2 _ _ _ _ _ _ h1
  · exact b2 _ _ _ _ _ _ (h.den.ext (extW.trans E0_1))
set_option maxHeartbeats 1000000 in
theorem q_SignR (h : NR w q L s A n c t B m d) (hL : L ≤ 1000) : Calls Tryz.prog 46 #[.agg #[.bool s, .slice A n c, .bool t, .slice B m d]] w fun e w' => e = .returned (.int .i64 q.num.sign) ∧ Ext w w' := by
  go_enter Tryz.func46, Tryz.ntmps46
  go_upto_region 1 with (fail)
  obtain ⟨W, hW, extW, bx, hz⟩ := box1 w 26 #[.bool s, .slice A n c, .bool t, .slice B m d]
  rw [← hW]
  clear hW
  have x0 := bx.cell 0 (.bool s) rfl
  have x1 := bx.cell 1 (.slice A n c) rfl
  go_wp2_with fail
  refine (q_Sign (h.num.ext extW) (by omega)).mono ?_
  rintro e wa ⟨rfl, hx0⟩
  go_wp2_with fail
  go_ret
  exact ⟨rfl, extW.trans hx0⟩
theorem inv_parts {q : Rat} (hq : q ≠ 0) : (q.num < 0 → (q⁻¹).num = -(q.den : Int) ∧ ((q⁻¹).den : Int) = -q.num) ∧ (0 ≤ q.num → (q⁻¹).num = (q.den : Int) ∧ ((q⁻¹).den : Int) = q.num) := by
  have h0 : q.num ≠ 0 := fun h => hq (Rat.num_eq_zero.1 h)
  refine ⟨fun h => ⟨?_, ?_⟩, fun h => ⟨?_, ?_⟩⟩
  · rw [Rat.num_inv, Int.sign_eq_neg_one_of_neg h]; omega
  · rw [Rat.den_inv, if_neg h0]; omega
  · rw [Rat.num_inv, Int.sign_eq_one_of_pos (by omega)]; omega
  · rw [Rat.den_inv, if_neg h0]; omega
set_option maxHeartbeats 2000000 in
theorem q_Inv (h : NR w q L s A n c t B m d) (hL : L ≤ 1000) (hq : q ≠ 0) : Calls Tryz.prog 63 #[.agg #[.bool s, .slice A n c, .bool t, .slice B m d]] w (RetNR (q⁻¹) L w) := by
  obtain ⟨e1, e2⟩ := inv_parts hq
  by_cases hn : q.num < 0
  · obtain ⟨e3, e4⟩ := e1 hn
    have He3 := Lib.hid e3
    have He4 := Lib.hid e4
    obtain rfl : s = true := by rw [h.num.neg]; exact decide_eq_true hn
    clear e1 e2 e3 e4 hn
    go_enter Tryz.func63, Tryz.ntmps63
    go_upto_region 1 with (fail)
    obtain ⟨W, hW, extW, bx, bz, hz⟩ := box2 w 26 26 #[.bool true, .slice A n c, .bool t, .slice B m d] #[Value.bool false, Value.slice none 0 0, Value.bool false, Value.slice none 0 0]
    rw [← hW]
    clear hW
    have x0 := bx.cell 0 (.bool true) rfl
    go_upto_region 2 with (fail)
    refine wpL.start 7 (by kernel_rfl) (fun _ _ _ _ _ => ⟨fun h => h, fun h => h⟩) (fun hQ ES => ?_)
    refine wpL.take (i := 0) (d := some 6) (v := ?v0_34) rfl rfl (by kernel_rfl) (by kernel_rfl) (by kernel_rfl) (by kernel_rfl) hQ (Or.inl ⟨by rfl, ?y0_34⟩) ES ?r0_34
    case y0_34 =>
      intro w' hSw
      have k00 := (bx.ext hSw).c4
      go_simp
      try with_reducible rfl
    try simp only [Act.put]
    try simp only [List.setIfInBounds_toArray]
    try simp only [List.set_cons_succ]
    try simp only [List.set_cons_zero]
    refine wpL.take (i := 3) (d := some 9) (v := ?v3_35) rfl rfl (by kernel_rfl) (by kernel_rfl) (by kernel_rfl) (by kernel_rfl) hQ (Or.inl ⟨by rfl, ?y3_35⟩) ES ?r3_35
    case y3_35 =>
      intro w' hSw
      have k00 := (bx.ext hSw).c4
      go_simp
      try with_reducible rfl
    try simp only [Act.put]
    try simp only [List.setIfInBounds_toArray]
    try simp only [List.set_cons_succ]
    try simp only [List.set_cons_zero]
    refine wpL.take (i := 1) (d := some 7) (v := ?v1_36) rfl rfl (by kernel_rfl) (by kernel_rfl) (by kernel_rfl) (by kernel_rfl) hQ (Or.inl ⟨by rfl, ?y1_36⟩) ES ?r1_36
    case y1_36 =>
      intro w' hSw
      have k00 := (bx.ext hSw).c4
      go_simp
      try with_reducible rfl
    try simp only [Act.put]
    try simp only [List.setIfInBounds_toArray]
    try simp only [List.set_cons_succ]
    try simp only [List.set_cons_zero]
    refine wpL.take (i := 4) (d := some 10) (v := ?v4_37) rfl rfl (by kernel_rfl) (by kernel_rfl) (by kernel_rfl) (by kernel_rfl) hQ (Or.inl ⟨by rfl, ?y4_37⟩) ES ?r4_37
    case y4_37 =>
      intro w' hSw
      have k00 := (bx.ext hSw).c4
      go_simp
      try with_reducible rfl
    try simp only [Act.put]
    try simp only [List.setIfInBounds_toArray]
    try simp only [List.set_cons_succ]
    try simp only [List.set_cons_zero]
    refine wpL.call (i := 2) rfl (by kernel_rfl) (fun K hK => ?_)
    go_simp
    (go_at_call 87; refine (q_Neg (h.den.ext (extW.trans ES)) (by omega)).mono ?_; rintro e wa ⟨s1, A1, n1, c1, rfl, h1, hx0⟩; have E0_2 := Ext.trans ES hx0)
    refine hK.out _ _ E0_2 ?_
    clear hK K
    try simp only [Act.put]
    try simp only [List.setIfInBounds_toArray]
    try simp only [List.set_cons_succ]
    try simp only [List.set_cons_zero]
    refine wpL.call (i := 5) rfl (by kernel_rfl) (fun K hK => ?_)
    go_simp
    (go_at_call 87; refine (q_Neg (h.num.ext (extW.trans E0_2)) (by omega)).mono ?_; rintro e wb ⟨s2, A2, n2, c2, rfl, h2, hx1⟩; have E1_2 := Ext.trans E0_2 hx1)
    refine hK.out _ _ E1_2 ?_
    clear hK K
    try simp only [Act.put]
    try simp only [List.setIfInBounds_toArray]
    try simp only [List.set_cons_succ]
    try simp only [List.set_cons_zero]
    refine wpL.take (i := 6) (d := some 12) (v := ?v6_38) rfl rfl (by kernel_rfl) (by kernel_rfl) (by kernel_rfl) (by kernel_rfl) hQ (Or.inl ⟨by rfl, ?y6_38⟩) E1_2 ?r6_38
    case y6_38 =>
      intro w' hSw
      have k00 := (bx.ext hSw).c4
      go_simp
      try with_reducible rfl
    try simp only [Act.put]
    try simp only [List.setIfInBounds_toArray]
    try simp only [List.set_cons_succ]
    try simp only [List.set_cons_zero]
    have z0 := (bz.ext E1_2).cell 0 _ rfl
    have z1 := (bz.ext E1_2).cell 1 _ rfl
    have z2 := (bz.ext E1_2).cell 2 _ rfl
    have z3 := (bz.ext E1_2).cell 3 _ rfl
    have f0 := (bz.ext E1_2).frozen 0
    have f1 := (bz.ext E1_2).frozen 1
    have f2 := (bz.ext E1_2).frozen 2
    have f3 := (bz.ext E1_2).frozen 3
    refine wpL.tail (i := 7) rfl (by kernel_rfl) (by kernel_rfl) (fun K hK => ?_)
    go_simp
    refine hK.out _ _ ?_
    clear hK K
    try simp only [Act.put]
    try simp only [List.setIfInBounds_toArray]
    try simp only [List.set_cons_succ]
    try simp only [List.set_cons_zero]
    refine wpL.done (by kernel_rfl) ?_ _
    clear hQ
    go_wp2_with fail
    obtain ⟨b1, b2, b3, b4⟩ := fin_quad (s := s1) (A := A1) (n := n1) (c := c1) (t := s2) (B := A2) (m := n2) (d := c2) (bz.ext E1_2)
    have r0 := b1.cell 0 (.bool s1) rfl
    have r1 := b1.cell 1 (.slice A1 n1 c1) rfl
    have r2 := b1.cell 2 (.bool s2) rfl
    have r3 := b1.cell 3 (.slice A2 n2 c2) rfl
    unfold set4 at r0 r1 r2 r3
    refine bodyPost_ret (v := .agg #[.bool s1, .slice A1 n1 c1, .bool s2, .slice A2 n2 c2]) (by simp [results, Tryz.results63, go_sem, r0, r1, r2, r3]) rfl ⟨s1, A1, n1, c1, s2, A2, n2, c2, rfl, ⟨?_, ?_⟩, b3 _ (extW.trans E1_2) (by omega)⟩
    · rw [He3.out]; exact b2 _ _ _ _ _ _ (h1.ext hx1)
    · rw [He4.out]; exact b2 _ _ _ _ _ _ h2
  · obtain ⟨e3, e4⟩ := e2 (by omega)
    have He3 := Lib.hid e3
    have He4 := Lib.hid e4
    obtain rfl : s = false := by rw [h.num.neg]; exact decide_eq_false hn
    clear e1 e2 e3 e4 hn
    go_enter Tryz.func63, Tryz.ntmps63
    go_upto_region 1 with (fail)
    obtain ⟨W, hW, extW, bx, bz, hz⟩ := box2 w 26 26 #[.bool false, .slice A n c, .bool t, .slice B m d] #[Value.bool false, Value.slice none 0 0, Value.bool false, Value.slice none 0 0]
    rw [← hW]
    clear hW
    have x0 := bx.cell 0 (.bool false) rfl
    have x1 := bx.cell 1 (.slice A n c) rfl
    have x2 := bx.cell 2 (.bool t) rfl
    have x3 := bx.cell 3 (.slice B m d) rfl
    have hE := Ext.refl W
    have z0 := (bz.ext hE).cell 0 _ rfl
    have z1 := (bz.ext hE).cell 1 _ rfl
    have z2 := (bz.ext hE).cell 2 _ rfl
    have z3 := (bz.ext hE).cell 3 _ rfl
    have f0 := (bz.ext hE).frozen 0
    have f1 := (bz.ext hE).frozen 1
    have f2 := (bz.ext hE).frozen 2
    have f3 := (bz.ext hE).frozen 3
    go_wp2_with fail
    obtain ⟨b1, b2, b3, b4⟩ := fin_quad (s := t) (A := B) (n := m) (c := d) (t := false) (B := A) (m := n) (d := c) (bz.ext hE)
    have r0 := b1.cell 0 (.bool t) rfl
    have r1 := b1.cell 1 (.slice B m d) rfl
    have r2 := b1.cell 2 (.bool false) rfl
    have r3 := b1.cell 3 (.slice A n c) rfl
    unfold set4 at r0 r1 r2 r3
    refine bodyPost_ret (v := .agg #[.bool t, .slice B m d, .bool false, .slice A n c]) (by simp [results, Tryz.results63, go_sem, r0, r1, r2, r3]) rfl ⟨t, B, m, d, false, A, n, c, rfl, ⟨?_, ?_⟩, b3 _ (extW.trans hE) (by omega)⟩
    · rw [He3.out]; exact b2 _ _ _ _ _ _ (h.den.ext extW)
    · rw [He4.out]; exact b2 _ _ _ _ _ _ (h.num.ext extW)
end
end Go.Proofs.YtoabhnofppledaaGreatDoor
namespace Go.Proofs.YtoabhnofppledaaGreatDoor
open Go.RowKit
attribute [local go_sem ↓] Go.wp_at_zero Go.wp_at_succ
section
variable {w w' : World} {z y : Int} {q p : Rat} {L M : Nat} {s t s' t' : Bool} {A B A' B' : Option Addr} {n c m d n' c' m' d' : Nat}
theorem rat_mul_one {q p : Rat} (h1 : (q.den : Int) = 1) (h2 : (p.den : Int) = 1) : (q * p).num = q.num * p.num ∧ ((q * p).den : Int) = (q.den : Int) := by
  have e1 : q.den = 1 := by omega
  have e2 : p.den = 1 := by omega
  obtain ⟨a, b⟩ := rat_mul q p (g := 1) (h := 1) (by rw [e2]; simp) (by rw [e1]; simp)
  rw [a, b, e1, e2]
  simp
set_option maxHeartbeats 16000000 in
set_option maxRecDepth 100000 in
theorem q_MulR (h : NR w q L s A n c t B m d) (k : NR w p M s' A' n' c' t' B' m' d') (hL : L ≤ 1000) (hM : M ≤ 1000) : Calls Tryz.prog 44 #[.agg #[.bool s, .slice A n c, .bool t, .slice B m d], .agg #[.bool s', .slice A' n' c', .bool t', .slice B' m' d']] w (RetNR (q * p) (L + M) w) := by
  have hL1 := h.pos
  have hM1 := k.pos
  go_enter Tryz.func44, Tryz.ntmps44
  go_upto_region 1 with (fail)
  obtain ⟨W, hW, extW, bx, by_, bz, hz⟩ := box3 w 26 26 26 #[.bool s, .slice A n c, .bool t, .slice B m d] #[.bool s', .slice A' n' c', .bool t', .slice B' m' d'] #[Value.bool false, Value.slice none 0 0, Value.bool false, Value.slice none 0 0]
  rw [← hW]
  clear hW
  replace h := h.ext extW
  replace k := k.ext extW
  have hz1 := h.num.zero
  have hz2 := k.num.zero
  by_cases hq0 : q.num = 0
  · have hn2 : ((n : Int) == 0) = true := by rw [beq_iff_eq]; have := hz1.2 hq0; omega
    have hqp : q * p = ((0 : Int) : Rat) := by rw [Rat.num_eq_zero.1 hq0, Rat.zero_mul]; rfl
    clear hz1 hz2 hq0
    have x1 := bx.cell 1 (.slice A n c) rfl
    have y1 := by_.cell 1 (.slice A' n' c') rfl
    go_wp2_with fail
    refine (q_FromIntR 0 (by omega) (by omega)).mono ?_
    rintro e wb ⟨s1, A1, n1, c1', t1, B1, m1, d1, rfl, hr, hxb⟩
    have z0 := (bz.ext hxb).cell 0 _ rfl
    have z1 := (bz.ext hxb).cell 1 _ rfl
    have z2 := (bz.ext hxb).cell 2 _ rfl
    have z3 := (bz.ext hxb).cell 3 _ rfl
    have f0 := (bz.ext hxb).frozen 0
    have f1 := (bz.ext hxb).frozen 1
    have f2 := (bz.ext hxb).frozen 2
    have f3 := (bz.ext hxb).frozen 3
    go_wp2_with fail
    obtain ⟨b1, b2, b3, b4⟩ := fin_quad (s := s1) (A := A1) (n := n1) (c := c1') (t := t1) (B := B1) (m := m1) (d := d1) (bz.ext hxb)
    have r0 := b1.cell 0 (.bool s1) rfl
    have r1 := b1.cell 1 (.slice A1 n1 c1') rfl
    have r2 := b1.cell 2 (.bool t1) rfl
    have r3 := b1.cell 3 (.slice B1 m1 d1) rfl
    unfold set4 at r0 r1 r2 r3
    refine bodyPost_ret (v := .agg #[.bool s1, .slice A1 n1 c1', .bool t1, .slice B1 m1 d1]) (by simp [results, Tryz.results44, go_sem, r0, r1, r2, r3]) rfl ⟨s1, A1, n1, c1', t1, B1, m1, d1, rfl, ⟨?_, ?_⟩, b3 _ (extW.trans hxb) (by omega)⟩
    · rw [hqp]; exact (b2 _ _ _ _ _ _ hr.num).le (by omega)
    · rw [hqp]; exact (b2 _ _ _ _ _ _ hr.den).le (by omega)
  · have hn2 : ((n : Int) == 0) = false := by rw [beq_eq_false_iff_ne]; intro h0; exact hq0 (hz1.1 (by omega))
    by_cases hp0 : p.num = 0
    · have hm2 : ((n' : Int) == 0) = true := by rw [beq_iff_eq]; have := hz2.2 hp0; omega
      have hqp : q * p = ((0 : Int) : Rat) := by rw [Rat.num_eq_zero.1 hp0, Rat.mul_zero]; rfl
      clear hz1 hz2 hq0 hp0
      have x1 := bx.cell 1 (.slice A n c) rfl
      have y1 := by_.cell 1 (.slice A' n' c') rfl
      go_wp2_with fail
      refine (q_FromIntR 0 (by omega) (by omega)).mono ?_
      rintro e wb ⟨s1, A1, n1, c1', t1, B1, m1, d1, rfl, hr, hxb⟩
      have z0 := (bz.ext hxb).cell 0 _ rfl
      have z1 := (bz.ext hxb).cell 1 _ rfl
      have z2 := (bz.ext hxb).cell 2 _ rfl
      have z3 := (bz.ext hxb).cell 3 _ rfl
      have f0 := (bz.ext hxb).frozen 0
      have f1 := (bz.ext hxb).frozen 1
      have f2 := (bz.ext hxb).frozen 2
      have f3 := (bz.ext hxb).frozen 3
      go_wp2_with fail
      obtain ⟨b1, b2, b3, b4⟩ := fin_quad (s := s1) (A := A1) (n := n1) (c := c1') (t := t1) (B := B1) (m := m1) (d := d1) (bz.ext hxb)
      have r0 := b1.cell 0 (.bool s1) rfl
      have r1 := b1.cell 1 (.slice A1 n1 c1') rfl
      have r2 := b1.cell 2 (.bool t1) rfl
      have r3 := b1.cell 3 (.slice B1 m1 d1) rfl
      unfold set4 at r0 r1 r2 r3
      refine bodyPost_ret (v := .agg #[.bool s1, .slice A1 n1 c1', .bool t1, .slice B1 m1 d1]) (by simp [results, Tryz.results44, go_sem, r0, r1, r2, r3]) rfl ⟨s1, A1, n1, c1', t1, B1, m1, d1, rfl, ⟨?_, ?_⟩, b3 _ (extW.trans hxb) (by omega)⟩
      · rw [hqp]; exact (b2 _ _ _ _ _ _ hr.num).le (by omega)
      · rw [hqp]; exact (b2 _ _ _ _ _ _ hr.den).le (by omega)
    · have hm2 : ((n' : Int) == 0) = false := by rw [beq_eq_false_iff_ne]; intro h0; exact hp0 (hz2.1 (by omega))
      clear hz1 hz2 hq0 hp0
      have x1 := bx.cell 1 (.slice A n c) rfl
      have y1 := by_.cell 1 (.slice A' n' c') rfl
      go_upto_region 3 with (fail)
      clear x1 y1
      have x0 := bx.cell 0 (.bool s) rfl
      have x1 := bx.cell 1 (.slice A n c) rfl
      have x2 := bx.cell 2 (.bool t) rfl
      have x3 := bx.cell 3 (.slice B m d) rfl
      go_wp2_with fail
      refine (q_one h.den).mono ?_
      rintro e wb ⟨rfl, hxb⟩
      replace bx := bx.ext hxb
      replace by_ := by_.ext hxb
      replace bz := bz.ext hxb
      replace h := h.ext hxb
      replace k := k.ext hxb
      replace extW := extW.trans hxb
      clear hxb
      clear x0 x1 x2 x3
      by_cases h1 : (q.den : Int) = 1
      · rw [decide_eq_true h1]
        have H1 := Lib.hid h1
        clear h1
        have y2 := by_.cell 2 (.bool t') rfl
        have y3 := by_.cell 3 (.slice B' m' d') rfl
        go_wp2_with fail
        refine (q_one k.den).mono ?_
        rintro e V ⟨rfl, hxc⟩
        replace bx := bx.ext hxc
        replace by_ := by_.ext hxc
        replace bz := bz.ext hxc
        replace h := h.ext hxc
        replace k := k.ext hxc
        replace extW := extW.trans hxc
        clear hxc y2 y3
        by_cases h2 : (p.den : Int) = 1
        · rw [decide_eq_true h2]
          have H2 := Lib.hid h2
          clear h2
          go_wp2_with fail
          refine wpL.start 8 (by kernel_rfl) (fun _ _ _ _ _ => ⟨fun h => h, fun h => h⟩) (fun hQ ES => ?_)
          refine wpL.take (i := 0) (d := some 28) (v := ?v0_48) rfl rfl (by kernel_rfl) (by kernel_rfl) (by kernel_rfl) (by kernel_rfl) hQ (Or.inl ⟨by rfl, ?y0_48⟩) ES ?r0_48
          case y0_48 =>
            intro w' hSw
            have k00 := (bx.ext hSw).c4
            have k10 := (by_.ext hSw).c4
            go_simp
            try with_reducible rfl
          try simp only [Act.put]
          try simp only [List.setIfInBounds_toArray]
          try simp only [List.set_cons_succ]
          try simp only [List.set_cons_zero]
          refine wpL.take (i := 2) (d := some 30) (v := ?v2_49) rfl rfl (by kernel_rfl) (by kernel_rfl) (by kernel_rfl) (by kernel_rfl) hQ (Or.inl ⟨by rfl, ?y2_49⟩) ES ?r2_49
          case y2_49 =>
            intro w' hSw
            have k00 := (bx.ext hSw).c4
            have k10 := (by_.ext hSw).c4
            go_simp
            try with_reducible rfl
          try simp only [Act.put]
          try simp only [List.setIfInBounds_toArray]
          try simp only [List.set_cons_succ]
          try simp only [List.set_cons_zero]
          refine wpL.take (i := 5) (d := some 33) (v := ?v5_50) rfl rfl (by kernel_rfl) (by kernel_rfl) (by kernel_rfl) (by kernel_rfl) hQ (Or.inl ⟨by rfl, ?y5_50⟩) ES ?r5_50
          case y5_50 =>
            intro w' hSw
            have k00 := (bx.ext hSw).c4
            have k10 := (by_.ext hSw).c4
            go_simp
            try with_reducible rfl
          try simp only [Act.put]
          try simp only [List.setIfInBounds_toArray]
          try simp only [List.set_cons_succ]
          try simp only [List.set_cons_zero]
          refine wpL.take (i := 1) (d := some 29) (v := ?v1_51) rfl rfl (by kernel_rfl) (by kernel_rfl) (by kernel_rfl) (by kernel_rfl) hQ (Or.inl ⟨by rfl, ?y1_51⟩) ES ?r1_51
          case y1_51 =>
            intro w' hSw
            have k00 := (bx.ext hSw).c4
            have k10 := (by_.ext hSw).c4
            go_simp
            try with_reducible rfl
          try simp only [Act.put]
          try simp only [List.setIfInBounds_toArray]
          try simp only [List.set_cons_succ]
          try simp only [List.set_cons_zero]
          refine wpL.take (i := 3) (d := some 31) (v := ?v3_52) rfl rfl (by kernel_rfl) (by kernel_rfl) (by kernel_rfl) (by kernel_rfl) hQ (Or.inl ⟨by rfl, ?y3_52⟩) ES ?r3_52
          case y3_52 =>
            intro w' hSw
            have k00 := (bx.ext hSw).c4
            have k10 := (by_.ext hSw).c4
            go_simp
            try with_reducible rfl
          try simp only [Act.put]
          try simp only [List.setIfInBounds_toArray]
          try simp only [List.set_cons_succ]
          try simp only [List.set_cons_zero]
          refine wpL.take (i := 6) (d := some 34) (v := ?v6_53) rfl rfl (by kernel_rfl) (by kernel_rfl) (by kernel_rfl) (by kernel_rfl) hQ (Or.inl ⟨by rfl, ?y6_53⟩) ES ?r6_53
          case y6_53 =>
            intro w' hSw
            have k00 := (bx.ext hSw).c4
            have k10 := (by_.ext hSw).c4
            go_simp
            try with_reducible rfl
          try simp only [Act.put]
          try simp only [List.setIfInBounds_toArray]
          try simp only [List.set_cons_succ]
          try simp only [List.set_cons_zero]
          refine wpL.call (i := 4) rfl (by kernel_rfl) (fun K hK => ?_)
          go_simp
          (go_at_call 77; refine (q_Mul (h.num.ext ES) (k.num.ext ES) (by omega) (by omega)).mono ?_; rintro e wk1 ⟨s5, A5, n5, c5, rfl, h5, hx0⟩; have E0_4 := Ext.trans ES hx0)
          refine hK.out _ _ E0_4 ?_
          clear hK K
          try simp only [Act.put]
          try simp only [List.setIfInBounds_toArray]
          try simp only [List.set_cons_succ]
          try simp only [List.set_cons_zero]
          refine wpL.take (i := 7) (d := some 35) (v := ?v7_54) rfl rfl (by kernel_rfl) (by kernel_rfl) (by kernel_rfl) (by kernel_rfl) hQ (Or.inl ⟨by rfl, ?y7_54⟩) E0_4 ?r7_54
          case y7_54 =>
            intro w' hSw
            have k00 := (bx.ext hSw).c4
            have k10 := (by_.ext hSw).c4
            go_simp
            try with_reducible rfl
          try simp only [Act.put]
          try simp only [List.setIfInBounds_toArray]
          try simp only [List.set_cons_succ]
          try simp only [List.set_cons_zero]
          have z0 := (bz.ext E0_4).cell 0 _ rfl
          have z1 := (bz.ext E0_4).cell 1 _ rfl
          have z2 := (bz.ext E0_4).cell 2 _ rfl
          have z3 := (bz.ext E0_4).cell 3 _ rfl
          have f0 := (bz.ext E0_4).frozen 0
          have f1 := (bz.ext E0_4).frozen 1
          have f2 := (bz.ext E0_4).frozen 2
          have f3 := (bz.ext E0_4).frozen 3
          refine wpL.tail (i := 8) rfl (by kernel_rfl) (by kernel_rfl) (fun K hK => ?_)
          go_simp
          refine hK.out _ _ ?_
          clear hK K
          try simp only [Act.put]
          try simp only [List.setIfInBounds_toArray]
          try simp only [List.set_cons_succ]
          try simp only [List.set_cons_zero]
          refine wpL.done (by kernel_rfl) ?_ _
          clear hQ
          go_wp2_with fail
          obtain ⟨e5, e6⟩ := rat_mul_one H1.out H2.out
          obtain ⟨b1, b2, b3, b4⟩ := fin_quad (s := s5) (A := A5) (n := n5) (c := c5) (t := t) (B := B) (m := m) (d := d) (bz.ext E0_4)
          have r0 := b1.cell 0 (.bool s5) rfl
          have r1 := b1.cell 1 (.slice A5 n5 c5) rfl
          have r2 := b1.cell 2 (.bool t) rfl
          have r3 := b1.cell 3 (.slice B m d) rfl
          unfold set4 at r0 r1 r2 r3
          refine bodyPost_ret (v := .agg #[.bool s5, .slice A5 n5 c5, .bool t, .slice B m d]) (by simp [results, Tryz.results44, go_sem, r0, r1, r2, r3]) rfl ⟨s5, A5, n5, c5, t, B, m, d, rfl, ⟨?_, ?_⟩, b3 _ (extW.trans E0_4) (by omega)⟩
          · rw [e5]; exact b2 _ _ _ _ _ _ h5
          · rw [e6]; exact (b2 _ _ _ _ _ _ (h.den.ext E0_4)).le (by omega)
        · rw [decide_eq_false h2]
          clear h2
          go_wp2_with fail
          have ES0 := Ext.refl V
          refine wp_region_held_drew (S := Ext V) (by kernel_rfl) ES0.drew (fun ES => ?_)
          clear ES0
          refine Late.start2 (x := ⟨10, 5, 24, #[Value.bool false, Value.slice none 0 0]⟩) (y := ⟨11, 6, 24, #[Value.bool false, Value.slice none 0 0]⟩) (n := 12) ⟨_, rfl, rfl, rfl, fun a w => by go_simp⟩ ⟨_, rfl, rfl, rfl, fun a w => by go_simp⟩ (fun _ _ _ _ _ => ⟨fun h => h, fun h => h⟩) ES rfl (fun hAl hQ => ?_)
          refine Late.take (i := 0) (d := some 36) (v := ?v0_55a) rfl rfl (by kernel_rfl) (by kernel_rfl) (by kernel_rfl) (by kernel_rfl) hQ (Or.inl ⟨by rfl, ?y0_55a⟩) ?r0_55a
          case y0_55a =>
            intro w' hSw
            have k00 := (bx.ext hSw).c4
            have k10 := (by_.ext hSw).c4
            go_simp
            try with_reducible rfl
          try simp only [Act.put]
          try simp only [List.setIfInBounds_toArray]
          try simp only [List.set_cons_succ]
          try simp only [List.set_cons_zero]
          refine Late.take (i := 2) (d := some 38) (v := ?v2_56a) rfl rfl (by kernel_rfl) (by kernel_rfl) (by kernel_rfl) (by kernel_rfl) hQ (Or.inl ⟨by rfl, ?y2_56a⟩) ?r2_56a
          case y2_56a =>
            intro w' hSw
            have k00 := (bx.ext hSw).c4
            have k10 := (by_.ext hSw).c4
            go_simp
            try with_reducible rfl
          try simp only [Act.put]
          try simp only [List.setIfInBounds_toArray]
          try simp only [List.set_cons_succ]
          try simp only [List.set_cons_zero]
          refine Late.take (i := 5) (d := some 41) (v := ?v5_57a) rfl rfl (by kernel_rfl) (by kernel_rfl) (by kernel_rfl) (by kernel_rfl) hQ (Or.inl ⟨by rfl, ?y5_57a⟩) ?r5_57a
          case y5_57a =>
            intro w' hSw
            have k00 := (bx.ext hSw).c4
            have k10 := (by_.ext hSw).c4
            go_simp
            try with_reducible rfl
          try simp only [Act.put]
          try simp only [List.setIfInBounds_toArray]
          try simp only [List.set_cons_succ]
          try simp only [List.set_cons_zero]
          refine Late.take (i := 7) (d := some 43) (v := ?v7_58a) rfl rfl (by kernel_rfl) (by kernel_rfl) (by kernel_rfl) (by kernel_rfl) hQ (Or.inl ⟨by rfl, ?y7_58a⟩) ?r7_58a
          case y7_58a =>
            intro w' hSw
            have k00 := (bx.ext hSw).c4
            have k10 := (by_.ext hSw).c4
            go_simp
            try with_reducible rfl
          try simp only [Act.put]
          try simp only [List.setIfInBounds_toArray]
          try simp only [List.set_cons_succ]
          try simp only [List.set_cons_zero]
          refine Late.take (i := 1) (d := some 37) (v := ?v1_59a) rfl rfl (by kernel_rfl) (by kernel_rfl) (by kernel_rfl) (by kernel_rfl) hQ (Or.inl ⟨by rfl, ?y1_59a⟩) ?r1_59a
          case y1_59a =>
            intro w' hSw
            have k00 := (bx.ext hSw).c4
            have k10 := (by_.ext hSw).c4
            go_simp
            try with_reducible rfl
          try simp only [Act.put]
          try simp only [List.setIfInBounds_toArray]
          try simp only [List.set_cons_succ]
          try simp only [List.set_cons_zero]
          refine Late.take (i := 3) (d := some 39) (v := ?v3_60a) rfl rfl (by kernel_rfl) (by kernel_rfl) (by kernel_rfl) (by kernel_rfl) hQ (Or.inl ⟨by rfl, ?y3_60a⟩) ?r3_60a
          case y3_60a =>
            intro w' hSw
            have k00 := (bx.ext hSw).c4
            have k10 := (by_.ext hSw).c4
            go_simp
            try with_reducible rfl
          try simp only [Act.put]
          try simp only [List.setIfInBounds_toArray]
          try simp only [List.set_cons_succ]
          try simp only [List.set_cons_zero]
          refine Late.take (i := 6) (d := some 42) (v := ?v6_61a) rfl rfl (by kernel_rfl) (by kernel_rfl) (by kernel_rfl) (by kernel_rfl) hQ (Or.inl ⟨by rfl, ?y6_61a⟩) ?r6_61a
          case y6_61a =>
            intro w' hSw
            have k00 := (bx.ext hSw).c4
            have k10 := (by_.ext hSw).c4
            go_simp
            try with_reducible rfl
          try simp only [Act.put]
          try simp only [List.setIfInBounds_toArray]
          try simp only [List.set_cons_succ]
          try simp only [List.set_cons_zero]
          refine Late.take (i := 8) (d := some 44) (v := ?v8_62a) rfl rfl (by kernel_rfl) (by kernel_rfl) (by kernel_rfl) (by kernel_rfl) hQ (Or.inl ⟨by rfl, ?y8_62a⟩) ?r8_62a
          case y8_62a =>
            intro w' hSw
            have k00 := (bx.ext hSw).c4
            have k10 := (by_.ext hSw).c4
            go_simp
            try with_reducible rfl
          try simp only [Act.put]
          try simp only [List.setIfInBounds_toArray]
          try simp only [List.set_cons_succ]
          try simp only [List.set_cons_zero]
          refine Late.call (i := 4) rfl (by kernel_rfl) hAl (by kernel_rfl) (by kernel_rfl) (by kernel_rfl) hQ (fun w4 e4 E4 K hK => ?_)
          go_simp
          (go_at_call 84; refine (q_GCD (h.num.ext E4) (k.den.ext E4) (by omega) (by omega)).mono ?_; rintro e wk1 ⟨s1, A1, n1, c1', rfl, h1, hx4⟩; rw [Int.natAbs_natCast] at h1)
          refine hK.out _ _ hx4 ?_
          clear hK K
          try simp only [Act.put]
          try simp only [List.setIfInBounds_toArray]
          try simp only [List.set_cons_succ]
          try simp only [List.set_cons_zero]
          refine Late.call (i := 9) rfl (by kernel_rfl) hAl (by kernel_rfl) (by kernel_rfl) (by kernel_rfl) hQ (fun w9 e9 E9 K hK => ?_)
          go_simp
          (go_at_call 84; refine (q_GCD (k.num.ext E9) (h.den.ext E9) (by omega) (by omega)).mono ?_; rintro e wk2 ⟨s2, A2, n2, c2', rfl, h2, hx9⟩; rw [Int.natAbs_natCast] at h2)
          refine hK.out _ _ hx9 ?_
          clear hK K
          try simp only [Act.put]
          try simp only [List.setIfInBounds_toArray]
          try simp only [List.set_cons_succ]
          try simp only [List.set_cons_zero]
          refine Late.finish2 (hAl _ (by simp)) (hAl _ (by simp)) (by decide) (by decide) (by kernel_rfl) (by kernel_rfl) (by kernel_rfl) (fun wz g5 g6 ez Ez lg5 lg6 hne xb1 xb2 => ?_)
          clear hAl hQ ES
          have p10 := xb1.cell 0 (Value.bool false) rfl
          have p11 := xb1.cell 1 (Value.slice none 0 0) rfl
          have f10 := xb1.frozen 0
          have f11 := xb1.frozen 1
          have e4 := fin_dual (s := s1) (A := A1) (n := n1) (c := c1') xb1
          try simp only [Act.put]
          try simp only [List.setIfInBounds_toArray]
          try simp only [List.set_cons_succ]
          try simp only [List.set_cons_zero]
          refine wpAnyH_ready (rs := [12]) (by kernel_rfl) (by simp) (AllReadyH.cons rfl (fun K hK => ?_) AllReadyH.nil)
          go_simp
          refine hK.out _ _ (e4.2.2.1 _ Ez lg5) (fun _ => ?_)
          clear hK K
          try simp only [Act.put]
          try simp only [List.setIfInBounds_toArray]
          try simp only [List.set_cons_succ]
          try simp only [List.set_cons_zero]
          have e5 := e4.2.2.2 _ _ _ (Ne.symm hne) xb2
          refine any_world (fun U => Ext V U ∧ Box U g5 24 #[.bool s1, .slice A1 n1 c1'] ∧ Box U g6 24 #[Value.bool false, Value.slice none 0 0] ∧ NI U ((q.num.natAbs.gcd p.den : Nat) : Int) (max L M) s1 A1 n1 c1' ∧ NI U ((p.num.natAbs.gcd q.den : Nat) : Int) (max M L) s2 A2 n2 c2') ⟨e4.2.2.1 _ Ez lg5, e4.1, e5, e4.2.1 _ _ _ _ _ _ (h1.ext (e9.trans (hx9.trans ez))), e4.2.1 _ _ _ _ _ _ (h2.ext ez)⟩ ?_
          clear e4 e5 p10 p11 f10 f11 xb1 xb2
          rintro U ⟨EU, b8, xb2, h1, h2⟩
          have p10 := xb2.cell 0 (Value.bool false) rfl
          have p11 := xb2.cell 1 (Value.slice none 0 0) rfl
          have f10 := xb2.frozen 0
          have f11 := xb2.frozen 1
          have e4 := fin_dual (s := s2) (A := A2) (n := n2) (c := c2') xb2
          refine wpAnyH_ready (rs := [13]) (by kernel_rfl) (by simp) (AllReadyH.cons rfl (fun K hK => ?_) AllReadyH.nil)
          go_simp
          refine hK.out _ _ (e4.2.2.1 _ EU lg6) (fun _ => ?_)
          clear hK K
          try simp only [Act.put]
          try simp only [List.setIfInBounds_toArray]
          try simp only [List.set_cons_succ]
          try simp only [List.set_cons_zero]
          refine any_world (fun U2 => Ext V U2 ∧ Box U2 g5 24 #[.bool s1, .slice A1 n1 c1'] ∧ Box U2 g6 24 #[.bool s2, .slice A2 n2 c2'] ∧ NI U2 ((q.num.natAbs.gcd p.den : Nat) : Int) (max L M) s1 A1 n1 c1' ∧ NI U2 ((p.num.natAbs.gcd q.den : Nat) : Int) (max M L) s2 A2 n2 c2') ⟨e4.2.2.1 _ EU lg6, e4.2.2.2 _ _ _ hne b8, e4.1, e4.2.1 _ _ _ _ _ _ h1, e4.2.1 _ _ _ _ _ _ h2⟩ ?_
          clear e4 p10 p11 f10 f11 xb2 b8 h1 h2 lg5 lg6
          rintro U2 ⟨EU2, b8, b9, h1, h2⟩
          refine wpAnyH_done (by kernel_rfl) ?_ _
          replace bx := bx.ext EU2
          replace by_ := by_.ext EU2
          replace bz := bz.ext EU2
          replace h := h.ext EU2
          replace k := k.ext EU2
          replace extW := extW.trans EU2
          clear EU EU2 Ez ez
          obtain ⟨g, hge⟩ : ∃ g, q.num.natAbs.gcd p.den = g := ⟨_, rfl⟩
          obtain ⟨hq, hhe⟩ : ∃ g, p.num.natAbs.gcd q.den = g := ⟨_, rfl⟩
          rw [hge] at h1
          rw [hhe] at h2
          obtain ⟨q1, q2⟩ := rat_mul q p hge.symm hhe.symm
          have Hq1 := Lib.hid q1
          have Hq2 := Lib.hid q2
          have hgq : g ∣ q.num.natAbs := by rw [← hge]; exact Nat.gcd_dvd_left _ _
          have hgp : g ∣ p.den := by rw [← hge]; exact Nat.gcd_dvd_right _ _
          have hhp : hq ∣ p.num.natAbs := by rw [← hhe]; exact Nat.gcd_dvd_left _ _
          have hhq : hq ∣ q.den := by rw [← hhe]; exact Nat.gcd_dvd_right _ _
          have hg0 : (g : Int) ≠ 0 := by
            intro h0
            have : g = 0 := by omega
            rw [this] at hgp
            exact p.den_nz (Nat.eq_zero_of_zero_dvd hgp)
          have hh0 : (hq : Int) ≠ 0 := by
            intro h0
            have : hq = 0 := by omega
            rw [this] at hhq
            exact q.den_nz (Nat.eq_zero_of_zero_dvd hhq)
          have Hg0 := Lib.hid hg0
          have Hh0 := Lib.hid hh0
          have Hgq := Lib.hid (Int.ofNat_dvd_left.2 hgq)
          have Hgp := Lib.hid (Int.ofNat_dvd.2 hgp)
          have Hhp := Lib.hid (Int.ofNat_dvd_left.2 hhp)
          have Hhq := Lib.hid (Int.ofNat_dvd.2 hhq)
          have hg := h1
          have hh := h2
          clear hge hhe q1 q2 hgq hgp hhp hhq hg0 hh0 h1 h2
          go_wp2_with fail
          refine wpL.start 19 (by kernel_rfl) (fun _ _ _ _ _ => ⟨fun h => h, fun h => h⟩) (fun hQ ES => ?_)
          refine wpL.take (i := 0) (d := some 46) (v := ?v0_63a) rfl rfl (by kernel_rfl) (by kernel_rfl) (by kernel_rfl) (by kernel_rfl) hQ (Or.inl ⟨by rfl, ?y0_63a⟩) ES ?r0_63a
          case y0_63a =>
            intro w' hSw
            have k00 := (bx.ext hSw).c4
            have k10 := (by_.ext hSw).c4
            have k20 := (b8.ext hSw).c2
            have k30 := (b9.ext hSw).c2
            go_simp
            try with_reducible rfl
          try simp only [Act.put]
          try simp only [List.setIfInBounds_toArray]
          try simp only [List.set_cons_succ]
          try simp only [List.set_cons_zero]
          refine wpL.take (i := 2) (d := some 48) (v := ?v2_64a) rfl rfl (by kernel_rfl) (by kernel_rfl) (by kernel_rfl) (by kernel_rfl) hQ (Or.inl ⟨by rfl, ?y2_64a⟩) ES ?r2_64a
          case y2_64a =>
            intro w' hSw
            have k00 := (bx.ext hSw).c4
            have k10 := (by_.ext hSw).c4
            have k20 := (b8.ext hSw).c2
            have k30 := (b9.ext hSw).c2
            go_simp
            try with_reducible rfl
          try simp only [Act.put]
          try simp only [List.setIfInBounds_toArray]
          try simp only [List.set_cons_succ]
          try simp only [List.set_cons_zero]
          refine wpL.take (i := 4) (d := some 50) (v := ?v4_65a) rfl rfl (by kernel_rfl) (by kernel_rfl) (by kernel_rfl) (by kernel_rfl) hQ (Or.inl ⟨by rfl, ?y4_65a⟩) ES ?r4_65a
          case y4_65a =>
            intro w' hSw
            have k00 := (bx.ext hSw).c4
            have k10 := (by_.ext hSw).c4
            have k20 := (b8.ext hSw).c2
            have k30 := (b9.ext hSw).c2
            go_simp
            try with_reducible rfl
          try simp only [Act.put]
          try simp only [List.setIfInBounds_toArray]
          try simp only [List.set_cons_succ]
          try simp only [List.set_cons_zero]
          refine wpL.take (i := 6) (d := some 52) (v := ?v6_66a) rfl rfl (by kernel_rfl) (by kernel_rfl) (by kernel_rfl) (by kernel_rfl) hQ (Or.inl ⟨by rfl, ?y6_66a⟩) ES ?r6_66a
          case y6_66a =>
            intro w' hSw
            have k00 := (bx.ext hSw).c4
            have k10 := (by_.ext hSw).c4
            have k20 := (b8.ext hSw).c2
            have k30 := (b9.ext hSw).c2
            go_simp
            try with_reducible rfl
          try simp only [Act.put]
          try simp only [List.setIfInBounds_toArray]
          try simp only [List.set_cons_succ]
          try simp only [List.set_cons_zero]
          refine wpL.take (i := 9) (d := some 55) (v := ?v9_67a) rfl rfl (by kernel_rfl) (by kernel_rfl) (by kernel_rfl) (by kernel_rfl) hQ (Or.inl ⟨by rfl, ?y9_67a⟩) ES ?r9_67a
          case y9_67a =>
            intro w' hSw
            have k00 := (bx.ext hSw).c4
            have k10 := (by_.ext hSw).c4
            have k20 := (b8.ext hSw).c2
            have k30 := (b9.ext hSw).c2
            go_simp
            try with_reducible rfl
          try simp only [Act.put]
          try simp only [List.setIfInBounds_toArray]
          try simp only [List.set_cons_succ]
          try simp only [List.set_cons_zero]
          refine wpL.take (i := 11) (d := some 57) (v := ?v11_68a) rfl rfl (by kernel_rfl) (by kernel_rfl) (by kernel_rfl) (by kernel_rfl) hQ (Or.inl ⟨by rfl, ?y11_68a⟩) ES ?r11_68a
          case y11_68a =>
            intro w' hSw
            have k00 := (bx.ext hSw).c4
            have k10 := (by_.ext hSw).c4
            have k20 := (b8.ext hSw).c2
            have k30 := (b9.ext hSw).c2
            go_simp
            try with_reducible rfl
          try simp only [Act.put]
          try simp only [List.setIfInBounds_toArray]
          try simp only [List.set_cons_succ]
          try simp only [List.set_cons_zero]
          refine wpL.take (i := 13) (d := some 59) (v := ?v13_69a) rfl rfl (by kernel_rfl) (by kernel_rfl) (by kernel_rfl) (by kernel_rfl) hQ (Or.inl ⟨by rfl, ?y13_69a⟩) ES ?r13_69a
          case y13_69a =>
            intro w' hSw
            have k00 := (bx.ext hSw).c4
            have k10 := (by_.ext hSw).c4
            have k20 := (b8.ext hSw).c2
            have k30 := (b9.ext hSw).c2
            go_simp
            try with_reducible rfl
          try simp only [Act.put]
          try simp only [List.setIfInBounds_toArray]
          try simp only [List.set_cons_succ]
          try simp only [List.set_cons_zero]
          refine wpL.take (i := 15) (d := some 61) (v := ?v15_70a) rfl rfl (by kernel_rfl) (by kernel_rfl) (by kernel_rfl) (by kernel_rfl) hQ (Or.inl ⟨by rfl, ?y15_70a⟩) ES ?r15_70a
          case y15_70a =>
            intro w' hSw
            have k00 := (bx.ext hSw).c4
            have k10 := (by_.ext hSw).c4
            have k20 := (b8.ext hSw).c2
            have k30 := (b9.ext hSw).c2
            go_simp
            try with_reducible rfl
          try simp only [Act.put]
          try simp only [List.setIfInBounds_toArray]
          try simp only [List.set_cons_succ]
          try simp only [List.set_cons_zero]
          refine wpL.take (i := 1) (d := some 47) (v := ?v1_71a) rfl rfl (by kernel_rfl) (by kernel_rfl) (by kernel_rfl) (by kernel_rfl) hQ (Or.inl ⟨by rfl, ?y1_71a⟩) ES ?r1_71a
          case y1_71a =>
            intro w' hSw
            have k00 := (bx.ext hSw).c4
            have k10 := (by_.ext hSw).c4
            have k20 := (b8.ext hSw).c2
            have k30 := (b9.ext hSw).c2
            go_simp
            try with_reducible rfl
          try simp only [Act.put]
          try simp only [List.setIfInBounds_toArray]
          try simp only [List.set_cons_succ]
          try simp only [List.set_cons_zero]
          refine wpL.take (i := 5) (d := some 51) (v := ?v5_72a) rfl rfl (by kernel_rfl) (by kernel_rfl) (by kernel_rfl) (by kernel_rfl) hQ (Or.inl ⟨by rfl, ?y5_72a⟩) ES ?r5_72a
          case y5_72a =>
            intro w' hSw
            have k00 := (bx.ext hSw).c4
            have k10 := (by_.ext hSw).c4
            have k20 := (b8.ext hSw).c2
            have k30 := (b9.ext hSw).c2
            go_simp
            try with_reducible rfl
          try simp only [Act.put]
          try simp only [List.setIfInBounds_toArray]
          try simp only [List.set_cons_succ]
          try simp only [List.set_cons_zero]
          refine wpL.take (i := 10) (d := some 56) (v := ?v10_73a) rfl rfl (by kernel_rfl) (by kernel_rfl) (by kernel_rfl) (by kernel_rfl) hQ (Or.inl ⟨by rfl, ?y10_73a⟩) ES ?r10_73a
          case y10_73a =>
            intro w' hSw
            have k00 := (bx.ext hSw).c4
            have k10 := (by_.ext hSw).c4
            have k20 := (b8.ext hSw).c2
            have k30 := (b9.ext hSw).c2
            go_simp
            try with_reducible rfl
          try simp only [Act.put]
          try simp only [List.setIfInBounds_toArray]
          try simp only [List.set_cons_succ]
          try simp only [List.set_cons_zero]
          refine wpL.take (i := 14) (d := some 60) (v := ?v14_74a) rfl rfl (by kernel_rfl) (by kernel_rfl) (by kernel_rfl) (by kernel_rfl) hQ (Or.inl ⟨by rfl, ?y14_74a⟩) ES ?r14_74a
          case y14_74a =>
            intro w' hSw
            have k00 := (bx.ext hSw).c4
            have k10 := (by_.ext hSw).c4
            have k20 := (b8.ext hSw).c2
            have k30 := (b9.ext hSw).c2
            go_simp
            try with_reducible rfl
          try simp only [Act.put]
          try simp only [List.setIfInBounds_toArray]
          try simp only [List.set_cons_succ]
          try simp only [List.set_cons_zero]
          refine wpL.call (i := 3) rfl (by kernel_rfl) (fun K hK => ?_)
          go_simp
          (go_at_call 85; refine (q_quo (h.num.ext ES) (hg.ext ES) (by omega) (by omega) Hg0.out Hgq.out).mono ?_; rintro e wk1 ⟨s3, A3, n3, c3, rfl, h3, hx0⟩; have E0_6 := Ext.trans ES hx0)
          refine hK.out _ _ E0_6 ?_
          clear hK K
          try simp only [Act.put]
          try simp only [List.setIfInBounds_toArray]
          try simp only [List.set_cons_succ]
          try simp only [List.set_cons_zero]
          refine wpL.call (i := 7) rfl (by kernel_rfl) (fun K hK => ?_)
          go_simp
          (go_at_call 85; refine (q_quo (k.num.ext E0_6) (hh.ext E0_6) (by omega) (by omega) Hh0.out Hhp.out).mono ?_; rintro e wk2 ⟨s4, A4, n4, c4, rfl, h4, hx1⟩; have E1_6 := Ext.trans E0_6 hx1)
          refine hK.out _ _ E1_6 ?_
          clear hK K
          try simp only [Act.put]
          try simp only [List.setIfInBounds_toArray]
          try simp only [List.set_cons_succ]
          try simp only [List.set_cons_zero]
          refine wpL.call (i := 8) rfl (by kernel_rfl) (fun K hK => ?_)
          go_simp
          (go_at_call 77; refine (q_Mul (h3.ext hx1) h4 (by omega) (by omega)).mono ?_; rintro e wk3 ⟨s5, A5, n5, c5, rfl, h5, hx2⟩; have E2_6 := Ext.trans E1_6 hx2)
          refine hK.out _ _ E2_6 ?_
          clear hK K
          try simp only [Act.put]
          try simp only [List.setIfInBounds_toArray]
          try simp only [List.set_cons_succ]
          try simp only [List.set_cons_zero]
          refine wpL.call (i := 12) rfl (by kernel_rfl) (fun K hK => ?_)
          go_simp
          (go_at_call 85; refine (q_quo (h.den.ext E2_6) (hh.ext E2_6) (by omega) (by omega) Hh0.out Hhq.out).mono ?_; rintro e wk4 ⟨s6, A6, n6, c6, rfl, h6, hx3⟩; have E3_6 := Ext.trans E2_6 hx3)
          refine hK.out _ _ E3_6 ?_
          clear hK K
          try simp only [Act.put]
          try simp only [List.setIfInBounds_toArray]
          try simp only [List.set_cons_succ]
          try simp only [List.set_cons_zero]
          refine wpL.call (i := 16) rfl (by kernel_rfl) (fun K hK => ?_)
          go_simp
          (go_at_call 85; refine (q_quo (k.den.ext E3_6) (hg.ext E3_6) (by omega) (by omega) Hg0.out Hgp.out).mono ?_; rintro e wk5 ⟨s7, A7, n7, c7, rfl, h7, hx4⟩; have E4_6 := Ext.trans E3_6 hx4)
          refine hK.out _ _ E4_6 ?_
          clear hK K
          try simp only [Act.put]
          try simp only [List.setIfInBounds_toArray]
          try simp only [List.set_cons_succ]
          try simp only [List.set_cons_zero]
          refine wpL.call (i := 17) rfl (by kernel_rfl) (fun K hK => ?_)
          go_simp
          (go_at_call 77; refine (q_Mul (h6.ext hx4) h7 (by omega) (by omega)).mono ?_; rintro e wk6 ⟨s8, A8, n8, c8, rfl, h8, hx5⟩; have E5_6 := Ext.trans E4_6 hx5)
          refine hK.out _ _ E5_6 ?_
          clear hK K
          try simp only [Act.put]
          try simp only [List.setIfInBounds_toArray]
          try simp only [List.set_cons_succ]
          try simp only [List.set_cons_zero]
          refine wpL.take (i := 18) (d := some 64) (v := ?v18_75a) rfl rfl (by kernel_rfl) (by kernel_rfl) (by kernel_rfl) (by kernel_rfl) hQ (Or.inl ⟨by rfl, ?y18_75a⟩) E5_6 ?r18_75a
          case y18_75a =>
            intro w' hSw
            have k00 := (bx.ext hSw).c4
            have k10 := (by_.ext hSw).c4
            have k20 := (b8.ext hSw).c2
            have k30 := (b9.ext hSw).c2
            go_simp
            try with_reducible rfl
          try simp only [Act.put]
          try simp only [List.setIfInBounds_toArray]
          try simp only [List.set_cons_succ]
          try simp only [List.set_cons_zero]
          have z0 := (bz.ext E5_6).cell 0 _ rfl
          have z1 := (bz.ext E5_6).cell 1 _ rfl
          have z2 := (bz.ext E5_6).cell 2 _ rfl
          have z3 := (bz.ext E5_6).cell 3 _ rfl
          have f0 := (bz.ext E5_6).frozen 0
          have f1 := (bz.ext E5_6).frozen 1
          have f2 := (bz.ext E5_6).frozen 2
          have f3 := (bz.ext E5_6).frozen 3
          refine wpL.tail (i := 19) rfl (by kernel_rfl) (by kernel_rfl) (fun K hK => ?_)
          go_simp
          refine hK.out _ _ ?_
          clear hK K
          try simp only [Act.put]
          try simp only [List.setIfInBounds_toArray]
          try simp only [List.set_cons_succ]
          try simp only [List.set_cons_zero]
          refine wpL.done (by kernel_rfl) ?_ _
          clear hQ
          go_wp2_with fail
          have hk1 : ((q.den : Int) / (hq : Int)) * ((p.den : Int) / (g : Int)) = ((q * p).den : Int) := by rw [Hq2.out]; simp
          rw [hk1] at h8
          rw [← Hq1.out] at h5
          obtain ⟨b1, b2, b3, b4⟩ := fin_quad (s := s5) (A := A5) (n := n5) (c := c5) (t := s8) (B := A8) (m := n8) (d := c8) (bz.ext E5_6)
          have r0 := b1.cell 0 (.bool s5) rfl
          have r1 := b1.cell 1 (.slice A5 n5 c5) rfl
          have r2 := b1.cell 2 (.bool s8) rfl
          have r3 := b1.cell 3 (.slice A8 n8 c8) rfl
          unfold set4 at r0 r1 r2 r3
          refine bodyPost_ret (v := .agg #[.bool s5, .slice A5 n5 c5, .bool s8, .slice A8 n8 c8]) (by simp [results, Tryz.results44, go_sem, r0, r1, r2, r3]) rfl ⟨s5, A5, n5, c5, s8, A8, n8, c8, rfl, ⟨?_, ?_⟩, b3 _ (extW.trans E5_6) (by omega)⟩
          · exact b2 _ _ _ _ _ _ (h5.ext (hx3.trans (hx4.trans hx5)))
          · exact b2 _ _ _ _ _ _ h8
      · rw [decide_eq_false h1]
        clear h1
        go_wp2_with fail
        have ES0 := Ext.refl wb
        refine wp_region_held_drew (S := Ext wb) (by kernel_rfl) ES0.drew (fun ES => ?_)
        clear ES0
        refine Late.start2 (x := ⟨10, 5, 24, #[Value.bool false, Value.slice none 0 0]⟩) (y := ⟨11, 6, 24, #[Value.bool false, Value.slice none 0 0]⟩) (n := 12) ⟨_, rfl, rfl, rfl, fun a w => by go_simp⟩ ⟨_, rfl, rfl, rfl, fun a w => by go_simp⟩ (fun _ _ _ _ _ => ⟨fun h => h, fun h => h⟩) ES rfl (fun hAl hQ => ?_)
        refine Late.take (i := 0) (d := some 36) (v := ?v0_55b) rfl rfl (by kernel_rfl) (by kernel_rfl) (by kernel_rfl) (by kernel_rfl) hQ (Or.inl ⟨by rfl, ?y0_55b⟩) ?r0_55b
        case y0_55b =>
          intro w' hSw
          have k00 := (bx.ext hSw).c4
          have k10 := (by_.ext hSw).c4
          go_simp
          try with_reducible rfl
        try simp only [Act.put]
        try simp only [List.setIfInBounds_toArray]
        try simp only [List.set_cons_succ]
        try simp only [List.set_cons_zero]
        refine Late.take (i := 2) (d := some 38) (v := ?v2_56b) rfl rfl (by kernel_rfl) (by kernel_rfl) (by kernel_rfl) (by kernel_rfl) hQ (Or.inl ⟨by rfl, ?y2_56b⟩) ?r2_56b
        case y2_56b =>
          intro w' hSw
          have k00 := (bx.ext hSw).c4
          have k10 := (by_.ext hSw).c4
          go_simp
          try with_reducible rfl
        try simp only [Act.put]
        try simp only [List.setIfInBounds_toArray]
        try simp only [List.set_cons_succ]
        try simp only [List.set_cons_zero]
        refine Late.take (i := 5) (d := some 41) (v := ?v5_57b) rfl rfl (by kernel_rfl) (by kernel_rfl) (by kernel_rfl) (by kernel_rfl) hQ (Or.inl ⟨by rfl, ?y5_57b⟩) ?r5_57b
        case y5_57b =>
          intro w' hSw
          have k00 := (bx.ext hSw).c4
          have k10 := (by_.ext hSw).c4
          go_simp
          try with_reducible rfl
        try simp only [Act.put]
        try simp only [List.setIfInBounds_toArray]
        try simp only [List.set_cons_succ]
        try simp only [List.set_cons_zero]
        refine Late.take (i := 7) (d := some 43) (v := ?v7_58b) rfl rfl (by kernel_rfl) (by kernel_rfl) (by kernel_rfl) (by kernel_rfl) hQ (Or.inl ⟨by rfl, ?y7_58b⟩) ?r7_58b
        case y7_58b =>
          intro w' hSw
          have k00 := (bx.ext hSw).c4
          have k10 := (by_.ext hSw).c4
          go_simp
          try with_reducible rfl
        try simp only [Act.put]
        try simp only [List.setIfInBounds_toArray]
        try simp only [List.set_cons_succ]
        try simp only [List.set_cons_zero]
        refine Late.take (i := 1) (d := some 37) (v := ?v1_59b) rfl rfl (by kernel_rfl) (by kernel_rfl) (by kernel_rfl) (by kernel_rfl) hQ (Or.inl ⟨by rfl, ?y1_59b⟩) ?r1_59b
        case y1_59b =>
          intro w' hSw
          have k00 := (bx.ext hSw).c4
          have k10 := (by_.ext hSw).c4
          go_simp
          try with_reducible rfl
        try simp only [Act.put]
        try simp only [List.setIfInBounds_toArray]
        try simp only [List.set_cons_succ]
        try simp only [List.set_cons_zero]
        refine Late.take (i := 3) (d := some 39) (v := ?v3_60b) rfl rfl (by kernel_rfl) (by kernel_rfl) (by kernel_rfl) (by kernel_rfl) hQ (Or.inl ⟨by rfl, ?y3_60b⟩) ?r3_60b
        case y3_60b =>
          intro w' hSw
          have k00 := (bx.ext hSw).c4
          have k10 := (by_.ext hSw).c4
          go_simp
          try with_reducible rfl
        try simp only [Act.put]
        try simp only [List.setIfInBounds_toArray]
        try simp only [List.set_cons_succ]
        try simp only [List.set_cons_zero]
        refine Late.take (i := 6) (d := some 42) (v := ?v6_61b) rfl rfl (by kernel_rfl) (by kernel_rfl) (by kernel_rfl) (by kernel_rfl) hQ (Or.inl ⟨by rfl, ?y6_61b⟩) ?r6_61b
        case y6_61b =>
          intro w' hSw
          have k00 := (bx.ext hSw).c4
          have k10 := (by_.ext hSw).c4
          go_simp
          try with_reducible rfl
        try simp only [Act.put]
        try simp only [List.setIfInBounds_toArray]
        try simp only [List.set_cons_succ]
        try simp only [List.set_cons_zero]
        refine Late.take (i := 8) (d := some 44) (v := ?v8_62b) rfl rfl (by kernel_rfl) (by kernel_rfl) (by kernel_rfl) (by kernel_rfl) hQ (Or.inl ⟨by rfl, ?y8_62b⟩) ?r8_62b
        case y8_62b =>
          intro w' hSw
          have k00 := (bx.ext hSw).c4
          have k10 := (by_.ext hSw).c4
          go_simp
          try with_reducible rfl
        try simp only [Act.put]
        try simp only [List.setIfInBounds_toArray]
        try simp only [List.set_cons_succ]
        try simp only [List.set_cons_zero]
        refine Late.call (i := 4) rfl (by kernel_rfl) hAl (by kernel_rfl) (by kernel_rfl) (by kernel_rfl) hQ (fun w4 e4 E4 K hK => ?_)
        go_simp
        (go_at_call 84; refine (q_GCD (h.num.ext E4) (k.den.ext E4) (by omega) (by omega)).mono ?_; rintro e wk1 ⟨s1, A1, n1, c1', rfl, h1, hx4⟩; rw [Int.natAbs_natCast] at h1)
        refine hK.out _ _ hx4 ?_
        clear hK K
        try simp only [Act.put]
        try simp only [List.setIfInBounds_toArray]
        try simp only [List.set_cons_succ]
        try simp only [List.set_cons_zero]
        refine Late.call (i := 9) rfl (by kernel_rfl) hAl (by kernel_rfl) (by kernel_rfl) (by kernel_rfl) hQ (fun w9 e9 E9 K hK => ?_)
        go_simp
        (go_at_call 84; refine (q_GCD (k.num.ext E9) (h.den.ext E9) (by omega) (by omega)).mono ?_; rintro e wk2 ⟨s2, A2, n2, c2', rfl, h2, hx9⟩; rw [Int.natAbs_natCast] at h2)
        refine hK.out _ _ hx9 ?_
        clear hK K
        try simp only [Act.put]
        try simp only [List.setIfInBounds_toArray]
        try simp only [List.set_cons_succ]
        try simp only [List.set_cons_zero]
        refine Late.finish2 (hAl _ (by simp)) (hAl _ (by simp)) (by decide) (by decide) (by kernel_rfl) (by kernel_rfl) (by kernel_rfl) (fun wz g5 g6 ez Ez lg5 lg6 hne xb1 xb2 => ?_)
        clear hAl hQ ES
        have p10 := xb1.cell 0 (Value.bool false) rfl
        have p11 := xb1.cell 1 (Value.slice none 0 0) rfl
        have f10 := xb1.frozen 0
        have f11 := xb1.frozen 1
        have e4 := fin_dual (s := s1) (A := A1) (n := n1) (c := c1') xb1
        try simp only [Act.put]
        try simp only [List.setIfInBounds_toArray]
        try simp only [List.set_cons_succ]
        try simp only [List.set_cons_zero]
        refine wpAnyH_ready (rs := [12]) (by kernel_rfl) (by simp) (AllReadyH.cons rfl (fun K hK => ?_) AllReadyH.nil)
        go_simp
        refine hK.out _ _ (e4.2.2.1 _ Ez lg5) (fun _ => ?_)
        clear hK K
        try simp only [Act.put]
        try simp only [List.setIfInBounds_toArray]
        try simp only [List.set_cons_succ]
        try simp only [List.set_cons_zero]
        have e5 := e4.2.2.2 _ _ _ (Ne.symm hne) xb2
        refine any_world (fun U => Ext wb U ∧ Box U g5 24 #[.bool s1, .slice A1 n1 c1'] ∧ Box U g6 24 #[Value.bool false, Value.slice none 0 0] ∧ NI U ((q.num.natAbs.gcd p.den : Nat) : Int) (max L M) s1 A1 n1 c1' ∧ NI U ((p.num.natAbs.gcd q.den : Nat) : Int) (max M L) s2 A2 n2 c2') ⟨e4.2.2.1 _ Ez lg5, e4.1, e5, e4.2.1 _ _ _ _ _ _ (h1.ext (e9.trans (hx9.trans ez))), e4.2.1 _ _ _ _ _ _ (h2.ext ez)⟩ ?_
        clear e4 e5 p10 p11 f10 f11 xb1 xb2
        rintro U ⟨EU, b8, xb2, h1, h2⟩
        have p10 := xb2.cell 0 (Value.bool false) rfl
        have p11 := xb2.cell 1 (Value.slice none 0 0) rfl
        have f10 := xb2.frozen 0
        have f11 := xb2.frozen 1
        have e4 := fin_dual (s := s2) (A := A2) (n := n2) (c := c2') xb2
        refine wpAnyH_ready (rs := [13]) (by kernel_rfl) (by simp) (AllReadyH.cons rfl (fun K hK => ?_) AllReadyH.nil)
        go_simp
        refine hK.out _ _ (e4.2.2.1 _ EU lg6) (fun _ => ?_)
        clear hK K
        try simp only [Act.put]
        try simp only [List.setIfInBounds_toArray]
        try simp only [List.set_cons_succ]
        try simp only [List.set_cons_zero]
        refine any_world (fun U2 => Ext wb U2 ∧ Box U2 g5 24 #[.bool s1, .slice A1 n1 c1'] ∧ Box U2 g6 24 #[.bool s2, .slice A2 n2 c2'] ∧ NI U2 ((q.num.natAbs.gcd p.den : Nat) : Int) (max L M) s1 A1 n1 c1' ∧ NI U2 ((p.num.natAbs.gcd q.den : Nat) : Int) (max M L) s2 A2 n2 c2') ⟨e4.2.2.1 _ EU lg6, e4.2.2.2 _ _ _ hne b8, e4.1, e4.2.1 _ _ _ _ _ _ h1, e4.2.1 _ _ _ _ _ _ h2⟩ ?_
        clear e4 p10 p11 f10 f11 xb2 b8 h1 h2 lg5 lg6
        rintro U2 ⟨EU2, b8, b9, h1, h2⟩
        refine wpAnyH_done (by kernel_rfl) ?_ _
        replace bx := bx.ext EU2
        replace by_ := by_.ext EU2
        replace bz := bz.ext EU2
        replace h := h.ext EU2
        replace k := k.ext EU2
        replace extW := extW.trans EU2
        clear EU EU2 Ez ez
        obtain ⟨g, hge⟩ : ∃ g, q.num.natAbs.gcd p.den = g := ⟨_, rfl⟩
        obtain ⟨hq, hhe⟩ : ∃ g, p.num.natAbs.gcd q.den = g := ⟨_, rfl⟩
        rw [hge] at h1
        rw [hhe] at h2
        obtain ⟨q1, q2⟩ := rat_mul q p hge.symm hhe.symm
        have Hq1 := Lib.hid q1
        have Hq2 := Lib.hid q2
        have hgq : g ∣ q.num.natAbs := by rw [← hge]; exact Nat.gcd_dvd_left _ _
        have hgp : g ∣ p.den := by rw [← hge]; exact Nat.gcd_dvd_right _ _
        have hhp : hq ∣ p.num.natAbs := by rw [← hhe]; exact Nat.gcd_dvd_left _ _
        have hhq : hq ∣ q.den := by rw [← hhe]; exact Nat.gcd_dvd_right _ _
        have hg0 : (g : Int) ≠ 0 := by
          intro h0
          have : g = 0 := by omega
          rw [this] at hgp
          exact p.den_nz (Nat.eq_zero_of_zero_dvd hgp)
        have hh0 : (hq : Int) ≠ 0 := by
          intro h0
          have : hq = 0 := by omega
          rw [this] at hhq
          exact q.den_nz (Nat.eq_zero_of_zero_dvd hhq)
        have Hg0 := Lib.hid hg0
        have Hh0 := Lib.hid hh0
        have Hgq := Lib.hid (Int.ofNat_dvd_left.2 hgq)
        have Hgp := Lib.hid (Int.ofNat_dvd.2 hgp)
        have Hhp := Lib.hid (Int.ofNat_dvd_left.2 hhp)
        have Hhq := Lib.hid (Int.ofNat_dvd.2 hhq)
        have hg := h1
        have hh := h2
        clear hge hhe q1 q2 hgq hgp hhp hhq hg0 hh0 h1 h2
        go_wp2_with fail
        refine wpL.start 19 (by kernel_rfl) (fun _ _ _ _ _ => ⟨fun h => h, fun h => h⟩) (fun hQ ES => ?_)
        refine wpL.take (i := 0) (d := some 46) (v := ?v0_63b) rfl rfl (by kernel_rfl) (by kernel_rfl) (by kernel_rfl) (by kernel_rfl) hQ (Or.inl ⟨by rfl, ?y0_63b⟩) ES ?r0_63b
        case y0_63b =>
          intro w' hSw
          have k00 := (bx.ext hSw).c4
          have k10 := (by_.ext hSw).c4
          have k20 := (b8.ext hSw).c2
          have k30 := (b9.ext hSw).c2
          go_simp
          try with_reducible rfl
        try simp only [Act.put]
        try simp only [List.setIfInBounds_toArray]
        try simp only [List.set_cons_succ]
        try simp only [List.set_cons_zero]
        refine wpL.take (i := 2) (d := some 48) (v := ?v2_64b) rfl rfl (by kernel_rfl) (by kernel_rfl) (by kernel_rfl) (by kernel_rfl) hQ (Or.inl ⟨by rfl, ?y2_64b⟩) ES ?r2_64b
        case y2_64b =>
          intro w' hSw
          have k00 := (bx.ext hSw).c4
          have k10 := (by_.ext hSw).c4
          have k20 := (b8.ext hSw).c2
          have k30 := (b9.ext hSw).c2
          go_simp
          try with_reducible rfl
        try simp only [Act.put]
        try simp only [List.setIfInBounds_toArray]
        try simp only [List.set_cons_succ]
        try simp only [List.set_cons_zero]
        refine wpL.take (i := 4) (d := some 50) (v := ?v4_65b) rfl rfl (by kernel_rfl) (by kernel_rfl) (by kernel_rfl) (by kernel_rfl) hQ (Or.inl ⟨by rfl, ?y4_65b⟩) ES ?r4_65b
        case y4_65b =>
          intro w' hSw
          have k00 := (bx.ext hSw).c4
          have k10 := (by_.ext hSw).c4
          have k20 := (b8.ext hSw).c2
          have k30 := (b9.ext hSw).c2
          go_simp
          try with_reducible rfl
        try simp only [Act.put]
        try simp only [List.setIfInBounds_toArray]
        try simp only [List.set_cons_succ]
        try simp only [List.set_cons_zero]
        refine wpL.take (i := 6) (d := some 52) (v := ?v6_66b) rfl rfl (by kernel_rfl) (by kernel_rfl) (by kernel_rfl) (by kernel_rfl) hQ (Or.inl ⟨by rfl, ?y6_66b⟩) ES ?r6_66b
        case y6_66b =>
          intro w' hSw
          have k00 := (bx.ext hSw).c4
          have k10 := (by_.ext hSw).c4
          have k20 := (b8.ext hSw).c2
          have k30 := (b9.ext hSw).c2
          go_simp
          try with_reducible rfl
        try simp only [Act.put]
        try simp only [List.setIfInBounds_toArray]
        try simp only [List.set_cons_succ]
        try simp only [List.set_cons_zero]
        refine wpL.take (i := 9) (d := some 55) (v := ?v9_67b) rfl rfl (by kernel_rfl) (by kernel_rfl) (by kernel_rfl) (by kernel_rfl) hQ (Or.inl ⟨by rfl, ?y9_67b⟩) ES ?r9_67b
        case y9_67b =>
          intro w' hSw
          have k00 := (bx.ext hSw).c4
          have k10 := (by_.ext hSw).c4
          have k20 := (b8.ext hSw).c2
          have k30 := (b9.ext hSw).c2
          go_simp
          try with_reducible rfl
        try simp only [Act.put]
        try simp only [List.setIfInBounds_toArray]
        try simp only [List.set_cons_succ]
        try simp only [List.set_cons_zero]
        refine wpL.take (i := 11) (d := some 57) (v := ?v11_68b) rfl rfl (by kernel_rfl) (by kernel_rfl) (by kernel_rfl) (by kernel_rfl) hQ (Or.inl ⟨by rfl, ?y11_68b⟩) ES ?r11_68b
        case y11_68b =>
          intro w' hSw
          have k00 := (bx.ext hSw).c4
          have k10 := (by_.ext hSw).c4
          have k20 := (b8.ext hSw).c2
          have k30 := (b9.ext hSw).c2
          go_simp
          try with_reducible rfl
        try simp only [Act.put]
        try simp only [List.setIfInBounds_toArray]
        try simp only [List.set_cons_succ]
        try simp only [List.set_cons_zero]
        refine wpL.take (i := 13) (d := some 59) (v := ?v13_69b) rfl rfl (by kernel_rfl) (by kernel_rfl) (by kernel_rfl) (by kernel_rfl) hQ (Or.inl ⟨by rfl, ?y13_69b⟩) ES ?r13_69b
        case y13_69b =>
          intro w' hSw
          have k00 := (bx.ext hSw).c4
          have k10 := (by_.ext hSw).c4
          have k20 := (b8.ext hSw).c2
          have k30 := (b9.ext hSw).c2
          go_simp
          try with_reducible rfl
        try simp only [Act.put]
        try simp only [List.setIfInBounds_toArray]
        try simp only [List.set_cons_succ]
        try simp only [List.set_cons_zero]
        refine wpL.take (i := 15) (d := some 61) (v := ?v15_70b) rfl rfl (by kernel_rfl) (by kernel_rfl) (by kernel_rfl) (by kernel_rfl) hQ (Or.inl ⟨by rfl, ?y15_70b⟩) ES ?r15_70b
        case y15_70b =>
          intro w' hSw
          have k00 := (bx.ext hSw).c4
          have k10 := (by_.ext hSw).c4
          have k20 := (b8.ext hSw).c2
          have k30 := (b9.ext hSw).c2
          go_simp
          try with_reducible rfl
        try simp only [Act.put]
        try simp only [List.setIfInBounds_toArray]
        try simp only [List.set_cons_succ]
        try simp only [List.set_cons_zero]
        refine wpL.take (i := 1) (d := some 47) (v := ?v1_71b) rfl rfl (by kernel_rfl) (by kernel_rfl) (by kernel_rfl) (by kernel_rfl) hQ (Or.inl ⟨by rfl, ?y1_71b⟩) ES ?r1_71b
        case y1_71b =>
          intro w' hSw
          have k00 := (bx.ext hSw).c4
          have k10 := (by_.ext hSw).c4
          have k20 := (b8.ext hSw).c2
          have k30 := (b9.ext hSw).c2
          go_simp
          try with_reducible rfl
        try simp only [Act.put]
        try simp only [List.setIfInBounds_toArray]
        try simp only [List.set_cons_succ]
        try simp only [List.set_cons_zero]
        refine wpL.take (i := 5) (d := some 51) (v := ?v5_72b) rfl rfl (by kernel_rfl) (by kernel_rfl) (by kernel_rfl) (by kernel_rfl) hQ (Or.inl ⟨by rfl, ?y5_72b⟩) ES ?r5_72b
        case y5_72b =>
          intro w' hSw
          have k00 := (bx.ext hSw).c4
          have k10 := (by_.ext hSw).c4
          have k20 := (b8.ext hSw).c2
          have k30 := (b9.ext hSw).c2
          go_simp
          try with_reducible rfl
        try simp only [Act.put]
        try simp only [List.setIfInBounds_toArray]
        try simp only [List.set_cons_succ]
        try simp only [List.set_cons_zero]
        refine wpL.take (i := 10) (d := some 56) (v := ?v10_73b) rfl rfl (by kernel_rfl) (by kernel_rfl) (by kernel_rfl) (by kernel_rfl) hQ (Or.inl ⟨by rfl, ?y10_73b⟩) ES ?r10_73b
        case y10_73b =>
          intro w' hSw
          have k00 := (bx.ext hSw).c4
          have k10 := (by_.ext hSw).c4
          have k20 := (b8.ext hSw).c2
          have k30 := (b9.ext hSw).c2
          go_simp
          try with_reducible rfl
        try simp only [Act.put]
        try simp only [List.setIfInBounds_toArray]
        try simp only [List.set_cons_succ]
        try simp only [List.set_cons_zero]
        refine wpL.take (i := 14) (d := some 60) (v := ?v14_74b) rfl rfl (by kernel_rfl) (by kernel_rfl) (by kernel_rfl) (by kernel_rfl) hQ (Or.inl ⟨by rfl, ?y14_74b⟩) ES ?r14_74b
        case y14_74b =>
          intro w' hSw
          have k00 := (bx.ext hSw).c4
          have k10 := (by_.ext hSw).c4
          have k20 := (b8.ext hSw).c2
          have k30 := (b9.ext hSw).c2
          go_simp
          try with_reducible rfl
        try simp only [Act.put]
        try simp only [List.setIfInBounds_toArray]
        try simp only [List.set_cons_succ]
        try simp only [List.set_cons_zero]
        refine wpL.call (i := 3) rfl (by kernel_rfl) (fun K hK => ?_)
        go_simp
        (go_at_call 85; refine (q_quo (h.num.ext ES) (hg.ext ES) (by omega) (by omega) Hg0.out Hgq.out).mono ?_; rintro e wk1 ⟨s3, A3, n3, c3, rfl, h3, hx0⟩; have E0_6 := Ext.trans ES hx0)
        refine hK.out _ _ E0_6 ?_
        clear hK K
        try simp only [Act.put]
        try simp only [List.setIfInBounds_toArray]
        try simp only [List.set_cons_succ]
        try simp only [List.set_cons_zero]
        refine wpL.call (i := 7) rfl (by kernel_rfl) (fun K hK => ?_)
        go_simp
        (go_at_call 85; refine (q_quo (k.num.ext E0_6) (hh.ext E0_6) (by omega) (by omega) Hh0.out Hhp.out).mono ?_; rintro e wk2 ⟨s4, A4, n4, c4, rfl, h4, hx1⟩; have E1_6 := Ext.trans E0_6 hx1)
        refine hK.out _ _ E1_6 ?_
        clear hK K
        try simp only [Act.put]
        try simp only [List.setIfInBounds_toArray]
        try simp only [List.set_cons_succ]
        try simp only [List.set_cons_zero]
        refine wpL.call (i := 8) rfl (by kernel_rfl) (fun K hK => ?_)
        go_simp
        (go_at_call 77; refine (q_Mul (h3.ext hx1) h4 (by omega) (by omega)).mono ?_; rintro e wk3 ⟨s5, A5, n5, c5, rfl, h5, hx2⟩; have E2_6 := Ext.trans E1_6 hx2)
        refine hK.out _ _ E2_6 ?_
        clear hK K
        try simp only [Act.put]
        try simp only [List.setIfInBounds_toArray]
        try simp only [List.set_cons_succ]
        try simp only [List.set_cons_zero]
        refine wpL.call (i := 12) rfl (by kernel_rfl) (fun K hK => ?_)
        go_simp
        (go_at_call 85; refine (q_quo (h.den.ext E2_6) (hh.ext E2_6) (by omega) (by omega) Hh0.out Hhq.out).mono ?_; rintro e wk4 ⟨s6, A6, n6, c6, rfl, h6, hx3⟩; have E3_6 := Ext.trans E2_6 hx3)
        refine hK.out _ _ E3_6 ?_
        clear hK K
        try simp only [Act.put]
        try simp only [List.setIfInBounds_toArray]
        try simp only [List.set_cons_succ]
        try simp only [List.set_cons_zero]
        refine wpL.call (i := 16) rfl (by kernel_rfl) (fun K hK => ?_)
        go_simp
        (go_at_call 85; refine (q_quo (k.den.ext E3_6) (hg.ext E3_6) (by omega) (by omega) Hg0.out Hgp.out).mono ?_; rintro e wk5 ⟨s7, A7, n7, c7, rfl, h7, hx4⟩; have E4_6 := Ext.trans E3_6 hx4)
        refine hK.out _ _ E4_6 ?_
        clear hK K
        try simp only [Act.put]
        try simp only [List.setIfInBounds_toArray]
        try simp only [List.set_cons_succ]
        try simp only [List.set_cons_zero]
        refine wpL.call (i := 17) rfl (by kernel_rfl) (fun K hK => ?_)
        go_simp
        (go_at_call 77; refine (q_Mul (h6.ext hx4) h7 (by omega) (by omega)).mono ?_; rintro e wk6 ⟨s8, A8, n8, c8, rfl, h8, hx5⟩; have E5_6 := Ext.trans E4_6 hx5)
        refine hK.out _ _ E5_6 ?_
        clear hK K
        try simp only [Act.put]
        try simp only [List.setIfInBounds_toArray]
        try simp only [List.set_cons_succ]
        try simp only [List.set_cons_zero]
        refine wpL.take (i := 18) (d := some 64) (v := ?v18_75b) rfl rfl (by kernel_rfl) (by kernel_rfl) (by kernel_rfl) (by kernel_rfl) hQ (Or.inl ⟨by rfl, ?y18_75b⟩) E5_6 ?r18_75b
        case y18_75b =>
          intro w' hSw
          have k00 := (bx.ext hSw).c4
          have k10 := (by_.ext hSw).c4
          have k20 := (b8.ext hSw).c2
          have k30 := (b9.ext hSw).c2
          go_simp
          try with_reducible rfl
        try simp only [Act.put]
        try simp only [List.setIfInBounds_toArray]
        try simp only [List.set_cons_succ]
        try simp only [List.set_cons_zero]
        have z0 := (bz.ext E5_6).cell 0 _ rfl
        have z1 := (bz.ext E5_6).cell 1 _ rfl
        have z2 := (bz.ext E5_6).cell 2 _ rfl
        have z3 := (bz.ext E5_6).cell 3 _ rfl
        have f0 := (bz.ext E5_6).frozen 0
        have f1 := (bz.ext E5_6).frozen 1
        have f2 := (bz.ext E5_6).frozen 2
        have f3 := (bz.ext E5_6).frozen 3
        refine wpL.tail (i := 19) rfl (by kernel_rfl) (by kernel_rfl) (fun K hK => ?_)
        go_simp
        refine hK.out _ _ ?_
        clear hK K
        try simp only [Act.put]
        try simp only [List.setIfInBounds_toArray]
        try simp only [List.set_cons_succ]
        try simp only [List.set_cons_zero]
        refine wpL.done (by kernel_rfl) ?_ _
        clear hQ
        go_wp2_with fail
        have hk1 : ((q.den : Int) / (hq : Int)) * ((p.den : Int) / (g : Int)) = ((q * p).den : Int) := by rw [Hq2.out]; simp
        rw [hk1] at h8
        rw [← Hq1.out] at h5
        obtain ⟨b1, b2, b3, b4⟩ := fin_quad (s := s5) (A := A5) (n := n5) (c := c5) (t := s8) (B := A8) (m := n8) (d := c8) (bz.ext E5_6)
        have r0 := b1.cell 0 (.bool s5) rfl
        have r1 := b1.cell 1 (.slice A5 n5 c5) rfl
        have r2 := b1.cell 2 (.bool s8) rfl
        have r3 := b1.cell 3 (.slice A8 n8 c8) rfl
        unfold set4 at r0 r1 r2 r3
        refine bodyPost_ret (v := .agg #[.bool s5, .slice A5 n5 c5, .bool s8, .slice A8 n8 c8]) (by simp [results, Tryz.results44, go_sem, r0, r1, r2, r3]) rfl ⟨s5, A5, n5, c5, s8, A8, n8, c8, rfl, ⟨?_, ?_⟩, b3 _ (extW.trans E5_6) (by omega)⟩
        · exact b2 _ _ _ _ _ _ (h5.ext (hx3.trans (hx4.trans hx5)))
        · exact b2 _ _ _ _ _ _ h8
end
end Go.Proofs.YtoabhnofppledaaGreatDoor
