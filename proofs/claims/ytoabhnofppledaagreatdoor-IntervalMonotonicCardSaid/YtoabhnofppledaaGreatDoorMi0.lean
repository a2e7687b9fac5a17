/- Walks and laws, a part. -/
import Derived.Test.YtoabhnofppledaaGreatDoorM0
import Derived.Test.YtoabhnofppledaaGreatDoorM1
import Derived.Test.YtoabhnofppledaaGreatDoorM2
import Derived.Test.YtoabhnofppledaaGreatDoorM3
import Derived.Test.YtoabhnofppledaaGreatDoorM4
import Derived.Test.YtoabhnofppledaaGreatDoorM5
import Derived.Test.YtoabhnofppledaaGreatDoorM6
import Derived.Test.YtoabhnofppledaaGreatDoorM7
import Derived.Test.YtoabhnofppledaaGreatDoorM8
import Derived.Test.YtoabhnofppledaaGreatDoorM9
import Derived.Deep.RegionHeld
namespace Go.Proofs.YtoabhnofppledaaGreatDoor
/-- the sum by way of the common part of the denominators. -/
theorem rat_add (a b : Rat) {g D1 D2 : Nat} {S : Int} {r : Nat} (hg : g = a.den.gcd b.den) (h1 : D1 = a.den / g) (h2 : D2 = b.den / g) (hS : S = a.num * D2 + b.num * D1) (hr : r = S.natAbs.gcd g) :
    (a + b).num = S / (r : Int) ∧ (a + b).den = D1 * (b.den / r) ∧ r ∣ b.den ∧ r ≠ 0 := by
  have haux : S.natAbs.gcd g = S.natAbs.gcd (D1 * b.den) := by
    rw [hS]
    exact Rat.add.aux a b hg h1 h2
  have hg0 : g ≠ 0 := by rw [hg]; exact Nat.gcd_ne_zero_left a.den_nz
  have e1 : D1 * g = a.den := by rw [h1, hg]; exact Nat.div_mul_cancel (Nat.gcd_dvd_left _ _)
  have e2 : D2 * g = b.den := by rw [h2, hg]; exact Nat.div_mul_cancel (Nat.gcd_dvd_right _ _)
  have hD1 : D1 ≠ 0 := by rintro rfl; have := a.den_nz; simp at e1; omega
  have hsum : a + b = mkRat S (D1 * b.den) := by
    rw [Rat.add_def', ← Rat.mkRat_mul_right hg0 (n := S) (d := D1 * b.den)]
    congr 1
    · rw [hS, Int.add_mul, Int.mul_assoc, Int.mul_assoc, ← Int.natCast_mul, ← Int.natCast_mul, e1, e2]
    · rw [Nat.mul_right_comm, e1]
  have hrg : r ∣ g := by rw [hr]; exact Nat.gcd_dvd_right _ _
  have hrb : r ∣ b.den := Nat.dvd_trans hrg (by rw [hg]; exact Nat.gcd_dvd_right _ _)
  have hr0 : r ≠ 0 := by rintro rfl; exact hg0 (Nat.eq_zero_of_zero_dvd hrg)
  obtain ⟨p1, p2⟩ := mkRat_parts S (D := D1 * b.den) (Nat.mul_ne_zero hD1 b.den_nz)
  rw [hsum, p1, p2, ← haux, ← hr]
  exact ⟨rfl, Nat.mul_div_assoc _ hrb, hrb, hr0⟩
end Go.Proofs.YtoabhnofppledaaGreatDoor
namespace Go.Proofs.YtoabhnofppledaaGreatDoor
open Go.RowKit
section
variable {P : Program} {ops : Array Oper} {Q : Exit → Act → World → Prop} {md : Region.Mode} {S : World → Prop} {W0 : World}
theorem Late.start1 {x : Al} {n f : Nat} {L : Array Bool} {a : Act} {w : World} (hx : IsAl P ops x) (hQ : QStill Q) (hS : Ext W0 w) (hf : n + 1 = f)
    (h : (∀ z ∈ [x], IsAl P ops z) → QStill Q → Late P md ops Q W0 [x] n L a w) : wpAnyH P md ops Q (Ext W0) f L a w :=
  Late.start (h (by simpa using hx) hQ) hS hf
theorem Late.finish1 {x : Al} {n : Nat} {L : Array Bool} {a : Act} {w : World} (hx : IsAl P ops x) (hr : Region.ready md ops L = [x.i])
    (h : ∀ w' g, Ext w w' → Ext W0 w' → W0.heap.size ≤ g → Box w' g x.t x.cs → wpAnyH P md ops Q (Ext W0) n (L.setIfInBounds x.i true) (a.put (some x.d) (.pointer (some ⟨g, 0, none⟩))) w') :
    Late P md ops Q W0 [x] n L a w := by
  refine Late.finish (by simp) (by simpa using hx) ?_ (by simp [hr]) ?_
  · intro z hz j hj
    rw [List.mem_singleton] at hz
    subst hz
    simp only [List.filter_cons, bne_self_eq_false, List.filter_nil, allMarks] at hj
    rw [if_neg (by simp)] at hj
    simpa [hr] using hj
  · intro w' e hS D hD hl
    match D, hl with
    | [y], _ =>
      obtain ⟨u, g⟩ := y
      have hu := hD.mem (u, g) List.mem_cons_self
      simp only [List.mem_singleton] at hu
      subst hu
      exact h w' g e hS (hD.ge (u, g) List.mem_cons_self) (hD.box (u, g) List.mem_cons_self)
end
end Go.Proofs.YtoabhnofppledaaGreatDoor
namespace Go.Proofs.YtoabhnofppledaaGreatDoor
open Go.RowKit
attribute [local go_sem ↓] Go.wp_at_zero Go.wp_at_succ
section
variable {w w' : World} {z y : Int} {q p : Rat} {L M : Nat} {s t s' t' : Bool} {A B A' B' : Option Addr} {n c m d n' c' m' d' : Nat}
set_option maxHeartbeats 1000000 in
theorem p_plus {a b a' b' : Int} (h : Sm q a b) (k : Sm p a' b') : Calls Tryz.prog 99 #[.agg #[.int .i64 a, .int .i64 b], .agg #[.int .i64 a', .int .i64 b']] w (RetNR (q + p) 2 w) := by
  obtain ⟨h1, h2, h3, h4⟩ := h
  obtain ⟨k1, k2, k3, k4⟩ := k
  have hb0 : 0 < b := by have := q.den_pos; omega
  have hb0' : 0 < b' := by have := p.den_pos; omega
  have m1 := mul31 h3 k4
  have m2 := mul31 k3 h4
  have m3 := mul31 h4 k4
  have m4 := mul31 h3 k3
  have hpos : 0 < b * b' := Int.mul_pos hb0 hb0'
  have hval : mkRat (a * b' + a' * b) (b * b').natAbs = q + p := by
    rw [Rat.add_def', Int.natAbs_mul, h1, h2, k1, k2, Int.natAbs_natCast, Int.natAbs_natCast]
  have Hval := Lib.hid hval
  clear hval h1 h2 k1 k2
  obtain ⟨u1, hu1⟩ : ∃ u, a * b' = u := ⟨_, rfl⟩
  obtain ⟨u2, hu2⟩ : ∃ u, a' * b = u := ⟨_, rfl⟩
  obtain ⟨u3, hu3⟩ : ∃ u, b * b' = u := ⟨_, rfl⟩
  obtain ⟨u4, hu4⟩ : ∃ u, a * a' = u := ⟨_, rfl⟩
  rw [hu1] at m1
  rw [hu2] at m2
  rw [hu3] at m3 hpos
  rw [hu4] at m4
  have Hu1 := Lib.hid hu1
  have Hu2 := Lib.hid hu2
  have Hu3 := Lib.hid hu3
  have Hu4 := Lib.hid hu4
  have w1 : IntKind.i64.wrap u1 = u1 := IntWalk.i64_in _ (by omega)
  have w2 : IntKind.i64.wrap u2 = u2 := IntWalk.i64_in _ (by omega)
  have w3 : IntKind.i64.wrap u3 = u3 := IntWalk.i64_in _ (by omega)
  have w4 : IntKind.i64.wrap u4 = u4 := IntWalk.i64_in _ (by omega)
  have v1 : wrap64 u1 = u1 := IntWalk.wrap64_in _ (by omega)
  have v2 : wrap64 u2 = u2 := IntWalk.wrap64_in _ (by omega)
  have v3 : wrap64 u3 = u3 := IntWalk.wrap64_in _ (by omega)
  have v4 : wrap64 u4 = u4 := IntWalk.wrap64_in _ (by omega)
  have w5 : IntKind.i64.wrap (u1 + u2) = u1 + u2 := IntWalk.i64_in _ (by omega)
  have v5 : wrap64 (u1 + u2) = u1 + u2 := IntWalk.wrap64_in _ (by omega)
  go_enter Tryz.func99, Tryz.ntmps99
  go_upto_region 1 with (fail)
  obtain ⟨W, hW, extW, bx, by_, bz, hz⟩ := box3 w 88 88 26 #[.int .i64 a, .int .i64 b] #[.int .i64 a', .int .i64 b'] #[Value.bool false, Value.slice none 0 0, Value.bool false, Value.slice none 0 0]
  rw [← hW]
  clear hW
  have x0 := bx.cell 0 (.int .i64 a) rfl
  have x1 := bx.cell 1 (.int .i64 b) rfl
  have y0 := by_.cell 0 (.int .i64 a') rfl
  have y1 := by_.cell 1 (.int .i64 b') rfl
  go_wp2_with fail
  refine (p_lowest _ _ hpos (by omega) (by omega)).mono ?_
  rintro e wa ⟨s, A, n, c, t, B, m, d, rfl, hr, hxa⟩
  rw [← Hu3.out] at hr
  have z0 := (bz.ext hxa).cell 0 _ rfl
  have z1 := (bz.ext hxa).cell 1 _ rfl
  have z2 := (bz.ext hxa).cell 2 _ rfl
  have z3 := (bz.ext hxa).cell 3 _ rfl
  have f0 := (bz.ext hxa).frozen 0
  have f1 := (bz.ext hxa).frozen 1
  have f2 := (bz.ext hxa).frozen 2
  have f3 := (bz.ext hxa).frozen 3
  go_wp2_with fail
  rw [← Hu1.out, ← Hu2.out, Hval.out] at hr
  obtain ⟨b1, b2, b3, b4⟩ := fin_quad (s := s) (A := A) (n := n) (c := c) (t := t) (B := B) (m := m) (d := d) (bz.ext hxa)
  have r0 := b1.cell 0 (.bool s) rfl
  have r1 := b1.cell 1 (.slice A n c) rfl
  have r2 := b1.cell 2 (.bool t) rfl
  have r3 := b1.cell 3 (.slice B m d) rfl
  unfold set4 at r0 r1 r2 r3
  refine bodyPost_ret (v := .agg #[.bool s, .slice A n c, .bool t, .slice B m d]) (by simp [results, Tryz.results99, go_sem, r0, r1, r2, r3]) rfl ⟨s, A, n, c, t, B, m, d, rfl, ⟨?_, ?_⟩, b3 _ (extW.trans hxa) (by omega)⟩
  · exact b2 _ _ _ _ _ _ hr.num
  · exact b2 _ _ _ _ _ _ hr.den
end
end Go.Proofs.YtoabhnofppledaaGreatDoor
namespace Go.Proofs.YtoabhnofppledaaGreatDoor
open Go.RowKit
attribute [local go_sem ↓] Go.wp_at_zero Go.wp_at_succ
section
variable {w w' : World} {z y : Int} {q p : Rat} {L M : Nat} {s t s' t' : Bool} {A B A' B' : Option Addr} {n c m d n' c' m' d' : Nat}
theorem rat_add_one {q p : Rat} (h1 : (q.den : Int) = 1) (h2 : (p.den : Int) = 1) : ((q.num + p.num : Int) : Rat) = q + p := by
  have e1 : q.den = 1 := by omega
  have e2 : p.den = 1 := by omega
  rw [Rat.add_def', e1, e2]
  simp [Rat.mkRat_one]
set_option maxHeartbeats 16000000 in
set_option maxRecDepth 100000 in
theorem p_AddR (h : NR w q L s A n c t B m d) (k : NR w p M s' A' n' c' t' B' m' d') (hL : L ≤ 1000) (hM : M ≤ 1000) (h64 : min L M < 64) (hT : Tab w) : Calls Tryz.prog 56 #[.agg #[.bool s, .slice A n c, .bool t, .slice B m d], .agg #[.bool s', .slice A' n' c', .bool t', .slice B' m' d']] w (RetNR (q + p) (L + M + 1) w) := by
  have hL1 := h.pos
  have hM1 := k.pos
  replace hL : L ≤ 1000 := hL
  go_enter Tryz.func56, Tryz.ntmps56
  go_upto_region 1 with (fail)
  obtain ⟨W, hW, extW, bx, by_, bz, hz⟩ := box3 w 26 26 26 #[.bool s, .slice A n c, .bool t, .slice B m d] #[.bool s', .slice A' n' c', .bool t', .slice B' m' d'] #[Value.bool false, Value.slice none 0 0, Value.bool false, Value.slice none 0 0]
  rw [← hW]
  clear hW
  replace h := h.ext extW
  replace k := k.ext extW
  have x0 := bx.cell 0 (.bool s) rfl
  have x1 := bx.cell 1 (.slice A n c) rfl
  have x2 := bx.cell 2 (.bool t) rfl
  have x3 := bx.cell 3 (.slice B m d) rfl
  have y0 := by_.cell 0 (.bool s') rfl
  have y1 := by_.cell 1 (.slice A' n' c') rfl
  have y2 := by_.cell 2 (.bool t') rfl
  have y3 := by_.cell 3 (.slice B' m' d') rfl
  go_wp2_with fail
  refine (p_smallPair h k (by omega) (by omega)).mono ?_
  rintro e wa ⟨a1, a2, c1, c2, ok, rfl, hok, hxa⟩
  have Hok := Lib.hid hok
  clear hok
  clear x0 x1 x2 x3
  clear y0 y1 y2 y3
  go_upto_region 2 with (fail)
  refine at_world (fun V => Ext W V ∧ Box V wa.heap.size 88 #[.int .i64 a1, .int .i64 a2] ∧ Box V (wa.heap.size + 1) 88 #[.int .i64 c1, .int .i64 c2]) ?_ ?_
  · obtain ⟨e1, e2, e3⟩ := two_new wa 88 #[.int .i64 a1, .int .i64 a2] #[.int .i64 c1, .int .i64 c2]
    exact ⟨hxa.trans e1, e2, e3⟩
  generalize wa.heap.size = g5
  clear hxa
  rintro V ⟨EV, b5, b6⟩
  replace bx := bx.ext EV
  replace by_ := by_.ext EV
  replace bz := bz.ext EV
  replace h := h.ext EV
  replace k := k.ext EV
  replace extW := extW.trans EV
  clear EV
  cases ok with
  | true =>
    obtain ⟨sm1, sm2⟩ := Hok.out (by first | rfl | trivial)
    have j0 := b5.cell 0 (.int .i64 a1) rfl
    have j1 := b5.cell 1 (.int .i64 a2) rfl
    have j2 := b6.cell 0 (.int .i64 c1) rfl
    have j3 := b6.cell 1 (.int .i64 c2) rfl
    go_wp2_with fail
    refine (p_plus sm1 sm2).mono ?_
    rintro e wb ⟨s1, A1, n1, c1', t1, B1, m1, d1, rfl, hr, hxb⟩
    have z0 := (bz.ext hxb).cell 0 _ rfl
    have z1 := (bz.ext hxb).cell 1 _ rfl
    have z2 := (bz.ext hxb).cell 2 _ rfl
    have z3 := (bz.ext hxb).cell 3 _ rfl
    have f0 := (bz.ext hxb).frozen 0
    have f1 := (bz.ext hxb).frozen 1
    have f2 := (bz.ext hxb).frozen 2
    have f3 := (bz.ext hxb).frozen 3
    go_wp2_with fail
    obtain ⟨b1, b2, b3, b4⟩ := fin_quad (s := s1) (A := A1) (n := n1) (c := c1') (t := t1) (B := B1) (m := m1) (d := d1) (bz.ext hxb)
    have r0 := b1.cell 0 (.bool s1) rfl
    have r1 := b1.cell 1 (.slice A1 n1 c1') rfl
    have r2 := b1.cell 2 (.bool t1) rfl
    have r3 := b1.cell 3 (.slice B1 m1 d1) rfl
    unfold set4 at r0 r1 r2 r3
    refine bodyPost_ret (v := .agg #[.bool s1, .slice A1 n1 c1', .bool t1, .slice B1 m1 d1]) (by simp [results, Tryz.results56, go_sem, r0, r1, r2, r3]) rfl ⟨s1, A1, n1, c1', t1, B1, m1, d1, rfl, ⟨?_, ?_⟩, b3 _ (extW.trans hxb) (by omega)⟩
    · exact (b2 _ _ _ _ _ _ hr.num).le (by omega)
    · exact (b2 _ _ _ _ _ _ hr.den).le (by omega)
  | false =>
    have x2 := bx.cell 2 (.bool t) rfl
    have x3 := bx.cell 3 (.slice B m d) rfl
    go_wp2_with fail
    refine (p_isOne h.den).mono ?_
    rintro e wb ⟨rfl, hxb⟩
    replace bx := bx.ext hxb
    replace by_ := by_.ext hxb
    replace bz := bz.ext hxb
    replace h := h.ext hxb
    replace k := k.ext hxb
    replace extW := extW.trans hxb
    clear hxb x2 x3
    by_cases h1 : (q.den : Int) = 1
    · rw [decide_eq_true h1]
      have H1 := Lib.hid h1
      clear h1
      have y2 := by_.cell 2 (.bool t') rfl
      have y3 := by_.cell 3 (.slice B' m' d') rfl
      go_wp2_with fail
      refine (p_isOne k.den).mono ?_
      rintro e V0 ⟨rfl, hxc⟩
      replace bx := bx.ext hxc
      replace by_ := by_.ext hxc
      replace bz := bz.ext hxc
      replace h := h.ext hxc
      replace k := k.ext hxc
      replace extW := extW.trans hxc
      clear hxc y2 y3
      by_cases h2 : (p.den : Int) = 1
      · rw [decide_eq_true h2]
        have H2 := Lib.hid h2
        clear h2
        have x0 := bx.cell 0 (.bool s) rfl
        have x1 := bx.cell 1 (.slice A n c) rfl
        have y0 := by_.cell 0 (.bool s') rfl
        have y1 := by_.cell 1 (.slice A' n' c') rfl
        go_wp2_with fail
        refine (p_Add h.num k.num (by omega) (by omega)).mono ?_
        rintro e we ⟨s1, A1, n1, c1', rfl, hn1, hxe⟩
        go_wp2_with fail
        refine (p_whole hn1).mono ?_
        rintro e wf ⟨s2, A2, n2, c2', t2, B2, m2, d2, rfl, hr, hxf⟩
        have hE := hxe.trans hxf
        have z0 := (bz.ext hE).cell 0 _ rfl
        have z1 := (bz.ext hE).cell 1 _ rfl
        have z2 := (bz.ext hE).cell 2 _ rfl
        have z3 := (bz.ext hE).cell 3 _ rfl
        have f0 := (bz.ext hE).frozen 0
        have f1 := (bz.ext hE).frozen 1
        have f2 := (bz.ext hE).frozen 2
        have f3 := (bz.ext hE).frozen 3
        go_wp2_with fail
        have hqp : ((q.num + p.num : Int) : Rat) = q + p := rat_add_one H1.out H2.out
        rw [hqp] at hr
        obtain ⟨b1, b2, b3, b4⟩ := fin_quad (s := s2) (A := A2) (n := n2) (c := c2') (t := t2) (B := B2) (m := m2) (d := d2) (bz.ext hE)
        have r0 := b1.cell 0 (.bool s2) rfl
        have r1 := b1.cell 1 (.slice A2 n2 c2') rfl
        have r2 := b1.cell 2 (.bool t2) rfl
        have r3 := b1.cell 3 (.slice B2 m2 d2) rfl
        unfold set4 at r0 r1 r2 r3
        refine bodyPost_ret (v := .agg #[.bool s2, .slice A2 n2 c2', .bool t2, .slice B2 m2 d2]) (by simp [results, Tryz.results56, go_sem, r0, r1, r2, r3]) rfl ⟨s2, A2, n2, c2', t2, B2, m2, d2, rfl, ⟨?_, ?_⟩, b3 _ (extW.trans hE) (by omega)⟩
        · exact (b2 _ _ _ _ _ _ hr.num).le (by omega)
        · exact (b2 _ _ _ _ _ _ hr.den).le (by omega)
      · rw [decide_eq_false h2]
        clear h2
        have x0 := bx.cell 0 (.bool s) rfl
        have x1 := bx.cell 1 (.slice A n c) rfl
        have x2 := bx.cell 2 (.bool t) rfl
        have x3 := bx.cell 3 (.slice B m d) rfl
        have y0 := by_.cell 0 (.bool s') rfl
        have y1 := by_.cell 1 (.slice A' n' c') rfl
        have y2 := by_.cell 2 (.bool t') rfl
        have y3 := by_.cell 3 (.slice B' m' d') rfl
        go_wp2_with fail
        refine (p_GCD h.den k.den (by omega) (by omega) (hT.ext extW)).mono ?_
        rintro e we ⟨s1, A1, n1, c1', rfl, hg, hxe⟩
        rw [Int.natAbs_natCast, Int.natAbs_natCast] at hg
        obtain ⟨g, hge⟩ : ∃ g, Nat.gcd q.den p.den = g := ⟨_, rfl⟩
        rw [hge] at hg
        have hgq : g ∣ q.den := by rw [← hge]; exact Nat.gcd_dvd_left _ _
        have hgp : g ∣ p.den := by rw [← hge]; exact Nat.gcd_dvd_right _ _
        have hg0 : (g : Int) ≠ 0 := by
          intro h0
          have : g = 0 := by omega
          rw [this] at hgq
          have := Nat.eq_zero_of_zero_dvd hgq
          exact q.den_nz this
        have Hge := Lib.hid hge.symm
        have Hg0 := Lib.hid hg0
        have Hgq := Lib.hid (Int.ofNat_dvd.2 hgq)
        have Hgp := Lib.hid (Int.ofNat_dvd.2 hgp)
        clear hge hg0 hgq hgp
        clear x0 x1 x2 x3
        clear y0 y1 y2 y3
        go_upto_region 7 with (fail)
        refine at_world (fun V7 => Ext V0 V7 ∧ Box V7 we.heap.size 24 #[.bool s1, .slice A1 n1 c1'] ∧ NI V7 (g : Int) (max L M) s1 A1 n1 c1') ⟨hxe.alloc _, Box.new we _ _, hg.ext ((Ext.refl we).alloc _)⟩ ?_
        generalize we.heap.size = g8
        clear hxe hg
        rintro V7 ⟨EV, b8, hg⟩
        replace bx := bx.ext EV
        replace by_ := by_.ext EV
        replace bz := bz.ext EV
        replace h := h.ext EV
        replace k := k.ext EV
        replace extW := extW.trans EV
        clear EV
        have x0 := bx.cell 0 (.bool s) rfl
        have x1 := bx.cell 1 (.slice A n c) rfl
        have x2 := bx.cell 2 (.bool t) rfl
        have x3 := bx.cell 3 (.slice B m d) rfl
        have j0 := b8.cell 0 (.bool s1) rfl
        have j1 := b8.cell 1 (.slice A1 n1 c1') rfl
        go_wp2_with fail
        refine (p_divide h.den hg (by omega) (by omega) Hg0.out Hgq.out).mono ?_
        rintro e wf ⟨s2, A2, n2, c2', rfl, hD1, hxf⟩
        clear x0 x1 x2 x3
        clear j0 j1
        go_upto_region 8 with (fail)
        refine at_world (fun V9 => Ext V7 V9 ∧ Box V9 wf.heap.size 24 #[.bool s2, .slice A2 n2 c2'] ∧ NI V9 ((q.den : Int) / (g : Int)) L s2 A2 n2 c2') ⟨hxf.alloc _, Box.new wf _ _, hD1.ext ((Ext.refl wf).alloc _)⟩ ?_
        generalize wf.heap.size = g9
        clear hxf hD1
        rintro V9 ⟨EV, b9, hD1⟩
        replace bx := bx.ext EV
        replace by_ := by_.ext EV
        replace bz := bz.ext EV
        replace b8 := b8.ext EV
        replace h := h.ext EV
        replace k := k.ext EV
        replace hg := hg.ext EV
        replace extW := extW.trans EV
        clear EV
        go_wp2_with fail
        have ES0 := Ext.refl V9
        refine wp_region_held_drew (S := Ext V9) (by kernel_rfl) ES0.drew (fun ES => ?_)
        clear ES0
        refine Late.start1 (x := ⟨12, 10, 24, #[Value.bool false, Value.slice none 0 0]⟩) (n := 13) ⟨_, rfl, rfl, rfl, fun a w => by go_simp⟩ (fun _ _ _ _ _ => ⟨fun h => h, fun h => h⟩) ES rfl (fun hAl hQ => ?_)
        refine Late.take (i := 0) (d := some 46) (v := ?v0_14a) rfl rfl (by kernel_rfl) (by kernel_rfl) (by kernel_rfl) (by kernel_rfl) hQ (Or.inl ⟨by rfl, ?y0_14a⟩) ?r0_14a
        case y0_14a =>
          intro w' hSw
          have k00 := (bx.ext hSw).c4
          have k10 := (by_.ext hSw).c4
          have k20 := (b8.ext hSw).c2
          have k30 := (b9.ext hSw).c2
          go_simp
          try with_reducible rfl
        try simp only [Act.put]
        try simp only [List.setIfInBounds_toArray]
        try simp only [List.set_cons_succ]
        try simp only [List.set_cons_zero]
        refine Late.take (i := 2) (d := some 48) (v := ?v2_15a) rfl rfl (by kernel_rfl) (by kernel_rfl) (by kernel_rfl) (by kernel_rfl) hQ (Or.inl ⟨by rfl, ?y2_15a⟩) ?r2_15a
        case y2_15a =>
          intro w' hSw
          have k00 := (bx.ext hSw).c4
          have k10 := (by_.ext hSw).c4
          have k20 := (b8.ext hSw).c2
          have k30 := (b9.ext hSw).c2
          go_simp
          try with_reducible rfl
        try simp only [Act.put]
        try simp only [List.setIfInBounds_toArray]
        try simp only [List.set_cons_succ]
        try simp only [List.set_cons_zero]
        refine Late.take (i := 4) (d := some 50) (v := ?v4_16a) rfl rfl (by kernel_rfl) (by kernel_rfl) (by kernel_rfl) (by kernel_rfl) hQ (Or.inl ⟨by rfl, ?y4_16a⟩) ?r4_16a
        case y4_16a =>
          intro w' hSw
          have k00 := (bx.ext hSw).c4
          have k10 := (by_.ext hSw).c4
          have k20 := (b8.ext hSw).c2
          have k30 := (b9.ext hSw).c2
          go_simp
          try with_reducible rfl
        try simp only [Act.put]
        try simp only [List.setIfInBounds_toArray]
        try simp only [List.set_cons_succ]
        try simp only [List.set_cons_zero]
        refine Late.take (i := 7) (d := some 53) (v := ?v7_17a) rfl rfl (by kernel_rfl) (by kernel_rfl) (by kernel_rfl) (by kernel_rfl) hQ (Or.inl ⟨by rfl, ?y7_17a⟩) ?r7_17a
        case y7_17a =>
          intro w' hSw
          have k00 := (bx.ext hSw).c4
          have k10 := (by_.ext hSw).c4
          have k20 := (b8.ext hSw).c2
          have k30 := (b9.ext hSw).c2
          go_simp
          try with_reducible rfl
        try simp only [Act.put]
        try simp only [List.setIfInBounds_toArray]
        try simp only [List.set_cons_succ]
        try simp only [List.set_cons_zero]
        refine Late.take (i := 9) (d := some 55) (v := ?v9_18a) rfl rfl (by kernel_rfl) (by kernel_rfl) (by kernel_rfl) (by kernel_rfl) hQ (Or.inl ⟨by rfl, ?y9_18a⟩) ?r9_18a
        case y9_18a =>
          intro w' hSw
          have k00 := (bx.ext hSw).c4
          have k10 := (by_.ext hSw).c4
          have k20 := (b8.ext hSw).c2
          have k30 := (b9.ext hSw).c2
          go_simp
          try with_reducible rfl
        try simp only [Act.put]
        try simp only [List.setIfInBounds_toArray]
        try simp only [List.set_cons_succ]
        try simp only [List.set_cons_zero]
        refine Late.take (i := 1) (d := some 47) (v := ?v1_19a) rfl rfl (by kernel_rfl) (by kernel_rfl) (by kernel_rfl) (by kernel_rfl) hQ (Or.inl ⟨by rfl, ?y1_19a⟩) ?r1_19a
        case y1_19a =>
          intro w' hSw
          have k00 := (bx.ext hSw).c4
          have k10 := (by_.ext hSw).c4
          have k20 := (b8.ext hSw).c2
          have k30 := (b9.ext hSw).c2
          go_simp
          try with_reducible rfl
        try simp only [Act.put]
        try simp only [List.setIfInBounds_toArray]
        try simp only [List.set_cons_succ]
        try simp only [List.set_cons_zero]
        refine Late.take (i := 3) (d := some 49) (v := ?v3_20a) rfl rfl (by kernel_rfl) (by kernel_rfl) (by kernel_rfl) (by kernel_rfl) hQ (Or.inl ⟨by rfl, ?y3_20a⟩) ?r3_20a
        case y3_20a =>
          intro w' hSw
          have k00 := (bx.ext hSw).c4
          have k10 := (by_.ext hSw).c4
          have k20 := (b8.ext hSw).c2
          have k30 := (b9.ext hSw).c2
          go_simp
          try with_reducible rfl
        try simp only [Act.put]
        try simp only [List.setIfInBounds_toArray]
        try simp only [List.set_cons_succ]
        try simp only [List.set_cons_zero]
        refine Late.take (i := 8) (d := some 54) (v := ?v8_21a) rfl rfl (by kernel_rfl) (by kernel_rfl) (by kernel_rfl) (by kernel_rfl) hQ (Or.inl ⟨by rfl, ?y8_21a⟩) ?r8_21a
        case y8_21a =>
          intro w' hSw
          have k00 := (bx.ext hSw).c4
          have k10 := (by_.ext hSw).c4
          have k20 := (b8.ext hSw).c2
          have k30 := (b9.ext hSw).c2
          go_simp
          try with_reducible rfl
        try simp only [Act.put]
        try simp only [List.setIfInBounds_toArray]
        try simp only [List.set_cons_succ]
        try simp only [List.set_cons_zero]
        refine Late.call (i := 5) rfl (by kernel_rfl) hAl (by kernel_rfl) (by kernel_rfl) (by kernel_rfl) hQ (fun w5 e5 E5 K hK => ?_)
        go_simp
        (go_at_call 102; refine (p_divide (k.den.ext E5) (hg.ext E5) (by omega) (by omega) Hg0.out Hgp.out).mono ?_; rintro e wk1 ⟨s1x, A1x, n1x, c1x, rfl, h1, hx5⟩)
        refine hK.out _ _ hx5 ?_
        clear hK K
        try simp only [Act.put]
        try simp only [List.setIfInBounds_toArray]
        try simp only [List.set_cons_succ]
        try simp only [List.set_cons_zero]
        refine Late.call (i := 6) rfl (by kernel_rfl) hAl (by kernel_rfl) (by kernel_rfl) (by kernel_rfl) hQ (fun w6 e6 E6 K hK => ?_)
        go_simp
        (go_at_call 94; refine (p_Mul (h.num.ext E6) (h1.ext e6) (by omega) (by omega) (by omega)).mono ?_; rintro e wk2 ⟨s2x, A2x, n2x, c2x, rfl, h2, hx6⟩)
        refine hK.out _ _ hx6 ?_
        clear hK K
        try simp only [Act.put]
        try simp only [List.setIfInBounds_toArray]
        try simp only [List.set_cons_succ]
        try simp only [List.set_cons_zero]
        refine Late.call (i := 10) rfl (by kernel_rfl) hAl (by kernel_rfl) (by kernel_rfl) (by kernel_rfl) hQ (fun w10 e10 E10 K hK => ?_)
        go_simp
        (go_at_call 94; refine (p_Mul (k.num.ext E10) (hD1.ext E10) (by omega) (by omega) (by omega)).mono ?_; rintro e wk3 ⟨s3, A3, n3, c3, rfl, h3, hx10⟩)
        refine hK.out _ _ hx10 ?_
        clear hK K
        try simp only [Act.put]
        try simp only [List.setIfInBounds_toArray]
        try simp only [List.set_cons_succ]
        try simp only [List.set_cons_zero]
        refine Late.call (i := 11) rfl (by kernel_rfl) hAl (by kernel_rfl) (by kernel_rfl) (by kernel_rfl) hQ (fun w11 e11 E11 K hK => ?_)
        go_simp
        (go_at_call 101; refine (p_Add (h2.ext (e10.trans (hx10.trans e11))) (h3.ext e11) (by omega) (by omega)).mono ?_; rintro e wk4 ⟨s4, A4, n4, c4, rfl, h4, hx11⟩)
        refine hK.out _ _ hx11 ?_
        clear hK K
        try simp only [Act.put]
        try simp only [List.setIfInBounds_toArray]
        try simp only [List.set_cons_succ]
        try simp only [List.set_cons_zero]
        refine Late.finish1 (hAl _ (by simp)) (by kernel_rfl) (fun wz g10 ez Ez lg5 xb1 => ?_)
        clear hAl hQ ES
        have f10 := xb1.cell 0 (Value.bool false) rfl
        have f11 := xb1.cell 1 (Value.slice none 0 0) rfl
        have f12 := xb1.frozen 0
        have f13 := xb1.frozen 1
        have e4 := fin_dual (s := s4) (A := A4) (n := n4) (c := c4) xb1
        try simp only [Act.put]
        try simp only [List.setIfInBounds_toArray]
        try simp only [List.set_cons_succ]
        try simp only [List.set_cons_zero]
        refine wpAnyH_ready (rs := [13]) (by kernel_rfl) (by simp) (AllReadyH.cons rfl (fun K hK => ?_) AllReadyH.nil)
        go_simp
        refine hK.out _ _ (e4.2.2.1 _ Ez lg5) (fun _ => ?_)
        clear hK K
        try simp only [Act.put]
        try simp only [List.setIfInBounds_toArray]
        try simp only [List.set_cons_succ]
        try simp only [List.set_cons_zero]
        refine any_world (fun U => Ext V9 U ∧ Box U g10 24 #[.bool s4, .slice A4 n4 c4] ∧ NI U (q.num * ((p.den : Int) / (g : Int)) + p.num * ((q.den : Int) / (g : Int))) (L + M + 1) s4 A4 n4 c4) ⟨e4.2.2.1 _ Ez lg5, e4.1, (e4.2.1 _ _ _ _ _ _ (h4.ext ez)).le (by omega)⟩ ?_
        clear e4 f10 f11 f12 f13 xb1 lg5
        rintro U ⟨EU, b10, hS⟩
        refine wpAnyH_done (by kernel_rfl) ?_ _
        replace bx := bx.ext EU
        replace by_ := by_.ext EU
        replace bz := bz.ext EU
        replace b8 := b8.ext EU
        replace b9 := b9.ext EU
        replace h := h.ext EU
        replace k := k.ext EU
        replace hg := hg.ext EU
        replace hD1 := hD1.ext EU
        replace extW := extW.trans EU
        clear EU Ez ez
        have j0 := b10.cell 0 (.bool s4) rfl
        have j1 := b10.cell 1 (.slice A4 n4 c4) rfl
        have j2 := b8.cell 0 (.bool s1) rfl
        have j3 := b8.cell 1 (.slice A1 n1 c1') rfl
        go_wp2_with fail
        refine (p_GCD hS hg (by omega) (by omega) (hT.ext extW)).mono ?_
        rintro e wg ⟨s5, A5, n5, c5, rfl, hr, hxg⟩
        rw [Int.natAbs_natCast] at hr
        clear j0 j1 j2 j3
        obtain ⟨S, hSe⟩ : ∃ S : Int, q.num * ((p.den : Int) / (g : Int)) + p.num * ((q.den : Int) / (g : Int)) = S := ⟨_, rfl⟩
        rw [hSe] at hS hr
        obtain ⟨r, hre⟩ : ∃ r, Nat.gcd S.natAbs g = r := ⟨_, rfl⟩
        rw [hre] at hr
        obtain ⟨q1, q2, q3, q4⟩ := rat_add q p (S := S) (r := r) Hge.out rfl rfl (by rw [← hSe]; simp) hre.symm
        have Hq1 := Lib.hid q1
        have Hq2 := Lib.hid q2
        have Hr0 := Lib.hid (show (r : Int) ≠ 0 by omega)
        have Hrp := Lib.hid (Int.ofNat_dvd.2 q3)
        have HrS := Lib.hid (show (r : Int) ∣ S from Int.ofNat_dvd_left.2 (by rw [← hre]; exact Nat.gcd_dvd_left _ _))
        clear q1 q2 q3 q4 hre hSe
        go_upto_region 10 with (fail)
        refine at_world (fun Z9 => Ext U Z9 ∧ Box Z9 wg.heap.size 24 #[.bool s5, .slice A5 n5 c5] ∧ NI Z9 (r : Int) (max (L + M + 1) (max L M)) s5 A5 n5 c5) ⟨hxg.alloc _, Box.new wg _ _, hr.ext ((Ext.refl wg).alloc _)⟩ ?_
        generalize wg.heap.size = g11
        clear hxg hr
        rintro Z9 ⟨EV, b11, hr⟩
        replace bx := bx.ext EV
        replace by_ := by_.ext EV
        replace bz := bz.ext EV
        replace b9 := b9.ext EV
        replace b10 := b10.ext EV
        replace h := h.ext EV
        replace k := k.ext EV
        replace hD1 := hD1.ext EV
        replace hS := hS.ext EV
        replace extW := extW.trans EV
        clear EV
        go_wp2_with fail
        refine wpL.start 10 (by kernel_rfl) (fun _ _ _ _ _ => ⟨fun h => h, fun h => h⟩) (fun hQ ES => ?_)
        refine wpL.take (i := 0) (d := some 61) (v := ?v0_22a) rfl rfl (by kernel_rfl) (by kernel_rfl) (by kernel_rfl) (by kernel_rfl) hQ (Or.inl ⟨by rfl, ?y0_22a⟩) ES ?r0_22a
        case y0_22a =>
          intro w' hSw
          have k00 := (b9.ext hSw).c2
          have k10 := (b10.ext hSw).c2
          have k20 := (b11.ext hSw).c2
          have k30 := (by_.ext hSw).c4
          go_simp
          try with_reducible rfl
        try simp only [Act.put]
        try simp only [List.setIfInBounds_toArray]
        try simp only [List.set_cons_succ]
        try simp only [List.set_cons_zero]
        refine wpL.take (i := 1) (d := some 62) (v := ?v1_23a) rfl rfl (by kernel_rfl) (by kernel_rfl) (by kernel_rfl) (by kernel_rfl) hQ (Or.inl ⟨by rfl, ?y1_23a⟩) ES ?r1_23a
        case y1_23a =>
          intro w' hSw
          have k00 := (b9.ext hSw).c2
          have k10 := (b10.ext hSw).c2
          have k20 := (b11.ext hSw).c2
          have k30 := (by_.ext hSw).c4
          go_simp
          try with_reducible rfl
        try simp only [Act.put]
        try simp only [List.setIfInBounds_toArray]
        try simp only [List.set_cons_succ]
        try simp only [List.set_cons_zero]
        refine wpL.take (i := 3) (d := some 64) (v := ?v3_24a) rfl rfl (by kernel_rfl) (by kernel_rfl) (by kernel_rfl) (by kernel_rfl) hQ (Or.inl ⟨by rfl, ?y3_24a⟩) ES ?r3_24a
        case y3_24a =>
          intro w' hSw
          have k00 := (b9.ext hSw).c2
          have k10 := (b10.ext hSw).c2
          have k20 := (b11.ext hSw).c2
          have k30 := (by_.ext hSw).c4
          go_simp
          try with_reducible rfl
        try simp only [Act.put]
        try simp only [List.setIfInBounds_toArray]
        try simp only [List.set_cons_succ]
        try simp only [List.set_cons_zero]
        refine wpL.take (i := 4) (d := some 65) (v := ?v4_25a) rfl rfl (by kernel_rfl) (by kernel_rfl) (by kernel_rfl) (by kernel_rfl) hQ (Or.inl ⟨by rfl, ?y4_25a⟩) ES ?r4_25a
        case y4_25a =>
          intro w' hSw
          have k00 := (b9.ext hSw).c2
          have k10 := (b10.ext hSw).c2
          have k20 := (b11.ext hSw).c2
          have k30 := (by_.ext hSw).c4
          go_simp
          try with_reducible rfl
        try simp only [Act.put]
        try simp only [List.setIfInBounds_toArray]
        try simp only [List.set_cons_succ]
        try simp only [List.set_cons_zero]
        refine wpL.take (i := 6) (d := some 67) (v := ?v6_26a) rfl rfl (by kernel_rfl) (by kernel_rfl) (by kernel_rfl) (by kernel_rfl) hQ (Or.inl ⟨by rfl, ?y6_26a⟩) ES ?r6_26a
        case y6_26a =>
          intro w' hSw
          have k00 := (b9.ext hSw).c2
          have k10 := (b10.ext hSw).c2
          have k20 := (b11.ext hSw).c2
          have k30 := (by_.ext hSw).c4
          go_simp
          try with_reducible rfl
        try simp only [Act.put]
        try simp only [List.setIfInBounds_toArray]
        try simp only [List.set_cons_succ]
        try simp only [List.set_cons_zero]
        refine wpL.take (i := 5) (d := some 66) (v := ?v5_27a) rfl rfl (by kernel_rfl) (by kernel_rfl) (by kernel_rfl) (by kernel_rfl) hQ (Or.inl ⟨by rfl, ?y5_27a⟩) ES ?r5_27a
        case y5_27a =>
          intro w' hSw
          have k00 := (b9.ext hSw).c2
          have k10 := (b10.ext hSw).c2
          have k20 := (b11.ext hSw).c2
          have k30 := (by_.ext hSw).c4
          go_simp
          try with_reducible rfl
        try simp only [Act.put]
        try simp only [List.setIfInBounds_toArray]
        try simp only [List.set_cons_succ]
        try simp only [List.set_cons_zero]
        refine wpL.call (i := 2) rfl (by kernel_rfl) (fun K hK => ?_)
        go_simp
        (go_at_call 102; refine (p_divide (hS.ext ES) (hr.ext ES) (by omega) (by omega) Hr0.out HrS.out).mono ?_; rintro e wk1 ⟨s1x, A1x, n1x, c1x, rfl, h1, hx0⟩; have E0_10 := Ext.trans ES hx0)
        refine hK.out _ _ E0_10 ?_
        clear hK K
        try simp only [Act.put]
        try simp only [List.setIfInBounds_toArray]
        try simp only [List.set_cons_succ]
        try simp only [List.set_cons_zero]
        refine wpL.call (i := 7) rfl (by kernel_rfl) (fun K hK => ?_)
        go_simp
        (go_at_call 102; refine (p_divide (k.den.ext E0_10) (hr.ext E0_10) (by omega) (by omega) Hr0.out Hrp.out).mono ?_; rintro e wk2 ⟨s2x, A2x, n2x, c2x, rfl, h2, hx1⟩; have E1_10 := Ext.trans E0_10 hx1)
        refine hK.out _ _ E1_10 ?_
        clear hK K
        try simp only [Act.put]
        try simp only [List.setIfInBounds_toArray]
        try simp only [List.set_cons_succ]
        try simp only [List.set_cons_zero]
        refine wpL.call (i := 8) rfl (by kernel_rfl) (fun K hK => ?_)
        go_simp
        (go_at_call 94; refine (p_Mul (hD1.ext E1_10) (h2) (by omega) (by omega) h64).mono ?_; rintro e wk3 ⟨s3, A3, n3, c3, rfl, h3, hx2⟩; have E2_10 := Ext.trans E1_10 hx2)
        refine hK.out _ _ E2_10 ?_
        clear hK K
        try simp only [Act.put]
        try simp only [List.setIfInBounds_toArray]
        try simp only [List.set_cons_succ]
        try simp only [List.set_cons_zero]
        refine wpL.take (i := 9) (d := some 70) (v := ?v9_28a) rfl rfl (by kernel_rfl) (by kernel_rfl) (by kernel_rfl) (by kernel_rfl) hQ (Or.inl ⟨by rfl, ?y9_28a⟩) E2_10 ?r9_28a
        case y9_28a =>
          intro w' hSw
          have k00 := (b9.ext hSw).c2
          have k10 := (b10.ext hSw).c2
          have k20 := (b11.ext hSw).c2
          have k30 := (by_.ext hSw).c4
          go_simp
          try with_reducible rfl
        try simp only [Act.put]
        try simp only [List.setIfInBounds_toArray]
        try simp only [List.set_cons_succ]
        try simp only [List.set_cons_zero]
        have z0 := (bz.ext E2_10).cell 0 _ rfl
        have z1 := (bz.ext E2_10).cell 1 _ rfl
        have z2 := (bz.ext E2_10).cell 2 _ rfl
        have z3 := (bz.ext E2_10).cell 3 _ rfl
        have f0 := (bz.ext E2_10).frozen 0
        have f1 := (bz.ext E2_10).frozen 1
        have f2 := (bz.ext E2_10).frozen 2
        have f3 := (bz.ext E2_10).frozen 3
        refine wpL.tail (i := 10) rfl (by kernel_rfl) (by kernel_rfl) (fun K hK => ?_)
        go_simp
        refine hK.out _ _ ?_
        clear hK K
        try simp only [Act.put]
        try simp only [List.setIfInBounds_toArray]
        try simp only [List.set_cons_succ]
        try simp only [List.set_cons_zero]
        refine wpL.done (by kernel_rfl) ?_ _
        clear hQ
        go_wp2_with fail
        have hk1 : ((q.den : Int) / (g : Int)) * ((p.den : Int) / (r : Int)) = ((q + p).den : Int) := by rw [Hq2.out]; simp
        rw [hk1] at h3
        rw [← Hq1.out] at h1
        obtain ⟨b1, b2, b3, b4⟩ := fin_quad (s := s1x) (A := A1x) (n := n1x) (c := c1x) (t := s3) (B := A3) (m := n3) (d := c3) (bz.ext E2_10)
        have r0 := b1.cell 0 (.bool s1x) rfl
        have r1 := b1.cell 1 (.slice A1x n1x c1x) rfl
        have r2 := b1.cell 2 (.bool s3) rfl
        have r3 := b1.cell 3 (.slice A3 n3 c3) rfl
        unfold set4 at r0 r1 r2 r3
        refine bodyPost_ret (v := .agg #[.bool s1x, .slice A1x n1x c1x, .bool s3, .slice A3 n3 c3]) (by simp [results, Tryz.results56, go_sem, r0, r1, r2, r3]) rfl ⟨s1x, A1x, n1x, c1x, s3, A3, n3, c3, rfl, ⟨?_, ?_⟩, b3 _ (extW.trans E2_10) (by omega)⟩
        · exact (b2 _ _ _ _ _ _ (h1.ext (hx1.trans hx2))).le (by omega)
        · exact (b2 _ _ _ _ _ _ h3).le (by omega)
    · rw [decide_eq_false h1]
      clear h1
      have x0 := bx.cell 0 (.bool s) rfl
      have x1 := bx.cell 1 (.slice A n c) rfl
      have x2 := bx.cell 2 (.bool t) rfl
      have x3 := bx.cell 3 (.slice B m d) rfl
      have y0 := by_.cell 0 (.bool s') rfl
      have y1 := by_.cell 1 (.slice A' n' c') rfl
      have y2 := by_.cell 2 (.bool t') rfl
      have y3 := by_.cell 3 (.slice B' m' d') rfl
      go_wp2_with fail
      refine (p_GCD h.den k.den (by omega) (by omega) (hT.ext extW)).mono ?_
      rintro e we ⟨s1, A1, n1, c1', rfl, hg, hxe⟩
      rw [Int.natAbs_natCast, Int.natAbs_natCast] at hg
      obtain ⟨g, hge⟩ : ∃ g, Nat.gcd q.den p.den = g := ⟨_, rfl⟩
      rw [hge] at hg
      have hgq : g ∣ q.den := by rw [← hge]; exact Nat.gcd_dvd_left _ _
      have hgp : g ∣ p.den := by rw [← hge]; exact Nat.gcd_dvd_right _ _
      have hg0 : (g : Int) ≠ 0 := by
        intro h0
        have : g = 0 := by omega
        rw [this] at hgq
        have := Nat.eq_zero_of_zero_dvd hgq
        exact q.den_nz this
      have Hge := Lib.hid hge.symm
      have Hg0 := Lib.hid hg0
      have Hgq := Lib.hid (Int.ofNat_dvd.2 hgq)
      have Hgp := Lib.hid (Int.ofNat_dvd.2 hgp)
      clear hge hg0 hgq hgp
      clear x0 x1 x2 x3
      clear y0 y1 y2 y3
      go_upto_region 7 with (fail)
      refine at_world (fun V7 => Ext wb V7 ∧ Box V7 we.heap.size 24 #[.bool s1, .slice A1 n1 c1'] ∧ NI V7 (g : Int) (max L M) s1 A1 n1 c1') ⟨hxe.alloc _, Box.new we _ _, hg.ext ((Ext.refl we).alloc _)⟩ ?_
      generalize we.heap.size = g8
      clear hxe hg
      rintro V7 ⟨EV, b8, hg⟩
      replace bx := bx.ext EV
      replace by_ := by_.ext EV
      replace bz := bz.ext EV
      replace h := h.ext EV
      replace k := k.ext EV
      replace extW := extW.trans EV
      clear EV
      have x0 := bx.cell 0 (.bool s) rfl
      have x1 := bx.cell 1 (.slice A n c) rfl
      have x2 := bx.cell 2 (.bool t) rfl
      have x3 := bx.cell 3 (.slice B m d) rfl
      have j0 := b8.cell 0 (.bool s1) rfl
      have j1 := b8.cell 1 (.slice A1 n1 c1') rfl
      go_wp2_with fail
      refine (p_divide h.den hg (by omega) (by omega) Hg0.out Hgq.out).mono ?_
      rintro e wf ⟨s2, A2, n2, c2', rfl, hD1, hxf⟩
      clear x0 x1 x2 x3
      clear j0 j1
      go_upto_region 8 with (fail)
      refine at_world (fun V9 => Ext V7 V9 ∧ Box V9 wf.heap.size 24 #[.bool s2, .slice A2 n2 c2'] ∧ NI V9 ((q.den : Int) / (g : Int)) L s2 A2 n2 c2') ⟨hxf.alloc _, Box.new wf _ _, hD1.ext ((Ext.refl wf).alloc _)⟩ ?_
      generalize wf.heap.size = g9
      clear hxf hD1
      rintro V9 ⟨EV, b9, hD1⟩
      replace bx := bx.ext EV
      replace by_ := by_.ext EV
      replace bz := bz.ext EV
      replace b8 := b8.ext EV
      replace h := h.ext EV
      replace k := k.ext EV
      replace hg := hg.ext EV
      replace extW := extW.trans EV
      clear EV
      go_wp2_with fail
      have ES0 := Ext.refl V9
      refine wp_region_held_drew (S := Ext V9) (by kernel_rfl) ES0.drew (fun ES => ?_)
      clear ES0
      refine Late.start1 (x := ⟨12, 10, 24, #[Value.bool false, Value.slice none 0 0]⟩) (n := 13) ⟨_, rfl, rfl, rfl, fun a w => by go_simp⟩ (fun _ _ _ _ _ => ⟨fun h => h, fun h => h⟩) ES rfl (fun hAl hQ => ?_)
      refine Late.take (i := 0) (d := some 46) (v := ?v0_14b) rfl rfl (by kernel_rfl) (by kernel_rfl) (by kernel_rfl) (by kernel_rfl) hQ (Or.inl ⟨by rfl, ?y0_14b⟩) ?r0_14b
      case y0_14b =>
        intro w' hSw
        have k00 := (bx.ext hSw).c4
        have k10 := (by_.ext hSw).c4
        have k20 := (b8.ext hSw).c2
        have k30 := (b9.ext hSw).c2
        go_simp
        try with_reducible rfl
      try simp only [Act.put]
      try simp only [List.setIfInBounds_toArray]
      try simp only [List.set_cons_succ]
      try simp only [List.set_cons_zero]
      refine Late.take (i := 2) (d := some 48) (v := ?v2_15b) rfl rfl (by kernel_rfl) (by kernel_rfl) (by kernel_rfl) (by kernel_rfl) hQ (Or.inl ⟨by rfl, ?y2_15b⟩) ?r2_15b
      case y2_15b =>
        intro w' hSw
        have k00 := (bx.ext hSw).c4
        have k10 := (by_.ext hSw).c4
        have k20 := (b8.ext hSw).c2
        have k30 := (b9.ext hSw).c2
        go_simp
        try with_reducible rfl
      try simp only [Act.put]
      try simp only [List.setIfInBounds_toArray]
      try simp only [List.set_cons_succ]
      try simp only [List.set_cons_zero]
      refine Late.take (i := 4) (d := some 50) (v := ?v4_16b) rfl rfl (by kernel_rfl) (by kernel_rfl) (by kernel_rfl) (by kernel_rfl) hQ (Or.inl ⟨by rfl, ?y4_16b⟩) ?r4_16b
      case y4_16b =>
        intro w' hSw
        have k00 := (bx.ext hSw).c4
        have k10 := (by_.ext hSw).c4
        have k20 := (b8.ext hSw).c2
        have k30 := (b9.ext hSw).c2
        go_simp
        try with_reducible rfl
      try simp only [Act.put]
      try simp only [List.setIfInBounds_toArray]
      try simp only [List.set_cons_succ]
      try simp only [List.set_cons_zero]
      refine Late.take (i := 7) (d := some 53) (v := ?v7_17b) rfl rfl (by kernel_rfl) (by kernel_rfl) (by kernel_rfl) (by kernel_rfl) hQ (Or.inl ⟨by rfl, ?y7_17b⟩) ?r7_17b
      case y7_17b =>
        intro w' hSw
        have k00 := (bx.ext hSw).c4
        have k10 := (by_.ext hSw).c4
        have k20 := (b8.ext hSw).c2
        have k30 := (b9.ext hSw).c2
        go_simp
        try with_reducible rfl
      try simp only [Act.put]
      try simp only [List.setIfInBounds_toArray]
      try simp only [List.set_cons_succ]
      try simp only [List.set_cons_zero]
      refine Late.take (i := 9) (d := some 55) (v := ?v9_18b) rfl rfl (by kernel_rfl) (by kernel_rfl) (by kernel_rfl) (by kernel_rfl) hQ (Or.inl ⟨by rfl, ?y9_18b⟩) ?r9_18b
      case y9_18b =>
        intro w' hSw
        have k00 := (bx.ext hSw).c4
        have k10 := (by_.ext hSw).c4
        have k20 := (b8.ext hSw).c2
        have k30 := (b9.ext hSw).c2
        go_simp
        try with_reducible rfl
      try simp only [Act.put]
      try simp only [List.setIfInBounds_toArray]
      try simp only [List.set_cons_succ]
      try simp only [List.set_cons_zero]
      refine Late.take (i := 1) (d := some 47) (v := ?v1_19b) rfl rfl (by kernel_rfl) (by kernel_rfl) (by kernel_rfl) (by kernel_rfl) hQ (Or.inl ⟨by rfl, ?y1_19b⟩) ?r1_19b
      case y1_19b =>
        intro w' hSw
        have k00 := (bx.ext hSw).c4
        have k10 := (by_.ext hSw).c4
        have k20 := (b8.ext hSw).c2
        have k30 := (b9.ext hSw).c2
        go_simp
        try with_reducible rfl
      try simp only [Act.put]
      try simp only [List.setIfInBounds_toArray]
      try simp only [List.set_cons_succ]
      try simp only [List.set_cons_zero]
      refine Late.take (i := 3) (d := some 49) (v := ?v3_20b) rfl rfl (by kernel_rfl) (by kernel_rfl) (by kernel_rfl) (by kernel_rfl) hQ (Or.inl ⟨by rfl, ?y3_20b⟩) ?r3_20b
      case y3_20b =>
        intro w' hSw
        have k00 := (bx.ext hSw).c4
        have k10 := (by_.ext hSw).c4
        have k20 := (b8.ext hSw).c2
        have k30 := (b9.ext hSw).c2
        go_simp
        try with_reducible rfl
      try simp only [Act.put]
      try simp only [List.setIfInBounds_toArray]
      try simp only [List.set_cons_succ]
      try simp only [List.set_cons_zero]
      refine Late.take (i := 8) (d := some 54) (v := ?v8_21b) rfl rfl (by kernel_rfl) (by kernel_rfl) (by kernel_rfl) (by kernel_rfl) hQ (Or.inl ⟨by rfl, ?y8_21b⟩) ?r8_21b
      case y8_21b =>
        intro w' hSw
        have k00 := (bx.ext hSw).c4
        have k10 := (by_.ext hSw).c4
        have k20 := (b8.ext hSw).c2
        have k30 := (b9.ext hSw).c2
        go_simp
        try with_reducible rfl
      try simp only [Act.put]
      try simp only [List.setIfInBounds_toArray]
      try simp only [List.set_cons_succ]
      try simp only [List.set_cons_zero]
      refine Late.call (i := 5) rfl (by kernel_rfl) hAl (by kernel_rfl) (by kernel_rfl) (by kernel_rfl) hQ (fun w5 e5 E5 K hK => ?_)
      go_simp
      (go_at_call 102; refine (p_divide (k.den.ext E5) (hg.ext E5) (by omega) (by omega) Hg0.out Hgp.out).mono ?_; rintro e wk1 ⟨s1x, A1x, n1x, c1x, rfl, h1, hx5⟩)
      refine hK.out _ _ hx5 ?_
      clear hK K
      try simp only [Act.put]
      try simp only [List.setIfInBounds_toArray]
      try simp only [List.set_cons_succ]
      try simp only [List.set_cons_zero]
      refine Late.call (i := 6) rfl (by kernel_rfl) hAl (by kernel_rfl) (by kernel_rfl) (by kernel_rfl) hQ (fun w6 e6 E6 K hK => ?_)
      go_simp
      (go_at_call 94; refine (p_Mul (h.num.ext E6) (h1.ext e6) (by omega) (by omega) (by omega)).mono ?_; rintro e wk2 ⟨s2x, A2x, n2x, c2x, rfl, h2, hx6⟩)
      refine hK.out _ _ hx6 ?_
      clear hK K
      try simp only [Act.put]
      try simp only [List.setIfInBounds_toArray]
      try simp only [List.set_cons_succ]
      try simp only [List.set_cons_zero]
      refine Late.call (i := 10) rfl (by kernel_rfl) hAl (by kernel_rfl) (by kernel_rfl) (by kernel_rfl) hQ (fun w10 e10 E10 K hK => ?_)
      go_simp
      (go_at_call 94; refine (p_Mul (k.num.ext E10) (hD1.ext E10) (by omega) (by omega) (by omega)).mono ?_; rintro e wk3 ⟨s3, A3, n3, c3, rfl, h3, hx10⟩)
      refine hK.out _ _ hx10 ?_
      clear hK K
      try simp only [Act.put]
      try simp only [List.setIfInBounds_toArray]
      try simp only [List.set_cons_succ]
      try simp only [List.set_cons_zero]
      refine Late.call (i := 11) rfl (by kernel_rfl) hAl (by kernel_rfl) (by kernel_rfl) (by kernel_rfl) hQ (fun w11 e11 E11 K hK => ?_)
      go_simp
      (go_at_call 101; refine (p_Add (h2.ext (e10.trans (hx10.trans e11))) (h3.ext e11) (by omega) (by omega)).mono ?_; rintro e wk4 ⟨s4, A4, n4, c4, rfl, h4, hx11⟩)
      refine hK.out _ _ hx11 ?_
      clear hK K
      try simp only [Act.put]
      try simp only [List.setIfInBounds_toArray]
      try simp only [List.set_cons_succ]
      try simp only [List.set_cons_zero]
      refine Late.finish1 (hAl _ (by simp)) (by kernel_rfl) (fun wz g10 ez Ez lg5 xb1 => ?_)
      clear hAl hQ ES
      have f10 := xb1.cell 0 (Value.bool false) rfl
      have f11 := xb1.cell 1 (Value.slice none 0 0) rfl
      have f12 := xb1.frozen 0
      have f13 := xb1.frozen 1
      have e4 := fin_dual (s := s4) (A := A4) (n := n4) (c := c4) xb1
      try simp only [Act.put]
      try simp only [List.setIfInBounds_toArray]
      try simp only [List.set_cons_succ]
      try simp only [List.set_cons_zero]
      refine wpAnyH_ready (rs := [13]) (by kernel_rfl) (by simp) (AllReadyH.cons rfl (fun K hK => ?_) AllReadyH.nil)
      go_simp
      refine hK.out _ _ (e4.2.2.1 _ Ez lg5) (fun _ => ?_)
      clear hK K
      try simp only [Act.put]
      try simp only [List.setIfInBounds_toArray]
      try simp only [List.set_cons_succ]
      try simp only [List.set_cons_zero]
      refine any_world (fun U => Ext V9 U ∧ Box U g10 24 #[.bool s4, .slice A4 n4 c4] ∧ NI U (q.num * ((p.den : Int) / (g : Int)) + p.num * ((q.den : Int) / (g : Int))) (L + M + 1) s4 A4 n4 c4) ⟨e4.2.2.1 _ Ez lg5, e4.1, (e4.2.1 _ _ _ _ _ _ (h4.ext ez)).le (by omega)⟩ ?_
      clear e4 f10 f11 f12 f13 xb1 lg5
      rintro U ⟨EU, b10, hS⟩
      refine wpAnyH_done (by kernel_rfl) ?_ _
      replace bx := bx.ext EU
      replace by_ := by_.ext EU
      replace bz := bz.ext EU
      replace b8 := b8.ext EU
      replace b9 := b9.ext EU
      replace h := h.ext EU
      replace k := k.ext EU
      replace hg := hg.ext EU
      replace hD1 := hD1.ext EU
      replace extW := extW.trans EU
      clear EU Ez ez
      have j0 := b10.cell 0 (.bool s4) rfl
      have j1 := b10.cell 1 (.slice A4 n4 c4) rfl
      have j2 := b8.cell 0 (.bool s1) rfl
      have j3 := b8.cell 1 (.slice A1 n1 c1') rfl
      go_wp2_with fail
      refine (p_GCD hS hg (by omega) (by omega) (hT.ext extW)).mono ?_
      rintro e wg ⟨s5, A5, n5, c5, rfl, hr, hxg⟩
      rw [Int.natAbs_natCast] at hr
      clear j0 j1 j2 j3
      obtain ⟨S, hSe⟩ : ∃ S : Int, q.num * ((p.den : Int) / (g : Int)) + p.num * ((q.den : Int) / (g : Int)) = S := ⟨_, rfl⟩
      rw [hSe] at hS hr
      obtain ⟨r, hre⟩ : ∃ r, Nat.gcd S.natAbs g = r := ⟨_, rfl⟩
      rw [hre] at hr
      obtain ⟨q1, q2, q3, q4⟩ := rat_add q p (S := S) (r := r) Hge.out rfl rfl (by rw [← hSe]; simp) hre.symm
      have Hq1 := Lib.hid q1
      have Hq2 := Lib.hid q2
      have Hr0 := Lib.hid (show (r : Int) ≠ 0 by omega)
      have Hrp := Lib.hid (Int.ofNat_dvd.2 q3)
      have HrS := Lib.hid (show (r : Int) ∣ S from Int.ofNat_dvd_left.2 (by rw [← hre]; exact Nat.gcd_dvd_left _ _))
      clear q1 q2 q3 q4 hre hSe
      go_upto_region 10 with (fail)
      refine at_world (fun Z9 => Ext U Z9 ∧ Box Z9 wg.heap.size 24 #[.bool s5, .slice A5 n5 c5] ∧ NI Z9 (r : Int) (max (L + M + 1) (max L M)) s5 A5 n5 c5) ⟨hxg.alloc _, Box.new wg _ _, hr.ext ((Ext.refl wg).alloc _)⟩ ?_
      generalize wg.heap.size = g11
      clear hxg hr
      rintro Z9 ⟨EV, b11, hr⟩
      replace bx := bx.ext EV
      replace by_ := by_.ext EV
      replace bz := bz.ext EV
      replace b9 := b9.ext EV
      replace b10 := b10.ext EV
      replace h := h.ext EV
      replace k := k.ext EV
      replace hD1 := hD1.ext EV
      replace hS := hS.ext EV
      replace extW := extW.trans EV
      clear EV
      go_wp2_with fail
      refine wpL.start 10 (by kernel_rfl) (fun _ _ _ _ _ => ⟨fun h => h, fun h => h⟩) (fun hQ ES => ?_)
      refine wpL.take (i := 0) (d := some 61) (v := ?v0_22b) rfl rfl (by kernel_rfl) (by kernel_rfl) (by kernel_rfl) (by kernel_rfl) hQ (Or.inl ⟨by rfl, ?y0_22b⟩) ES ?r0_22b
      case y0_22b =>
        intro w' hSw
        have k00 := (b9.ext hSw).c2
        have k10 := (b10.ext hSw).c2
        have k20 := (b11.ext hSw).c2
        have k30 := (by_.ext hSw).c4
        go_simp
        try with_reducible rfl
      try simp only [Act.put]
      try simp only [List.setIfInBounds_toArray]
      try simp only [List.set_cons_succ]
      try simp only [List.set_cons_zero]
      refine wpL.take (i := 1) (d := some 62) (v := ?v1_23b) rfl rfl (by kernel_rfl) (by kernel_rfl) (by kernel_rfl) (by kernel_rfl) hQ (Or.inl ⟨by rfl, ?y1_23b⟩) ES ?r1_23b
      case y1_23b =>
        intro w' hSw
        have k00 := (b9.ext hSw).c2
        have k10 := (b10.ext hSw).c2
        have k20 := (b11.ext hSw).c2
        have k30 := (by_.ext hSw).c4
        go_simp
        try with_reducible rfl
      try simp only [Act.put]
      try simp only [List.setIfInBounds_toArray]
      try simp only [List.set_cons_succ]
      try simp only [List.set_cons_zero]
      refine wpL.take (i := 3) (d := some 64) (v := ?v3_24b) rfl rfl (by kernel_rfl) (by kernel_rfl) (by kernel_rfl) (by kernel_rfl) hQ (Or.inl ⟨by rfl, ?y3_24b⟩) ES ?r3_24b
      case y3_24b =>
        intro w' hSw
        have k00 := (b9.ext hSw).c2
        have k10 := (b10.ext hSw).c2
        have k20 := (b11.ext hSw).c2
        have k30 := (by_.ext hSw).c4
        go_simp
        try with_reducible rfl
      try simp only [Act.put]
      try simp only [List.setIfInBounds_toArray]
      try simp only [List.set_cons_succ]
      try simp only [List.set_cons_zero]
      refine wpL.take (i := 4) (d := some 65) (v := ?v4_25b) rfl rfl (by kernel_rfl) (by kernel_rfl) (by kernel_rfl) (by kernel_rfl) hQ (Or.inl ⟨by rfl, ?y4_25b⟩) ES ?r4_25b
      case y4_25b =>
        intro w' hSw
        have k00 := (b9.ext hSw).c2
        have k10 := (b10.ext hSw).c2
        have k20 := (b11.ext hSw).c2
        have k30 := (by_.ext hSw).c4
        go_simp
        try with_reducible rfl
      try simp only [Act.put]
      try simp only [List.setIfInBounds_toArray]
      try simp only [List.set_cons_succ]
      try simp only [List.set_cons_zero]
      refine wpL.take (i := 6) (d := some 67) (v := ?v6_26b) rfl rfl (by kernel_rfl) (by kernel_rfl) (by kernel_rfl) (by kernel_rfl) hQ (Or.inl ⟨by rfl, ?y6_26b⟩) ES ?r6_26b
      case y6_26b =>
        intro w' hSw
        have k00 := (b9.ext hSw).c2
        have k10 := (b10.ext hSw).c2
        have k20 := (b11.ext hSw).c2
        have k30 := (by_.ext hSw).c4
        go_simp
        try with_reducible rfl
      try simp only [Act.put]
      try simp only [List.setIfInBounds_toArray]
      try simp only [List.set_cons_succ]
      try simp only [List.set_cons_zero]
      refine wpL.take (i := 5) (d := some 66) (v := ?v5_27b) rfl rfl (by kernel_rfl) (by kernel_rfl) (by kernel_rfl) (by kernel_rfl) hQ (Or.inl ⟨by rfl, ?y5_27b⟩) ES ?r5_27b
      case y5_27b =>
        intro w' hSw
        have k00 := (b9.ext hSw).c2
        have k10 := (b10.ext hSw).c2
        have k20 := (b11.ext hSw).c2
        have k30 := (by_.ext hSw).c4
        go_simp
        try with_reducible rfl
      try simp only [Act.put]
      try simp only [List.setIfInBounds_toArray]
      try simp only [List.set_cons_succ]
      try simp only [List.set_cons_zero]
      refine wpL.call (i := 2) rfl (by kernel_rfl) (fun K hK => ?_)
      go_simp
      (go_at_call 102; refine (p_divide (hS.ext ES) (hr.ext ES) (by omega) (by omega) Hr0.out HrS.out).mono ?_; rintro e wk1 ⟨s1x, A1x, n1x, c1x, rfl, h1, hx0⟩; have E0_10 := Ext.trans ES hx0)
      refine hK.out _ _ E0_10 ?_
      clear hK K
      try simp only [Act.put]
      try simp only [List.setIfInBounds_toArray]
      try simp only [List.set_cons_succ]
      try simp only [List.set_cons_zero]
      refine wpL.call (i := 7) rfl (by kernel_rfl) (fun K hK => ?_)
      go_simp
      (go_at_call 102; refine (p_divide (k.den.ext E0_10) (hr.ext E0_10) (by omega) (by omega) Hr0.out Hrp.out).mono ?_; rintro e wk2 ⟨s2x, A2x, n2x, c2x, rfl, h2, hx1⟩; have E1_10 := Ext.trans E0_10 hx1)
      refine hK.out _ _ E1_10 ?_
      clear hK K
      try simp only [Act.put]
      try simp only [List.setIfInBounds_toArray]
      try simp only [List.set_cons_succ]
      try simp only [List.set_cons_zero]
      refine wpL.call (i := 8) rfl (by kernel_rfl) (fun K hK => ?_)
      go_simp
      (go_at_call 94; refine (p_Mul (hD1.ext E1_10) (h2) (by omega) (by omega) h64).mono ?_; rintro e wk3 ⟨s3, A3, n3, c3, rfl, h3, hx2⟩; have E2_10 := Ext.trans E1_10 hx2)
      refine hK.out _ _ E2_10 ?_
      clear hK K
      try simp only [Act.put]
      try simp only [List.setIfInBounds_toArray]
      try simp only [List.set_cons_succ]
      try simp only [List.set_cons_zero]
      refine wpL.take (i := 9) (d := some 70) (v := ?v9_28b) rfl rfl (by kernel_rfl) (by kernel_rfl) (by kernel_rfl) (by kernel_rfl) hQ (Or.inl ⟨by rfl, ?y9_28b⟩) E2_10 ?r9_28b
      case y9_28b =>
        intro w' hSw
        have k00 := (b9.ext hSw).c2
        have k10 := (b10.ext hSw).c2
        have k20 := (b11.ext hSw).c2
        have k30 := (by_.ext hSw).c4
        go_simp
        try with_reducible rfl
      try simp only [Act.put]
      try simp only [List.setIfInBounds_toArray]
      try simp only [List.set_cons_succ]
      try simp only [List.set_cons_zero]
      have z0 := (bz.ext E2_10).cell 0 _ rfl
      have z1 := (bz.ext E2_10).cell 1 _ rfl
      have z2 := (bz.ext E2_10).cell 2 _ rfl
      have z3 := (bz.ext E2_10).cell 3 _ rfl
      have f0 := (bz.ext E2_10).frozen 0
      have f1 := (bz.ext E2_10).frozen 1
      have f2 := (bz.ext E2_10).frozen 2
      have f3 := (bz.ext E2_10).frozen 3
      refine wpL.tail (i := 10) rfl (by kernel_rfl) (by kernel_rfl) (fun K hK => ?_)
      go_simp
      refine hK.out _ _ ?_
      clear hK K
      try simp only [Act.put]
      try simp only [List.setIfInBounds_toArray]
      try simp only [List.set_cons_succ]
      try simp only [List.set_cons_zero]
      refine wpL.done (by kernel_rfl) ?_ _
      clear hQ
      go_wp2_with fail
      have hk1 : ((q.den : Int) / (g : Int)) * ((p.den : Int) / (r : Int)) = ((q + p).den : Int) := by rw [Hq2.out]; simp
      rw [hk1] at h3
      rw [← Hq1.out] at h1
      obtain ⟨b1, b2, b3, b4⟩ := fin_quad (s := s1x) (A := A1x) (n := n1x) (c := c1x) (t := s3) (B := A3) (m := n3) (d := c3) (bz.ext E2_10)
      have r0 := b1.cell 0 (.bool s1x) rfl
      have r1 := b1.cell 1 (.slice A1x n1x c1x) rfl
      have r2 := b1.cell 2 (.bool s3) rfl
      have r3 := b1.cell 3 (.slice A3 n3 c3) rfl
      unfold set4 at r0 r1 r2 r3
      refine bodyPost_ret (v := .agg #[.bool s1x, .slice A1x n1x c1x, .bool s3, .slice A3 n3 c3]) (by simp [results, Tryz.results56, go_sem, r0, r1, r2, r3]) rfl ⟨s1x, A1x, n1x, c1x, s3, A3, n3, c3, rfl, ⟨?_, ?_⟩, b3 _ (extW.trans E2_10) (by omega)⟩
      · exact (b2 _ _ _ _ _ _ (h1.ext (hx1.trans hx2))).le (by omega)
      · exact (b2 _ _ _ _ _ _ h3).le (by omega)
end
end Go.Proofs.YtoabhnofppledaaGreatDoor
namespace Go.Proofs.YtoabhnofppledaaGreatDoor
open Go.RowKit
attribute [local go_sem ↓] Go.wp_at_zero Go.wp_at_succ
section
variable {w w' : World} {z y : Int} {q p : Rat} {L M : Nat} {s t s' t' : Bool} {A B A' B' : Option Addr} {n c m d n' c' m' d' : Nat}
set_option maxHeartbeats 2000000 in
theorem p_SubR (h : NR w q L s A n c t B m d) (k : NR w p M s' A' n' c' t' B' m' d') (hL : L ≤ 1000) (hM : M ≤ 1000) (h64 : min L M < 64) (hT : Tab w) : Calls Tryz.prog 59 #[.agg #[.bool s, .slice A n c, .bool t, .slice B m d], .agg #[.bool s', .slice A' n' c', .bool t', .slice B' m' d']] w (RetNR (q - p) (L + M + 1) w) := by
  go_enter Tryz.func59, Tryz.ntmps59
  go_upto_region 1 with (fail)
  obtain ⟨W, hW, extW, bx, by_, bz, hz⟩ := box3 w 26 26 26 #[.bool s, .slice A n c, .bool t, .slice B m d] #[.bool s', .slice A' n' c', .bool t', .slice B' m' d'] #[Value.bool false, Value.slice none 0 0, Value.bool false, Value.slice none 0 0]
  rw [← hW]
  clear hW
  refine wpL.start 4 (by kernel_rfl) (fun _ _ _ _ _ => ⟨fun h => h, fun h => h⟩) (fun hQ ES => ?_)
  refine wpL.take (i := 0) (d := some 5) (v := ?v0_29) rfl rfl (by kernel_rfl) (by kernel_rfl) (by kernel_rfl) (by kernel_rfl) hQ (Or.inl ⟨by rfl, ?y0_29⟩) ES ?r0_29
  case y0_29 =>
    intro w' hSw
    have k00 := (bx.ext hSw).c4
    have k10 := (by_.ext hSw).c4
    go_simp
    try with_reducible rfl
  try simp only [Act.put]
  try simp only [List.setIfInBounds_toArray]
  try simp only [List.set_cons_succ]
  try simp only [List.set_cons_zero]
  refine wpL.take (i := 1) (d := some 6) (v := ?v1_30) rfl rfl (by kernel_rfl) (by kernel_rfl) (by kernel_rfl) (by kernel_rfl) hQ (Or.inl ⟨by rfl, ?y1_30⟩) ES ?r1_30
  case y1_30 =>
    intro w' hSw
    have k00 := (bx.ext hSw).c4
    have k10 := (by_.ext hSw).c4
    go_simp
    try with_reducible rfl
  try simp only [Act.put]
  try simp only [List.setIfInBounds_toArray]
  try simp only [List.set_cons_succ]
  try simp only [List.set_cons_zero]
  refine wpL.call (i := 2) rfl (by kernel_rfl) (fun K hK => ?_)
  go_simp
  (go_at_call 103; refine (p_NegR (k.ext (extW.trans ES)) (by omega)).mono ?_; rintro e wa ⟨s1, A1, n1, c1, t1, B1, m1, d1, rfl, h1, hx0⟩; have E0_1 := Ext.trans ES hx0)
  refine hK.out _ _ E0_1 ?_
  clear hK K
  try simp only [Act.put]
  try simp only [List.setIfInBounds_toArray]
  try simp only [List.set_cons_succ]
  try simp only [List.set_cons_zero]
  refine wpL.call (i := 3) rfl (by kernel_rfl) (fun K hK => ?_)
  go_simp
  (go_at_call 56; refine (p_AddR (h.ext (extW.trans E0_1)) h1 hL hM h64 (hT.ext (extW.trans E0_1))).mono ?_; rintro e wb ⟨s2, A2, n2, c2, t2, B2, m2, d2, rfl, hr, hx1⟩; have E1_1 := Ext.trans E0_1 hx1)
  refine hK.out _ _ E1_1 ?_
  clear hK K
  try simp only [Act.put]
  try simp only [List.setIfInBounds_toArray]
  try simp only [List.set_cons_succ]
  try simp only [List.set_cons_zero]
  have z0 := (bz.ext E1_1).cell 0 _ rfl
  have z1 := (bz.ext E1_1).cell 1 _ rfl
  have z2 := (bz.ext E1_1).cell 2 _ rfl
  have z3 := (bz.ext E1_1).cell 3 _ rfl
  have f0 := (bz.ext E1_1).frozen 0
  have f1 := (bz.ext E1_1).frozen 1
  have f2 := (bz.ext E1_1).frozen 2
  have f3 := (bz.ext E1_1).frozen 3
  refine wpL.tail (i := 4) rfl (by kernel_rfl) (by kernel_rfl) (fun K hK => ?_)
  go_simp
  refine hK.out _ _ ?_
  clear hK K
  try simp only [Act.put]
  try simp only [List.setIfInBounds_toArray]
  try simp only [List.set_cons_succ]
  try simp only [List.set_cons_zero]
  refine wpL.done (by kernel_rfl) ?_ _
  clear hQ
  go_wp2_with fail
  rw [← Rat.sub_eq_add_neg] at hr
  obtain ⟨b1, b2, b3, b4⟩ := fin_quad (s := s2) (A := A2) (n := n2) (c := c2) (t := t2) (B := B2) (m := m2) (d := d2) (bz.ext E1_1)
  have r0 := b1.cell 0 (.bool s2) rfl
  have r1 := b1.cell 1 (.slice A2 n2 c2) rfl
  have r2 := b1.cell 2 (.bool t2) rfl
  have r3 := b1.cell 3 (.slice B2 m2 d2) rfl
  unfold set4 at r0 r1 r2 r3
  refine bodyPost_ret (v := .agg #[.bool s2, .slice A2 n2 c2, .bool t2, .slice B2 m2 d2]) (by simp [results, Tryz.results59, go_sem, r0, r1, r2, r3]) rfl ⟨s2, A2, n2, c2, t2, B2, m2, d2, rfl, ⟨?_, ?_⟩, b3 _ (extW.trans E1_1) (by omega)⟩
  · exact b2 _ _ _ _ _ _ hr.num
  · exact b2 _ _ _ _ _ _ hr.den
end
end Go.Proofs.YtoabhnofppledaaGreatDoor
namespace Go.Proofs.YtoabhnofppledaaGreatDoor
open Go.RowKit
attribute [local go_sem ↓] Go.wp_at_zero Go.wp_at_succ
section
variable {w w' : World} {q p lo hi lo' hi' x : Rat} {L M : Nat} {s t s' t' sx tx u v u' v' : Bool} {A B A' B' Ax Bx C D C' D' : Option Addr} {n c m d n' c' m' d' nx cx mx dx i j k l i' j' k' l' : Nat} {qs : List Rat}
set_option maxHeartbeats 4000000 in
theorem p_Within (h : IV w lo hi L s A n c t B m d s' A' n' c' t' B' m' d') (g : IV w lo' hi' M u C i j v D k l u' C' i' j' v' D' k' l') (hL : L ≤ 60) (hM : M ≤ 60) : Calls Tryz.prog 33 #[.agg #[.bool s, .slice A n c, .bool t, .slice B m d, .bool s', .slice A' n' c', .bool t', .slice B' m' d'], .agg #[.bool u, .slice C i j, .bool v, .slice D k l, .bool u', .slice C' i' j', .bool v', .slice D' k' l']] w fun e w' => e = .returned (.bool (inB lo' hi' lo && inB lo' hi' hi)) ∧ Ext w w' := by
  go_enter Tryz.func33, Tryz.ntmps33
  go_upto_region 1 with (fail)
  obtain ⟨W, hW, ext, bx, by_, hz⟩ := box2 w 28 28 #[.bool s, .slice A n c, .bool t, .slice B m d, .bool s', .slice A' n' c', .bool t', .slice B' m' d'] #[.bool u, .slice C i j, .bool v, .slice D k l, .bool u', .slice C' i' j', .bool v', .slice D' k' l']
  rw [← hW]
  clear hW hz
  have hl := h.low.ext ext
  have hh := h.high.ext ext
  have hg := g.ext ext
  have k0 := bx.cell 0 (.bool s) rfl
  have k1 := bx.cell 1 (.slice A n c) rfl
  have k2 := bx.cell 2 (.bool t) rfl
  have k3 := bx.cell 3 (.slice B m d) rfl
  have k4 := bx.cell 4 (.bool s') rfl
  have k5 := bx.cell 5 (.slice A' n' c') rfl
  have k6 := bx.cell 6 (.bool t') rfl
  have k7 := bx.cell 7 (.slice B' m' d') rfl
  have x0 := by_.cell 0 (.bool u) rfl
  have x1 := by_.cell 1 (.slice C i j) rfl
  have x2 := by_.cell 2 (.bool v) rfl
  have x3 := by_.cell 3 (.slice D k l) rfl
  have x4 := by_.cell 4 (.bool u') rfl
  have x5 := by_.cell 5 (.slice C' i' j') rfl
  have x6 := by_.cell 6 (.bool v') rfl
  have x7 := by_.cell 7 (.slice D' k' l') rfl
  go_wp2_with fail
  refine (p_Contains hg hl (by omega) (by omega)).mono ?_
  rintro e V ⟨rfl, hxc⟩
  replace bx := bx.ext hxc
  replace by_ := by_.ext hxc
  replace hl := hl.ext hxc
  replace hh := hh.ext hxc
  replace hg := hg.ext hxc
  replace ext := ext.trans hxc
  clear hxc k0 x0 k1 x1 k2 x2 k3 x3 k4 x4 k5 x5 k6 x6 k7 x7
  have k0 := bx.cell 0 (.bool s) rfl
  have k1 := bx.cell 1 (.slice A n c) rfl
  have k2 := bx.cell 2 (.bool t) rfl
  have k3 := bx.cell 3 (.slice B m d) rfl
  have k4 := bx.cell 4 (.bool s') rfl
  have k5 := bx.cell 5 (.slice A' n' c') rfl
  have k6 := bx.cell 6 (.bool t') rfl
  have k7 := bx.cell 7 (.slice B' m' d') rfl
  have x0 := by_.cell 0 (.bool u) rfl
  have x1 := by_.cell 1 (.slice C i j) rfl
  have x2 := by_.cell 2 (.bool v) rfl
  have x3 := by_.cell 3 (.slice D k l) rfl
  have x4 := by_.cell 4 (.bool u') rfl
  have x5 := by_.cell 5 (.slice C' i' j') rfl
  have x6 := by_.cell 6 (.bool v') rfl
  have x7 := by_.cell 7 (.slice D' k' l') rfl
  cases h1 : inB lo' hi' lo
  · go_wp2_with fail
    go_ret
    exact ⟨by rw [h1]; rfl, ext⟩
  · go_wp2_with fail
    refine (p_Contains hg hh (by omega) (by omega)).mono ?_
    rintro e V2 ⟨rfl, hxc⟩
    replace ext := ext.trans hxc
    go_wp2_with fail
    go_ret
    exact ⟨by rw [h1]; rfl, ext⟩
end
end Go.Proofs.YtoabhnofppledaaGreatDoor
namespace Go.Proofs.YtoabhnofppledaaGreatDoor
open Go.RowKit
attribute [local go_sem ↓] Go.wp_at_zero Go.wp_at_succ
section
variable {w w' : World} {q p lo hi lo' hi' x : Rat} {L M : Nat} {s t s' t' sx tx u v u' v' : Bool} {A B A' B' Ax Bx C D C' D' : Option Addr} {n c m d n' c' m' d' nx cx mx dx i j k l i' j' k' l' : Nat} {qs : List Rat}
set_option maxHeartbeats 16000000 in
set_option maxRecDepth 100000 in
theorem p_apply_Add (h : IV w lo hi L s A n c t B m d s' A' n' c' t' B' m' d') (h' : IV w lo' hi' M u C i j v D k l u' C' i' j' v' D' k' l') (hL : L ≤ 20) (hM : M ≤ 20) (hT : Tab w) : Calls Tryz.prog 55 #[(.func (.func 56) #[] #[]), .agg #[.bool s, .slice A n c, .bool t, .slice B m d, .bool s', .slice A' n' c', .bool t', .slice B' m' d'], .agg #[.bool u, .slice C i j, .bool v, .slice D k l, .bool u', .slice C' i' j', .bool v', .slice D' k' l']] w (RetHull (prods (fun x y => x + y) (endsOf lo hi) (endsOf lo' hi')) (L + M + 1) w) := by
  obtain ⟨l1, hl1⟩ : ∃ l, endsOf lo hi = l := ⟨_, rfl⟩
  obtain ⟨l2, hl2⟩ : ∃ l, endsOf lo' hi' = l := ⟨_, rfl⟩
  have HL1 := Lib.hid hl1
  have HL2 := Lib.hid hl2
  have ho1 : 0 < l1.length ∧ l1.length ≤ 2 := by rw [← hl1]; exact endsOf_len _ _
  have ho2 : 0 < l2.length ∧ l2.length ≤ 2 := by rw [← hl2]; exact endsOf_len _ _
  skip
  rw [hl1, hl2]
  clear hl1 hl2
  go_enter Tryz.func55, Tryz.ntmps55
  go_upto_region 1 with (fail)
  obtain ⟨W0, hW, ext, bx, by_, bz, hz⟩ := box3 w 28 28 28 #[.bool s, .slice A n c, .bool t, .slice B m d, .bool s', .slice A' n' c', .bool t', .slice B' m' d'] #[.bool u, .slice C i j, .bool v, .slice D k l, .bool u', .slice C' i' j', .bool v', .slice D' k' l'] #[Value.bool false, Value.slice none 0 0, Value.bool false, Value.slice none 0 0, Value.bool false, Value.slice none 0 0, Value.bool false, Value.slice none 0 0]
  rw [← hW]
  clear hW hz
  have ha := h.ext ext
  have hb := h'.ext ext
  replace hT := hT.ext ext
  have k0 := bx.cell 0 (.bool s) rfl
  have k1 := bx.cell 1 (.slice A n c) rfl
  have k2 := bx.cell 2 (.bool t) rfl
  have k3 := bx.cell 3 (.slice B m d) rfl
  have k4 := bx.cell 4 (.bool s') rfl
  have k5 := bx.cell 5 (.slice A' n' c') rfl
  have k6 := bx.cell 6 (.bool t') rfl
  have k7 := bx.cell 7 (.slice B' m' d') rfl
  go_wp2_with fail
  refine (p_ends ha (by omega)).mono ?_
  rw [HL1.out]
  rintro e W1 ⟨g1, n1, q1, cs1, rfl, hn1, hb1, hc1, hg1, ext1⟩
  replace bx := bx.ext ext1
  replace by_ := by_.ext ext1
  replace bz := bz.ext ext1
  replace ha := ha.ext ext1
  replace hb := hb.ext ext1
  replace hT := hT.ext ext1
  replace ext := ext.trans ext1
  clear ext1 hg1 k0 k1 k2 k3 k4 k5 k6 k7
  have Hn1 := Lib.hid hn1
  rw [hn1] at ho1
  clear hn1
  go_wp2_with fail
  go_loopw [7, 15] (fun v i wr => ∃ (a1 : Nat), a1 ≤ n1 ∧ i = .int .i64 (a1 : Int) ∧ Ext W1 wr ∧ Row4 wr W1.heap.size v (prods (fun x y => x + y) (l1.take a1) l2) (L + M + 1)) (fun _ i _ => n1 - (intOf i).toNat)
  case atStart => exact ⟨0, Nat.zero_le _, rfl, Ext.refl _, Row4.nil _ _ _⟩
  case round =>
    obtain ⟨a1, hk, rfl, extr, hrow⟩ := hrel
    by_cases hlt : a1 < n1
    · have hkq : a1 < l1.length := by rw [Hn1.out]; exact hlt
      obtain ⟨s9, A9, n9, c9, t9, B9, m9, d9, e0, e1, e2, e3, hx⟩ := (RatsAt.of_box (hb1.ext extr) (hc1.ext extr)).at_ a1 hkq
      rw [Nat.zero_add] at e0 e1 e2 e3
      have HT := Lib.hid (show l1.take (a1 + 1) = l1.take a1 ++ [l1[a1]] from List.take_succ_eq_append_getElem hkq)
      generalize l1[a1] = x at hx HT
      have e0' : wr.cell? ⟨g1, a1 * 4, none⟩ = some (.bool s9) := by rw [Nat.mul_comm]; exact e0
      have e1' : wr.cell? ⟨g1, a1 * 4 + 1, none⟩ = some (.slice A9 n9 c9) := by rw [Nat.mul_comm]; exact e1
      have e2' : wr.cell? ⟨g1, a1 * 4 + 2, none⟩ = some (.bool t9) := by rw [Nat.mul_comm]; exact e2
      have e3' : wr.cell? ⟨g1, a1 * 4 + 3, none⟩ = some (.slice B9 m9 d9) := by rw [Nat.mul_comm]; exact e3
      go_upto_region 5 with (fail)
      obtain ⟨W2, hW2, ext2, b9, hz2⟩ := box1 wr 26 #[.bool s9, .slice A9 n9 c9, .bool t9, .slice B9 m9 d9]
      rw [← hW2]
      clear hW2 e0 e1 e2 e3 e0' e1' e2' e3'
      have hn9 : u7.ownBlock ≠ some wr.heap.size := fun h => by have := (hrow.block _ h).2; omega
      obtain ⟨g9, hg9⟩ : ∃ g, wr.heap.size = g := ⟨_, rfl⟩
      rw [hg9] at b9 hn9 hz2 ⊢
      clear hg9 hz2
      replace hx := hx.ext ext2
      replace hrow := hrow.ext ext2
      replace extr := extr.trans ext2
      clear ext2
      have k0 := (by_.ext extr).cell 0 (.bool u) rfl
      have k1 := (by_.ext extr).cell 1 (.slice C i j) rfl
      have k2 := (by_.ext extr).cell 2 (.bool v) rfl
      have k3 := (by_.ext extr).cell 3 (.slice D k l) rfl
      have k4 := (by_.ext extr).cell 4 (.bool u') rfl
      have k5 := (by_.ext extr).cell 5 (.slice C' i' j') rfl
      have k6 := (by_.ext extr).cell 6 (.bool v') rfl
      have k7 := (by_.ext extr).cell 7 (.slice D' k' l') rfl
      go_wp2_with fail
      refine (p_ends (hb.ext extr) (by omega)).mono ?_
      rw [HL2.out]
      rintro e W3 ⟨g2, n2, q2, cs2, rfl, hn2, hb2, hc2, hg2, ext3⟩
      have hne2 : u7.ownBlock ≠ some g2 := fun h => by have := (hrow.block _ h).2; omega
      replace hx := hx.ext ext3
      replace hrow := hrow.ext ext3
      replace extr := extr.trans ext3
      replace b9 := b9.ext ext3
      clear k0 k1 k2 k3 k4 k5 k6 k7 hg2 ext3
      have Hn2 := Lib.hid hn2
      have ho3 : 0 < n2 ∧ n2 ≤ 2 := by rw [← hn2]; exact ho2
      clear hn2
      go_wp2_with fail
      go_loopw [7, 22] (fun v i wq => ∃ (a2 : Nat), a2 ≤ n2 ∧ i = .int .i64 (a2 : Int) ∧ Ext W1 wq ∧ Row4 wq W1.heap.size v (prods (fun x y => x + y) (l1.take a1) l2 ++ (l2.take a2).map (fun y => x + y)) (L + M + 1) ∧ Box wq g2 26 cs2.toArray ∧ CellsOf wq M l2 cs2 ∧ Box wq g9 26 #[.bool s9, .slice A9 n9 c9, .bool t9, .slice B9 m9 d9] ∧ NR wq x L s9 A9 n9 c9 t9 B9 m9 d9 ∧ v.ownBlock ≠ some g2 ∧ v.ownBlock ≠ some g9) (fun _ i _ => n2 - (intOf i).toNat)
      case atStart => exact ⟨0, Nat.zero_le _, rfl, extr, by rw [List.take_zero, List.map_nil, List.append_nil]; exact hrow, hb2, hc2, b9, hx, hne2, hn9⟩
      case round =>
        clear extr hrow hb2 hc2 b9 hx hne2 hn9
        obtain ⟨a2, hk2, rfl, extr, hrow, hb2, hc2, b9, hx, hne2, hn9⟩ := hrel
        by_cases hlt2 : a2 < n2
        · have hkq2 : a2 < l2.length := by rw [Hn2.out]; exact hlt2
          have hlen := row_len (fun x y => x + y) (fun y => x + y) (l := l1) (l' := l2) a1 a2 (by rw [Hn1.out]; exact ho1.2) ho2.2
          obtain ⟨s8, A8, n8, c8, t8, B8, m8, d8, e0, e1, e2, e3, hy⟩ := (RatsAt.of_box hb2 hc2).at_ a2 hkq2
          rw [Nat.zero_add] at e0 e1 e2 e3
          have HT2 := Lib.hid (show l2.take (a2 + 1) = l2.take a2 ++ [l2[a2]] from List.take_succ_eq_append_getElem hkq2)
          generalize l2[a2] = y at hy HT2
          have e0' : wr.cell? ⟨g2, a2 * 4, none⟩ = some (.bool s8) := by rw [Nat.mul_comm]; exact e0
          have e1' : wr.cell? ⟨g2, a2 * 4 + 1, none⟩ = some (.slice A8 n8 c8) := by rw [Nat.mul_comm]; exact e1
          have e2' : wr.cell? ⟨g2, a2 * 4 + 2, none⟩ = some (.bool t8) := by rw [Nat.mul_comm]; exact e2
          have e3' : wr.cell? ⟨g2, a2 * 4 + 3, none⟩ = some (.slice B8 m8 d8) := by rw [Nat.mul_comm]; exact e3
          go_upto_region 8 with (fail)
          obtain ⟨W4, hW4, ext4, b8, hz4⟩ := box1 wr 26 #[.bool s8, .slice A8 n8 c8, .bool t8, .slice B8 m8 d8]
          rw [← hW4]
          clear hW4 hz4 e0 e1 e2 e3 e0' e1' e2' e3'
          replace extr := extr.trans ext4
          replace hrow := hrow.ext ext4
          replace hb2 := hb2.ext ext4
          replace hc2 := hc2.ext ext4
          replace b9 := b9.ext ext4
          replace hx := hx.ext ext4
          replace hy := hy.ext ext4
          clear ext4
          have x0 := b9.cell 0 (.bool s9) rfl
          have x1 := b9.cell 1 (.slice A9 n9 c9) rfl
          have x2 := b9.cell 2 (.bool t9) rfl
          have x3 := b9.cell 3 (.slice B9 m9 d9) rfl
          have y0 := b8.cell 0 (.bool s8) rfl
          have y1 := b8.cell 1 (.slice A8 n8 c8) rfl
          have y2 := b8.cell 2 (.bool t8) rfl
          have y3 := b8.cell 3 (.slice B8 m8 d8) rfl
          go_wp2_with fail
          refine (p_AddR hx hy (by omega) (by omega) (by omega) (hT.ext extr)).mono ?_
          rintro e W5 ⟨s7, A7, n7, c7, t7, B7, m7, d7, rfl, h7, ext5⟩
          clear x0 x1 x2 x3 y0 y1 y2 y3
          have ha5 := (ext5).alloc (.cells #[.bool s7, .slice A7 n7 c7, .bool t7, .slice B7 m7 d7] 26)
          replace extr := extr.trans ha5
          replace hrow := hrow.ext ha5
          replace hb2 := hb2.ext ha5
          replace hc2 := hc2.ext ha5
          replace b9 := b9.ext ha5
          replace hx := hx.ext ha5
          replace h7 := h7.ext ((Ext.refl W5).alloc (.cells #[.bool s7, .slice A7 n7 c7, .bool t7, .slice B7 m7 d7] 26))
          clear ext5 ha5
          have hgb := hb2.lt
          have hg9 := b9.lt
          go_wp2_with (at_builtin; refine wpList_append_rat rfl _ _ rfl rfl rfl hrow h7 (Box.new W5 _ _) hlen extr.size ?_; intro v6 W6 hrow6 hgr hob)
          go_roundw
          case rel =>
            refine ⟨a2 + 1, by omega, by go_num, Below.grown extr hgr extr.size (fun k hk => (hrow.block k hk).1), ?_, hb2.own hgr hne2, hc2.own hrow.nwb hgr, b9.own hgr hn9, hx.own hrow.nwb hgr, ?_, ?_⟩
            · rw [HT2.out, List.map_append, ← List.append_assoc]; exact hrow6
            · rcases hob with e | e
              · rw [e]; exact hne2
              · rw [e]; intro h; injection h with h; omega
            · rcases hob with e | e
              · rw [e]; exact hn9
              · rw [e]; intro h; injection h with h; omega
          case measure => simp [intOf]; omega
        · have hkn : a2 = n2 := by omega
          rw [hkn, List.take_of_length_le (Nat.le_of_eq Hn2.out)] at hrow
          go_wp2_with fail
          go_roundw
          case rel =>
            refine ⟨a1 + 1, by omega, by go_num, extr, ?_⟩
            rw [HT.out, prods_snoc]
            exact hrow
          case measure => simp [intOf]; omega
    · have hkn : a1 = n1 := by omega
      rw [hkn, List.take_of_length_le (Nat.le_of_eq Hn1.out)] at hrow
      have hpl := prods_len (fun x y => x + y) l1 l2
      have hp1 : 0 < (prods (fun x y => x + y) l1 l2).length := by rw [hpl]; exact Nat.mul_pos (by rw [Hn1.out]; exact ho1.1) ho2.1
      have hp2 : (prods (fun x y => x + y) l1 l2).length ≤ 1000 := by rw [hpl, Hn1.out]; exact Nat.le_trans (Nat.mul_le_mul ho1.2 ho2.2) (by omega)
      clear hpl
      obtain ⟨g7, c7, rfl, hra⟩ := hrow.shape (fun h => by rw [h] at hp1; exact absurd hp1 (by simp))
      clear hrow
      go_wp2_with fail
      refine (p_enclose hra rfl hp1 (by omega) hp2).mono ?_
      rintro e V ⟨lo3, hi3, hu, s1, A1, n3, c1, t1, B1, m1, d1, s2, A2, n4, c2, t2, B2, m2, d2, rfl, h1, hx0⟩
      have HU := Lib.hid hu
      clear hu hp1 hp2
      have hx1 := extr.trans hx0
      have z0 := (bz.ext hx1).cell 0 _ rfl
      have f0 := (bz.ext hx1).frozen 0
      have z1 := (bz.ext hx1).cell 1 _ rfl
      have f1 := (bz.ext hx1).frozen 1
      have z2 := (bz.ext hx1).cell 2 _ rfl
      have f2 := (bz.ext hx1).frozen 2
      have z3 := (bz.ext hx1).cell 3 _ rfl
      have f3 := (bz.ext hx1).frozen 3
      have z4 := (bz.ext hx1).cell 4 _ rfl
      have f4 := (bz.ext hx1).frozen 4
      have z5 := (bz.ext hx1).cell 5 _ rfl
      have f5 := (bz.ext hx1).frozen 5
      have z6 := (bz.ext hx1).cell 6 _ rfl
      have f6 := (bz.ext hx1).frozen 6
      have z7 := (bz.ext hx1).cell 7 _ rfl
      have f7 := (bz.ext hx1).frozen 7
      go_wp2_with fail
      obtain ⟨b1, b2, b3, b4⟩ := fin_oct (v0 := (.bool s1)) (v1 := (.slice A1 n3 c1)) (v2 := (.bool t1)) (v3 := (.slice B1 m1 d1)) (v4 := (.bool s2)) (v5 := (.slice A2 n4 c2)) (v6 := (.bool t2)) (v7 := (.slice B2 m2 d2)) (bz.ext hx1)
      have r0 := b1.cell 0 (.bool s1) rfl
      have r1 := b1.cell 1 (.slice A1 n3 c1) rfl
      have r2 := b1.cell 2 (.bool t1) rfl
      have r3 := b1.cell 3 (.slice B1 m1 d1) rfl
      have r4 := b1.cell 4 (.bool s2) rfl
      have r5 := b1.cell 5 (.slice A2 n4 c2) rfl
      have r6 := b1.cell 6 (.bool t2) rfl
      have r7 := b1.cell 7 (.slice B2 m2 d2) rfl
      unfold set8 at r0 r1 r2 r3 r4 r5 r6 r7
      refine bodyPost_ret (v := .agg #[.bool s1, .slice A1 n3 c1, .bool t1, .slice B1 m1 d1, .bool s2, .slice A2 n4 c2, .bool t2, .slice B2 m2 d2]) (by simp [results, Tryz.results55, go_sem, r0, r1, r2, r3, r4, r5, r6, r7]) rfl ⟨lo3, hi3, HU.out, s1, A1, n3, c1, t1, B1, m1, d1, s2, A2, n4, c2, t2, B2, m2, d2, rfl, ⟨⟨?_, ?_⟩, ⟨?_, ?_⟩⟩, b3 _ (ext.trans hx1) (by omega)⟩
      · exact b2 _ _ _ _ _ _ h1.low.num
      · exact b2 _ _ _ _ _ _ h1.low.den
      · exact b2 _ _ _ _ _ _ h1.high.num
      · exact b2 _ _ _ _ _ _ h1.high.den
set_option maxHeartbeats 16000000 in
set_option maxRecDepth 100000 in
theorem p_apply_Sub (h : IV w lo hi L s A n c t B m d s' A' n' c' t' B' m' d') (h' : IV w lo' hi' M u C i j v D k l u' C' i' j' v' D' k' l') (hL : L ≤ 20) (hM : M ≤ 20) (hT : Tab w) : Calls Tryz.prog 55 #[(.func (.func 59) #[] #[]), .agg #[.bool s, .slice A n c, .bool t, .slice B m d, .bool s', .slice A' n' c', .bool t', .slice B' m' d'], .agg #[.bool u, .slice C i j, .bool v, .slice D k l, .bool u', .slice C' i' j', .bool v', .slice D' k' l']] w (RetHull (prods (fun x y => x - y) (endsOf lo hi) (endsOf lo' hi')) (L + M + 1) w) := by
  obtain ⟨l1, hl1⟩ : ∃ l, endsOf lo hi = l := ⟨_, rfl⟩
  obtain ⟨l2, hl2⟩ : ∃ l, endsOf lo' hi' = l := ⟨_, rfl⟩
  have HL1 := Lib.hid hl1
  have HL2 := Lib.hid hl2
  have ho1 : 0 < l1.length ∧ l1.length ≤ 2 := by rw [← hl1]; exact endsOf_len _ _
  have ho2 : 0 < l2.length ∧ l2.length ≤ 2 := by rw [← hl2]; exact endsOf_len _ _
  skip
  rw [hl1, hl2]
  clear hl1 hl2
  go_enter Tryz.func55, Tryz.ntmps55
  go_upto_region 1 with (fail)
  obtain ⟨W0, hW, ext, bx, by_, bz, hz⟩ := box3 w 28 28 28 #[.bool s, .slice A n c, .bool t, .slice B m d, .bool s', .slice A' n' c', .bool t', .slice B' m' d'] #[.bool u, .slice C i j, .bool v, .slice D k l, .bool u', .slice C' i' j', .bool v', .slice D' k' l'] #[Value.bool false, Value.slice none 0 0, Value.bool false, Value.slice none 0 0, Value.bool false, Value.slice none 0 0, Value.bool false, Value.slice none 0 0]
  rw [← hW]
  clear hW hz
  have ha := h.ext ext
  have hb := h'.ext ext
  replace hT := hT.ext ext
  have k0 := bx.cell 0 (.bool s) rfl
  have k1 := bx.cell 1 (.slice A n c) rfl
  have k2 := bx.cell 2 (.bool t) rfl
  have k3 := bx.cell 3 (.slice B m d) rfl
  have k4 := bx.cell 4 (.bool s') rfl
  have k5 := bx.cell 5 (.slice A' n' c') rfl
  have k6 := bx.cell 6 (.bool t') rfl
  have k7 := bx.cell 7 (.slice B' m' d') rfl
  go_wp2_with fail
  refine (p_ends ha (by omega)).mono ?_
  rw [HL1.out]
  rintro e W1 ⟨g1, n1, q1, cs1, rfl, hn1, hb1, hc1, hg1, ext1⟩
  replace bx := bx.ext ext1
  replace by_ := by_.ext ext1
  replace bz := bz.ext ext1
  replace ha := ha.ext ext1
  replace hb := hb.ext ext1
  replace hT := hT.ext ext1
  replace ext := ext.trans ext1
  clear ext1 hg1 k0 k1 k2 k3 k4 k5 k6 k7
  have Hn1 := Lib.hid hn1
  rw [hn1] at ho1
  clear hn1
  go_wp2_with fail
  go_loopw [7, 15] (fun v i wr => ∃ (a1 : Nat), a1 ≤ n1 ∧ i = .int .i64 (a1 : Int) ∧ Ext W1 wr ∧ Row4 wr W1.heap.size v (prods (fun x y => x - y) (l1.take a1) l2) (L + M + 1)) (fun _ i _ => n1 - (intOf i).toNat)
  case atStart => exact ⟨0, Nat.zero_le _, rfl, Ext.refl _, Row4.nil _ _ _⟩
  case round =>
    obtain ⟨a1, hk, rfl, extr, hrow⟩ := hrel
    by_cases hlt : a1 < n1
    · have hkq : a1 < l1.length := by rw [Hn1.out]; exact hlt
      obtain ⟨s9, A9, n9, c9, t9, B9, m9, d9, e0, e1, e2, e3, hx⟩ := (RatsAt.of_box (hb1.ext extr) (hc1.ext extr)).at_ a1 hkq
      rw [Nat.zero_add] at e0 e1 e2 e3
      have HT := Lib.hid (show l1.take (a1 + 1) = l1.take a1 ++ [l1[a1]] from List.take_succ_eq_append_getElem hkq)
      generalize l1[a1] = x at hx HT
      have e0' : wr.cell? ⟨g1, a1 * 4, none⟩ = some (.bool s9) := by rw [Nat.mul_comm]; exact e0
      have e1' : wr.cell? ⟨g1, a1 * 4 + 1, none⟩ = some (.slice A9 n9 c9) := by rw [Nat.mul_comm]; exact e1
      have e2' : wr.cell? ⟨g1, a1 * 4 + 2, none⟩ = some (.bool t9) := by rw [Nat.mul_comm]; exact e2
      have e3' : wr.cell? ⟨g1, a1 * 4 + 3, none⟩ = some (.slice B9 m9 d9) := by rw [Nat.mul_comm]; exact e3
      go_upto_region 5 with (fail)
      obtain ⟨W2, hW2, ext2, b9, hz2⟩ := box1 wr 26 #[.bool s9, .slice A9 n9 c9, .bool t9, .slice B9 m9 d9]
      rw [← hW2]
      clear hW2 e0 e1 e2 e3 e0' e1' e2' e3'
      have hn9 : u7.ownBlock ≠ some wr.heap.size := fun h => by have := (hrow.block _ h).2; omega
      obtain ⟨g9, hg9⟩ : ∃ g, wr.heap.size = g := ⟨_, rfl⟩
      rw [hg9] at b9 hn9 hz2 ⊢
      clear hg9 hz2
      replace hx := hx.ext ext2
      replace hrow := hrow.ext ext2
      replace extr := extr.trans ext2
      clear ext2
      have k0 := (by_.ext extr).cell 0 (.bool u) rfl
      have k1 := (by_.ext extr).cell 1 (.slice C i j) rfl
      have k2 := (by_.ext extr).cell 2 (.bool v) rfl
      have k3 := (by_.ext extr).cell 3 (.slice D k l) rfl
      have k4 := (by_.ext extr).cell 4 (.bool u') rfl
      have k5 := (by_.ext extr).cell 5 (.slice C' i' j') rfl
      have k6 := (by_.ext extr).cell 6 (.bool v') rfl
      have k7 := (by_.ext extr).cell 7 (.slice D' k' l') rfl
      go_wp2_with fail
      refine (p_ends (hb.ext extr) (by omega)).mono ?_
      rw [HL2.out]
      rintro e W3 ⟨g2, n2, q2, cs2, rfl, hn2, hb2, hc2, hg2, ext3⟩
      have hne2 : u7.ownBlock ≠ some g2 := fun h => by have := (hrow.block _ h).2; omega
      replace hx := hx.ext ext3
      replace hrow := hrow.ext ext3
      replace extr := extr.trans ext3
      replace b9 := b9.ext ext3
      clear k0 k1 k2 k3 k4 k5 k6 k7 hg2 ext3
      have Hn2 := Lib.hid hn2
      have ho3 : 0 < n2 ∧ n2 ≤ 2 := by rw [← hn2]; exact ho2
      clear hn2
      go_wp2_with fail
      go_loopw [7, 22] (fun v i wq => ∃ (a2 : Nat), a2 ≤ n2 ∧ i = .int .i64 (a2 : Int) ∧ Ext W1 wq ∧ Row4 wq W1.heap.size v (prods (fun x y => x - y) (l1.take a1) l2 ++ (l2.take a2).map (fun y => x - y)) (L + M + 1) ∧ Box wq g2 26 cs2.toArray ∧ CellsOf wq M l2 cs2 ∧ Box wq g9 26 #[.bool s9, .slice A9 n9 c9, .bool t9, .slice B9 m9 d9] ∧ NR wq x L s9 A9 n9 c9 t9 B9 m9 d9 ∧ v.ownBlock ≠ some g2 ∧ v.ownBlock ≠ some g9) (fun _ i _ => n2 - (intOf i).toNat)
      case atStart => exact ⟨0, Nat.zero_le _, rfl, extr, by rw [List.take_zero, List.map_nil, List.append_nil]; exact hrow, hb2, hc2, b9, hx, hne2, hn9⟩
      case round =>
        clear extr hrow hb2 hc2 b9 hx hne2 hn9
        obtain ⟨a2, hk2, rfl, extr, hrow, hb2, hc2, b9, hx, hne2, hn9⟩ := hrel
        by_cases hlt2 : a2 < n2
        · have hkq2 : a2 < l2.length := by rw [Hn2.out]; exact hlt2
          have hlen := row_len (fun x y => x - y) (fun y => x - y) (l := l1) (l' := l2) a1 a2 (by rw [Hn1.out]; exact ho1.2) ho2.2
          obtain ⟨s8, A8, n8, c8, t8, B8, m8, d8, e0, e1, e2, e3, hy⟩ := (RatsAt.of_box hb2 hc2).at_ a2 hkq2
          rw [Nat.zero_add] at e0 e1 e2 e3
          have HT2 := Lib.hid (show l2.take (a2 + 1) = l2.take a2 ++ [l2[a2]] from List.take_succ_eq_append_getElem hkq2)
          generalize l2[a2] = y at hy HT2
          have e0' : wr.cell? ⟨g2, a2 * 4, none⟩ = some (.bool s8) := by rw [Nat.mul_comm]; exact e0
          have e1' : wr.cell? ⟨g2, a2 * 4 + 1, none⟩ = some (.slice A8 n8 c8) := by rw [Nat.mul_comm]; exact e1
          have e2' : wr.cell? ⟨g2, a2 * 4 + 2, none⟩ = some (.bool t8) := by rw [Nat.mul_comm]; exact e2
          have e3' : wr.cell? ⟨g2, a2 * 4 + 3, none⟩ = some (.slice B8 m8 d8) := by rw [Nat.mul_comm]; exact e3
          go_upto_region 8 with (fail)
          obtain ⟨W4, hW4, ext4, b8, hz4⟩ := box1 wr 26 #[.bool s8, .slice A8 n8 c8, .bool t8, .slice B8 m8 d8]
          rw [← hW4]
          clear hW4 hz4 e0 e1 e2 e3 e0' e1' e2' e3'
          replace extr := extr.trans ext4
          replace hrow := hrow.ext ext4
          replace hb2 := hb2.ext ext4
          replace hc2 := hc2.ext ext4
          replace b9 := b9.ext ext4
          replace hx := hx.ext ext4
          replace hy := hy.ext ext4
          clear ext4
          have x0 := b9.cell 0 (.bool s9) rfl
          have x1 := b9.cell 1 (.slice A9 n9 c9) rfl
          have x2 := b9.cell 2 (.bool t9) rfl
          have x3 := b9.cell 3 (.slice B9 m9 d9) rfl
          have y0 := b8.cell 0 (.bool s8) rfl
          have y1 := b8.cell 1 (.slice A8 n8 c8) rfl
          have y2 := b8.cell 2 (.bool t8) rfl
          have y3 := b8.cell 3 (.slice B8 m8 d8) rfl
          go_wp2_with fail
          refine (p_SubR hx hy (by omega) (by omega) (by omega) (hT.ext extr)).mono ?_
          rintro e W5 ⟨s7, A7, n7, c7, t7, B7, m7, d7, rfl, h7, ext5⟩
          clear x0 x1 x2 x3 y0 y1 y2 y3
          have ha5 := (ext5).alloc (.cells #[.bool s7, .slice A7 n7 c7, .bool t7, .slice B7 m7 d7] 26)
          replace extr := extr.trans ha5
          replace hrow := hrow.ext ha5
          replace hb2 := hb2.ext ha5
          replace hc2 := hc2.ext ha5
          replace b9 := b9.ext ha5
          replace hx := hx.ext ha5
          replace h7 := h7.ext ((Ext.refl W5).alloc (.cells #[.bool s7, .slice A7 n7 c7, .bool t7, .slice B7 m7 d7] 26))
          clear ext5 ha5
          have hgb := hb2.lt
          have hg9 := b9.lt
          go_wp2_with (at_builtin; refine wpList_append_rat rfl _ _ rfl rfl rfl hrow h7 (Box.new W5 _ _) hlen extr.size ?_; intro v6 W6 hrow6 hgr hob)
          go_roundw
          case rel =>
            refine ⟨a2 + 1, by omega, by go_num, Below.grown extr hgr extr.size (fun k hk => (hrow.block k hk).1), ?_, hb2.own hgr hne2, hc2.own hrow.nwb hgr, b9.own hgr hn9, hx.own hrow.nwb hgr, ?_, ?_⟩
            · rw [HT2.out, List.map_append, ← List.append_assoc]; exact hrow6
            · rcases hob with e | e
              · rw [e]; exact hne2
              · rw [e]; intro h; injection h with h; omega
            · rcases hob with e | e
              · rw [e]; exact hn9
              · rw [e]; intro h; injection h with h; omega
          case measure => simp [intOf]; omega
        · have hkn : a2 = n2 := by omega
          rw [hkn, List.take_of_length_le (Nat.le_of_eq Hn2.out)] at hrow
          go_wp2_with fail
          go_roundw
          case rel =>
            refine ⟨a1 + 1, by omega, by go_num, extr, ?_⟩
            rw [HT.out, prods_snoc]
            exact hrow
          case measure => simp [intOf]; omega
    · have hkn : a1 = n1 := by omega
      rw [hkn, List.take_of_length_le (Nat.le_of_eq Hn1.out)] at hrow
      have hpl := prods_len (fun x y => x - y) l1 l2
      have hp1 : 0 < (prods (fun x y => x - y) l1 l2).length := by rw [hpl]; exact Nat.mul_pos (by rw [Hn1.out]; exact ho1.1) ho2.1
      have hp2 : (prods (fun x y => x - y) l1 l2).length ≤ 1000 := by rw [hpl, Hn1.out]; exact Nat.le_trans (Nat.mul_le_mul ho1.2 ho2.2) (by omega)
      clear hpl
      obtain ⟨g7, c7, rfl, hra⟩ := hrow.shape (fun h => by rw [h] at hp1; exact absurd hp1 (by simp))
      clear hrow
      go_wp2_with fail
      refine (p_enclose hra rfl hp1 (by omega) hp2).mono ?_
      rintro e V ⟨lo3, hi3, hu, s1, A1, n3, c1, t1, B1, m1, d1, s2, A2, n4, c2, t2, B2, m2, d2, rfl, h1, hx0⟩
      have HU := Lib.hid hu
      clear hu hp1 hp2
      have hx1 := extr.trans hx0
      have z0 := (bz.ext hx1).cell 0 _ rfl
      have f0 := (bz.ext hx1).frozen 0
      have z1 := (bz.ext hx1).cell 1 _ rfl
      have f1 := (bz.ext hx1).frozen 1
      have z2 := (bz.ext hx1).cell 2 _ rfl
      have f2 := (bz.ext hx1).frozen 2
      have z3 := (bz.ext hx1).cell 3 _ rfl
      have f3 := (bz.ext hx1).frozen 3
      have z4 := (bz.ext hx1).cell 4 _ rfl
      have f4 := (bz.ext hx1).frozen 4
      have z5 := (bz.ext hx1).cell 5 _ rfl
      have f5 := (bz.ext hx1).frozen 5
      have z6 := (bz.ext hx1).cell 6 _ rfl
      have f6 := (bz.ext hx1).frozen 6
      have z7 := (bz.ext hx1).cell 7 _ rfl
      have f7 := (bz.ext hx1).frozen 7
      go_wp2_with fail
      obtain ⟨b1, b2, b3, b4⟩ := fin_oct (v0 := (.bool s1)) (v1 := (.slice A1 n3 c1)) (v2 := (.bool t1)) (v3 := (.slice B1 m1 d1)) (v4 := (.bool s2)) (v5 := (.slice A2 n4 c2)) (v6 := (.bool t2)) (v7 := (.slice B2 m2 d2)) (bz.ext hx1)
      have r0 := b1.cell 0 (.bool s1) rfl
      have r1 := b1.cell 1 (.slice A1 n3 c1) rfl
      have r2 := b1.cell 2 (.bool t1) rfl
      have r3 := b1.cell 3 (.slice B1 m1 d1) rfl
      have r4 := b1.cell 4 (.bool s2) rfl
      have r5 := b1.cell 5 (.slice A2 n4 c2) rfl
      have r6 := b1.cell 6 (.bool t2) rfl
      have r7 := b1.cell 7 (.slice B2 m2 d2) rfl
      unfold set8 at r0 r1 r2 r3 r4 r5 r6 r7
      refine bodyPost_ret (v := .agg #[.bool s1, .slice A1 n3 c1, .bool t1, .slice B1 m1 d1, .bool s2, .slice A2 n4 c2, .bool t2, .slice B2 m2 d2]) (by simp [results, Tryz.results55, go_sem, r0, r1, r2, r3, r4, r5, r6, r7]) rfl ⟨lo3, hi3, HU.out, s1, A1, n3, c1, t1, B1, m1, d1, s2, A2, n4, c2, t2, B2, m2, d2, rfl, ⟨⟨?_, ?_⟩, ⟨?_, ?_⟩⟩, b3 _ (ext.trans hx1) (by omega)⟩
      · exact b2 _ _ _ _ _ _ h1.low.num
      · exact b2 _ _ _ _ _ _ h1.low.den
      · exact b2 _ _ _ _ _ _ h1.high.num
      · exact b2 _ _ _ _ _ _ h1.high.den
end
end Go.Proofs.YtoabhnofppledaaGreatDoor
namespace Go.Proofs.YtoabhnofppledaaGreatDoor
open Go.RowKit
attribute [local go_sem ↓] Go.wp_at_zero Go.wp_at_succ
section
variable {w w' : World} {q p lo hi lo' hi' x : Rat} {L M : Nat} {s t s' t' sx tx u v u' v' : Bool} {A B A' B' Ax Bx C D C' D' : Option Addr} {n c m d n' c' m' d' nx cx mx dx i j k l i' j' k' l' : Nat} {qs : List Rat}
set_option maxHeartbeats 4000000 in
theorem p_AddV (h : IV w lo hi L s A n c t B m d s' A' n' c' t' B' m' d') (h' : IV w lo' hi' M u C i j v D k l u' C' i' j' v' D' k' l') (hL : L ≤ 20) (hM : M ≤ 20) (hT : Tab w) : Calls Tryz.prog 17 #[.agg #[.bool s, .slice A n c, .bool t, .slice B m d, .bool s', .slice A' n' c', .bool t', .slice B' m' d'], .agg #[.bool u, .slice C i j, .bool v, .slice D k l, .bool u', .slice C' i' j', .bool v', .slice D' k' l']] w (RetHull (prods (fun x y => x + y) (endsOf lo hi) (endsOf lo' hi')) (L + M + 1) w) := by
  go_enter Tryz.func17, Tryz.ntmps17
  go_upto_region 1 with (fail)
  obtain ⟨W, hW, ext, bx, by_, bz, hz⟩ := box3 w 28 28 28 #[.bool s, .slice A n c, .bool t, .slice B m d, .bool s', .slice A' n' c', .bool t', .slice B' m' d'] #[.bool u, .slice C i j, .bool v, .slice D k l, .bool u', .slice C' i' j', .bool v', .slice D' k' l'] #[Value.bool false, Value.slice none 0 0, Value.bool false, Value.slice none 0 0, Value.bool false, Value.slice none 0 0, Value.bool false, Value.slice none 0 0]
  rw [← hW]
  clear hW hz
  have k0 := bx.cell 0 (.bool s) rfl
  have k1 := bx.cell 1 (.slice A n c) rfl
  have k2 := bx.cell 2 (.bool t) rfl
  have k3 := bx.cell 3 (.slice B m d) rfl
  have k4 := bx.cell 4 (.bool s') rfl
  have k5 := bx.cell 5 (.slice A' n' c') rfl
  have k6 := bx.cell 6 (.bool t') rfl
  have k7 := bx.cell 7 (.slice B' m' d') rfl
  have x0 := by_.cell 0 (.bool u) rfl
  have x1 := by_.cell 1 (.slice C i j) rfl
  have x2 := by_.cell 2 (.bool v) rfl
  have x3 := by_.cell 3 (.slice D k l) rfl
  have x4 := by_.cell 4 (.bool u') rfl
  have x5 := by_.cell 5 (.slice C' i' j') rfl
  have x6 := by_.cell 6 (.bool v') rfl
  have x7 := by_.cell 7 (.slice D' k' l') rfl
  go_wp2_with fail
  refine (p_apply_Add (h.ext ext) (h'.ext ext) hL hM (hT.ext ext)).mono ?_
  rintro e V ⟨lo3, hi3, hu, s1, A1, n3, c1, t1, B1, m1, d1, s2, A2, n4, c2, t2, B2, m2, d2, rfl, h1, hx1⟩
  have HU := Lib.hid hu
  clear hu k0 k1 k2 k3 k4 k5 k6 k7 x0 x1 x2 x3 x4 x5 x6 x7
  have z0 := (bz.ext hx1).cell 0 _ rfl
  have f0 := (bz.ext hx1).frozen 0
  have z1 := (bz.ext hx1).cell 1 _ rfl
  have f1 := (bz.ext hx1).frozen 1
  have z2 := (bz.ext hx1).cell 2 _ rfl
  have f2 := (bz.ext hx1).frozen 2
  have z3 := (bz.ext hx1).cell 3 _ rfl
  have f3 := (bz.ext hx1).frozen 3
  have z4 := (bz.ext hx1).cell 4 _ rfl
  have f4 := (bz.ext hx1).frozen 4
  have z5 := (bz.ext hx1).cell 5 _ rfl
  have f5 := (bz.ext hx1).frozen 5
  have z6 := (bz.ext hx1).cell 6 _ rfl
  have f6 := (bz.ext hx1).frozen 6
  have z7 := (bz.ext hx1).cell 7 _ rfl
  have f7 := (bz.ext hx1).frozen 7
  go_wp2_with fail
  obtain ⟨b1, b2, b3, b4⟩ := fin_oct (v0 := (.bool s1)) (v1 := (.slice A1 n3 c1)) (v2 := (.bool t1)) (v3 := (.slice B1 m1 d1)) (v4 := (.bool s2)) (v5 := (.slice A2 n4 c2)) (v6 := (.bool t2)) (v7 := (.slice B2 m2 d2)) (bz.ext hx1)
  have r0 := b1.cell 0 (.bool s1) rfl
  have r1 := b1.cell 1 (.slice A1 n3 c1) rfl
  have r2 := b1.cell 2 (.bool t1) rfl
  have r3 := b1.cell 3 (.slice B1 m1 d1) rfl
  have r4 := b1.cell 4 (.bool s2) rfl
  have r5 := b1.cell 5 (.slice A2 n4 c2) rfl
  have r6 := b1.cell 6 (.bool t2) rfl
  have r7 := b1.cell 7 (.slice B2 m2 d2) rfl
  unfold set8 at r0 r1 r2 r3 r4 r5 r6 r7
  refine bodyPost_ret (v := .agg #[.bool s1, .slice A1 n3 c1, .bool t1, .slice B1 m1 d1, .bool s2, .slice A2 n4 c2, .bool t2, .slice B2 m2 d2]) (by simp [results, Tryz.results17, go_sem, r0, r1, r2, r3, r4, r5, r6, r7]) rfl ⟨lo3, hi3, HU.out, s1, A1, n3, c1, t1, B1, m1, d1, s2, A2, n4, c2, t2, B2, m2, d2, rfl, ⟨⟨?_, ?_⟩, ⟨?_, ?_⟩⟩, b3 _ (ext.trans hx1) (by omega)⟩
  · exact b2 _ _ _ _ _ _ h1.low.num
  · exact b2 _ _ _ _ _ _ h1.low.den
  · exact b2 _ _ _ _ _ _ h1.high.num
  · exact b2 _ _ _ _ _ _ h1.high.den
set_option maxHeartbeats 4000000 in
theorem p_SubV (h : IV w lo hi L s A n c t B m d s' A' n' c' t' B' m' d') (h' : IV w lo' hi' M u C i j v D k l u' C' i' j' v' D' k' l') (hL : L ≤ 20) (hM : M ≤ 20) (hT : Tab w) : Calls Tryz.prog 19 #[.agg #[.bool s, .slice A n c, .bool t, .slice B m d, .bool s', .slice A' n' c', .bool t', .slice B' m' d'], .agg #[.bool u, .slice C i j, .bool v, .slice D k l, .bool u', .slice C' i' j', .bool v', .slice D' k' l']] w (RetHull (prods (fun x y => x - y) (endsOf lo hi) (endsOf lo' hi')) (L + M + 1) w) := by
  go_enter Tryz.func19, Tryz.ntmps19
  go_upto_region 1 with (fail)
  obtain ⟨W, hW, ext, bx, by_, bz, hz⟩ := box3 w 28 28 28 #[.bool s, .slice A n c, .bool t, .slice B m d, .bool s', .slice A' n' c', .bool t', .slice B' m' d'] #[.bool u, .slice C i j, .bool v, .slice D k l, .bool u', .slice C' i' j', .bool v', .slice D' k' l'] #[Value.bool false, Value.slice none 0 0, Value.bool false, Value.slice none 0 0, Value.bool false, Value.slice none 0 0, Value.bool false, Value.slice none 0 0]
  rw [← hW]
  clear hW hz
  have k0 := bx.cell 0 (.bool s) rfl
  have k1 := bx.cell 1 (.slice A n c) rfl
  have k2 := bx.cell 2 (.bool t) rfl
  have k3 := bx.cell 3 (.slice B m d) rfl
  have k4 := bx.cell 4 (.bool s') rfl
  have k5 := bx.cell 5 (.slice A' n' c') rfl
  have k6 := bx.cell 6 (.bool t') rfl
  have k7 := bx.cell 7 (.slice B' m' d') rfl
  have x0 := by_.cell 0 (.bool u) rfl
  have x1 := by_.cell 1 (.slice C i j) rfl
  have x2 := by_.cell 2 (.bool v) rfl
  have x3 := by_.cell 3 (.slice D k l) rfl
  have x4 := by_.cell 4 (.bool u') rfl
  have x5 := by_.cell 5 (.slice C' i' j') rfl
  have x6 := by_.cell 6 (.bool v') rfl
  have x7 := by_.cell 7 (.slice D' k' l') rfl
  go_wp2_with fail
  refine (p_apply_Sub (h.ext ext) (h'.ext ext) hL hM (hT.ext ext)).mono ?_
  rintro e V ⟨lo3, hi3, hu, s1, A1, n3, c1, t1, B1, m1, d1, s2, A2, n4, c2, t2, B2, m2, d2, rfl, h1, hx1⟩
  have HU := Lib.hid hu
  clear hu k0 k1 k2 k3 k4 k5 k6 k7 x0 x1 x2 x3 x4 x5 x6 x7
  have z0 := (bz.ext hx1).cell 0 _ rfl
  have f0 := (bz.ext hx1).frozen 0
  have z1 := (bz.ext hx1).cell 1 _ rfl
  have f1 := (bz.ext hx1).frozen 1
  have z2 := (bz.ext hx1).cell 2 _ rfl
  have f2 := (bz.ext hx1).frozen 2
  have z3 := (bz.ext hx1).cell 3 _ rfl
  have f3 := (bz.ext hx1).frozen 3
  have z4 := (bz.ext hx1).cell 4 _ rfl
  have f4 := (bz.ext hx1).frozen 4
  have z5 := (bz.ext hx1).cell 5 _ rfl
  have f5 := (bz.ext hx1).frozen 5
  have z6 := (bz.ext hx1).cell 6 _ rfl
  have f6 := (bz.ext hx1).frozen 6
  have z7 := (bz.ext hx1).cell 7 _ rfl
  have f7 := (bz.ext hx1).frozen 7
  go_wp2_with fail
  obtain ⟨b1, b2, b3, b4⟩ := fin_oct (v0 := (.bool s1)) (v1 := (.slice A1 n3 c1)) (v2 := (.bool t1)) (v3 := (.slice B1 m1 d1)) (v4 := (.bool s2)) (v5 := (.slice A2 n4 c2)) (v6 := (.bool t2)) (v7 := (.slice B2 m2 d2)) (bz.ext hx1)
  have r0 := b1.cell 0 (.bool s1) rfl
  have r1 := b1.cell 1 (.slice A1 n3 c1) rfl
  have r2 := b1.cell 2 (.bool t1) rfl
  have r3 := b1.cell 3 (.slice B1 m1 d1) rfl
  have r4 := b1.cell 4 (.bool s2) rfl
  have r5 := b1.cell 5 (.slice A2 n4 c2) rfl
  have r6 := b1.cell 6 (.bool t2) rfl
  have r7 := b1.cell 7 (.slice B2 m2 d2) rfl
  unfold set8 at r0 r1 r2 r3 r4 r5 r6 r7
  refine bodyPost_ret (v := .agg #[.bool s1, .slice A1 n3 c1, .bool t1, .slice B1 m1 d1, .bool s2, .slice A2 n4 c2, .bool t2, .slice B2 m2 d2]) (by simp [results, Tryz.results19, go_sem, r0, r1, r2, r3, r4, r5, r6, r7]) rfl ⟨lo3, hi3, HU.out, s1, A1, n3, c1, t1, B1, m1, d1, s2, A2, n4, c2, t2, B2, m2, d2, rfl, ⟨⟨?_, ?_⟩, ⟨?_, ?_⟩⟩, b3 _ (ext.trans hx1) (by omega)⟩
  · exact b2 _ _ _ _ _ _ h1.low.num
  · exact b2 _ _ _ _ _ _ h1.low.den
  · exact b2 _ _ _ _ _ _ h1.high.num
  · exact b2 _ _ _ _ _ _ h1.high.den
end
end Go.Proofs.YtoabhnofppledaaGreatDoor
namespace Go.Proofs.YtoabhnofppledaaGreatDoor
open Go.RowKit
attribute [local go_sem ↓] Go.wp_at_zero Go.wp_at_succ
section
variable {w w' : World} {q p lo hi lo' hi' x : Rat} {L M : Nat} {s t s' t' sx tx u v u' v' : Bool} {A B A' B' Ax Bx C D C' D' : Option Addr} {n c m d n' c' m' d' nx cx mx dx i j k l i' j' k' l' : Nat} {qs : List Rat}
set_option maxHeartbeats 4000000 in
theorem p_DivV_0 (h : IV w lo hi L s A n c t B m d s' A' n' c' t' B' m' d') (h' : IV w lo' hi' M u C i j v D k l u' C' i' j' v' D' k' l') (hM : M ≤ 20) (hin : inB lo' hi' ((0 : Int) : Rat) = true) : Calls Tryz.prog 24 #[.agg #[.bool s, .slice A n c, .bool t, .slice B m d, .bool s', .slice A' n' c', .bool t', .slice B' m' d'], .agg #[.bool u, .slice C i j, .bool v, .slice D k l, .bool u', .slice C' i' j', .bool v', .slice D' k' l']] w fun e w' => e = .returned (.tuple #[.agg #[.bool false, .slice none 0 0, .bool false, .slice none 0 0, .bool false, .slice none 0 0, .bool false, .slice none 0 0], .int .i64 6]) ∧ Ext w w' := by
  go_enter Tryz.func24, Tryz.ntmps24
  go_upto_region 1 with (fail)
  obtain ⟨W, hW, ext, bx, by_, bz, hz⟩ := box3 w 28 28 28 #[.bool s, .slice A n c, .bool t, .slice B m d, .bool s', .slice A' n' c', .bool t', .slice B' m' d'] #[.bool u, .slice C i j, .bool v, .slice D k l, .bool u', .slice C' i' j', .bool v', .slice D' k' l'] #[Value.bool false, Value.slice none 0 0, Value.bool false, Value.slice none 0 0, Value.bool false, Value.slice none 0 0, Value.bool false, Value.slice none 0 0]
  rw [← hW]
  clear hW hz
  have ha := h.ext ext
  have hb := h'.ext ext
  have Hin := Lib.hid hin
  clear hin
  have ES0 := Ext.refl W
  refine wp_region_held_drew (S := Ext W) (by kernel_rfl) ES0.drew (fun ES => ?_)
  clear ES0
  refine Late.start0 (fun _ _ _ _ _ => ⟨fun h => h, fun h => h⟩) ES (fun hAl hQ => ?_)
  refine Late.take (i := 0) (d := some 6) (v := ?v0_49) rfl rfl (by kernel_rfl) (by kernel_rfl) (by kernel_rfl) (by kernel_rfl) hQ (Or.inl ⟨by rfl, ?y0_49⟩) ?r0_49
  case y0_49 =>
    intro w' hSw
    have k00 := (by_.ext hSw).c8
    go_simp
    try with_reducible rfl
  try simp only [Act.put]
  try simp only [List.setIfInBounds_toArray]
  try simp only [List.set_cons_succ]
  try simp only [List.set_cons_zero]
  refine Late.call (i := 1) rfl (by kernel_rfl) hAl (by kernel_rfl) (by kernel_rfl) (by kernel_rfl) hQ (fun w1 e1 E1 K hK => ?_)
  go_simp
  (go_at_call 61; refine (p_FromIntR 0 (by omega) (by omega)).mono ?_; rintro e wk1 ⟨sz, Az, nz, cz, tz, Bz, mz, dz, rfl, rz, hx1⟩)
  refine hK.out _ _ hx1 ?_
  clear hK K
  try simp only [Act.put]
  try simp only [List.setIfInBounds_toArray]
  try simp only [List.set_cons_succ]
  try simp only [List.set_cons_zero]
  refine Late.call (i := 2) rfl (by kernel_rfl) hAl (by kernel_rfl) (by kernel_rfl) (by kernel_rfl) hQ (fun w2 e2 E2 K hK => ?_)
  go_simp
  (replace rz := rz.ext e2; go_at_call 38; refine (p_Contains (hb.ext E2) rz (by omega) (by omega)).mono ?_; rintro e wk2 ⟨rfl, hx2⟩; replace rz := rz.ext hx2; rw [Hin.out])
  refine hK.out _ _ hx2 ?_
  clear hK K
  try simp only [Act.put]
  try simp only [List.setIfInBounds_toArray]
  try simp only [List.set_cons_succ]
  try simp only [List.set_cons_zero]
  refine Late.done0 (by kernel_rfl) (fun wz ez Ez => ?_)
  clear hAl hQ ES
  replace bx := bx.ext Ez
  replace by_ := by_.ext Ez
  replace bz := bz.ext Ez
  replace ha := ha.ext Ez
  replace hb := hb.ext Ez
  replace ext := ext.trans Ez
  clear Ez ez rz
  have hx1 := Ext.refl wz
  have z0 := (bz.ext hx1).cell 0 _ rfl
  have f0 := (bz.ext hx1).frozen 0
  have z1 := (bz.ext hx1).cell 1 _ rfl
  have f1 := (bz.ext hx1).frozen 1
  have z2 := (bz.ext hx1).cell 2 _ rfl
  have f2 := (bz.ext hx1).frozen 2
  have z3 := (bz.ext hx1).cell 3 _ rfl
  have f3 := (bz.ext hx1).frozen 3
  have z4 := (bz.ext hx1).cell 4 _ rfl
  have f4 := (bz.ext hx1).frozen 4
  have z5 := (bz.ext hx1).cell 5 _ rfl
  have f5 := (bz.ext hx1).frozen 5
  have z6 := (bz.ext hx1).cell 6 _ rfl
  have f6 := (bz.ext hx1).frozen 6
  have z7 := (bz.ext hx1).cell 7 _ rfl
  have f7 := (bz.ext hx1).frozen 7
  go_wp2_with fail
  obtain ⟨b1, b2, b3, b4⟩ := fin_oct (v0 := (.bool false)) (v1 := (.slice none 0 0)) (v2 := (.bool false)) (v3 := (.slice none 0 0)) (v4 := (.bool false)) (v5 := (.slice none 0 0)) (v6 := (.bool false)) (v7 := (.slice none 0 0)) (bz.ext hx1)
  have r0 := b1.cell 0 (.bool false) rfl
  have r1 := b1.cell 1 (.slice none 0 0) rfl
  have r2 := b1.cell 2 (.bool false) rfl
  have r3 := b1.cell 3 (.slice none 0 0) rfl
  have r4 := b1.cell 4 (.bool false) rfl
  have r5 := b1.cell 5 (.slice none 0 0) rfl
  have r6 := b1.cell 6 (.bool false) rfl
  have r7 := b1.cell 7 (.slice none 0 0) rfl
  unfold set8 at r0 r1 r2 r3 r4 r5 r6 r7
  refine bodyPost_ret (v := .tuple #[.agg #[.bool false, .slice none 0 0, .bool false, .slice none 0 0, .bool false, .slice none 0 0, .bool false, .slice none 0 0], .int .i64 6]) (by simp [results, Tryz.results24, go_sem, r0, r1, r2, r3, r4, r5, r6, r7]) rfl ⟨rfl, b3 _ (ext.trans hx1) (by omega)⟩
end
end Go.Proofs.YtoabhnofppledaaGreatDoor
namespace Go.Proofs.YtoabhnofppledaaGreatDoor
open Go.RowKit
attribute [local go_sem ↓] Go.wp_at_zero Go.wp_at_succ
def few10 (n m : Nat) (s : Bool) (xs : List Nat) (t : Bool) (ys : List Nat) : Bool := decide (n ≤ 10) && (decide (m ≤ 10) && validQ s xs t ys)
/-- an interval with ends of at most ten words. -/
def fewV (n m n' m' : Nat) (s : Bool) (xs : List Nat) (t : Bool) (ys : List Nat) (s' : Bool) (xs' : List Nat) (t' : Bool) (ys' : List Nat) : Bool :=
  few10 n m s xs t ys && (few10 n' m' s' xs' t' ys' && validV s xs t ys s' xs' t' ys')
theorem few10_le {n m : Nat} {s : Bool} {xs : List Nat} {t : Bool} {ys : List Nat} (h : few10 n m s xs t ys = true) : n ≤ 10 ∧ m ≤ 10 ∧ validQ s xs t ys = true := by
  unfold few10 at h
  simp only [Bool.and_eq_true, decide_eq_true_eq] at h
  exact ⟨h.1, h.2.1, h.2.2⟩
theorem few_iv {w : World} {s t s' t' : Bool} {A B A' B' : Option Addr} {n c m d n' c' m' d' : Nat} {xs ys xs' ys' : List Nat} (h : RI w A n c xs) (k : RI w B m d ys) (h' : RI w A' n' c' xs') (k' : RI w B' m' d' ys') (hf : fewV n m n' m' s xs t ys s' xs' t' ys' = true) :
    IV w (rawQ s xs t ys) (rawQ s' xs' t' ys') 10 s A n c t B m d s' A' n' c' t' B' m' d' ∧ rawQ s xs t ys ≤ rawQ s' xs' t' ys' := by
  unfold fewV validV at hf
  simp only [Bool.and_eq_true, decide_eq_true_eq] at hf
  obtain ⟨f1, f2, f3, f4, f5⟩ := hf
  obtain ⟨a1, a2, a3⟩ := few10_le f1
  obtain ⟨b1, b2, b3⟩ := few10_le f2
  exact ⟨⟨NR.of_raw' h k a3 a1 a2, NR.of_raw' h' k' b3 b1 b2⟩, f5⟩
section
variable {w w' : World} {L M : Nat} {s t s' t' : Bool} {A B A' B' : Option Addr} {n c m d n' c' m' d' : Nat} {xs ys xs' ys' : List Nat}
set_option maxHeartbeats 4000000 in
theorem q_Few10 (h : RI w A n c xs) (k : RI w B m d ys) : Calls Tryz.prog 34 #[.agg #[.bool s, .slice A n c, .bool t, .slice B m d], .int .i64 10] w fun e w' => e = .returned (.bool (few10 n m s xs t ys)) ∧ Ext w w' := by
  by_cases h1 : n ≤ 10
  · have d1 : decide ((n : Int) ≤ (10 : Int)) = true := decide_eq_true (by omega)
    by_cases h2 : m ≤ 10
    · have d2 : decide ((m : Int) ≤ (10 : Int)) = true := decide_eq_true (by omega)
      have hf : few10 n m s xs t ys = validQ s xs t ys := by unfold few10; rw [decide_eq_true h1, decide_eq_true h2]; rfl
      rw [hf]
      clear hf
      go_enter Tryz.func34, Tryz.ntmps34
      go_upto_region 1 with (fail)
      obtain ⟨W, hW, extW, bx, hz⟩ := box1 w 26 #[.bool s, .slice A n c, .bool t, .slice B m d]
      rw [← hW]
      clear hW
      replace h := h.ext extW
      replace k := k.ext extW
      have x0 := bx.cell 0 (.bool s) rfl
      have x1 := bx.cell 1 (.slice A n c) rfl
      have x2 := bx.cell 2 (.bool t) rfl
      have x3 := bx.cell 3 (.slice B m d) rfl
      go_wp2_with fail
      refine (q_ValidRaw h k (by omega) (by omega)).mono ?_
      rintro e wd ⟨rfl, hxd⟩
      go_wp2_with fail
      go_ret
      exact ⟨rfl, extW.trans hxd⟩
    · have d2 : decide ((m : Int) ≤ (10 : Int)) = false := decide_eq_false (by omega)
      have hf : few10 n m s xs t ys = false := by unfold few10; rw [decide_eq_true h1, decide_eq_false h2]; rfl
      rw [hf]
      clear hf
      go_enter Tryz.func34, Tryz.ntmps34
      go_upto_region 1 with (fail)
      obtain ⟨W, hW, extW, bx, hz⟩ := box1 w 26 #[.bool s, .slice A n c, .bool t, .slice B m d]
      rw [← hW]
      clear hW
      replace h := h.ext extW
      replace k := k.ext extW
      have x0 := bx.cell 0 (.bool s) rfl
      have x1 := bx.cell 1 (.slice A n c) rfl
      have x2 := bx.cell 2 (.bool t) rfl
      have x3 := bx.cell 3 (.slice B m d) rfl
      go_wp2_with fail
      go_ret
      exact ⟨rfl, extW⟩
  · have d1 : decide ((n : Int) ≤ (10 : Int)) = false := decide_eq_false (by omega)
    have hf : few10 n m s xs t ys = false := by unfold few10; rw [decide_eq_false h1]; rfl
    rw [hf]
    clear hf
    go_enter Tryz.func34, Tryz.ntmps34
    go_upto_region 1 with (fail)
    obtain ⟨W, hW, extW, bx, hz⟩ := box1 w 26 #[.bool s, .slice A n c, .bool t, .slice B m d]
    rw [← hW]
    clear hW
    replace h := h.ext extW
    replace k := k.ext extW
    have x0 := bx.cell 0 (.bool s) rfl
    have x1 := bx.cell 1 (.slice A n c) rfl
    have x2 := bx.cell 2 (.bool t) rfl
    have x3 := bx.cell 3 (.slice B m d) rfl
    go_wp2_with fail
    go_ret
    exact ⟨rfl, extW⟩
set_option maxHeartbeats 4000000 in
theorem q_FewV (h : RI w A n c xs) (k : RI w B m d ys) (h' : RI w A' n' c' xs') (k' : RI w B' m' d' ys') : Calls Tryz.prog 54 #[.agg #[.bool s, .slice A n c, .bool t, .slice B m d, .bool s', .slice A' n' c', .bool t', .slice B' m' d'], .int .i64 10] w fun e w' => e = .returned (.bool (fewV n m n' m' s xs t ys s' xs' t' ys')) ∧ Ext w w' := by
  obtain ⟨r, hr⟩ : ∃ r, fewV n m n' m' s xs t ys s' xs' t' ys' = r := ⟨_, rfl⟩
  have HR := Lib.hid hr
  rw [hr]
  clear hr
  go_enter Tryz.func54, Tryz.ntmps54
  go_upto_region 1 with (fail)
  obtain ⟨W, hW, ext, bx, hz⟩ := box1 w 28 #[.bool s, .slice A n c, .bool t, .slice B m d, .bool s', .slice A' n' c', .bool t', .slice B' m' d']
  rw [← hW]
  clear hW hz
  have k0 := bx.cell 0 (.bool s) rfl
  have k1 := bx.cell 1 (.slice A n c) rfl
  have k2 := bx.cell 2 (.bool t) rfl
  have k3 := bx.cell 3 (.slice B m d) rfl
  have k4 := bx.cell 4 (.bool s') rfl
  have k5 := bx.cell 5 (.slice A' n' c') rfl
  have k6 := bx.cell 6 (.bool t') rfl
  have k7 := bx.cell 7 (.slice B' m' d') rfl
  cases hv : few10 n m s xs t ys with
  | false =>
    have HV := Lib.hid hv
    clear hv
    go_wp2_with fail
    refine (q_Few10 (h.ext ext) (k.ext ext)).mono ?_
    rintro e V ⟨rfl, hxc⟩
    rw [HV.out]
    go_wp2_with fail
    go_ret
    refine ⟨?_, ext.trans hxc⟩
    rw [← HR.out, fewV, HV.out]; rfl
  | true =>
    have hb1 := few10_le hv
    have HV := Lib.hid hv
    clear hv
    go_wp2_with fail
    refine (q_Few10 (h.ext ext) (k.ext ext)).mono ?_
    rintro e V ⟨rfl, hxc⟩
    rw [HV.out]
    replace bx := bx.ext hxc
    replace ext := ext.trans hxc
    clear hxc k0 k1 k2 k3 k4 k5 k6 k7
    have k0 := bx.cell 0 (.bool s) rfl
    have k1 := bx.cell 1 (.slice A n c) rfl
    have k2 := bx.cell 2 (.bool t) rfl
    have k3 := bx.cell 3 (.slice B m d) rfl
    have k4 := bx.cell 4 (.bool s') rfl
    have k5 := bx.cell 5 (.slice A' n' c') rfl
    have k6 := bx.cell 6 (.bool t') rfl
    have k7 := bx.cell 7 (.slice B' m' d') rfl
    cases hv' : few10 n' m' s' xs' t' ys' with
    | false =>
      have HV' := Lib.hid hv'
      clear hv'
      have HB := Lib.hid hb1
      clear hb1
      go_wp2_with fail
      refine (q_Few10 (h'.ext ext) (k'.ext ext)).mono ?_
      rintro e V2 ⟨rfl, hxc⟩
      rw [HV'.out]
      go_wp2_with fail
      go_ret
      refine ⟨?_, ext.trans hxc⟩
      rw [← HR.out, fewV, HV.out, HV'.out]; rfl
    | true =>
      have hb2 := few10_le hv'
      have HV' := Lib.hid hv'
      clear hv'
      have HB := Lib.hid (And.intro hb1 hb2)
      clear hb1 hb2
      go_wp2_with fail
      refine (q_Few10 (h'.ext ext) (k'.ext ext)).mono ?_
      rintro e V2 ⟨rfl, hxc⟩
      rw [HV'.out]
      replace bx := bx.ext hxc
      replace ext := ext.trans hxc
      clear hxc k0 k1 k2 k3 k4 k5 k6 k7
      have k0 := bx.cell 0 (.bool s) rfl
      have k1 := bx.cell 1 (.slice A n c) rfl
      have k2 := bx.cell 2 (.bool t) rfl
      have k3 := bx.cell 3 (.slice B m d) rfl
      have k4 := bx.cell 4 (.bool s') rfl
      have k5 := bx.cell 5 (.slice A' n' c') rfl
      have k6 := bx.cell 6 (.bool t') rfl
      have k7 := bx.cell 7 (.slice B' m' d') rfl
      go_wp2_with fail
      refine (q_ValidV (h.ext ext) (k.ext ext) (h'.ext ext) (k'.ext ext) (by have := HB.out; omega) (by have := HB.out; omega) (by have := HB.out; omega) (by have := HB.out; omega)).mono ?_
      rintro e V3 ⟨rfl, hxc⟩
      go_wp2_with fail
      go_ret
      refine ⟨?_, ext.trans hxc⟩
      rw [← HR.out, fewV, HV.out, HV'.out]; rfl
end
end Go.Proofs.YtoabhnofppledaaGreatDoor
