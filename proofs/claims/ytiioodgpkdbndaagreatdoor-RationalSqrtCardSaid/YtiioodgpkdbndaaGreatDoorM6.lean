/- Walks and laws, a part. -/
import Derived.Test.YtiioodgpkdbndaaGreatDoorM5
import Derived.Test.YtiioodgpkdbndaaGreatDoorM4
namespace Go.Proofs.YtiioodgpkdbndaaGreatDoor
open Go.RowKit
attribute [local go_sem ↓] Go.wp_at_zero Go.wp_at_succ
/-- the numbers of a small rational number. -/
def Sm (q : Rat) (a b : Int) : Prop := a = q.num ∧ b = (q.den : Int) ∧ a.natAbs < 2147483648 ∧ b.natAbs < 2147483648
theorem NoWord.ints {a b : Int} : NoWord #[.int .i64 a, .int .i64 b] := by
  intro i k h
  match i with
  | 0 => simp at h
  | 1 => simp at h
  | i + 2 => simp at h
theorem fin_ints {w2 : World} {g : Nat} {T : TypeId} {x y a b : Int} (hb : Box w2 g T #[.int .i64 x, .int .i64 y]) :
    Box (set2 w2 g (.int .i64 a) (.int .i64 b)) g T #[.int .i64 a, .int .i64 b] ∧
    (∀ z L s' A' n' c', NI w2 z L s' A' n' c' → NI (set2 w2 g (.int .i64 a) (.int .i64 b)) z L s' A' n' c') ∧
    (∀ W, Ext W w2 → W.heap.size ≤ g → Ext W (set2 w2 g (.int .i64 a) (.int .i64 b))) ∧
    (∀ g' T' cs', g' ≠ g → Box w2 g' T' cs' → Box (set2 w2 g (.int .i64 a) (.int .i64 b)) g' T' cs') := by
  unfold set2
  have h1 : Box (w2.setCell ⟨g, 0, none⟩ (.int .i64 a)) g T #[.int .i64 a, .int .i64 y] := hb.set 0 (.int .i64 a)
  refine ⟨h1.set 1 (.int .i64 b), fun z L s' A' n' c' h => ?_, fun W e hg => ?_, fun g' T' cs' hg h => ?_⟩
  · exact (h.set hb NoWord.ints 0 _).set h1 NoWord.ints 1 _
  · exact (e.setCell hg _).setCell hg _
  · exact (h.far hg _).far hg _
section
variable {w w' : World} {z y : Int} {q p : Rat} {L M : Nat} {s t s' t' : Bool} {A B A' B' : Option Addr} {n c m d n' c' m' d' : Nat}
theorem p_Int64 (h : NI w z L s A n c) (hL : L ≤ 100000) : Calls Tryz.prog 51 #[.agg #[.bool s, .slice A n c]] w (RetV z w) := by
  obtain ⟨xs, hn, hx, hc, hcm, hi, hl⟩ := h.out
  rw [← hi.eq]
  exact int_Int64 hn hx hc hcm (by omega)
theorem NI.one_word (h : NI w z L s A n c) (h1 : n ≤ 1) : z.natAbs < 4294967296 := by
  obtain ⟨xs, hn, hx, hc, hcm, hi, hl⟩ := h.out
  have h2 := val_lt hx.1
  have h3 : 4294967296 ^ xs.length ≤ 4294967296 ^ 1 := Nat.pow_le_pow_right (by omega) (by omega)
  rw [hi.abs] at h2
  omega
def RetSm (q : Rat) (w : World) (e : Ending) (w' : World) : Prop := ∃ a b ok, e = .returned (.tuple #[.agg #[.int .i64 a, .int .i64 b], .bool ok]) ∧ (ok = true → Sm q a b) ∧ Ext w w'
set_option maxHeartbeats 2000000 in
theorem p_toSmall (h : NR w q L s A n c t B m d) (hL : L ≤ 20000) : Calls Tryz.prog 97 #[.agg #[.bool s, .slice A n c, .bool t, .slice B m d]] w (RetSm q w) := by
  have hnm : n ≤ 20000 ∧ m ≤ 20000 := by have := h.num.size; have := h.den.size; omega
  go_enter Tryz.func97, Tryz.ntmps97
  go_upto_region 1 with (fail)
  obtain ⟨W, hW, extW, bx, bz, hz⟩ := box2 w 27 63 #[.bool s, .slice A n c, .bool t, .slice B m d] #[Value.int .i64 0, Value.int .i64 0]
  rw [← hW]
  clear hW
  have x0 := bx.cell 0 (.bool s) rfl
  have x1 := bx.cell 1 (.slice A n c) rfl
  have x2 := bx.cell 2 (.bool t) rfl
  have x3 := bx.cell 3 (.slice B m d) rfl
  have hE := Ext.refl W
  by_cases hn : n ≤ 1
  · have d1 : decide ((1 : Int) < (n : Int)) = false := decide_eq_false (by omega)
    have d1' : decide (1 < n) = false := decide_eq_false (by omega)
    by_cases hm : m = 1
    · have d2 : ((m : Int) != 1) = false := by simp [hm]
      have hq1 := h.num.one_word hn
      have hq2 := h.den.one_word (by omega)
      have hv1 := (fit_yes (z := q.num) (by omega)).2
      have hv2 := (fit_yes (z := (q.den : Int)) (by omega)).2
      have Hv1 := Lib.hid hv1
      have Hv2 := Lib.hid hv2
      clear hv1 hv2
      subst hm
      go_wp2_with fail
      refine (p_Int64 (h.num.ext extW) (by omega)).mono ?_
      rintro e wa ⟨rfl, hxa⟩
      rw [Hv1.out]
      have x2 := (bx.ext hxa).cell 2 (.bool t) rfl
      have x3 := (bx.ext hxa).cell 3 (.slice B 1 d) rfl
      go_wp2_with fail
      refine (p_Int64 (h.den.ext (extW.trans hxa)) (by omega)).mono ?_
      rintro e wb ⟨rfl, hxb⟩
      rw [Hv2.out]
      clear x0 x1 x2 x3 hE
      have hE := hxa.trans hxb
      have z0 := (bz.ext hE).cell 0 _ rfl
      have z1 := (bz.ext hE).cell 1 _ rfl
      have f0 := (bz.ext hE).frozen 0
      have f1 := (bz.ext hE).frozen 1
      obtain ⟨a, ha⟩ : ∃ a, q.num = a := ⟨_, rfl⟩
      obtain ⟨b, hb⟩ : ∃ b, (q.den : Int) = b := ⟨_, rfl⟩
      have Ha := Lib.hid ha
      have Hb := Lib.hid hb
      rw [ha, hb]
      rw [ha] at hq1
      rw [hb] at hq2
      clear ha hb
      by_cases k1 : -2147483648 < a
      · have g1 : decide (-2147483648 < a) = true := decide_eq_true k1
        by_cases k2 : a < 2147483648
        · have g2 : decide (a < 2147483648) = true := decide_eq_true k2
          by_cases k3 : 0 < b
          · have g3 : decide (0 < b) = true := decide_eq_true k3
            by_cases k4 : b < 2147483648
            · have g4 : decide (b < 2147483648) = true := decide_eq_true k4
              go_wp2_with fail
              obtain ⟨b1, b2, b3, b4⟩ := fin_ints (a := a) (b := b) (bz.ext hE)
              have r0 := b1.cell 0 (.int .i64 (a)) rfl
              have r1 := b1.cell 1 (.int .i64 (b)) rfl
              unfold set2 at r0 r1
              exact bodyPost_ret (v := .tuple #[.agg #[.int .i64 (a), .int .i64 (b)], .bool true]) (by simp [results, Tryz.results97, go_sem, r0, r1]) rfl ⟨a, b, true, rfl, (fun _ => ⟨Ha.out.symm, Hb.out.symm, by omega, by omega⟩), b3 _ (extW.trans hE) (by omega)⟩
            · have g4 : decide (b < 2147483648) = false := decide_eq_false k4
              go_wp2_with fail
              obtain ⟨b1, b2, b3, b4⟩ := fin_ints (a := a) (b := b) (bz.ext hE)
              have r0 := b1.cell 0 (.int .i64 (a)) rfl
              have r1 := b1.cell 1 (.int .i64 (b)) rfl
              unfold set2 at r0 r1
              exact bodyPost_ret (v := .tuple #[.agg #[.int .i64 (a), .int .i64 (b)], .bool false]) (by simp [results, Tryz.results97, go_sem, r0, r1]) rfl ⟨a, b, false, rfl, (fun h => by cases h), b3 _ (extW.trans hE) (by omega)⟩
          · have g3 : decide (0 < b) = false := decide_eq_false k3
            go_wp2_with fail
            obtain ⟨b1, b2, b3, b4⟩ := fin_ints (a := a) (b := b) (bz.ext hE)
            have r0 := b1.cell 0 (.int .i64 (a)) rfl
            have r1 := b1.cell 1 (.int .i64 (b)) rfl
            unfold set2 at r0 r1
            exact bodyPost_ret (v := .tuple #[.agg #[.int .i64 (a), .int .i64 (b)], .bool false]) (by simp [results, Tryz.results97, go_sem, r0, r1]) rfl ⟨a, b, false, rfl, (fun h => by cases h), b3 _ (extW.trans hE) (by omega)⟩
        · have g2 : decide (a < 2147483648) = false := decide_eq_false k2
          go_wp2_with fail
          obtain ⟨b1, b2, b3, b4⟩ := fin_ints (a := a) (b := b) (bz.ext hE)
          have r0 := b1.cell 0 (.int .i64 (a)) rfl
          have r1 := b1.cell 1 (.int .i64 (b)) rfl
          unfold set2 at r0 r1
          exact bodyPost_ret (v := .tuple #[.agg #[.int .i64 (a), .int .i64 (b)], .bool false]) (by simp [results, Tryz.results97, go_sem, r0, r1]) rfl ⟨a, b, false, rfl, (fun h => by cases h), b3 _ (extW.trans hE) (by omega)⟩
      · have g1 : decide (-2147483648 < a) = false := decide_eq_false k1
        go_wp2_with fail
        obtain ⟨b1, b2, b3, b4⟩ := fin_ints (a := a) (b := b) (bz.ext hE)
        have r0 := b1.cell 0 (.int .i64 (a)) rfl
        have r1 := b1.cell 1 (.int .i64 (b)) rfl
        unfold set2 at r0 r1
        exact bodyPost_ret (v := .tuple #[.agg #[.int .i64 (a), .int .i64 (b)], .bool false]) (by simp [results, Tryz.results97, go_sem, r0, r1]) rfl ⟨a, b, false, rfl, (fun h => by cases h), b3 _ (extW.trans hE) (by omega)⟩
    · have d2 : ((m : Int) != 1) = true := by rw [bne_iff_ne]; omega
      have z0 := (bz.ext hE).cell 0 _ rfl
      have z1 := (bz.ext hE).cell 1 _ rfl
      have f0 := (bz.ext hE).frozen 0
      have f1 := (bz.ext hE).frozen 1
      go_wp2_with fail
      obtain ⟨b1, b2, b3, b4⟩ := fin_ints (a := 0) (b := 0) (bz.ext hE)
      have r0 := b1.cell 0 (.int .i64 (0)) rfl
      have r1 := b1.cell 1 (.int .i64 (0)) rfl
      unfold set2 at r0 r1
      exact bodyPost_ret (v := .tuple #[.agg #[.int .i64 (0), .int .i64 (0)], .bool false]) (by simp [results, Tryz.results97, go_sem, r0, r1]) rfl ⟨0, 0, false, rfl, (fun h => by cases h), b3 _ (extW.trans hE) (by omega)⟩
  · have d1 : decide ((1 : Int) < (n : Int)) = true := decide_eq_true (by omega)
    have d1' : decide (1 < n) = true := decide_eq_true (by omega)
    have z0 := (bz.ext hE).cell 0 _ rfl
    have z1 := (bz.ext hE).cell 1 _ rfl
    have f0 := (bz.ext hE).frozen 0
    have f1 := (bz.ext hE).frozen 1
    go_wp2_with fail
    obtain ⟨b1, b2, b3, b4⟩ := fin_ints (a := 0) (b := 0) (bz.ext hE)
    have r0 := b1.cell 0 (.int .i64 (0)) rfl
    have r1 := b1.cell 1 (.int .i64 (0)) rfl
    unfold set2 at r0 r1
    exact bodyPost_ret (v := .tuple #[.agg #[.int .i64 (0), .int .i64 (0)], .bool false]) (by simp [results, Tryz.results97, go_sem, r0, r1]) rfl ⟨0, 0, false, rfl, (fun h => by cases h), b3 _ (extW.trans hE) (by omega)⟩
theorem mul31 {a b : Int} (ha : a.natAbs < 2147483648) (hb : b.natAbs < 2147483648) : (a * b).natAbs < 4611686018427387904 := by
  rw [Int.natAbs_mul]
  have := Nat.mul_le_mul (Nat.le_of_lt_succ ha) (Nat.le_of_lt_succ hb)
  omega
set_option maxHeartbeats 1000000 in
theorem p_plus {a b a' b' : Int} (h : Sm q a b) (k : Sm p a' b') : Calls Tryz.prog 70 #[.agg #[.int .i64 a, .int .i64 b], .agg #[.int .i64 a', .int .i64 b']] w (RetNR (q + p) 2 w) := by
  obtain ⟨h1, h2, h3, h4⟩ := h
  obtain ⟨k1, k2, k3, k4⟩ := k
  have hb0 : 0 < b := by have := q.den_pos; omega
  have hb0' : 0 < b' := by have := p.den_pos; omega
  have m1 := mul31 h3 k4
  have m2 := mul31 k3 h4
  have m3 := mul31 h4 k4
  have m4 := mul31 h3 k3
  have hpos : 0 < b * b' := Int.mul_pos hb0 hb0'
  have hval : mkRat (a * b' + a' * b) (b * b').natAbs = q + p := by
    rw [Rat.add_def', Int.natAbs_mul, h1, h2, k1, k2, Int.natAbs_natCast, Int.natAbs_natCast]
  have Hval := Lib.hid hval
  clear hval h1 h2 k1 k2
  obtain ⟨u1, hu1⟩ : ∃ u, a * b' = u := ⟨_, rfl⟩
  obtain ⟨u2, hu2⟩ : ∃ u, a' * b = u := ⟨_, rfl⟩
  obtain ⟨u3, hu3⟩ : ∃ u, b * b' = u := ⟨_, rfl⟩
  obtain ⟨u4, hu4⟩ : ∃ u, a * a' = u := ⟨_, rfl⟩
  rw [hu1] at m1
  rw [hu2] at m2
  rw [hu3] at m3 hpos
  rw [hu4] at m4
  have Hu1 := Lib.hid hu1
  have Hu2 := Lib.hid hu2
  have Hu3 := Lib.hid hu3
  have Hu4 := Lib.hid hu4
  have w1 : IntKind.i64.wrap u1 = u1 := IntWalk.i64_in _ (by omega)
  have w2 : IntKind.i64.wrap u2 = u2 := IntWalk.i64_in _ (by omega)
  have w3 : IntKind.i64.wrap u3 = u3 := IntWalk.i64_in _ (by omega)
  have w4 : IntKind.i64.wrap u4 = u4 := IntWalk.i64_in _ (by omega)
  have v1 : wrap64 u1 = u1 := IntWalk.wrap64_in _ (by omega)
  have v2 : wrap64 u2 = u2 := IntWalk.wrap64_in _ (by omega)
  have v3 : wrap64 u3 = u3 := IntWalk.wrap64_in _ (by omega)
  have v4 : wrap64 u4 = u4 := IntWalk.wrap64_in _ (by omega)
  have w5 : IntKind.i64.wrap (u1 + u2) = u1 + u2 := IntWalk.i64_in _ (by omega)
  have v5 : wrap64 (u1 + u2) = u1 + u2 := IntWalk.wrap64_in _ (by omega)
  go_enter Tryz.func70, Tryz.ntmps70
  go_upto_region 1 with (fail)
  obtain ⟨W, hW, extW, bx, by_, bz, hz⟩ := box3 w 63 63 27 #[.int .i64 a, .int .i64 b] #[.int .i64 a', .int .i64 b'] #[Value.bool false, Value.slice none 0 0, Value.bool false, Value.slice none 0 0]
  rw [← hW]
  clear hW
  have x0 := bx.cell 0 (.int .i64 a) rfl
  have x1 := bx.cell 1 (.int .i64 b) rfl
  have y0 := by_.cell 0 (.int .i64 a') rfl
  have y1 := by_.cell 1 (.int .i64 b') rfl
  go_wp2_with fail
  refine (p_lowest _ _ hpos (by omega) (by omega)).mono ?_
  rintro e wa ⟨s, A, n, c, t, B, m, d, rfl, hr, hxa⟩
  rw [← Hu3.out] at hr
  have z0 := (bz.ext hxa).cell 0 _ rfl
  have z1 := (bz.ext hxa).cell 1 _ rfl
  have z2 := (bz.ext hxa).cell 2 _ rfl
  have z3 := (bz.ext hxa).cell 3 _ rfl
  have f0 := (bz.ext hxa).frozen 0
  have f1 := (bz.ext hxa).frozen 1
  have f2 := (bz.ext hxa).frozen 2
  have f3 := (bz.ext hxa).frozen 3
  go_wp2_with fail
  rw [← Hu1.out, ← Hu2.out, Hval.out] at hr
  obtain ⟨b1, b2, b3, b4⟩ := fin_quad (s := s) (A := A) (n := n) (c := c) (t := t) (B := B) (m := m) (d := d) (bz.ext hxa)
  have r0 := b1.cell 0 (.bool s) rfl
  have r1 := b1.cell 1 (.slice A n c) rfl
  have r2 := b1.cell 2 (.bool t) rfl
  have r3 := b1.cell 3 (.slice B m d) rfl
  unfold set4 at r0 r1 r2 r3
  refine bodyPost_ret (v := .agg #[.bool s, .slice A n c, .bool t, .slice B m d]) (by simp [results, Tryz.results70, go_sem, r0, r1, r2, r3]) rfl ⟨s, A, n, c, t, B, m, d, rfl, ⟨?_, ?_⟩, b3 _ (extW.trans hxa) (by omega)⟩
  · exact b2 _ _ _ _ _ _ hr.num
  · exact b2 _ _ _ _ _ _ hr.den
end
end Go.Proofs.YtiioodgpkdbndaaGreatDoor
namespace Go.Proofs.YtiioodgpkdbndaaGreatDoor
open Go.RowKit
attribute [local go_sem ↓] Go.wp_at_zero Go.wp_at_succ
theorem Hd.take {P : Program} {ops : Array Oper} {Q : Exit → Act → World → Prop} {md : Region.Mode} {S : World → Prop} {n i : Nat} {oi : Oper} {d : Option Tmp} {v : Value} {L : Array Bool} {a : Act} {w : World} (hi : ops[i]? = some oi) (hd : oi.dst = d) (hs : Region.noSelect ops = true)
    (hf : Region.free md ops L i = true) (hr : (Region.ready md ops L).contains i = true) (hQ : QStill Q) (hy : YieldsIf P ops S oi v a) (hS : S w) (h : wpAnyH P md ops Q S n (L.setIfInBounds i true) (a.put d v) w) : wpAnyH P md ops Q S (n + 1) L a w := by
  subst hd
  exact wpAnyH_first hi (Region.noSelect_spec hs) (fun c a w => (hQ.put c a _ _ w).1) n L a w (fun j oj hj hne hun hno => Region.free_spec hi hf j oj hj hne hun hno) (by simpa using hr) hy hS h
section
variable {w w' : World} {z y : Int} {q p : Rat} {L M : Nat} {s t s' t' : Bool} {A B A' B' : Option Addr} {n c m d n' c' m' d' : Nat}
theorem fin_pairs {w2 : World} {g k : Nat} {T : TypeId} {x y u v a b c d : Int} (hb : Box w2 g T #[.int .i64 x, .int .i64 y]) (hc : Box w2 k T #[.int .i64 u, .int .i64 v]) (hne : g ≠ k) :
    Box (set2 (set2 w2 g (.int .i64 a) (.int .i64 b)) k (.int .i64 c) (.int .i64 d)) g T #[.int .i64 a, .int .i64 b] ∧
    Box (set2 (set2 w2 g (.int .i64 a) (.int .i64 b)) k (.int .i64 c) (.int .i64 d)) k T #[.int .i64 c, .int .i64 d] ∧
    (∀ W, Ext W w2 → W.heap.size ≤ g → W.heap.size ≤ k → Ext W (set2 (set2 w2 g (.int .i64 a) (.int .i64 b)) k (.int .i64 c) (.int .i64 d))) ∧ True := by
  obtain ⟨h1, _, h3, h4⟩ := fin_ints (a := a) (b := b) hb
  obtain ⟨j1, _, j3, j4⟩ := fin_ints (a := c) (b := d) (h4 k _ _ (Ne.symm hne) hc)
  exact ⟨j4 g _ _ hne h1, j1, fun W e hg hk => j3 W (h3 W e hg) hk, trivial⟩
def RetPair (q p : Rat) (w : World) (e : Ending) (w' : World) : Prop := ∃ a b c d ok, e = .returned (.tuple #[.agg #[.int .i64 a, .int .i64 b], .agg #[.int .i64 c, .int .i64 d], .bool ok]) ∧ (ok = true → Sm q a b ∧ Sm p c d) ∧ Ext w w'
set_option maxHeartbeats 2000000 in
theorem p_smallPair (h : NR w q L s A n c t B m d) (k : NR w p M s' A' n' c' t' B' m' d') (hL : L ≤ 20000) (hM : M ≤ 20000) : Calls Tryz.prog 69 #[.agg #[.bool s, .slice A n c, .bool t, .slice B m d], .agg #[.bool s', .slice A' n' c', .bool t', .slice B' m' d']] w (RetPair q p w) := by
  go_enter Tryz.func69, Tryz.ntmps69
  go_upto_region 1 with (fail)
  obtain ⟨W, hW, extW, bx, by_, b4, b5, hz⟩ := box4 w 27 27 63 63 #[.bool s, .slice A n c, .bool t, .slice B m d] #[.bool s', .slice A' n' c', .bool t', .slice B' m' d'] #[Value.int .i64 0, Value.int .i64 0] #[Value.int .i64 0, Value.int .i64 0]
  rw [← hW]
  clear hW
  have x0 := bx.cell 0 (.bool s) rfl
  have x1 := bx.cell 1 (.slice A n c) rfl
  have x2 := bx.cell 2 (.bool t) rfl
  have x3 := bx.cell 3 (.slice B m d) rfl
  go_wp2_with fail
  refine (p_toSmall (h.ext extW) hL).mono ?_
  rintro e wa ⟨a1, a2, ok1, rfl, hok1, hxa⟩
  clear x0 x1 x2 x3
  go_upto_region 2 with (fail)
  refine at_world (fun V => Ext W V ∧ Box V wa.heap.size 63 #[.int .i64 a1, .int .i64 a2]) ⟨hxa.alloc _, Box.new wa _ _⟩ ?_
  have hg7 : w.heap.size + 4 ≤ wa.heap.size := Nat.le_trans hz hxa.size
  generalize wa.heap.size = g7 at hg7 ⊢
  rintro V ⟨EV, x7⟩
  replace bx := bx.ext EV
  replace by_ := by_.ext EV
  replace b4 := b4.ext EV
  replace b5 := b5.ext EV
  replace extW := extW.trans EV
  have Hok1 := Lib.hid hok1
  clear hok1 EV hxa
  cases ok1 with
  | false =>
    have hE := Ext.refl V
    have z0 := (b4.ext hE).cell 0 _ rfl
    have z1 := (b4.ext hE).cell 1 _ rfl
    have f0 := (b4.ext hE).frozen 0
    have f1 := (b4.ext hE).frozen 1
    have z2 := (b5.ext hE).cell 0 _ rfl
    have z3 := (b5.ext hE).cell 1 _ rfl
    have f2 := (b5.ext hE).frozen 0
    have f3 := (b5.ext hE).frozen 1
    go_wp2_with fail
    obtain ⟨k1, k2, k3, _⟩ := fin_pairs (a := 0) (b := 0) (c := 0) (d := 0) (b4.ext hE) (b5.ext hE) (by omega)
    have r0 := k1.cell 0 (.int .i64 (0)) rfl
    have r1 := k1.cell 1 (.int .i64 (0)) rfl
    have r2 := k2.cell 0 (.int .i64 (0)) rfl
    have r3 := k2.cell 1 (.int .i64 (0)) rfl
    unfold set2 at r0 r1 r2 r3
    exact bodyPost_ret (v := .tuple #[.agg #[.int .i64 (0), .int .i64 (0)], .agg #[.int .i64 (0), .int .i64 (0)], .bool false]) (by simp [results, Tryz.results69, go_sem, r0, r1, r2, r3]) rfl ⟨0, 0, 0, 0, false, rfl, (fun h => by cases h), k3 _ (extW.trans hE) (by omega) (by omega)⟩
  | true =>
    have y0 := by_.cell 0 (.bool s') rfl
    have y1 := by_.cell 1 (.slice A' n' c') rfl
    have y2 := by_.cell 2 (.bool t') rfl
    have y3 := by_.cell 3 (.slice B' m' d') rfl
    go_wp2_with fail
    refine (p_toSmall (k.ext extW) hM).mono ?_
    rintro e wb ⟨c1, c2, ok2, rfl, hok2, hxb⟩
    clear y0 y1 y2 y3
    have Hok2 := Lib.hid hok2
    clear hok2
    go_upto_region 5 with (fail)
    refine at_world (fun V9 => Ext V V9 ∧ Box V9 wb.heap.size 63 #[.int .i64 c1, .int .i64 c2]) ⟨hxb.alloc _, Box.new wb _ _⟩ ?_
    have hg9 : w.heap.size + 4 ≤ wb.heap.size := by have := hxb.size; have := x7.lt; omega
    generalize wb.heap.size = g9 at hg9 ⊢
    rintro V9 ⟨EV, x9⟩
    replace x7 := x7.ext EV
    replace b4 := b4.ext EV
    replace b5 := b5.ext EV
    replace extW := extW.trans EV
    clear EV hxb
    have hE := Ext.refl V9
    have x70 := x7.cell 0 (.int .i64 a1) rfl
    have x71 := x7.cell 1 (.int .i64 a2) rfl
    have x90 := x9.cell 0 (.int .i64 c1) rfl
    have x91 := x9.cell 1 (.int .i64 c2) rfl
    have l7 : w.heap.size + 4 ≤ g7 := hg7
    have l9 : w.heap.size + 4 ≤ g9 := hg9
    have z0 := (b4.ext hE).cell 0 _ rfl
    have z1 := (b4.ext hE).cell 1 _ rfl
    have f0 := (b4.ext hE).frozen 0
    have f1 := (b4.ext hE).frozen 1
    have z2 := (b5.ext hE).cell 0 _ rfl
    have z3 := (b5.ext hE).cell 1 _ rfl
    have f2 := (b5.ext hE).frozen 0
    have f3 := (b5.ext hE).frozen 1
    refine wp_region_held_drew (S := (fun U => Box U g7 63 #[.int .i64 a1, .int .i64 a2] ∧ Box U g9 63 #[.int .i64 c1, .int .i64 c2])) (by kernel_rfl) ⟨x7.ext hE.drew, x9.ext hE.drew⟩ (fun HS => ?_)
    refine Hd.take (i := 0) (d := some 24) (v := ?v0_11) rfl rfl (by kernel_rfl) (by kernel_rfl) (by kernel_rfl) (fun _ _ _ _ _ => ⟨fun h => h, fun h => h⟩) (Or.inl ⟨by rfl, ?y0_11⟩) HS ?r0_11
    case y0_11 =>
      intro w' hSw
      have k0 := hSw.1.cell 0 _ rfl
      have k1 := hSw.1.cell 1 _ rfl
      have k2 := hSw.2.cell 0 _ rfl
      have k3 := hSw.2.cell 1 _ rfl
      go_simp
      try with_reducible rfl
    try simp only [Act.put]
    try simp only [List.setIfInBounds_toArray]
    try simp only [List.set_cons_succ]
    try simp only [List.set_cons_zero]
    refine Hd.take (i := 1) (d := some 25) (v := ?v1_12) rfl rfl (by kernel_rfl) (by kernel_rfl) (by kernel_rfl) (fun _ _ _ _ _ => ⟨fun h => h, fun h => h⟩) (Or.inl ⟨by rfl, ?y1_12⟩) HS ?r1_12
    case y1_12 =>
      intro w' hSw
      have k0 := hSw.1.cell 0 _ rfl
      have k1 := hSw.1.cell 1 _ rfl
      have k2 := hSw.2.cell 0 _ rfl
      have k3 := hSw.2.cell 1 _ rfl
      go_simp
      try with_reducible rfl
    try simp only [Act.put]
    try simp only [List.setIfInBounds_toArray]
    try simp only [List.set_cons_succ]
    try simp only [List.set_cons_zero]
    refine Hd.take (i := 2) (d := some 26) (v := ?v2_13) rfl rfl (by kernel_rfl) (by kernel_rfl) (by kernel_rfl) (fun _ _ _ _ _ => ⟨fun h => h, fun h => h⟩) (Or.inl ⟨by rfl, ?y2_13⟩) HS ?r2_13
    case y2_13 =>
      intro w' hSw
      have k0 := hSw.1.cell 0 _ rfl
      have k1 := hSw.1.cell 1 _ rfl
      have k2 := hSw.2.cell 0 _ rfl
      have k3 := hSw.2.cell 1 _ rfl
      go_simp
      try with_reducible rfl
    try simp only [Act.put]
    try simp only [List.setIfInBounds_toArray]
    try simp only [List.set_cons_succ]
    try simp only [List.set_cons_zero]
    have e4 := fin_ints (a := a1) (b := a2) b4
    refine wpAnyH_ready (rs := [3]) (by kernel_rfl) (by simp) (AllReadyH.cons rfl (fun K hK => ?_) AllReadyH.nil)
    go_simp
    refine hK.out _ _ ⟨(e4.2.2.2 _ _ _ (by omega) x7).ext (Ext.refl _).drew, (e4.2.2.2 _ _ _ (by omega) x9).ext (Ext.refl _).drew⟩ (fun _ => ?_)
    clear hK K
    try simp only [Act.put]
    try simp only [List.setIfInBounds_toArray]
    try simp only [List.set_cons_succ]
    try simp only [List.set_cons_zero]
    have e5 := e4.2.2.2 _ _ _ (by omega) b5
    have z40 := e5.cell 0 _ rfl
    have z41 := e5.cell 1 _ rfl
    have z42 := e5.frozen 0
    have z43 := e5.frozen 1
    have e6 := fin_ints (a := c1) (b := c2) e5
    unfold set2 at z40 z41 z42 z43
    refine wpAnyH_ready (rs := [4]) (by kernel_rfl) (by simp) (AllReadyH.cons rfl (fun K hK => ?_) AllReadyH.nil)
    go_simp
    refine hK.out _ _ ⟨(e6.2.2.2 _ _ _ (by omega) (e4.2.2.2 _ _ _ (by omega) x7)).ext (Ext.refl _).drew, (e6.2.2.2 _ _ _ (by omega) (e4.2.2.2 _ _ _ (by omega) x9)).ext (Ext.refl _).drew⟩ (fun _ => ?_)
    clear hK K
    try simp only [Act.put]
    try simp only [List.setIfInBounds_toArray]
    try simp only [List.set_cons_succ]
    try simp only [List.set_cons_zero]
    refine wpAnyH_ready (rs := [5]) (by kernel_rfl) (by simp) (AllReadyH.cons rfl (fun K hK => ?_) AllReadyH.nil)
    go_simp
    refine hK.out _ _ ⟨(e6.2.2.2 _ _ _ (by omega) (e4.2.2.2 _ _ _ (by omega) x7)).ext (Ext.refl _).drew, (e6.2.2.2 _ _ _ (by omega) (e4.2.2.2 _ _ _ (by omega) x9)).ext (Ext.refl _).drew⟩ (fun _ => ?_)
    clear hK K
    try simp only [Act.put]
    try simp only [List.setIfInBounds_toArray]
    try simp only [List.set_cons_succ]
    try simp only [List.set_cons_zero]
    refine wpAnyH_done (by kernel_rfl) ?_ _
    go_wp2_with fail
    obtain ⟨k1, k2, k3, _⟩ := fin_pairs (a := a1) (b := a2) (c := c1) (d := c2) (b4.ext hE) (b5.ext hE) (by omega)
    have r0 := k1.cell 0 (.int .i64 (a1)) rfl
    have r1 := k1.cell 1 (.int .i64 (a2)) rfl
    have r2 := k2.cell 0 (.int .i64 (c1)) rfl
    have r3 := k2.cell 1 (.int .i64 (c2)) rfl
    unfold set2 at r0 r1 r2 r3
    exact bodyPost_ret (v := .tuple #[.agg #[.int .i64 (a1), .int .i64 (a2)], .agg #[.int .i64 (c1), .int .i64 (c2)], .bool ok2]) (by simp [results, Tryz.results69, go_sem, r0, r1, r2, r3]) rfl ⟨a1, a2, c1, c2, ok2, rfl, (fun h => ⟨Hok1.out (by first | rfl | trivial), Hok2.out h⟩), (k3 _ (extW.trans hE) (by omega) (by omega)).drew⟩
end
end Go.Proofs.YtiioodgpkdbndaaGreatDoor
namespace Go.Proofs.YtiioodgpkdbndaaGreatDoor
open Go.RowKit
attribute [local go_sem ↓] Go.wp_at_zero Go.wp_at_succ
section
variable {w w' : World} {z y : Int} {q p : Rat} {L M : Nat} {s t s' t' : Bool} {A B A' B' : Option Addr} {n c m d n' c' m' d' : Nat}
theorem rat_add_one {q p : Rat} (h1 : (q.den : Int) = 1) (h2 : (p.den : Int) = 1) : ((q.num + p.num : Int) : Rat) = q + p := by
  have e1 : q.den = 1 := by omega
  have e2 : p.den = 1 := by omega
  rw [Rat.add_def', e1, e2]
  simp [Rat.mkRat_one]
theorem NR.pos (h : NR w q L s A n c t B m d) : 1 ≤ L := by
  have h1 := h.den.zero
  have h2 := h.den.size
  have h3 := q.den_nz
  omega
/-- a product whose value is small: one factor is. -/
theorem p_MulW {z y : Int} (h : NI w z L s A n c) (k : NI w y M t B m d) (hL : L ≤ 50000) (hM : M ≤ 50000) (hv : Hid (L < 64 ∨ M < 64 ∨ (z * y).natAbs < 4294967296 ^ 126)) : Calls Tryz.prog 72 #[.agg #[.bool s, .slice A n c], .agg #[.bool t, .slice B m d]] w (RetNI (z * y) (L + M) w) := by
  by_cases h1 : L < 64
  · exact p_Mul h k hL hM (by omega)
  by_cases h2 : M < 64
  · exact p_Mul h k hL hM (by omega)
  have hv' : (z * y).natAbs < 4294967296 ^ 126 := by
    rcases hv.out with e | e | e
    · exact absurd e h1
    · exact absurd e h2
    · exact e
  by_cases h0 : y = 0
  · refine (p_Mul h (k.tight' (M := 0) (by rw [h0]; decide)) hL (by omega) (by omega)).mono ?_
    rintro e V ⟨s1, A1, n1, c1, rfl, h3, hx⟩
    exact ⟨s1, A1, n1, c1, rfl, h3.le (by omega), hx⟩
  by_cases h3 : z.natAbs < 4294967296 ^ 63
  · refine (p_Mul (h.tight' h3) k (by omega) hM (by omega)).mono ?_
    rintro e V ⟨s1, A1, n1, c1, rfl, h3, hx⟩
    exact ⟨s1, A1, n1, c1, rfl, h3.le (by omega), hx⟩
  · have h4 : y.natAbs < 4294967296 ^ 63 := by
      refine Decidable.byContradiction fun hc => ?_
      have h5 : 4294967296 ^ 63 * 4294967296 ^ 63 ≤ z.natAbs * y.natAbs := Nat.mul_le_mul (Nat.le_of_not_lt h3) (Nat.le_of_not_lt hc)
      rw [← Nat.pow_add, ← Int.natAbs_mul] at h5
      exact absurd hv' (Nat.not_lt.2 h5)
    refine (p_Mul h (k.tight' h4) hL (by omega) (by omega)).mono ?_
    rintro e V ⟨s1, A1, n1, c1, rfl, h3, hx⟩
    exact ⟨s1, A1, n1, c1, rfl, h3.le (by omega), hx⟩
/-- the products that a sum needs are small. -/
structure AddOK (q p : Rat) : Prop where
  left : (q.num * (((p.den : Nat) : Int) / ((Nat.gcd q.den p.den : Nat) : Int))).natAbs < 4294967296 ^ 126
  right : (p.num * (((q.den : Nat) : Int) / ((Nat.gcd q.den p.den : Nat) : Int))).natAbs < 4294967296 ^ 126
  den : (q + p).den < 4294967296 ^ 126
theorem AddOK.symm {q p : Rat} (h : AddOK q p) : AddOK p q := ⟨by rw [Nat.gcd_comm]; exact h.right, by rw [Nat.gcd_comm]; exact h.left, by rw [Rat.add_comm]; exact h.den⟩
set_option maxHeartbeats 16000000 in
set_option maxRecDepth 100000 in
theorem p_AddRV (h : NR w q L s A n c t B m d) (k : NR w p M s' A' n' c' t' B' m' d') (hL : L ≤ 1000) (hM : M ≤ 1000) (hv : Hid (L < 64 ∨ M < 64 ∨ AddOK q p)) (hT : Tab w) : Calls Tryz.prog 28 #[.agg #[.bool s, .slice A n c, .bool t, .slice B m d], .agg #[.bool s', .slice A' n' c', .bool t', .slice B' m' d']] w (RetNR (q + p) (L + M + 1) w) := by
  have hL1 := h.pos
  have hM1 := k.pos
  replace hL : L ≤ 1000 := hL
  go_enter Tryz.func28, Tryz.ntmps28
  go_upto_region 1 with (fail)
  obtain ⟨W, hW, extW, bx, by_, bz, hz⟩ := box3 w 27 27 27 #[.bool s, .slice A n c, .bool t, .slice B m d] #[.bool s', .slice A' n' c', .bool t', .slice B' m' d'] #[Value.bool false, Value.slice none 0 0, Value.bool false, Value.slice none 0 0]
  rw [← hW]
  clear hW
  replace h := h.ext extW
  replace k := k.ext extW
  have x0 := bx.cell 0 (.bool s) rfl
  have x1 := bx.cell 1 (.slice A n c) rfl
  have x2 := bx.cell 2 (.bool t) rfl
  have x3 := bx.cell 3 (.slice B m d) rfl
  have y0 := by_.cell 0 (.bool s') rfl
  have y1 := by_.cell 1 (.slice A' n' c') rfl
  have y2 := by_.cell 2 (.bool t') rfl
  have y3 := by_.cell 3 (.slice B' m' d') rfl
  go_wp2_with fail
  refine (p_smallPair h k (by omega) (by omega)).mono ?_
  rintro e wa ⟨a1, a2, c1, c2, ok, rfl, hok, hxa⟩
  have Hok := Lib.hid hok
  clear hok
  clear x0 x1 x2 x3
  clear y0 y1 y2 y3
  go_upto_region 2 with (fail)
  refine at_world (fun V => Ext W V ∧ Box V wa.heap.size 63 #[.int .i64 a1, .int .i64 a2] ∧ Box V (wa.heap.size + 1) 63 #[.int .i64 c1, .int .i64 c2]) ?_ ?_
  · obtain ⟨e1, e2, e3⟩ := two_new wa 63 #[.int .i64 a1, .int .i64 a2] #[.int .i64 c1, .int .i64 c2]
    exact ⟨hxa.trans e1, e2, e3⟩
  generalize wa.heap.size = g5
  clear hxa
  rintro V ⟨EV, b5, b6⟩
  replace bx := bx.ext EV
  replace by_ := by_.ext EV
  replace bz := bz.ext EV
  replace h := h.ext EV
  replace k := k.ext EV
  replace extW := extW.trans EV
  clear EV
  cases ok with
  | true =>
    obtain ⟨sm1, sm2⟩ := Hok.out (by first | rfl | trivial)
    have j0 := b5.cell 0 (.int .i64 a1) rfl
    have j1 := b5.cell 1 (.int .i64 a2) rfl
    have j2 := b6.cell 0 (.int .i64 c1) rfl
    have j3 := b6.cell 1 (.int .i64 c2) rfl
    go_wp2_with fail
    refine (p_plus sm1 sm2).mono ?_
    rintro e wb ⟨s1, A1, n1, c1', t1, B1, m1, d1, rfl, hr, hxb⟩
    have z0 := (bz.ext hxb).cell 0 _ rfl
    have z1 := (bz.ext hxb).cell 1 _ rfl
    have z2 := (bz.ext hxb).cell 2 _ rfl
    have z3 := (bz.ext hxb).cell 3 _ rfl
    have f0 := (bz.ext hxb).frozen 0
    have f1 := (bz.ext hxb).frozen 1
    have f2 := (bz.ext hxb).frozen 2
    have f3 := (bz.ext hxb).frozen 3
    go_wp2_with fail
    obtain ⟨b1, b2, b3, b4⟩ := fin_quad (s := s1) (A := A1) (n := n1) (c := c1') (t := t1) (B := B1) (m := m1) (d := d1) (bz.ext hxb)
    have r0 := b1.cell 0 (.bool s1) rfl
    have r1 := b1.cell 1 (.slice A1 n1 c1') rfl
    have r2 := b1.cell 2 (.bool t1) rfl
    have r3 := b1.cell 3 (.slice B1 m1 d1) rfl
    unfold set4 at r0 r1 r2 r3
    refine bodyPost_ret (v := .agg #[.bool s1, .slice A1 n1 c1', .bool t1, .slice B1 m1 d1]) (by simp [results, Tryz.results28, go_sem, r0, r1, r2, r3]) rfl ⟨s1, A1, n1, c1', t1, B1, m1, d1, rfl, ⟨?_, ?_⟩, b3 _ (extW.trans hxb) (by omega)⟩
    · exact (b2 _ _ _ _ _ _ hr.num).le (by omega)
    · exact (b2 _ _ _ _ _ _ hr.den).le (by omega)
  | false =>
    have x2 := bx.cell 2 (.bool t) rfl
    have x3 := bx.cell 3 (.slice B m d) rfl
    go_wp2_with fail
    refine (p_isOne h.den).mono ?_
    rintro e wb ⟨rfl, hxb⟩
    replace bx := bx.ext hxb
    replace by_ := by_.ext hxb
    replace bz := bz.ext hxb
    replace h := h.ext hxb
    replace k := k.ext hxb
    replace extW := extW.trans hxb
    clear hxb x2 x3
    by_cases h1 : (q.den : Int) = 1
    · rw [decide_eq_true h1]
      have H1 := Lib.hid h1
      clear h1
      have y2 := by_.cell 2 (.bool t') rfl
      have y3 := by_.cell 3 (.slice B' m' d') rfl
      go_wp2_with fail
      refine (p_isOne k.den).mono ?_
      rintro e V0 ⟨rfl, hxc⟩
      replace bx := bx.ext hxc
      replace by_ := by_.ext hxc
      replace bz := bz.ext hxc
      replace h := h.ext hxc
      replace k := k.ext hxc
      replace extW := extW.trans hxc
      clear hxc y2 y3
      by_cases h2 : (p.den : Int) = 1
      · rw [decide_eq_true h2]
        have H2 := Lib.hid h2
        clear h2
        have x0 := bx.cell 0 (.bool s) rfl
        have x1 := bx.cell 1 (.slice A n c) rfl
        have y0 := by_.cell 0 (.bool s') rfl
        have y1 := by_.cell 1 (.slice A' n' c') rfl
        go_wp2_with fail
        refine (p_Add h.num k.num (by omega) (by omega)).mono ?_
        rintro e we ⟨s1, A1, n1, c1', rfl, hn1, hxe⟩
        go_wp2_with fail
        refine (p_whole hn1).mono ?_
        rintro e wf ⟨s2, A2, n2, c2', t2, B2, m2, d2, rfl, hr, hxf⟩
        have hE := hxe.trans hxf
        have z0 := (bz.ext hE).cell 0 _ rfl
        have z1 := (bz.ext hE).cell 1 _ rfl
        have z2 := (bz.ext hE).cell 2 _ rfl
        have z3 := (bz.ext hE).cell 3 _ rfl
        have f0 := (bz.ext hE).frozen 0
        have f1 := (bz.ext hE).frozen 1
        have f2 := (bz.ext hE).frozen 2
        have f3 := (bz.ext hE).frozen 3
        go_wp2_with fail
        have hqp : ((q.num + p.num : Int) : Rat) = q + p := rat_add_one H1.out H2.out
        rw [hqp] at hr
        obtain ⟨b1, b2, b3, b4⟩ := fin_quad (s := s2) (A := A2) (n := n2) (c := c2') (t := t2) (B := B2) (m := m2) (d := d2) (bz.ext hE)
        have r0 := b1.cell 0 (.bool s2) rfl
        have r1 := b1.cell 1 (.slice A2 n2 c2') rfl
        have r2 := b1.cell 2 (.bool t2) rfl
        have r3 := b1.cell 3 (.slice B2 m2 d2) rfl
        unfold set4 at r0 r1 r2 r3
        refine bodyPost_ret (v := .agg #[.bool s2, .slice A2 n2 c2', .bool t2, .slice B2 m2 d2]) (by simp [results, Tryz.results28, go_sem, r0, r1, r2, r3]) rfl ⟨s2, A2, n2, c2', t2, B2, m2, d2, rfl, ⟨?_, ?_⟩, b3 _ (extW.trans hE) (by omega)⟩
        · exact (b2 _ _ _ _ _ _ hr.num).le (by omega)
        · exact (b2 _ _ _ _ _ _ hr.den).le (by omega)
      · rw [decide_eq_false h2]
        clear h2
        have x0 := bx.cell 0 (.bool s) rfl
        have x1 := bx.cell 1 (.slice A n c) rfl
        have x2 := bx.cell 2 (.bool t) rfl
        have x3 := bx.cell 3 (.slice B m d) rfl
        have y0 := by_.cell 0 (.bool s') rfl
        have y1 := by_.cell 1 (.slice A' n' c') rfl
        have y2 := by_.cell 2 (.bool t') rfl
        have y3 := by_.cell 3 (.slice B' m' d') rfl
        go_wp2_with fail
        refine (p_GCD h.den k.den (by omega) (by omega) (hT.ext extW)).mono ?_
        rintro e we ⟨s1, A1, n1, c1', rfl, hg, hxe⟩
        rw [Int.natAbs_natCast, Int.natAbs_natCast] at hg
        obtain ⟨g, hge⟩ : ∃ g, Nat.gcd q.den p.den = g := ⟨_, rfl⟩
        rw [hge] at hg
        have hgq : g ∣ q.den := by rw [← hge]; exact Nat.gcd_dvd_left _ _
        have hgp : g ∣ p.den := by rw [← hge]; exact Nat.gcd_dvd_right _ _
        have hg0 : (g : Int) ≠ 0 := by
          intro h0
          have : g = 0 := by omega
          rw [this] at hgq
          have := Nat.eq_zero_of_zero_dvd hgq
          exact q.den_nz this
        have Hge := Lib.hid hge.symm
        have Hg0 := Lib.hid hg0
        have HV1 : Hid (L < 64 ∨ M < 64 ∨ (q.num * ((p.den : Int) / (g : Int))).natAbs < 4294967296 ^ 126) := Lib.hid (by
          rcases hv.out with e | e | e
          · exact .inl e
          · exact .inr (.inl e)
          · exact .inr (.inr (by rw [Hge.out]; exact e.left)))
        have HV2 : Hid (M < 64 ∨ L < 64 ∨ (p.num * ((q.den : Int) / (g : Int))).natAbs < 4294967296 ^ 126) := Lib.hid (by
          rcases hv.out with e | e | e
          · exact .inr (.inl e)
          · exact .inl e
          · exact .inr (.inr (by rw [Hge.out]; exact e.right)))
        have Hgq := Lib.hid (Int.ofNat_dvd.2 hgq)
        have Hgp := Lib.hid (Int.ofNat_dvd.2 hgp)
        clear hge hg0 hgq hgp
        clear x0 x1 x2 x3
        clear y0 y1 y2 y3
        go_upto_region 7 with (fail)
        refine at_world (fun V7 => Ext V0 V7 ∧ Box V7 we.heap.size 24 #[.bool s1, .slice A1 n1 c1'] ∧ NI V7 (g : Int) (max L M) s1 A1 n1 c1') ⟨hxe.alloc _, Box.new we _ _, hg.ext ((Ext.refl we).alloc _)⟩ ?_
        generalize we.heap.size = g8
        clear hxe hg
        rintro V7 ⟨EV, b8, hg⟩
        replace bx := bx.ext EV
        replace by_ := by_.ext EV
        replace bz := bz.ext EV
        replace h := h.ext EV
        replace k := k.ext EV
        replace extW := extW.trans EV
        clear EV
        have x0 := bx.cell 0 (.bool s) rfl
        have x1 := bx.cell 1 (.slice A n c) rfl
        have x2 := bx.cell 2 (.bool t) rfl
        have x3 := bx.cell 3 (.slice B m d) rfl
        have j0 := b8.cell 0 (.bool s1) rfl
        have j1 := b8.cell 1 (.slice A1 n1 c1') rfl
        go_wp2_with fail
        refine (p_divide h.den hg (by omega) (by omega) Hg0.out Hgq.out).mono ?_
        rintro e wf ⟨s2, A2, n2, c2', rfl, hD1, hxf⟩
        clear x0 x1 x2 x3
        clear j0 j1
        go_upto_region 8 with (fail)
        refine at_world (fun V9 => Ext V7 V9 ∧ Box V9 wf.heap.size 24 #[.bool s2, .slice A2 n2 c2'] ∧ NI V9 ((q.den : Int) / (g : Int)) L s2 A2 n2 c2') ⟨hxf.alloc _, Box.new wf _ _, hD1.ext ((Ext.refl wf).alloc _)⟩ ?_
        generalize wf.heap.size = g9
        clear hxf hD1
        rintro V9 ⟨EV, b9, hD1⟩
        replace bx := bx.ext EV
        replace by_ := by_.ext EV
        replace bz := bz.ext EV
        replace b8 := b8.ext EV
        replace h := h.ext EV
        replace k := k.ext EV
        replace hg := hg.ext EV
        replace extW := extW.trans EV
        clear EV
        go_wp2_with fail
        have ES0 := Ext.refl V9
        refine wp_region_held_drew (S := Ext V9) (by kernel_rfl) ES0.drew (fun ES => ?_)
        clear ES0
        refine Late.start1 (x := ⟨12, 10, 24, #[Value.bool false, Value.slice none 0 0]⟩) (n := 13) ⟨_, rfl, rfl, rfl, fun a w => by go_simp⟩ (fun _ _ _ _ _ => ⟨fun h => h, fun h => h⟩) ES rfl (fun hAl hQ => ?_)
        refine Late.take (i := 0) (d := some 46) (v := ?v0_14a) rfl rfl (by kernel_rfl) (by kernel_rfl) (by kernel_rfl) (by kernel_rfl) hQ (Or.inl ⟨by rfl, ?y0_14a⟩) ?r0_14a
        case y0_14a =>
          intro w' hSw
          have k00 := (bx.ext hSw).c4
          have k10 := (by_.ext hSw).c4
          have k20 := (b8.ext hSw).c2
          have k30 := (b9.ext hSw).c2
          go_simp
          try with_reducible rfl
        try simp only [Act.put]
        try simp only [List.setIfInBounds_toArray]
        try simp only [List.set_cons_succ]
        try simp only [List.set_cons_zero]
        refine Late.take (i := 2) (d := some 48) (v := ?v2_15a) rfl rfl (by kernel_rfl) (by kernel_rfl) (by kernel_rfl) (by kernel_rfl) hQ (Or.inl ⟨by rfl, ?y2_15a⟩) ?r2_15a
        case y2_15a =>
          intro w' hSw
          have k00 := (bx.ext hSw).c4
          have k10 := (by_.ext hSw).c4
          have k20 := (b8.ext hSw).c2
          have k30 := (b9.ext hSw).c2
          go_simp
          try with_reducible rfl
        try simp only [Act.put]
        try simp only [List.setIfInBounds_toArray]
        try simp only [List.set_cons_succ]
        try simp only [List.set_cons_zero]
        refine Late.take (i := 4) (d := some 50) (v := ?v4_16a) rfl rfl (by kernel_rfl) (by kernel_rfl) (by kernel_rfl) (by kernel_rfl) hQ (Or.inl ⟨by rfl, ?y4_16a⟩) ?r4_16a
        case y4_16a =>
          intro w' hSw
          have k00 := (bx.ext hSw).c4
          have k10 := (by_.ext hSw).c4
          have k20 := (b8.ext hSw).c2
          have k30 := (b9.ext hSw).c2
          go_simp
          try with_reducible rfl
        try simp only [Act.put]
        try simp only [List.setIfInBounds_toArray]
        try simp only [List.set_cons_succ]
        try simp only [List.set_cons_zero]
        refine Late.take (i := 7) (d := some 53) (v := ?v7_17a) rfl rfl (by kernel_rfl) (by kernel_rfl) (by kernel_rfl) (by kernel_rfl) hQ (Or.inl ⟨by rfl, ?y7_17a⟩) ?r7_17a
        case y7_17a =>
          intro w' hSw
          have k00 := (bx.ext hSw).c4
          have k10 := (by_.ext hSw).c4
          have k20 := (b8.ext hSw).c2
          have k30 := (b9.ext hSw).c2
          go_simp
          try with_reducible rfl
        try simp only [Act.put]
        try simp only [List.setIfInBounds_toArray]
        try simp only [List.set_cons_succ]
        try simp only [List.set_cons_zero]
        refine Late.take (i := 9) (d := some 55) (v := ?v9_18a) rfl rfl (by kernel_rfl) (by kernel_rfl) (by kernel_rfl) (by kernel_rfl) hQ (Or.inl ⟨by rfl, ?y9_18a⟩) ?r9_18a
        case y9_18a =>
          intro w' hSw
          have k00 := (bx.ext hSw).c4
          have k10 := (by_.ext hSw).c4
          have k20 := (b8.ext hSw).c2
          have k30 := (b9.ext hSw).c2
          go_simp
          try with_reducible rfl
        try simp only [Act.put]
        try simp only [List.setIfInBounds_toArray]
        try simp only [List.set_cons_succ]
        try simp only [List.set_cons_zero]
        refine Late.take (i := 1) (d := some 47) (v := ?v1_19a) rfl rfl (by kernel_rfl) (by kernel_rfl) (by kernel_rfl) (by kernel_rfl) hQ (Or.inl ⟨by rfl, ?y1_19a⟩) ?r1_19a
        case y1_19a =>
          intro w' hSw
          have k00 := (bx.ext hSw).c4
          have k10 := (by_.ext hSw).c4
          have k20 := (b8.ext hSw).c2
          have k30 := (b9.ext hSw).c2
          go_simp
          try with_reducible rfl
        try simp only [Act.put]
        try simp only [List.setIfInBounds_toArray]
        try simp only [List.set_cons_succ]
        try simp only [List.set_cons_zero]
        refine Late.take (i := 3) (d := some 49) (v := ?v3_20a) rfl rfl (by kernel_rfl) (by kernel_rfl) (by kernel_rfl) (by kernel_rfl) hQ (Or.inl ⟨by rfl, ?y3_20a⟩) ?r3_20a
        case y3_20a =>
          intro w' hSw
          have k00 := (bx.ext hSw).c4
          have k10 := (by_.ext hSw).c4
          have k20 := (b8.ext hSw).c2
          have k30 := (b9.ext hSw).c2
          go_simp
          try with_reducible rfl
        try simp only [Act.put]
        try simp only [List.setIfInBounds_toArray]
        try simp only [List.set_cons_succ]
        try simp only [List.set_cons_zero]
        refine Late.take (i := 8) (d := some 54) (v := ?v8_21a) rfl rfl (by kernel_rfl) (by kernel_rfl) (by kernel_rfl) (by kernel_rfl) hQ (Or.inl ⟨by rfl, ?y8_21a⟩) ?r8_21a
        case y8_21a =>
          intro w' hSw
          have k00 := (bx.ext hSw).c4
          have k10 := (by_.ext hSw).c4
          have k20 := (b8.ext hSw).c2
          have k30 := (b9.ext hSw).c2
          go_simp
          try with_reducible rfl
        try simp only [Act.put]
        try simp only [List.setIfInBounds_toArray]
        try simp only [List.set_cons_succ]
        try simp only [List.set_cons_zero]
        refine Late.call (i := 5) rfl (by kernel_rfl) hAl (by kernel_rfl) (by kernel_rfl) (by kernel_rfl) hQ (fun w5 e5 E5 K hK => ?_)
        go_simp
        (go_at_call 57; refine (p_divide (k.den.ext E5) (hg.ext E5) (by omega) (by omega) Hg0.out Hgp.out).mono ?_; rintro e wk1 ⟨s1x, A1x, n1x, c1x, rfl, h1, hx5⟩)
        refine hK.out _ _ hx5 ?_
        clear hK K
        try simp only [Act.put]
        try simp only [List.setIfInBounds_toArray]
        try simp only [List.set_cons_succ]
        try simp only [List.set_cons_zero]
        refine Late.call (i := 6) rfl (by kernel_rfl) hAl (by kernel_rfl) (by kernel_rfl) (by kernel_rfl) hQ (fun w6 e6 E6 K hK => ?_)
        go_simp
        (go_at_call 72; refine (p_MulW (h.num.ext E6) (h1.ext e6) (by omega) (by omega) HV1).mono ?_; rintro e wk2 ⟨s2x, A2x, n2x, c2x, rfl, h2, hx6⟩)
        refine hK.out _ _ hx6 ?_
        clear hK K
        try simp only [Act.put]
        try simp only [List.setIfInBounds_toArray]
        try simp only [List.set_cons_succ]
        try simp only [List.set_cons_zero]
        refine Late.call (i := 10) rfl (by kernel_rfl) hAl (by kernel_rfl) (by kernel_rfl) (by kernel_rfl) hQ (fun w10 e10 E10 K hK => ?_)
        go_simp
        (go_at_call 72; refine (p_MulW (k.num.ext E10) (hD1.ext E10) (by omega) (by omega) HV2).mono ?_; rintro e wk3 ⟨s3, A3, n3, c3, rfl, h3, hx10⟩)
        refine hK.out _ _ hx10 ?_
        clear hK K
        try simp only [Act.put]
        try simp only [List.setIfInBounds_toArray]
        try simp only [List.set_cons_succ]
        try simp only [List.set_cons_zero]
        refine Late.call (i := 11) rfl (by kernel_rfl) hAl (by kernel_rfl) (by kernel_rfl) (by kernel_rfl) hQ (fun w11 e11 E11 K hK => ?_)
        go_simp
        (go_at_call 71; refine (p_Add (h2.ext (e10.trans (hx10.trans e11))) (h3.ext e11) (by omega) (by omega)).mono ?_; rintro e wk4 ⟨s4, A4, n4, c4, rfl, h4, hx11⟩)
        refine hK.out _ _ hx11 ?_
        clear hK K
        try simp only [Act.put]
        try simp only [List.setIfInBounds_toArray]
        try simp only [List.set_cons_succ]
        try simp only [List.set_cons_zero]
        refine Late.finish1 (hAl _ (by simp)) (by kernel_rfl) (fun wz g10 ez Ez lg5 xb1 => ?_)
        clear hAl hQ ES
        have f10 := xb1.cell 0 (Value.bool false) rfl
        have f11 := xb1.cell 1 (Value.slice none 0 0) rfl
        have f12 := xb1.frozen 0
        have f13 := xb1.frozen 1
        have e4 := fin_dual (s := s4) (A := A4) (n := n4) (c := c4) xb1
        try simp only [Act.put]
        try simp only [List.setIfInBounds_toArray]
        try simp only [List.set_cons_succ]
        try simp only [List.set_cons_zero]
        refine wpAnyH_ready (rs := [13]) (by kernel_rfl) (by simp) (AllReadyH.cons rfl (fun K hK => ?_) AllReadyH.nil)
        go_simp
        refine hK.out _ _ (e4.2.2.1 _ Ez lg5) (fun _ => ?_)
        clear hK K
        try simp only [Act.put]
        try simp only [List.setIfInBounds_toArray]
        try simp only [List.set_cons_succ]
        try simp only [List.set_cons_zero]
        refine any_world (fun U => Ext V9 U ∧ Box U g10 24 #[.bool s4, .slice A4 n4 c4] ∧ NI U (q.num * ((p.den : Int) / (g : Int)) + p.num * ((q.den : Int) / (g : Int))) (L + M + 1) s4 A4 n4 c4) ⟨e4.2.2.1 _ Ez lg5, e4.1, (e4.2.1 _ _ _ _ _ _ (h4.ext ez)).le (by omega)⟩ ?_
        clear e4 f10 f11 f12 f13 xb1 lg5
        rintro U ⟨EU, b10, hS⟩
        refine wpAnyH_done (by kernel_rfl) ?_ _
        replace bx := bx.ext EU
        replace by_ := by_.ext EU
        replace bz := bz.ext EU
        replace b8 := b8.ext EU
        replace b9 := b9.ext EU
        replace h := h.ext EU
        replace k := k.ext EU
        replace hg := hg.ext EU
        replace hD1 := hD1.ext EU
        replace extW := extW.trans EU
        clear EU Ez ez
        have j0 := b10.cell 0 (.bool s4) rfl
        have j1 := b10.cell 1 (.slice A4 n4 c4) rfl
        have j2 := b8.cell 0 (.bool s1) rfl
        have j3 := b8.cell 1 (.slice A1 n1 c1') rfl
        go_wp2_with fail
        refine (p_GCD hS hg (by omega) (by omega) (hT.ext extW)).mono ?_
        rintro e wg ⟨s5, A5, n5, c5, rfl, hr, hxg⟩
        rw [Int.natAbs_natCast] at hr
        clear j0 j1 j2 j3
        obtain ⟨S, hSe⟩ : ∃ S : Int, q.num * ((p.den : Int) / (g : Int)) + p.num * ((q.den : Int) / (g : Int)) = S := ⟨_, rfl⟩
        rw [hSe] at hS hr
        obtain ⟨r, hre⟩ : ∃ r, Nat.gcd S.natAbs g = r := ⟨_, rfl⟩
        rw [hre] at hr
        obtain ⟨q1, q2, q3, q4⟩ := rat_add q p (S := S) (r := r) Hge.out rfl rfl (by rw [← hSe]; simp) hre.symm
        have Hq1 := Lib.hid q1
        have Hq2 := Lib.hid q2
        have HV3 : Hid (L < 64 ∨ M < 64 ∨ (((q.den : Int) / (g : Int)) * ((p.den : Int) / (r : Int))).natAbs < 4294967296 ^ 126) := Lib.hid (by
          rcases hv.out with e | e | e
          · exact .inl e
          · exact .inr (.inl e)
          · refine .inr (.inr ?_)
            rw [show ((q.den : Int) / (g : Int)) * ((p.den : Int) / (r : Int)) = ((q + p).den : Int) by rw [Hq2.out]; simp, Int.natAbs_natCast]
            exact e.den)
        have Hr0 := Lib.hid (show (r : Int) ≠ 0 by omega)
        have Hrp := Lib.hid (Int.ofNat_dvd.2 q3)
        have HrS := Lib.hid (show (r : Int) ∣ S from Int.ofNat_dvd_left.2 (by rw [← hre]; exact Nat.gcd_dvd_left _ _))
        clear q1 q2 q3 q4 hre hSe
        go_upto_region 10 with (fail)
        refine at_world (fun Z9 => Ext U Z9 ∧ Box Z9 wg.heap.size 24 #[.bool s5, .slice A5 n5 c5] ∧ NI Z9 (r : Int) (max (L + M + 1) (max L M)) s5 A5 n5 c5) ⟨hxg.alloc _, Box.new wg _ _, hr.ext ((Ext.refl wg).alloc _)⟩ ?_
        generalize wg.heap.size = g11
        clear hxg hr
        rintro Z9 ⟨EV, b11, hr⟩
        replace bx := bx.ext EV
        replace by_ := by_.ext EV
        replace bz := bz.ext EV
        replace b9 := b9.ext EV
        replace b10 := b10.ext EV
        replace h := h.ext EV
        replace k := k.ext EV
        replace hD1 := hD1.ext EV
        replace hS := hS.ext EV
        replace extW := extW.trans EV
        clear EV
        go_wp2_with fail
        refine wpL.start 10 (by kernel_rfl) (fun _ _ _ _ _ => ⟨fun h => h, fun h => h⟩) (fun hQ ES => ?_)
        refine wpL.take (i := 0) (d := some 61) (v := ?v0_22a) rfl rfl (by kernel_rfl) (by kernel_rfl) (by kernel_rfl) (by kernel_rfl) hQ (Or.inl ⟨by rfl, ?y0_22a⟩) ES ?r0_22a
        case y0_22a =>
          intro w' hSw
          have k00 := (b9.ext hSw).c2
          have k10 := (b10.ext hSw).c2
          have k20 := (b11.ext hSw).c2
          have k30 := (by_.ext hSw).c4
          go_simp
          try with_reducible rfl
        try simp only [Act.put]
        try simp only [List.setIfInBounds_toArray]
        try simp only [List.set_cons_succ]
        try simp only [List.set_cons_zero]
        refine wpL.take (i := 1) (d := some 62) (v := ?v1_23a) rfl rfl (by kernel_rfl) (by kernel_rfl) (by kernel_rfl) (by kernel_rfl) hQ (Or.inl ⟨by rfl, ?y1_23a⟩) ES ?r1_23a
        case y1_23a =>
          intro w' hSw
          have k00 := (b9.ext hSw).c2
          have k10 := (b10.ext hSw).c2
          have k20 := (b11.ext hSw).c2
          have k30 := (by_.ext hSw).c4
          go_simp
          try with_reducible rfl
        try simp only [Act.put]
        try simp only [List.setIfInBounds_toArray]
        try simp only [List.set_cons_succ]
        try simp only [List.set_cons_zero]
        refine wpL.take (i := 3) (d := some 64) (v := ?v3_24a) rfl rfl (by kernel_rfl) (by kernel_rfl) (by kernel_rfl) (by kernel_rfl) hQ (Or.inl ⟨by rfl, ?y3_24a⟩) ES ?r3_24a
        case y3_24a =>
          intro w' hSw
          have k00 := (b9.ext hSw).c2
          have k10 := (b10.ext hSw).c2
          have k20 := (b11.ext hSw).c2
          have k30 := (by_.ext hSw).c4
          go_simp
          try with_reducible rfl
        try simp only [Act.put]
        try simp only [List.setIfInBounds_toArray]
        try simp only [List.set_cons_succ]
        try simp only [List.set_cons_zero]
        refine wpL.take (i := 4) (d := some 65) (v := ?v4_25a) rfl rfl (by kernel_rfl) (by kernel_rfl) (by kernel_rfl) (by kernel_rfl) hQ (Or.inl ⟨by rfl, ?y4_25a⟩) ES ?r4_25a
        case y4_25a =>
          intro w' hSw
          have k00 := (b9.ext hSw).c2
          have k10 := (b10.ext hSw).c2
          have k20 := (b11.ext hSw).c2
          have k30 := (by_.ext hSw).c4
          go_simp
          try with_reducible rfl
        try simp only [Act.put]
        try simp only [List.setIfInBounds_toArray]
        try simp only [List.set_cons_succ]
        try simp only [List.set_cons_zero]
        refine wpL.take (i := 6) (d := some 67) (v := ?v6_26a) rfl rfl (by kernel_rfl) (by kernel_rfl) (by kernel_rfl) (by kernel_rfl) hQ (Or.inl ⟨by rfl, ?y6_26a⟩) ES ?r6_26a
        case y6_26a =>
          intro w' hSw
          have k00 := (b9.ext hSw).c2
          have k10 := (b10.ext hSw).c2
          have k20 := (b11.ext hSw).c2
          have k30 := (by_.ext hSw).c4
          go_simp
          try with_reducible rfl
        try simp only [Act.put]
        try simp only [List.setIfInBounds_toArray]
        try simp only [List.set_cons_succ]
        try simp only [List.set_cons_zero]
        refine wpL.take (i := 5) (d := some 66) (v := ?v5_27a) rfl rfl (by kernel_rfl) (by kernel_rfl) (by kernel_rfl) (by kernel_rfl) hQ (Or.inl ⟨by rfl, ?y5_27a⟩) ES ?r5_27a
        case y5_27a =>
          intro w' hSw
          have k00 := (b9.ext hSw).c2
          have k10 := (b10.ext hSw).c2
          have k20 := (b11.ext hSw).c2
          have k30 := (by_.ext hSw).c4
          go_simp
          try with_reducible rfl
        try simp only [Act.put]
        try simp only [List.setIfInBounds_toArray]
        try simp only [List.set_cons_succ]
        try simp only [List.set_cons_zero]
        refine wpL.call (i := 2) rfl (by kernel_rfl) (fun K hK => ?_)
        go_simp
        (go_at_call 57; refine (p_divide (hS.ext ES) (hr.ext ES) (by omega) (by omega) Hr0.out HrS.out).mono ?_; rintro e wk1 ⟨s1x, A1x, n1x, c1x, rfl, h1, hx0⟩; have E0_10 := Ext.trans ES hx0)
        refine hK.out _ _ E0_10 ?_
        clear hK K
        try simp only [Act.put]
        try simp only [List.setIfInBounds_toArray]
        try simp only [List.set_cons_succ]
        try simp only [List.set_cons_zero]
        refine wpL.call (i := 7) rfl (by kernel_rfl) (fun K hK => ?_)
        go_simp
        (go_at_call 57; refine (p_divide (k.den.ext E0_10) (hr.ext E0_10) (by omega) (by omega) Hr0.out Hrp.out).mono ?_; rintro e wk2 ⟨s2x, A2x, n2x, c2x, rfl, h2, hx1⟩; have E1_10 := Ext.trans E0_10 hx1)
        refine hK.out _ _ E1_10 ?_
        clear hK K
        try simp only [Act.put]
        try simp only [List.setIfInBounds_toArray]
        try simp only [List.set_cons_succ]
        try simp only [List.set_cons_zero]
        refine wpL.call (i := 8) rfl (by kernel_rfl) (fun K hK => ?_)
        go_simp
        (go_at_call 72; refine (p_MulW (hD1.ext E1_10) (h2) (by omega) (by omega) HV3).mono ?_; rintro e wk3 ⟨s3, A3, n3, c3, rfl, h3, hx2⟩; have E2_10 := Ext.trans E1_10 hx2)
        refine hK.out _ _ E2_10 ?_
        clear hK K
        try simp only [Act.put]
        try simp only [List.setIfInBounds_toArray]
        try simp only [List.set_cons_succ]
        try simp only [List.set_cons_zero]
        refine wpL.take (i := 9) (d := some 70) (v := ?v9_28a) rfl rfl (by kernel_rfl) (by kernel_rfl) (by kernel_rfl) (by kernel_rfl) hQ (Or.inl ⟨by rfl, ?y9_28a⟩) E2_10 ?r9_28a
        case y9_28a =>
          intro w' hSw
          have k00 := (b9.ext hSw).c2
          have k10 := (b10.ext hSw).c2
          have k20 := (b11.ext hSw).c2
          have k30 := (by_.ext hSw).c4
          go_simp
          try with_reducible rfl
        try simp only [Act.put]
        try simp only [List.setIfInBounds_toArray]
        try simp only [List.set_cons_succ]
        try simp only [List.set_cons_zero]
        have z0 := (bz.ext E2_10).cell 0 _ rfl
        have z1 := (bz.ext E2_10).cell 1 _ rfl
        have z2 := (bz.ext E2_10).cell 2 _ rfl
        have z3 := (bz.ext E2_10).cell 3 _ rfl
        have f0 := (bz.ext E2_10).frozen 0
        have f1 := (bz.ext E2_10).frozen 1
        have f2 := (bz.ext E2_10).frozen 2
        have f3 := (bz.ext E2_10).frozen 3
        refine wpL.tail (i := 10) rfl (by kernel_rfl) (by kernel_rfl) (fun K hK => ?_)
        go_simp
        refine hK.out _ _ ?_
        clear hK K
        try simp only [Act.put]
        try simp only [List.setIfInBounds_toArray]
        try simp only [List.set_cons_succ]
        try simp only [List.set_cons_zero]
        refine wpL.done (by kernel_rfl) ?_ _
        clear hQ
        go_wp2_with fail
        have hk1 : ((q.den : Int) / (g : Int)) * ((p.den : Int) / (r : Int)) = ((q + p).den : Int) := by rw [Hq2.out]; simp
        rw [hk1] at h3
        rw [← Hq1.out] at h1
        obtain ⟨b1, b2, b3, b4⟩ := fin_quad (s := s1x) (A := A1x) (n := n1x) (c := c1x) (t := s3) (B := A3) (m := n3) (d := c3) (bz.ext E2_10)
        have r0 := b1.cell 0 (.bool s1x) rfl
        have r1 := b1.cell 1 (.slice A1x n1x c1x) rfl
        have r2 := b1.cell 2 (.bool s3) rfl
        have r3 := b1.cell 3 (.slice A3 n3 c3) rfl
        unfold set4 at r0 r1 r2 r3
        refine bodyPost_ret (v := .agg #[.bool s1x, .slice A1x n1x c1x, .bool s3, .slice A3 n3 c3]) (by simp [results, Tryz.results28, go_sem, r0, r1, r2, r3]) rfl ⟨s1x, A1x, n1x, c1x, s3, A3, n3, c3, rfl, ⟨?_, ?_⟩, b3 _ (extW.trans E2_10) (by omega)⟩
        · exact (b2 _ _ _ _ _ _ (h1.ext (hx1.trans hx2))).le (by omega)
        · exact (b2 _ _ _ _ _ _ h3).le (by omega)
    · rw [decide_eq_false h1]
      clear h1
      have x0 := bx.cell 0 (.bool s) rfl
      have x1 := bx.cell 1 (.slice A n c) rfl
      have x2 := bx.cell 2 (.bool t) rfl
      have x3 := bx.cell 3 (.slice B m d) rfl
      have y0 := by_.cell 0 (.bool s') rfl
      have y1 := by_.cell 1 (.slice A' n' c') rfl
      have y2 := by_.cell 2 (.bool t') rfl
      have y3 := by_.cell 3 (.slice B' m' d') rfl
      go_wp2_with fail
      refine (p_GCD h.den k.den (by omega) (by omega) (hT.ext extW)).mono ?_
      rintro e we ⟨s1, A1, n1, c1', rfl, hg, hxe⟩
      rw [Int.natAbs_natCast, Int.natAbs_natCast] at hg
      obtain ⟨g, hge⟩ : ∃ g, Nat.gcd q.den p.den = g := ⟨_, rfl⟩
      rw [hge] at hg
      have hgq : g ∣ q.den := by rw [← hge]; exact Nat.gcd_dvd_left _ _
      have hgp : g ∣ p.den := by rw [← hge]; exact Nat.gcd_dvd_right _ _
      have hg0 : (g : Int) ≠ 0 := by
        intro h0
        have : g = 0 := by omega
        rw [this] at hgq
        have := Nat.eq_zero_of_zero_dvd hgq
        exact q.den_nz this
      have Hge := Lib.hid hge.symm
      have Hg0 := Lib.hid hg0
      have HV1 : Hid (L < 64 ∨ M < 64 ∨ (q.num * ((p.den : Int) / (g : Int))).natAbs < 4294967296 ^ 126) := Lib.hid (by
        rcases hv.out with e | e | e
        · exact .inl e
        · exact .inr (.inl e)
        · exact .inr (.inr (by rw [Hge.out]; exact e.left)))
      have HV2 : Hid (M < 64 ∨ L < 64 ∨ (p.num * ((q.den : Int) / (g : Int))).natAbs < 4294967296 ^ 126) := Lib.hid (by
        rcases hv.out with e | e | e
        · exact .inr (.inl e)
        · exact .inl e
        · exact .inr (.inr (by rw [Hge.out]; exact e.right)))
      have Hgq := Lib.hid (Int.ofNat_dvd.2 hgq)
      have Hgp := Lib.hid (Int.ofNat_dvd.2 hgp)
      clear hge hg0 hgq hgp
      clear x0 x1 x2 x3
      clear y0 y1 y2 y3
      go_upto_region 7 with (fail)
      refine at_world (fun V7 => Ext wb V7 ∧ Box V7 we.heap.size 24 #[.bool s1, .slice A1 n1 c1'] ∧ NI V7 (g : Int) (max L M) s1 A1 n1 c1') ⟨hxe.alloc _, Box.new we _ _, hg.ext ((Ext.refl we).alloc _)⟩ ?_
      generalize we.heap.size = g8
      clear hxe hg
      rintro V7 ⟨EV, b8, hg⟩
      replace bx := bx.ext EV
      replace by_ := by_.ext EV
      replace bz := bz.ext EV
      replace h := h.ext EV
      replace k := k.ext EV
      replace extW := extW.trans EV
      clear EV
      have x0 := bx.cell 0 (.bool s) rfl
      have x1 := bx.cell 1 (.slice A n c) rfl
      have x2 := bx.cell 2 (.bool t) rfl
      have x3 := bx.cell 3 (.slice B m d) rfl
      have j0 := b8.cell 0 (.bool s1) rfl
      have j1 := b8.cell 1 (.slice A1 n1 c1') rfl
      go_wp2_with fail
      refine (p_divide h.den hg (by omega) (by omega) Hg0.out Hgq.out).mono ?_
      rintro e wf ⟨s2, A2, n2, c2', rfl, hD1, hxf⟩
      clear x0 x1 x2 x3
      clear j0 j1
      go_upto_region 8 with (fail)
      refine at_world (fun V9 => Ext V7 V9 ∧ Box V9 wf.heap.size 24 #[.bool s2, .slice A2 n2 c2'] ∧ NI V9 ((q.den : Int) / (g : Int)) L s2 A2 n2 c2') ⟨hxf.alloc _, Box.new wf _ _, hD1.ext ((Ext.refl wf).alloc _)⟩ ?_
      generalize wf.heap.size = g9
      clear hxf hD1
      rintro V9 ⟨EV, b9, hD1⟩
      replace bx := bx.ext EV
      replace by_ := by_.ext EV
      replace bz := bz.ext EV
      replace b8 := b8.ext EV
      replace h := h.ext EV
      replace k := k.ext EV
      replace hg := hg.ext EV
      replace extW := extW.trans EV
      clear EV
      go_wp2_with fail
      have ES0 := Ext.refl V9
      refine wp_region_held_drew (S := Ext V9) (by kernel_rfl) ES0.drew (fun ES => ?_)
      clear ES0
      refine Late.start1 (x := ⟨12, 10, 24, #[Value.bool false, Value.slice none 0 0]⟩) (n := 13) ⟨_, rfl, rfl, rfl, fun a w => by go_simp⟩ (fun _ _ _ _ _ => ⟨fun h => h, fun h => h⟩) ES rfl (fun hAl hQ => ?_)
      refine Late.take (i := 0) (d := some 46) (v := ?v0_14b) rfl rfl (by kernel_rfl) (by kernel_rfl) (by kernel_rfl) (by kernel_rfl) hQ (Or.inl ⟨by rfl, ?y0_14b⟩) ?r0_14b
      case y0_14b =>
        intro w' hSw
        have k00 := (bx.ext hSw).c4
        have k10 := (by_.ext hSw).c4
        have k20 := (b8.ext hSw).c2
        have k30 := (b9.ext hSw).c2
        go_simp
        try with_reducible rfl
      try simp only [Act.put]
      try simp only [List.setIfInBounds_toArray]
      try simp only [List.set_cons_succ]
      try simp only [List.set_cons_zero]
      refine Late.take (i := 2) (d := some 48) (v := ?v2_15b) rfl rfl (by kernel_rfl) (by kernel_rfl) (by kernel_rfl) (by kernel_rfl) hQ (Or.inl ⟨by rfl, ?y2_15b⟩) ?r2_15b
      case y2_15b =>
        intro w' hSw
        have k00 := (bx.ext hSw).c4
        have k10 := (by_.ext hSw).c4
        have k20 := (b8.ext hSw).c2
        have k30 := (b9.ext hSw).c2
        go_simp
        try with_reducible rfl
      try simp only [Act.put]
      try simp only [List.setIfInBounds_toArray]
      try simp only [List.set_cons_succ]
      try simp only [List.set_cons_zero]
      refine Late.take (i := 4) (d := some 50) (v := ?v4_16b) rfl rfl (by kernel_rfl) (by kernel_rfl) (by kernel_rfl) (by kernel_rfl) hQ (Or.inl ⟨by rfl, ?y4_16b⟩) ?r4_16b
      case y4_16b =>
        intro w' hSw
        have k00 := (bx.ext hSw).c4
        have k10 := (by_.ext hSw).c4
        have k20 := (b8.ext hSw).c2
        have k30 := (b9.ext hSw).c2
        go_simp
        try with_reducible rfl
      try simp only [Act.put]
      try simp only [List.setIfInBounds_toArray]
      try simp only [List.set_cons_succ]
      try simp only [List.set_cons_zero]
      refine Late.take (i := 7) (d := some 53) (v := ?v7_17b) rfl rfl (by kernel_rfl) (by kernel_rfl) (by kernel_rfl) (by kernel_rfl) hQ (Or.inl ⟨by rfl, ?y7_17b⟩) ?r7_17b
      case y7_17b =>
        intro w' hSw
        have k00 := (bx.ext hSw).c4
        have k10 := (by_.ext hSw).c4
        have k20 := (b8.ext hSw).c2
        have k30 := (b9.ext hSw).c2
        go_simp
        try with_reducible rfl
      try simp only [Act.put]
      try simp only [List.setIfInBounds_toArray]
      try simp only [List.set_cons_succ]
      try simp only [List.set_cons_zero]
      refine Late.take (i := 9) (d := some 55) (v := ?v9_18b) rfl rfl (by kernel_rfl) (by kernel_rfl) (by kernel_rfl) (by kernel_rfl) hQ (Or.inl ⟨by rfl, ?y9_18b⟩) ?r9_18b
      case y9_18b =>
        intro w' hSw
        have k00 := (bx.ext hSw).c4
        have k10 := (by_.ext hSw).c4
        have k20 := (b8.ext hSw).c2
        have k30 := (b9.ext hSw).c2
        go_simp
        try with_reducible rfl
      try simp only [Act.put]
      try simp only [List.setIfInBounds_toArray]
      try simp only [List.set_cons_succ]
      try simp only [List.set_cons_zero]
      refine Late.take (i := 1) (d := some 47) (v := ?v1_19b) rfl rfl (by kernel_rfl) (by kernel_rfl) (by kernel_rfl) (by kernel_rfl) hQ (Or.inl ⟨by rfl, ?y1_19b⟩) ?r1_19b
      case y1_19b =>
        intro w' hSw
        have k00 := (bx.ext hSw).c4
        have k10 := (by_.ext hSw).c4
        have k20 := (b8.ext hSw).c2
        have k30 := (b9.ext hSw).c2
        go_simp
        try with_reducible rfl
      try simp only [Act.put]
      try simp only [List.setIfInBounds_toArray]
      try simp only [List.set_cons_succ]
      try simp only [List.set_cons_zero]
      refine Late.take (i := 3) (d := some 49) (v := ?v3_20b) rfl rfl (by kernel_rfl) (by kernel_rfl) (by kernel_rfl) (by kernel_rfl) hQ (Or.inl ⟨by rfl, ?y3_20b⟩) ?r3_20b
      case y3_20b =>
        intro w' hSw
        have k00 := (bx.ext hSw).c4
        have k10 := (by_.ext hSw).c4
        have k20 := (b8.ext hSw).c2
        have k30 := (b9.ext hSw).c2
        go_simp
        try with_reducible rfl
      try simp only [Act.put]
      try simp only [List.setIfInBounds_toArray]
      try simp only [List.set_cons_succ]
      try simp only [List.set_cons_zero]
      refine Late.take (i := 8) (d := some 54) (v := ?v8_21b) rfl rfl (by kernel_rfl) (by kernel_rfl) (by kernel_rfl) (by kernel_rfl) hQ (Or.inl ⟨by rfl, ?y8_21b⟩) ?r8_21b
      case y8_21b =>
        intro w' hSw
        have k00 := (bx.ext hSw).c4
        have k10 := (by_.ext hSw).c4
        have k20 := (b8.ext hSw).c2
        have k30 := (b9.ext hSw).c2
        go_simp
        try with_reducible rfl
      try simp only [Act.put]
      try simp only [List.setIfInBounds_toArray]
      try simp only [List.set_cons_succ]
      try simp only [List.set_cons_zero]
      refine Late.call (i := 5) rfl (by kernel_rfl) hAl (by kernel_rfl) (by kernel_rfl) (by kernel_rfl) hQ (fun w5 e5 E5 K hK => ?_)
      go_simp
      (go_at_call 57; refine (p_divide (k.den.ext E5) (hg.ext E5) (by omega) (by omega) Hg0.out Hgp.out).mono ?_; rintro e wk1 ⟨s1x, A1x, n1x, c1x, rfl, h1, hx5⟩)
      refine hK.out _ _ hx5 ?_
      clear hK K
      try simp only [Act.put]
      try simp only [List.setIfInBounds_toArray]
      try simp only [List.set_cons_succ]
      try simp only [List.set_cons_zero]
      refine Late.call (i := 6) rfl (by kernel_rfl) hAl (by kernel_rfl) (by kernel_rfl) (by kernel_rfl) hQ (fun w6 e6 E6 K hK => ?_)
      go_simp
      (go_at_call 72; refine (p_MulW (h.num.ext E6) (h1.ext e6) (by omega) (by omega) HV1).mono ?_; rintro e wk2 ⟨s2x, A2x, n2x, c2x, rfl, h2, hx6⟩)
      refine hK.out _ _ hx6 ?_
      clear hK K
      try simp only [Act.put]
      try simp only [List.setIfInBounds_toArray]
      try simp only [List.set_cons_succ]
      try simp only [List.set_cons_zero]
      refine Late.call (i := 10) rfl (by kernel_rfl) hAl (by kernel_rfl) (by kernel_rfl) (by kernel_rfl) hQ (fun w10 e10 E10 K hK => ?_)
      go_simp
      (go_at_call 72; refine (p_MulW (k.num.ext E10) (hD1.ext E10) (by omega) (by omega) HV2).mono ?_; rintro e wk3 ⟨s3, A3, n3, c3, rfl, h3, hx10⟩)
      refine hK.out _ _ hx10 ?_
      clear hK K
      try simp only [Act.put]
      try simp only [List.setIfInBounds_toArray]
      try simp only [List.set_cons_succ]
      try simp only [List.set_cons_zero]
      refine Late.call (i := 11) rfl (by kernel_rfl) hAl (by kernel_rfl) (by kernel_rfl) (by kernel_rfl) hQ (fun w11 e11 E11 K hK => ?_)
      go_simp
      (go_at_call 71; refine (p_Add (h2.ext (e10.trans (hx10.trans e11))) (h3.ext e11) (by omega) (by omega)).mono ?_; rintro e wk4 ⟨s4, A4, n4, c4, rfl, h4, hx11⟩)
      refine hK.out _ _ hx11 ?_
      clear hK K
      try simp only [Act.put]
      try simp only [List.setIfInBounds_toArray]
      try simp only [List.set_cons_succ]
      try simp only [List.set_cons_zero]
      refine Late.finish1 (hAl _ (by simp)) (by kernel_rfl) (fun wz g10 ez Ez lg5 xb1 => ?_)
      clear hAl hQ ES
      have f10 := xb1.cell 0 (Value.bool false) rfl
      have f11 := xb1.cell 1 (Value.slice none 0 0) rfl
      have f12 := xb1.frozen 0
      have f13 := xb1.frozen 1
      have e4 := fin_dual (s := s4) (A := A4) (n := n4) (c := c4) xb1
      try simp only [Act.put]
      try simp only [List.setIfInBounds_toArray]
      try simp only [List.set_cons_succ]
      try simp only [List.set_cons_zero]
      refine wpAnyH_ready (rs := [13]) (by kernel_rfl) (by simp) (AllReadyH.cons rfl (fun K hK => ?_) AllReadyH.nil)
      go_simp
      refine hK.out _ _ (e4.2.2.1 _ Ez lg5) (fun _ => ?_)
      clear hK K
      try simp only [Act.put]
      try simp only [List.setIfInBounds_toArray]
      try simp only [List.set_cons_succ]
      try simp only [List.set_cons_zero]
      refine any_world (fun U => Ext V9 U ∧ Box U g10 24 #[.bool s4, .slice A4 n4 c4] ∧ NI U (q.num * ((p.den : Int) / (g : Int)) + p.num * ((q.den : Int) / (g : Int))) (L + M + 1) s4 A4 n4 c4) ⟨e4.2.2.1 _ Ez lg5, e4.1, (e4.2.1 _ _ _ _ _ _ (h4.ext ez)).le (by omega)⟩ ?_
      clear e4 f10 f11 f12 f13 xb1 lg5
      rintro U ⟨EU, b10, hS⟩
      refine wpAnyH_done (by kernel_rfl) ?_ _
      replace bx := bx.ext EU
      replace by_ := by_.ext EU
      replace bz := bz.ext EU
      replace b8 := b8.ext EU
      replace b9 := b9.ext EU
      replace h := h.ext EU
      replace k := k.ext EU
      replace hg := hg.ext EU
      replace hD1 := hD1.ext EU
      replace extW := extW.trans EU
      clear EU Ez ez
      have j0 := b10.cell 0 (.bool s4) rfl
      have j1 := b10.cell 1 (.slice A4 n4 c4) rfl
      have j2 := b8.cell 0 (.bool s1) rfl
      have j3 := b8.cell 1 (.slice A1 n1 c1') rfl
      go_wp2_with fail
      refine (p_GCD hS hg (by omega) (by omega) (hT.ext extW)).mono ?_
      rintro e wg ⟨s5, A5, n5, c5, rfl, hr, hxg⟩
      rw [Int.natAbs_natCast] at hr
      clear j0 j1 j2 j3
      obtain ⟨S, hSe⟩ : ∃ S : Int, q.num * ((p.den : Int) / (g : Int)) + p.num * ((q.den : Int) / (g : Int)) = S := ⟨_, rfl⟩
      rw [hSe] at hS hr
      obtain ⟨r, hre⟩ : ∃ r, Nat.gcd S.natAbs g = r := ⟨_, rfl⟩
      rw [hre] at hr
      obtain ⟨q1, q2, q3, q4⟩ := rat_add q p (S := S) (r := r) Hge.out rfl rfl (by rw [← hSe]; simp) hre.symm
      have Hq1 := Lib.hid q1
      have Hq2 := Lib.hid q2
      have HV3 : Hid (L < 64 ∨ M < 64 ∨ (((q.den : Int) / (g : Int)) * ((p.den : Int) / (r : Int))).natAbs < 4294967296 ^ 126) := Lib.hid (by
        rcases hv.out with e | e | e
        · exact .inl e
        · exact .inr (.inl e)
        · refine .inr (.inr ?_)
          rw [show ((q.den : Int) / (g : Int)) * ((p.den : Int) / (r : Int)) = ((q + p).den : Int) by rw [Hq2.out]; simp, Int.natAbs_natCast]
          exact e.den)
      have Hr0 := Lib.hid (show (r : Int) ≠ 0 by omega)
      have Hrp := Lib.hid (Int.ofNat_dvd.2 q3)
      have HrS := Lib.hid (show (r : Int) ∣ S from Int.ofNat_dvd_left.2 (by rw [← hre]; exact Nat.gcd_dvd_left _ _))
      clear q1 q2 q3 q4 hre hSe
      go_upto_region 10 with (fail)
      refine at_world (fun Z9 => Ext U Z9 ∧ Box Z9 wg.heap.size 24 #[.bool s5, .slice A5 n5 c5] ∧ NI Z9 (r : Int) (max (L + M + 1) (max L M)) s5 A5 n5 c5) ⟨hxg.alloc _, Box.new wg _ _, hr.ext ((Ext.refl wg).alloc _)⟩ ?_
      generalize wg.heap.size = g11
      clear hxg hr
      rintro Z9 ⟨EV, b11, hr⟩
      replace bx := bx.ext EV
      replace by_ := by_.ext EV
      replace bz := bz.ext EV
      replace b9 := b9.ext EV
      replace b10 := b10.ext EV
      replace h := h.ext EV
      replace k := k.ext EV
      replace hD1 := hD1.ext EV
      replace hS := hS.ext EV
      replace extW := extW.trans EV
      clear EV
      go_wp2_with fail
      refine wpL.start 10 (by kernel_rfl) (fun _ _ _ _ _ => ⟨fun h => h, fun h => h⟩) (fun hQ ES => ?_)
      refine wpL.take (i := 0) (d := some 61) (v := ?v0_22b) rfl rfl (by kernel_rfl) (by kernel_rfl) (by kernel_rfl) (by kernel_rfl) hQ (Or.inl ⟨by rfl, ?y0_22b⟩) ES ?r0_22b
      case y0_22b =>
        intro w' hSw
        have k00 := (b9.ext hSw).c2
        have k10 := (b10.ext hSw).c2
        have k20 := (b11.ext hSw).c2
        have k30 := (by_.ext hSw).c4
        go_simp
        try with_reducible rfl
      try simp only [Act.put]
      try simp only [List.setIfInBounds_toArray]
      try simp only [List.set_cons_succ]
      try simp only [List.set_cons_zero]
      refine wpL.take (i := 1) (d := some 62) (v := ?v1_23b) rfl rfl (by kernel_rfl) (by kernel_rfl) (by kernel_rfl) (by kernel_rfl) hQ (Or.inl ⟨by rfl, ?y1_23b⟩) ES ?r1_23b
      case y1_23b =>
        intro w' hSw
        have k00 := (b9.ext hSw).c2
        have k10 := (b10.ext hSw).c2
        have k20 := (b11.ext hSw).c2
        have k30 := (by_.ext hSw).c4
        go_simp
        try with_reducible rfl
      try simp only [Act.put]
      try simp only [List.setIfInBounds_toArray]
      try simp only [List.set_cons_succ]
      try simp only [List.set_cons_zero]
      refine wpL.take (i := 3) (d := some 64) (v := ?v3_24b) rfl rfl (by kernel_rfl) (by kernel_rfl) (by kernel_rfl) (by kernel_rfl) hQ (Or.inl ⟨by rfl, ?y3_24b⟩) ES ?r3_24b
      case y3_24b =>
        intro w' hSw
        have k00 := (b9.ext hSw).c2
        have k10 := (b10.ext hSw).c2
        have k20 := (b11.ext hSw).c2
        have k30 := (by_.ext hSw).c4
        go_simp
        try with_reducible rfl
      try simp only [Act.put]
      try simp only [List.setIfInBounds_toArray]
      try simp only [List.set_cons_succ]
      try simp only [List.set_cons_zero]
      refine wpL.take (i := 4) (d := some 65) (v := ?v4_25b) rfl rfl (by kernel_rfl) (by kernel_rfl) (by kernel_rfl) (by kernel_rfl) hQ (Or.inl ⟨by rfl, ?y4_25b⟩) ES ?r4_25b
      case y4_25b =>
        intro w' hSw
        have k00 := (b9.ext hSw).c2
        have k10 := (b10.ext hSw).c2
        have k20 := (b11.ext hSw).c2
        have k30 := (by_.ext hSw).c4
        go_simp
        try with_reducible rfl
      try simp only [Act.put]
      try simp only [List.setIfInBounds_toArray]
      try simp only [List.set_cons_succ]
      try simp only [List.set_cons_zero]
      refine wpL.take (i := 6) (d := some 67) (v := ?v6_26b) rfl rfl (by kernel_rfl) (by kernel_rfl) (by kernel_rfl) (by kernel_rfl) hQ (Or.inl ⟨by rfl, ?y6_26b⟩) ES ?r6_26b
      case y6_26b =>
        intro w' hSw
        have k00 := (b9.ext hSw).c2
        have k10 := (b10.ext hSw).c2
        have k20 := (b11.ext hSw).c2
        have k30 := (by_.ext hSw).c4
        go_simp
        try with_reducible rfl
      try simp only [Act.put]
      try simp only [List.setIfInBounds_toArray]
      try simp only [List.set_cons_succ]
      try simp only [List.set_cons_zero]
      refine wpL.take (i := 5) (d := some 66) (v := ?v5_27b) rfl rfl (by kernel_rfl) (by kernel_rfl) (by kernel_rfl) (by kernel_rfl) hQ (Or.inl ⟨by rfl, ?y5_27b⟩) ES ?r5_27b
      case y5_27b =>
        intro w' hSw
        have k00 := (b9.ext hSw).c2
        have k10 := (b10.ext hSw).c2
        have k20 := (b11.ext hSw).c2
        have k30 := (by_.ext hSw).c4
        go_simp
        try with_reducible rfl
      try simp only [Act.put]
      try simp only [List.setIfInBounds_toArray]
      try simp only [List.set_cons_succ]
      try simp only [List.set_cons_zero]
      refine wpL.call (i := 2) rfl (by kernel_rfl) (fun K hK => ?_)
      go_simp
      (go_at_call 57; refine (p_divide (hS.ext ES) (hr.ext ES) (by omega) (by omega) Hr0.out HrS.out).mono ?_; rintro e wk1 ⟨s1x, A1x, n1x, c1x, rfl, h1, hx0⟩; have E0_10 := Ext.trans ES hx0)
      refine hK.out _ _ E0_10 ?_
      clear hK K
      try simp only [Act.put]
      try simp only [List.setIfInBounds_toArray]
      try simp only [List.set_cons_succ]
      try simp only [List.set_cons_zero]
      refine wpL.call (i := 7) rfl (by kernel_rfl) (fun K hK => ?_)
      go_simp
      (go_at_call 57; refine (p_divide (k.den.ext E0_10) (hr.ext E0_10) (by omega) (by omega) Hr0.out Hrp.out).mono ?_; rintro e wk2 ⟨s2x, A2x, n2x, c2x, rfl, h2, hx1⟩; have E1_10 := Ext.trans E0_10 hx1)
      refine hK.out _ _ E1_10 ?_
      clear hK K
      try simp only [Act.put]
      try simp only [List.setIfInBounds_toArray]
      try simp only [List.set_cons_succ]
      try simp only [List.set_cons_zero]
      refine wpL.call (i := 8) rfl (by kernel_rfl) (fun K hK => ?_)
      go_simp
      (go_at_call 72; refine (p_MulW (hD1.ext E1_10) (h2) (by omega) (by omega) HV3).mono ?_; rintro e wk3 ⟨s3, A3, n3, c3, rfl, h3, hx2⟩; have E2_10 := Ext.trans E1_10 hx2)
      refine hK.out _ _ E2_10 ?_
      clear hK K
      try simp only [Act.put]
      try simp only [List.setIfInBounds_toArray]
      try simp only [List.set_cons_succ]
      try simp only [List.set_cons_zero]
      refine wpL.take (i := 9) (d := some 70) (v := ?v9_28b) rfl rfl (by kernel_rfl) (by kernel_rfl) (by kernel_rfl) (by kernel_rfl) hQ (Or.inl ⟨by rfl, ?y9_28b⟩) E2_10 ?r9_28b
      case y9_28b =>
        intro w' hSw
        have k00 := (b9.ext hSw).c2
        have k10 := (b10.ext hSw).c2
        have k20 := (b11.ext hSw).c2
        have k30 := (by_.ext hSw).c4
        go_simp
        try with_reducible rfl
      try simp only [Act.put]
      try simp only [List.setIfInBounds_toArray]
      try simp only [List.set_cons_succ]
      try simp only [List.set_cons_zero]
      have z0 := (bz.ext E2_10).cell 0 _ rfl
      have z1 := (bz.ext E2_10).cell 1 _ rfl
      have z2 := (bz.ext E2_10).cell 2 _ rfl
      have z3 := (bz.ext E2_10).cell 3 _ rfl
      have f0 := (bz.ext E2_10).frozen 0
      have f1 := (bz.ext E2_10).frozen 1
      have f2 := (bz.ext E2_10).frozen 2
      have f3 := (bz.ext E2_10).frozen 3
      refine wpL.tail (i := 10) rfl (by kernel_rfl) (by kernel_rfl) (fun K hK => ?_)
      go_simp
      refine hK.out _ _ ?_
      clear hK K
      try simp only [Act.put]
      try simp only [List.setIfInBounds_toArray]
      try simp only [List.set_cons_succ]
      try simp only [List.set_cons_zero]
      refine wpL.done (by kernel_rfl) ?_ _
      clear hQ
      go_wp2_with fail
      have hk1 : ((q.den : Int) / (g : Int)) * ((p.den : Int) / (r : Int)) = ((q + p).den : Int) := by rw [Hq2.out]; simp
      rw [hk1] at h3
      rw [← Hq1.out] at h1
      obtain ⟨b1, b2, b3, b4⟩ := fin_quad (s := s1x) (A := A1x) (n := n1x) (c := c1x) (t := s3) (B := A3) (m := n3) (d := c3) (bz.ext E2_10)
      have r0 := b1.cell 0 (.bool s1x) rfl
      have r1 := b1.cell 1 (.slice A1x n1x c1x) rfl
      have r2 := b1.cell 2 (.bool s3) rfl
      have r3 := b1.cell 3 (.slice A3 n3 c3) rfl
      unfold set4 at r0 r1 r2 r3
      refine bodyPost_ret (v := .agg #[.bool s1x, .slice A1x n1x c1x, .bool s3, .slice A3 n3 c3]) (by simp [results, Tryz.results28, go_sem, r0, r1, r2, r3]) rfl ⟨s1x, A1x, n1x, c1x, s3, A3, n3, c3, rfl, ⟨?_, ?_⟩, b3 _ (extW.trans E2_10) (by omega)⟩
      · exact (b2 _ _ _ _ _ _ (h1.ext (hx1.trans hx2))).le (by omega)
      · exact (b2 _ _ _ _ _ _ h3).le (by omega)
theorem p_AddR (h : NR w q L s A n c t B m d) (k : NR w p M s' A' n' c' t' B' m' d') (hL : L ≤ 1000) (hM : M ≤ 1000) (h64 : min L M < 64) (hT : Tab w) : Calls Tryz.prog 28 #[.agg #[.bool s, .slice A n c, .bool t, .slice B m d], .agg #[.bool s', .slice A' n' c', .bool t', .slice B' m' d']] w (RetNR (q + p) (L + M + 1) w) :=
  p_AddRV h k hL hM (Lib.hid (by
    rcases Nat.lt_or_ge L 64 with e | e
    · exact .inl e
    · exact .inr (.inl (by omega)))) hT
end
end Go.Proofs.YtiioodgpkdbndaaGreatDoor
namespace Go.Proofs.YtiioodgpkdbndaaGreatDoor
open Go.RowKit
section
variable {P : Program} {ops : Array Oper} {Q : Exit → Act → World → Prop} {md : Region.Mode} {W0 : World} {z : Nat}
theorem wpL.first2 {i m : Nat} {oi : Oper} {v : Value} (hi : ops[i]? = some oi) (hs : Region.noSelect ops = true) (hiz : i ≠ z) (him : i ≠ m) (hw1 : Waits md ops i m) (hw2 : Waits md ops m z) (hQ : QStill Q) :
    ∀ (f : Nat) (L : Array Bool) (a : Act) (w : World), L.size = ops.size → L.getD z false = false → L.getD m false = false → L.getD m true = false →
      (∀ j oj, ops[j]? = some oj → j ≠ i → L.getD j true = false → (∀ e ∈ oj.after, Region.binds md e = true → e.on ≠ i) → oi.apart ops oj = true) →
      i ∈ Region.ready md ops L → YieldsIf P ops (Ext W0) oi v a → Ext W0 w →
      wpL P md ops Q W0 z f (L.setIfInBounds i true) (a.put oi.dst v) w → wpL P md ops Q W0 z (f + 1) L a w := by
  have hsel := Region.noSelect_spec hs
  intro f
  induction f with
  | zero =>
    intro L a w _ _ _ _ _ hr hy hS H
    refine ⟨(fun h0 => by rw [h0] at hr; cases hr), fun j hj => ?_⟩
    by_cases hji : j = i
    · subst hji; exact hy.wpOp hi hS ⟨.inr hS, H⟩
    · have := ready_mono hj hji
      rw [H.1] at this
      cases this
  | succ f ih =>
    intro L a w hsz hzL hmL hmT hfree hr hy hS H
    refine ⟨(fun h0 => by rw [h0] at hr; cases hr), fun j hj => ?_⟩
    by_cases hji : j = i
    · subst hji; exact hy.wpOp hi hS ⟨.inr hS, H⟩
    · have hiL := (mem_ready.1 hr).1
      have hjz : j ≠ z := fun e => waits_not hw2 hmT hzL hsz (e ▸ hj)
      have hjm : j ≠ m := fun e => waits_not hw1 hiL hmL hsz (e ▸ hj)
      obtain ⟨hjun, oj, hoj, hall⟩ := mem_ready.1 hj
      have hnot : ∀ e ∈ oj.after, Region.binds md e = true → e.on ≠ i := fun e he hb hh => by
        have h1 := hall e he hb
        rw [hh] at h1
        have hlt : i < L.size := by
          rcases Nat.lt_or_ge i L.size with h | h
          · exact h
          · simp [h] at h1
        simp [hlt] at h1 hiL
        rw [h1] at hiL
        cases hiL
      have h1 := H.2 j (ready_mono hj hji)
      have h2 := wpOp_putIf hoj (hfree j oj hoj hji hjun hnot) (fun cs b => hsel i oi cs b hi) (fun cs b => hsel j oj cs b hoj) (fun c a w => (hQ.put c a _ _ w).1) hy h1
      refine wpOp_mono (fun a' w' h3 => ?_) h2
      obtain ⟨hy', hS', H'⟩ := h3
      have hzz : ((L.setIfInBounds i true).setIfInBounds j true).getD z false = false := by
        rw [getD_set_ne false hjz, getD_set_ne false hiz]; exact hzL
      have hE : Ext W0 w' := by
        rcases hS' with h | h
        · rw [hzz] at h; cases h
        · exact h
      refine ⟨.inr hE, ih (L.setIfInBounds j true) a' w' (by simpa using hsz) (by rw [getD_set_ne false hjz]; exact hzL) (by rw [getD_set_ne false hjm]; exact hmL) (by rw [getD_set_ne true hjm]; exact hmT) ?_ (ready_mono hr (Ne.symm hji)) hy' hE ?_⟩
      · intro k ok hk hki hun hno
        refine hfree k ok hk hki ?_ hno
        by_cases hjk : j = k
        · subst hjk; exact hjun
        · rwa [getD_set_ne true hjk] at hun
      · rw [Array.setIfInBounds_comm _ _ hji]
        exact H'
theorem wpL.take2 {f i : Nat} {oi : Oper} {d : Option Tmp} {v : Value} {L : Array Bool} {a : Act} {w : World} (m : Nat) (hi : ops[i]? = some oi) (hd : oi.dst = d) (hs : Region.noSelect ops = true) (hf : Region.free md ops L i = true)
    (hr : (Region.ready md ops L).contains i = true) (hz : (i != z && i != m && waitsB md ops i m && waitsB md ops m z && !L.getD z false && !L.getD m false && !L.getD m true && L.size == ops.size) = true) (hQ : QStill Q) (hy : YieldsIf P ops (Ext W0) oi v a) (hS : Ext W0 w)
    (h : wpL P md ops Q W0 z f (L.setIfInBounds i true) (a.put d v) w) : wpL P md ops Q W0 z (f + 1) L a w := by
  subst hd
  simp only [Bool.and_eq_true, bne_iff_ne, Bool.not_eq_true', beq_iff_eq] at hz
  obtain ⟨⟨⟨⟨⟨⟨⟨h1, h2⟩, h3⟩, h4⟩, h5⟩, h6⟩, h7⟩, h8⟩ := hz
  exact wpL.first2 hi hs h1 h2 (waitsB_spec h3) (waitsB_spec h4) hQ f L a w h8 h5 h6 h7 (fun j oj hj hne hun hno => Region.free_spec hi hf j oj hj hne hun hno) (by simpa using hr) hy hS h
/-- none of B may come up before i: each of them waits for i or for another one of B. -/
theorem wpL.firstB {i : Nat} {oi : Oper} {v : Value} (B : List Nat) (hi : ops[i]? = some oi) (hs : Region.noSelect ops = true) (hB : ∀ k ∈ B, ∃ k' ∈ i :: B, Waits md ops k' k) (hzB : z ∈ B) (hiB : i ∉ B) (hQ : QStill Q) :
    ∀ (f : Nat) (L : Array Bool) (a : Act) (w : World), L.size = ops.size → (∀ k ∈ B, L.getD k false = false ∧ L.getD k true = false) →
      (∀ j oj, ops[j]? = some oj → j ≠ i → L.getD j true = false → (∀ e ∈ oj.after, Region.binds md e = true → e.on ≠ i) → oi.apart ops oj = true) →
      i ∈ Region.ready md ops L → YieldsIf P ops (Ext W0) oi v a → Ext W0 w →
      wpL P md ops Q W0 z f (L.setIfInBounds i true) (a.put oi.dst v) w → wpL P md ops Q W0 z (f + 1) L a w := by
  have hsel := Region.noSelect_spec hs
  have hiz : i ≠ z := fun e => hiB (e ▸ hzB)
  intro f
  induction f with
  | zero =>
    intro L a w _ _ _ hr hy hS H
    refine ⟨(fun h0 => by rw [h0] at hr; cases hr), fun j hj => ?_⟩
    by_cases hji : j = i
    · subst hji; exact hy.wpOp hi hS ⟨.inr hS, H⟩
    · have := ready_mono hj hji
      rw [H.1] at this
      cases this
  | succ f ih =>
    intro L a w hsz hBL hfree hr hy hS H
    refine ⟨(fun h0 => by rw [h0] at hr; cases hr), fun j hj => ?_⟩
    by_cases hji : j = i
    · subst hji; exact hy.wpOp hi hS ⟨.inr hS, H⟩
    · have hiL := (mem_ready.1 hr).1
      have hjB : j ∉ B := fun hb => by
        obtain ⟨k', hk', hw⟩ := hB j hb
        have hk1 : L.getD k' true = false := by
          rcases List.mem_cons.1 hk' with rfl | hk'
          · exact hiL
          · exact (hBL k' hk').2
        exact waits_not hw hk1 (hBL j hb).1 hsz hj
      have hjz : j ≠ z := fun e => hjB (e ▸ hzB)
      obtain ⟨hjun, oj, hoj, hall⟩ := mem_ready.1 hj
      have hnot : ∀ e ∈ oj.after, Region.binds md e = true → e.on ≠ i := fun e he hb hh => by
        have h1 := hall e he hb
        rw [hh] at h1
        have hlt : i < L.size := by
          rcases Nat.lt_or_ge i L.size with h | h
          · exact h
          · simp [h] at h1
        simp [hlt] at h1 hiL
        rw [h1] at hiL
        cases hiL
      have h1 := H.2 j (ready_mono hj hji)
      have h2 := wpOp_putIf hoj (hfree j oj hoj hji hjun hnot) (fun cs b => hsel i oi cs b hi) (fun cs b => hsel j oj cs b hoj) (fun c a w => (hQ.put c a _ _ w).1) hy h1
      refine wpOp_mono (fun a' w' h3 => ?_) h2
      obtain ⟨hy', hS', H'⟩ := h3
      have hzz : ((L.setIfInBounds i true).setIfInBounds j true).getD z false = false := by
        rw [getD_set_ne false hjz, getD_set_ne false hiz]; exact (hBL z hzB).1
      have hE : Ext W0 w' := by
        rcases hS' with h | h
        · rw [hzz] at h; cases h
        · exact h
      refine ⟨.inr hE, ih (L.setIfInBounds j true) a' w' (by simpa using hsz) (fun k hk => ?_) ?_ (ready_mono hr (Ne.symm hji)) hy' hE ?_⟩
      · have hjk : j ≠ k := fun e => hjB (e ▸ hk)
        rw [getD_set_ne false hjk, getD_set_ne true hjk]
        exact hBL k hk
      · intro k ok hk hki hun hno
        refine hfree k ok hk hki ?_ hno
        by_cases hjk : j = k
        · subst hjk; exact hjun
        · rwa [getD_set_ne true hjk] at hun
      · rw [Array.setIfInBounds_comm _ _ hji]
        exact H'
theorem wpL.takeB {f i : Nat} {oi : Oper} {d : Option Tmp} {v : Value} {L : Array Bool} {a : Act} {w : World} (B : List Nat) (hi : ops[i]? = some oi) (hd : oi.dst = d) (hs : Region.noSelect ops = true) (hf : Region.free md ops L i = true)
    (hr : (Region.ready md ops L).contains i = true) (hz : (B.all (fun k => (i :: B).any (fun k' => waitsB md ops k' k)) && B.contains z && !B.contains i && B.all (fun k => !L.getD k false && !L.getD k true) && L.size == ops.size) = true) (hQ : QStill Q) (hy : YieldsIf P ops (Ext W0) oi v a) (hS : Ext W0 w)
    (h : wpL P md ops Q W0 z f (L.setIfInBounds i true) (a.put d v) w) : wpL P md ops Q W0 z (f + 1) L a w := by
  subst hd
  simp only [Bool.and_eq_true, Bool.not_eq_true', beq_iff_eq, List.all_eq_true, List.any_eq_true] at hz
  obtain ⟨⟨⟨⟨h1, h2⟩, h3⟩, h4⟩, h5⟩ := hz
  refine wpL.firstB B hi hs (fun k hk => ?_) (by simpa using h2) (by simpa using h3) hQ f L a w h5 (fun k hk => ?_) (fun j oj hj hne hun hno => Region.free_spec hi hf j oj hj hne hun hno) (by simpa using hr) hy hS h
  · obtain ⟨k', hk', hw⟩ := h1 k hk
    exact ⟨k', hk', waitsB_spec hw⟩
  · exact h4 k hk
/-- an operation that reads no memory: it may be taken first, whether the store has come up or not. -/
theorem wpL.firstT {i : Nat} {oi : Oper} {v : Value} (hi : ops[i]? = some oi) (hs : Region.noSelect ops = true) (hiz : i ≠ z) (hQ : QStill Q) :
    ∀ (f : Nat) (L : Array Bool) (a : Act) (w : World),
      (∀ j oj, ops[j]? = some oj → j ≠ i → L.getD j true = false → (∀ e ∈ oj.after, Region.binds md e = true → e.on ≠ i) → oi.apart ops oj = true) →
      i ∈ Region.ready md ops L → YieldsIf P ops (fun _ => True) oi v a → (L.getD z false = true ∨ Ext W0 w) →
      wpL P md ops Q W0 z f (L.setIfInBounds i true) (a.put oi.dst v) w → wpL P md ops Q W0 z (f + 1) L a w := by
  have hsel := Region.noSelect_spec hs
  intro f
  induction f with
  | zero =>
    intro L a w _ hr hy hS H
    refine ⟨(fun h0 => by rw [h0] at hr; cases hr), fun j hj => ?_⟩
    by_cases hji : j = i
    · subst hji; exact hy.wpOp hi trivial ⟨by rw [getD_set_ne false hiz]; exact hS, H⟩
    · have := ready_mono hj hji
      rw [H.1] at this
      cases this
  | succ f ih =>
    intro L a w hfree hr hy hS H
    refine ⟨(fun h0 => by rw [h0] at hr; cases hr), fun j hj => ?_⟩
    by_cases hji : j = i
    · subst hji; exact hy.wpOp hi trivial ⟨by rw [getD_set_ne false hiz]; exact hS, H⟩
    · have hiL := (mem_ready.1 hr).1
      obtain ⟨hjun, oj, hoj, hall⟩ := mem_ready.1 hj
      have hnot : ∀ e ∈ oj.after, Region.binds md e = true → e.on ≠ i := fun e he hb hh => by
        have h1 := hall e he hb
        rw [hh] at h1
        have hlt : i < L.size := by
          rcases Nat.lt_or_ge i L.size with h | h
          · exact h
          · simp [h] at h1
        simp [hlt] at h1 hiL
        rw [h1] at hiL
        cases hiL
      have h1 := H.2 j (ready_mono hj hji)
      have h2 := wpOp_putIf hoj (hfree j oj hoj hji hjun hnot) (fun cs b => hsel i oi cs b hi) (fun cs b => hsel j oj cs b hoj) (fun c a w => (hQ.put c a _ _ w).1) hy h1
      refine wpOp_mono (fun a' w' h3 => ?_) h2
      obtain ⟨hy', hS', H'⟩ := h3
      have hcm : (L.setIfInBounds i true).setIfInBounds j true = (L.setIfInBounds j true).setIfInBounds i true := Array.setIfInBounds_comm _ _ (Ne.symm hji)
      have hS2 : (L.setIfInBounds j true).getD z false = true ∨ Ext W0 w' := by
        rcases hS' with h | h
        · rw [hcm, getD_set_ne false hiz] at h; exact .inl h
        · exact .inr h
      refine ⟨hS2, ih (L.setIfInBounds j true) a' w' ?_ (ready_mono hr (Ne.symm hji)) hy' hS2 ?_⟩
      · intro k ok hk hki hun hno
        refine hfree k ok hk hki ?_ hno
        by_cases hjk : j = k
        · subst hjk; exact hjun
        · rwa [getD_set_ne true hjk] at hun
      · rw [Array.setIfInBounds_comm _ _ hji]
        exact H'
theorem wpL.takeT {f i : Nat} {oi : Oper} {d : Option Tmp} {v : Value} {L : Array Bool} {a : Act} {w : World} (hi : ops[i]? = some oi) (hd : oi.dst = d) (hs : Region.noSelect ops = true) (hf : Region.free md ops L i = true)
    (hr : (Region.ready md ops L).contains i = true) (hz : (i != z) = true) (hQ : QStill Q) (hy : YieldsIf P ops (fun _ => True) oi v a) (hS : L.getD z false = true ∨ Ext W0 w)
    (h : wpL P md ops Q W0 z f (L.setIfInBounds i true) (a.put d v) w) : wpL P md ops Q W0 z (f + 1) L a w := by
  subst hd
  exact wpL.firstT hi hs (by simpa using hz) hQ f L a w (fun j oj hj hne hun hno => Region.free_spec hi hf j oj hj hne hun hno) (by simpa using hr) hy hS h
end
end Go.Proofs.YtiioodgpkdbndaaGreatDoor
namespace Go.Proofs.YtiioodgpkdbndaaGreatDoor
open Go.RowKit
attribute [local go_sem ↓] Go.wp_at_zero Go.wp_at_succ
section
variable {w w' : World} {z y : Int} {q p : Rat} {L M : Nat} {s t s' t' : Bool} {A B A' B' : Option Addr} {n c m d n' c' m' d' : Nat}
theorem at_exit {F : Exit → Act → World → Prop} {e : Exit} {a : Act} {w : World} (C : World → Prop) (h : C w) (k : ∀ W, C W → F e a W) : F e a w := k w h
def RetNRE (q : Rat) (L : Nat) (w : World) (e : Ending) (w' : World) : Prop :=
  ∃ s A n c t B m d, e = .returned (.tuple #[.agg #[.bool s, .slice A n c, .bool t, .slice B m d], .int .i64 0]) ∧ NR w' q L s A n c t B m d ∧ Ext w w'
/-- the zero value and an error's number. -/
def RetZE (err : Int) (w : World) (e : Ending) (w' : World) : Prop :=
  e = .returned (.tuple #[.agg #[.bool false, .slice none 0 0, .bool false, .slice none 0 0], .int .i64 err]) ∧ Ext w w'
end
end Go.Proofs.YtiioodgpkdbndaaGreatDoor
namespace Go.Proofs.YtiioodgpkdbndaaGreatDoor
open Go.RowKit
theorem bitLen_L {L : Nat} (h : L < 9223372036854775808) : (L ≠ 0 → 2 ^ (Lib.bitLen L - 1) ≤ L) ∧ L / 2 ^ Lib.bitLen L = 0 ∧ Lib.bitLen L ≤ 64 ∧ (L = 0 → Lib.bitLen L = 0) := by
  refine ⟨fun h0 => (Lib.bitLenAux_bounds 64 L (by omega) h0).2.1, ?_, Lib.bitLen_le L 64 (by omega) (by omega), fun h0 => by rw [h0]; exact bitLen_zero⟩
  by_cases h0 : L = 0
  · subst h0; simp
  · exact Nat.div_eq_of_lt (Lib.bitLenAux_bounds 64 L (by omega) h0).2.2
section
variable {A B : Option Addr} {c d n m : Nat} {xs ys : List Nat} {w : World} {s t : Bool}
set_option maxRecDepth 100000 in
set_option maxHeartbeats 8000000 in
theorem int_squareRoot (hn : xs.length = n) (hx : Rd w A xs) (hnx : Nrm xs) (hc : n ≤ c) (hcm : c ≤ maxLen) (h1 : n ≤ 50) :
    Calls Tryz.prog 134 #[.slice A n c] w (RetN (fun zs => val zs * val zs ≤ val xs ∧ val xs < (val zs + 1) * (val zs + 1) ∧ Nrm zs ∧ zs.length ≤ n + 1) w) := by
  rcases Nat.eq_zero_or_pos n with h0 | hpos
  · obtain rfl : xs = [] := List.length_eq_zero_iff.1 (by omega)
    subst h0
    go_enter Tryz.func134, Tryz.ntmps134
    go_wp2_with fail
    go_ret
    exact ⟨none, 0, [], rfl, ⟨W32.nil, .inl rfl⟩, by simp, by unfold maxLen; omega, ⟨by simp [val], by simp [val], Nrm.nil, by simp⟩, Ext.refl _⟩
  · obtain ⟨b1, b2, b3, b4⟩ := bitsN_spec hx.1 hnx (by omega)
    obtain ⟨hge, hI0⟩ := root_start b1 b2 b3
    have hbits := int_bits hn hx (c := c) (by omega)
    generalize bitsN xs = b at *
    have hvlt := val_lt hx.1
    rw [hn] at hvlt
    have hbl : b ≤ 1600 := by omega
    generalize hLL : (b - 1) / 2 = L at *
    have hL : L ≤ 800 := by omega
    obtain ⟨l1, l2, l3, l4⟩ := bitLen_L (L := L) (by omega)
    have hLen : ∀ W : World, Calls Tryz.prog 160 #[.int .u64 (L : Int)] W fun e w' => e = .returned (.int .i64 ((Lib.bitLen L : Nat) : Int)) ∧ W = w' := fun W =>
      (lenU (L : Int) W (by omega) (by omega)).mono fun e w' ⟨h1, h2⟩ => ⟨by rw [h1]; simp, h2⟩
    generalize Lib.bitLen L = K at *
    have hq : (((b : Int) - 1) / 2) = (L : Int) := by omega
    have Hbits := Lib.hid hbits
    have HLen := Lib.hid hLen
    have Hl1 := Lib.hid l1
    have Hl2 := Lib.hid l2
    have Hge := Lib.hid hge
    have HI0 := Lib.hid hI0
    have Hvlt := Lib.hid hvlt
    have Hn := Lib.hid hn
    clear hbits hLen l1 l2 hge hI0 hvlt b2 b3 hn hLL
    have hnew := BlkN.lit w [1] #[.int .u32 1] rfl
    have hne : ¬ n = 0 := by omega
    go_enter Tryz.func134, Tryz.ntmps134
    go_wp2_with (first | (go_at_call 144; refine Hbits.out.mono ?_; rintro e w2 ⟨rfl, rfl⟩) | (go_at_call 160; refine (HLen.out _).mono ?_; rintro e w2 ⟨rfl, rfl⟩))
    go_loopw [4, 5, 6] (fun r kn i wr => ∃ (k : Nat) (A1 : Option Addr) (c1 : Nat) (rs : List Nat), k ≤ K ∧ i = .int .i64 ((k : Int) - 1) ∧ kn = .int .i64 ((L / 2 ^ k : Nat) : Int) ∧ r = .slice A1 rs.length c1 ∧ SqInv (val xs) L (L / 2 ^ k) (val rs) ∧ Own wr w.heap.size A1 rs ∧ rs.length ≤ c1 ∧ c1 ≤ maxLen ∧ Nrm rs ∧ Ext w wr) (fun _ _ i _ => (intOf i + 1).toNat)
    case atStart => exact ⟨K, _, 1, [1], Nat.le_refl _, rfl, by rw [Hl2.out]; rfl, rfl, by rw [Hl2.out, val_one]; exact HI0.out, Own.of_blk hnew (W32.one (by omega)) (Nat.le_refl _), by simp, by unfold maxLen; omega, Nrm.one (by omega), (Ext.refl w).alloc _⟩
    case round =>
      obtain ⟨k, A1, c1, rs, hk, rfl, rfl, rfl, hI, ho1, hc1, hm1, hnr, hext⟩ := hrel
      have hlen := root_len hI Hvlt.out hnr
      have hrpos : 0 < rs.length := by
        rcases Nat.eq_zero_or_pos rs.length with h | h
        · have h0 : rs = [] := List.length_eq_zero_iff.1 h
          subst h0
          have h2 := hI.ge
          have := Nat.two_pow_pos (L / 2 ^ k)
          simp [val] at h2
        · exact h
      rcases k with _ | j
      · rw [show (((0 : Nat) : Int) - 1) = -1 from rfl]
        rw [Nat.pow_zero, Nat.div_one] at hI
        obtain ⟨f1, f2, f3⟩ := hI.done
        have hcmp := fun (A2 : Option Addr) (c2 : Nat) (us : List Nat) (W : World) (h1 : Rd W A2 us) (h2 : Rd W A xs) (h3 : us.length ≤ 1000) => int_compare A2 A c2 c us xs W h1 h2 (by unfold maxLen; omega) (by have := Hn.out; unfold maxLen; omega)
        rw [Hn.out] at hcmp
        have Hcmp := Lib.hid hcmp
        have Hf := Lib.hid (And.intro f1 (And.intro f2 f3))
        clear hcmp hI f1 f2 f3
        go_wp2_with (go_at_call 102; refine (int_multiply_s rfl rfl ho1.rd ho1.rd (by omega) (by omega)).mono ?_; rintro e w2 ⟨A2, c2, s2, rfl, ho2, hc2, hm2, ⟨hv2, hn2, hl2⟩, hxt2⟩; replace hv2 := Lib.hid hv2)
        refine (Hcmp.out A2 c2 s2 _ ho2.rd (hx.ext (hext.trans hxt2)) (by omega)).mono ?_
        rintro e w3 ⟨rfl, hxt3⟩
        obtain ⟨f1, f2, f3⟩ := Hf.out
        rcases Nat.lt_trichotomy (val rs * val rs) (val xs) with hgt | hgt | hgt
        · have hcv : cmpL s2 xs = -1 := by
            rw [cmpL_nrm ho2.rd.1 hx.1 hn2 hnx, hv2.out]
            exact cmpI_of_lt hgt
          rw [hcv]
          clear hcv
          go_wp2_with fail
          go_ret
          exact ⟨A1, c1, rs, rfl, ho1.ext (hxt2.trans hxt3), hc1, hm1, ⟨by omega, f3, hnr, hlen⟩, hext.trans (hxt2.trans hxt3)⟩
        · have hcv : cmpL s2 xs = 0 := by
            rw [cmpL_nrm ho2.rd.1 hx.1 hn2 hnx, hv2.out]
            exact cmpI_of_eq hgt
          rw [hcv]
          clear hcv
          go_wp2_with fail
          go_ret
          exact ⟨A1, c1, rs, rfl, ho1.ext (hxt2.trans hxt3), hc1, hm1, ⟨by omega, f3, hnr, hlen⟩, hext.trans (hxt2.trans hxt3)⟩
        · have hcv : cmpL s2 xs = 1 := by
            rw [cmpL_nrm ho2.rd.1 hx.1 hn2 hnx, hv2.out]
            exact cmpI_of_gt hgt
          rw [hcv]
          clear hcv
          have hnew3 := BlkN.lit w3 [1] #[.int .u32 1] rfl
          have hext3 := (hext.trans (hxt2.trans hxt3)).alloc (.cells #[.int .u32 1] 71)
          go_wp2_with fail
          refine (int_subtract (xs := rs) (ys := [1]) rfl rfl (ho1.rd.ext ((hxt2.trans hxt3).alloc _)) (hnew3.rd0 (W32.one (by omega))) hrpos (by rw [val_one]; exact f1) (by omega)).mono ?_
          rintro e w4 ⟨A4, c4, s4, rfl, ho4, hc4, hm4, ⟨hv4, hn4, hl4⟩, hxt4⟩
          rw [val_one] at hv4
          replace hv4 := Lib.hid hv4
          go_wp2_with fail
          go_ret
          exact ⟨A4, c4, s4, rfl, ho4.mono hext3.size, hc4, hm4, ⟨by rw [hv4.out]; exact f2, by rw [hv4.out, Nat.sub_add_cancel f1]; exact hgt, hn4, by omega⟩, hext3.trans hxt4⟩
      · rw [show (((j + 1 : Nat) : Int) - 1) = (j : Int) by omega]
        have hL0 : L ≠ 0 := fun h => by have := l4 h; omega
        obtain ⟨k1, k2, k3⟩ := known_step Hl1.out hL0 (show j < K by omega)
        have hst := hI.step k1 k2 k3 Hge.out
        have hdq : (L : Int) / 2 ^ j = ((L / 2 ^ j : Nat) : Int) := by simp
        generalize L / 2 ^ (j + 1) = e at *
        generalize hd : L / 2 ^ j = d at *
        have Hst := Lib.hid hst
        have Hdq := Lib.hid hdq
        have Hd := Lib.hid hd
        clear hst hdq hd hI
        have hj64 : j < 64 := by omega
        go_upto_region 10 with fail
        rw [Hdq.out]
        go_wp2_with (first | (go_at_call 159; rw [show (2 * (L : Int) - (e : Int) - (d : Int) + 1) = ((2 * L - e - d + 1 : Nat) : Int) by omega]; refine (int_shiftRight (k := 2 * L - e - d + 1) Hn.out (hx.ext hext) hc hcm (by omega) (by omega)).mono ?_; rintro e2 w2 ⟨A2, c2, s2, rfl, ho2, hc2, hm2, ⟨hv2, hn2, hl2⟩, hxt2⟩; replace hv2 := Lib.hid hv2) | (go_at_call 108; refine (divide_ok _ _ _ _ _ _ _ _ _ rfl rfl ho2.rd (ho1.rd.ext hxt2) hc2 hm2 hc1 hm1 hn2 hnr hrpos (by omega) (by omega)).mono ?_; rintro e3 w3 ⟨A3, c3, q3, A4, c4, r4, rfl, ho3, ho4, hc3, hm3, hc4, hm4, ⟨hv3, hv4, hn3, hn4, hl3, hl4⟩, hxt3⟩; replace hv3 := Lib.hid hv3; replace hv4 := Lib.hid hv4) | (go_at_call 155; rw [show ((d : Int) - (e : Int) - 1) = ((d - e - 1 : Nat) : Int) by omega]; refine (int_shiftLeft (k := d - e - 1) rfl (ho1.rd.ext (hxt2.trans hxt3)) (by omega) (by omega)).mono ?_; rintro e4 w4 ⟨A5, c5, s5, rfl, ho5, hc5, hm5, ⟨hv5, hn5, hl5⟩, hxt5⟩; replace hv5 := Lib.hid hv5) | (go_at_call 99; refine (int_add rfl rfl ho5.rd (ho3.rd.ext hxt5) (by omega) (by omega)).mono ?_; rintro e5 w5 ⟨A6, c6, s6, rfl, ho6, hc6, hm6, ⟨hv6, hn6, hl6⟩, hxt6⟩; replace hv6 := Lib.hid hv6))
        go_roundw
        case rel =>
          have e6 := hv6.out
          rw [hv5.out, hv3.out, hv2.out] at e6
          exact ⟨j, A6, c6, s6, by omega, rfl, by rw [Hd.out], rfl, by rw [Hd.out, e6]; exact Hst.out, ho6.mono (hext.trans (hxt2.trans (hxt3.trans hxt5))).size, hc6, hm6, hn6, hext.trans (hxt2.trans (hxt3.trans (hxt5.trans hxt6)))⟩
        case measure => simp [intOf]
end
end Go.Proofs.YtiioodgpkdbndaaGreatDoor
