/- Walks: the reference's power. -/
import Derived.Test.YtmjmcinnbmjpdaaWp
import Derived.Test.YtmjmcinnbmjpdaaPo
import Derived.Test.YtmjmcinnbmjpdaaWx
namespace Go.Proofs.Ytmjmcinnbmjpdaa
open Go.RowKit
attribute [local go_sem ↓] Go.wp_at_zero Go.wp_at_succ
section
variable {n : Nat} {xs : List Nat} {s : Bool}
theorem pow_half {z : Int} {k : Nat} (h : k % 2 = 0) : z ^ (k / 2) * z ^ (k / 2) = z ^ k := by
  rw [← Int.pow_add]; congr 1; omega
theorem pow_half1 {z : Int} {k : Nat} (h : k % 2 = 1) : z ^ (k / 2) * z ^ (k / 2) * z = z ^ k := by
  rw [← Int.pow_add, ← Int.pow_succ]; congr 1; omega
set_option maxHeartbeats 4000000 in
theorem ref_power (hn : xs.length = n) (hn20 : n ≤ 20) : ∀ (k : Nat), k ≤ 4096 → ∀ (A : Option Addr) (c : Nat) (w : World), Rd w A xs → n ≤ c → c ≤ maxLen →
    Calls Try.prog 67 #[.agg #[.bool s, .slice A n c], .int .i64 (k : Int)] w (RetI ((ival s xs) ^ k) (max 2 ((n + 4) * k)) w) := by
  have Hn := Lib.hid hn
  clear hn
  intro k
  induction k using Nat.strongRecOn with
  | ind k ih =>
    intro hk A c w hx hc hcm
    have IH := Lib.hid ih
    clear ih
    by_cases h0 : k = 0
    · subst h0
      go_enter Try.func67, Try.ntmps67
      go_upto_region 1 with (fail)
      obtain ⟨W, hW, extW, bx, bz, hz⟩ := box2 w 24 24 #[.bool s, .slice A n c] #[.bool false, .slice none 0 0]
      rw [← hW]
      clear hW
      go_wp2_with fail
      refine (ref_FromInt 1 (by omega) (by omega)).mono ?_
      rintro e w1 ⟨b1, A1, c1, ps, rfl, hr1, hc1, hm1, hi1, hl1, hx1⟩
      have bz1 := bz.ext hx1
      have z0 := bz1.cell 0 (.bool false) rfl
      have z1 := bz1.cell 1 (.slice none 0 0) rfl
      have f0 := bz1.frozen 0
      have f1 := bz1.frozen 1
      go_wp2_with fail
      obtain ⟨r1, r2, r3, r4⟩ := fin_pair (b := b1) (n := ps.length) (c := c1) (extW.trans hx1) (by omega) bz1 hr1
      exact bodyPost_ret (v := .agg #[.bool b1, .slice A1 ps.length c1]) (by simp [results, Try.results67, go_sem, r3, r4]) rfl ⟨b1, A1, c1, ps, rfl, r1, hc1, hm1, by rw [Int.pow_zero]; exact hi1, by omega, r2⟩
    · have Hh := Lib.hid (show (k : Int) / 2 = ((k / 2 : Nat) : Int) by omega)
      have hk2 : (n + 4) * (k / 2) + (n + 4) * (k / 2) ≤ (n + 4) * k := by rw [← Nat.mul_add]; exact Nat.mul_le_mul_left _ (by omega)
      have hk3 : k % 2 = 1 → (n + 4) * (k / 2) + (n + 4) * (k / 2) + (n + 4) ≤ (n + 4) * k := fun h => by rw [← Nat.mul_add, ← Nat.mul_succ]; exact Nat.mul_le_mul_left _ (by omega)
      have hk4 : (n + 4) * k ≤ 98304 := Nat.mul_le_mul (show n + 4 ≤ 24 by omega) hk
      have hk5 : k / 2 = 0 → k = 1 := fun h => by omega
      have hk6 : 1 ≤ k / 2 → n + 4 ≤ (n + 4) * (k / 2) := fun h => Nat.le_mul_of_pos_right _ h
      have hk7 : n + 4 ≤ (n + 4) * k := Nat.le_mul_of_pos_right _ (by omega)
      have hk8 : k / 2 = 0 → (n + 4) * (k / 2) = 0 := fun h => by rw [h]; rfl
      have H2 := Lib.hid hk2
      have H3 := Lib.hid hk3
      have H4 := Lib.hid hk4
      have H5 := Lib.hid hk5
      have H6 := Lib.hid hk6
      have H7 := Lib.hid hk7
      have H8 := Lib.hid hk8
      clear hk2 hk3 hk4 hk5 hk6 hk7 hk8
      have t0 : ((k : Int) == 0) = false := by rw [beq_eq_false_iff_ne]; omega
      go_enter Try.func67, Try.ntmps67
      go_upto_region 1 with (fail)
      obtain ⟨W, hW, extW, bx, bz, hz⟩ := box2 w 24 24 #[.bool s, .slice A n c] #[.bool false, .slice none 0 0]
      rw [← hW]
      clear hW
      have x0 := bx.cell 0 (.bool s) rfl
      have x1 := bx.cell 1 (.slice A n c) rfl
      go_wp2_with fail
      rw [Hh.out]
      refine (IH.out (k / 2) (by omega) (by omega) A c _ (hx.ext extW) hc hcm).mono ?_
      rintro e w1 ⟨b1, A1, c1, ps, rfl, hr1, hc1, hm1, hi1, hl1, hx1⟩
      clear x0 x1
      go_upto_region 4 with (fail)
      refine at_world (fun V => Ext W V ∧ Box V w1.heap.size 24 #[.bool b1, .slice A1 ps.length c1] ∧ Rd V A1 ps ∧ W.heap.size ≤ w1.heap.size) ⟨hx1.alloc _, Box.new w1 _ _, hr1.ext ((Ext.refl w1).alloc _), hx1.size⟩ ?_
      generalize w1.heap.size = g5
      clear hr1 hx1
      rintro V ⟨EV, b5, hr1, hg5⟩
      have x0 := b5.cell 0 (.bool b1) rfl
      have x1 := b5.cell 1 (.slice A1 ps.length c1) rfl
      have hps : ps.length ≤ 98304 := by have := H2.out; have := H4.out; omega
      go_wp2_with fail
      refine (ref_Mul rfl rfl hr1 hr1 hc1 hm1 hc1 hm1 (by omega) (by omega)).mono ?_
      rintro e w2 ⟨b2, A2, c2, qs, rfl, hr2, hc2, hm2, hi2, hl2, hx2⟩
      rw [hi1.eq] at hi2
      clear x0 x1
      have hq2 : qs.length ≤ max 4 ((n + 4) * k) := by
        have h1 := H2.out
        have h2 := H8.out
        have h3 := H6.out
        by_cases hz0 : k / 2 = 0
        · have := h2 hz0; omega
        · have := h3 (by omega); omega
      have hq3 : k % 2 = 1 → qs.length + n ≤ (n + 4) * k := fun h => by
        have h1 := H3.out h
        have h2 := H8.out
        have h3 := H6.out
        by_cases hz0 : k / 2 = 0
        · have := h2 hz0; omega
        · have := h3 (by omega); omega
      have HQ3 := Lib.hid hq3
      clear hq3
      go_upto_region 5 with (fail)
      refine at_world (fun U => Ext W U ∧ Box U w2.heap.size 24 #[.bool b2, .slice A2 qs.length c2] ∧ Rd U A2 qs ∧ W.heap.size ≤ w2.heap.size) ⟨(EV.trans hx2).alloc _, Box.new w2 _ _, hr2.ext ((Ext.refl w2).alloc _), (EV.trans hx2).size⟩ ?_
      generalize w2.heap.size = g6
      clear hr2 hx2 b5 hr1 EV
      rintro U ⟨EU, b6, hr2, hg6⟩
      have bx1 := bx.ext EU
      have bz1 := bz.ext EU
      have q0 := b6.cell 0 (.bool b2) rfl
      have q1 := b6.cell 1 (.slice A2 qs.length c2) rfl
      by_cases hodd : k % 2 = 1
      · have t1 : (((k : Int) % 2) == 1) = true := by rw [beq_iff_eq]; omega
        have hi3 := pow_half1 (z := ival s xs) hodd
        have HI3 := Lib.hid hi3
        have Ho := Lib.hid hodd
        clear hi3 hodd
        have x0 := bx1.cell 0 (.bool s) rfl
        have x1 := bx1.cell 1 (.slice A n c) rfl
        go_wp2_with fail
        refine (ref_Mul rfl Hn.out hr2 ((hx.ext extW).ext EU) hc2 hm2 hc hcm (by have := H4.out; omega) (by omega)).mono ?_
        rintro e w3 ⟨b3, A3, c3, rs, rfl, hr3, hc3, hm3, hi4, hl3, hx3⟩
        rw [hi2.eq, HI3.out] at hi4
        have b63 := b6.ext hx3
        have bz3 := bz1.ext hx3
        clear x0 x1 q0 q1
        have q0 := b63.cell 0 (.bool b2) rfl
        have q1 := b63.cell 1 (.slice A2 qs.length c2) rfl
        have f0 := b63.frozen 0
        have f1 := b63.frozen 1
        have hp := put_box (b := b3) (A := A3) (n := rs.length) (c := c3) b63
        have hrp := hp.2.2.1 A3 rs hr3
        have hzp := hp.2.1 _ _ _ (show w.heap.size + 1 ≠ g6 by omega) bz3
        have hep := hp.2.2.2 _ (EU.trans hx3) hg6
        have hbp := hp.1
        clear hp
        go_upto_region 7 with (fail)
        refine at_world (fun Y => Ext W Y ∧ Box Y g6 24 #[.bool b3, .slice A3 rs.length c3] ∧ Rd Y A3 rs ∧ Box Y (w.heap.size + 1) 24 #[.bool false, .slice none 0 0]) ⟨hep, hbp, hrp, hzp⟩ ?_
        clear hep hbp hrp hzp q0 q1 f0 f1 b6 b63 bz3 bz1
        rintro Y ⟨EY, b6, hr3, bz1⟩
        have q0 := b6.cell 0 (.bool b3) rfl
        have q1 := b6.cell 1 (.slice A3 rs.length c3) rfl
        have z0 := bz1.cell 0 (.bool false) rfl
        have z1 := bz1.cell 1 (.slice none 0 0) rfl
        have f0 := bz1.frozen 0
        have f1 := bz1.frozen 1
        go_wp2_with fail
        obtain ⟨r1, r2, r3, r4⟩ := fin_pair (b := b3) (n := rs.length) (c := c3) (extW.trans EY) (by omega) bz1 hr3
        exact bodyPost_ret (v := .agg #[.bool b3, .slice A3 rs.length c3]) (by simp [results, Try.results67, go_sem, r3, r4]) rfl ⟨b3, A3, c3, rs, rfl, r1, hc3, hm3, hi4, by have := HQ3.out Ho.out; have := Hn.out; omega, r2⟩
      · have t1 : (((k : Int) % 2) == 1) = false := by rw [beq_eq_false_iff_ne]; omega
        have hi3 := pow_half (z := ival s xs) (show k % 2 = 0 by omega)
        rw [hi3] at hi2
        have Ho := Lib.hid (show 1 ≤ k / 2 by omega)
        clear hi3 hodd
        have z0 := bz1.cell 0 (.bool false) rfl
        have z1 := bz1.cell 1 (.slice none 0 0) rfl
        have f0 := bz1.frozen 0
        have f1 := bz1.frozen 1
        go_wp2_with fail
        obtain ⟨r1, r2, r3, r4⟩ := fin_pair (b := b2) (n := qs.length) (c := c2) (extW.trans EU) (by omega) bz1 hr2
        exact bodyPost_ret (v := .agg #[.bool b2, .slice A2 qs.length c2]) (by simp [results, Try.results67, go_sem, r3, r4]) rfl ⟨b2, A2, c2, qs, rfl, r1, hc2, hm2, hi2, by have := H7.out; omega, r2⟩
set_option maxHeartbeats 1000000 in
theorem ref_Pow {A : Option Addr} {c k : Nat} {w : World} (hn : xs.length = n) (hx : Rd w A xs) (hc : n ≤ c) (hcm : c ≤ maxLen) (hk : k ≤ 4096) (hn20 : n ≤ 20) :
    Calls Try.prog 39 #[.agg #[.bool s, .slice A n c], .int .i64 (k : Int)] w (RetIE ((ival s xs) ^ k) (max 2 ((n + 4) * k)) 0 w) := by
  have HP := Lib.hid (fun (A : Option Addr) (c : Nat) (w : World) => ref_power (s := s) hn hn20 k hk A c w)
  clear hn
  have t0 : decide ((4096 : Int) < (k : Int)) = false := decide_eq_false (by omega)
  go_enter Try.func39, Try.ntmps39
  go_upto_region 1 with (fail)
  obtain ⟨W, hW, extW, bx, bz, hz⟩ := box2 w 24 24 #[.bool s, .slice A n c] #[.bool false, .slice none 0 0]
  rw [← hW]
  clear hW
  have x0 := bx.cell 0 (.bool s) rfl
  have x1 := bx.cell 1 (.slice A n c) rfl
  go_wp2_with fail
  refine (HP.out A c _ (hx.ext extW) hc hcm).mono ?_
  rintro e w3 ⟨b3, A3, c3, rs, rfl, hr3, hc3, hm3, hi3, hl3, ext3⟩
  have bz3 := bz.ext ext3
  have z0 := bz3.cell 0 (.bool false) rfl
  have z1 := bz3.cell 1 (.slice none 0 0) rfl
  have f0 := bz3.frozen 0
  have f1 := bz3.frozen 1
  go_wp2_with fail
  obtain ⟨r1, r2, r3, r4⟩ := fin_pair (b := b3) (n := rs.length) (c := c3) (extW.trans ext3) (by omega) bz3 hr3
  exact bodyPost_ret (v := .tuple #[.agg #[.bool b3, .slice A3 rs.length c3], .int .i64 0]) (by simp [results, Try.results39, go_sem, r3, r4]) rfl ⟨b3, A3, c3, rs, rfl, r1, hc3, hm3, hi3, hl3, r2⟩
set_option maxHeartbeats 1000000 in
theorem ref_Pow_no {A : Option Addr} {c : Nat} {k : Int} {w : World} (hk : k < 0 ∨ 4096 < k) (_h0 : -9223372036854775808 ≤ k) (_h1 : k < 9223372036854775808) :
    Calls Try.prog 39 #[.agg #[.bool s, .slice A n c], .int .i64 k] w fun e w' => e = .returned (.tuple #[.agg #[.bool false, .slice none 0 0], .int .i64 1]) ∧ Ext w w' := by
  by_cases hneg : k < 0
  all_goals
    go_enter Try.func39, Try.ntmps39
    go_upto_region 1 with (fail)
    obtain ⟨W, hW, extW, bx, bz, hz⟩ := box2 w 24 24 #[.bool s, .slice A n c] #[.bool false, .slice none 0 0]
    rw [← hW]
    clear hW
    have z0 := bz.cell 0 (.bool false) rfl
    have z1 := bz.cell 1 (.slice none 0 0) rfl
    have f0 := bz.frozen 0
    have f1 := bz.frozen 1
    go_wp2_with fail
    have hp := put_box (b := false) (A := none) (n := 0) (c := 0) bz
    have hc0 := hp.1.cell 0 (.bool false) rfl
    have hc1 := hp.1.cell 1 (.slice none 0 0) rfl
    exact bodyPost_ret (v := .tuple #[.agg #[.bool false, .slice none 0 0], .int .i64 1]) (by simp [results, Try.results39, go_sem, hc0, hc1]) rfl ⟨rfl, hp.2.2.2 _ extW (by omega)⟩
set_option maxHeartbeats 1000000 in
theorem int_Pow_no {A : Option Addr} {c : Nat} {k : Int} {w : World} (hk : k < 0 ∨ 4096 < k) (_h0 : -9223372036854775808 ≤ k) (_h1 : k < 9223372036854775808) :
    Calls Try.prog 38 #[.agg #[.bool s, .slice A n c], .int .i64 k] w fun e w' => e = .returned (.tuple #[.agg #[.bool false, .slice none 0 0], .int .i64 1]) ∧ Ext w w' := by
  by_cases hneg : k < 0
  all_goals
    go_enter Try.func38, Try.ntmps38
    go_upto_region 1 with (fail)
    obtain ⟨W, hW, extW, bx, bz, hz⟩ := box2 w 24 24 #[.bool s, .slice A n c] #[.bool false, .slice none 0 0]
    rw [← hW]
    clear hW
    have z0 := bz.cell 0 (.bool false) rfl
    have z1 := bz.cell 1 (.slice none 0 0) rfl
    have f0 := bz.frozen 0
    have f1 := bz.frozen 1
    go_wp2_with fail
    have hp := put_box (b := false) (A := none) (n := 0) (c := 0) bz
    have hc0 := hp.1.cell 0 (.bool false) rfl
    have hc1 := hp.1.cell 1 (.slice none 0 0) rfl
    exact bodyPost_ret (v := .tuple #[.agg #[.bool false, .slice none 0 0], .int .i64 1]) (by simp [results, Try.results38, go_sem, hc0, hc1]) rfl ⟨rfl, hp.2.2.2 _ extW (by omega)⟩
end
end Go.Proofs.Ytmjmcinnbmjpdaa
