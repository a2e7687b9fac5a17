/- Walks and laws, part 20. -/
import Derived.Test.YtmjmcinnbmjpdaaDoorMt16
import Derived.Test.YtmjmcinnbmjpdaaDoorMt19
namespace Go.Proofs.YtmjmcinnbmjpdaaDoor
open Go.RowKit
attribute [local go_sem ↓] Go.wp_at_zero Go.wp_at_succ
section
variable {A B C : Option Addr} {c d n m l : Nat} {w : World} {s t u : Bool}
set_option maxHeartbeats 1000000 in
theorem small_yes1 {g : Nat} (hb : Box w g 24 #[.bool s, .slice A n c]) (h0 : n ≤ 20) :
    Calls Tryd.prog 6 #[.slice (some ⟨g, 0, none⟩) 1 1] w fun e w' => e = .returned (.bool true) ∧ Ext w w' := by
  go_enter Tryd.func6, Tryd.ntmps6
  go_wp2
  go_loopw [7] (fun i wr => ∃ k : Nat, k ≤ 1 ∧ i = .int .i64 (k : Int) ∧ Ext w wr) (fun i _ => 1 - (intOf i).toNat)
  case atStart => exact ⟨0, by omega, rfl, Ext.refl _⟩
  case round =>
    obtain ⟨k, hk, rfl, hext⟩ := hrel
    have c0 := (hb.ext hext).cell 0 (.bool s) rfl
    have c1 := (hb.ext hext).cell 1 (.slice A n c) rfl
    have hk2 : k = 0 ∨ k = 1 := by omega
    rcases hk2 with rfl | rfl
    · have ht1 : decide ((20 : Int) < (n : Int)) = false := decide_eq_false (by omega)
      have ht2 : decide (20 < n) = false := decide_eq_false (by omega)
      go_wp2
      go_roundw
      case rel => exact ⟨1, by omega, rfl, hext.alloc _⟩
      case measure => simp [intOf]
    · go_wp2
      go_ret
      exact ⟨rfl, hext⟩

set_option maxHeartbeats 1000000 in
theorem small_no1 {g : Nat} (hb : Box w g 24 #[.bool s, .slice A n c]) (hno : ¬ (n ≤ 20)) :
    Calls Tryd.prog 6 #[.slice (some ⟨g, 0, none⟩) 1 1] w fun e w' => e = .returned (.bool false) ∧ Ext w w' := by
  have HN := Lib.hid hno
  clear hno
  go_enter Tryd.func6, Tryd.ntmps6
  go_wp2
  go_loopw [7] (fun i wr => ∃ k : Nat, k ≤ 1 ∧ i = .int .i64 (k : Int) ∧ Ext w wr ∧ (1 ≤ k → n ≤ 20)) (fun i _ => 1 - (intOf i).toNat)
  case atStart => exact ⟨0, by omega, rfl, Ext.refl _, fun h => absurd h (by omega)⟩
  case round =>
    obtain ⟨k, hk, rfl, hext, e0⟩ := hrel
    have c0 := (hb.ext hext).cell 0 (.bool s) rfl
    have c1 := (hb.ext hext).cell 1 (.slice A n c) rfl
    have hk2 : k = 0 ∨ k = 1 := by omega
    rcases hk2 with rfl | rfl
    · by_cases hle : n ≤ 20
      · have ht1 : decide ((20 : Int) < (n : Int)) = false := decide_eq_false (by omega)
        have ht2 : decide (20 < n) = false := decide_eq_false (by omega)
        clear e0
        go_wp2
        go_roundw
        case rel => exact ⟨1, by omega, rfl, hext.alloc _, fun _ => hle⟩
        case measure => simp [intOf]
      · have ht1 : decide ((20 : Int) < (n : Int)) = true := decide_eq_true (by omega)
        have ht2 : decide (20 < n) = true := decide_eq_true (by omega)
        clear e0
        go_wp2
        go_ret
        exact ⟨rfl, hext.alloc _⟩
    · exact absurd (e0 (by omega)) HN.out

set_option maxHeartbeats 1000000 in
theorem small_yes2 {g : Nat} (hb : Box w g 24 #[.bool s, .slice A n c, .bool t, .slice B m d]) (h0 : n ≤ 20) (h1 : m ≤ 20) :
    Calls Tryd.prog 6 #[.slice (some ⟨g, 0, none⟩) 2 2] w fun e w' => e = .returned (.bool true) ∧ Ext w w' := by
  go_enter Tryd.func6, Tryd.ntmps6
  go_wp2
  go_loopw [7] (fun i wr => ∃ k : Nat, k ≤ 2 ∧ i = .int .i64 (k : Int) ∧ Ext w wr) (fun i _ => 2 - (intOf i).toNat)
  case atStart => exact ⟨0, by omega, rfl, Ext.refl _⟩
  case round =>
    obtain ⟨k, hk, rfl, hext⟩ := hrel
    have c0 := (hb.ext hext).cell 0 (.bool s) rfl
    have c1 := (hb.ext hext).cell 1 (.slice A n c) rfl
    have c2 := (hb.ext hext).cell 2 (.bool t) rfl
    have c3 := (hb.ext hext).cell 3 (.slice B m d) rfl
    have hk2 : k = 0 ∨ k = 1 ∨ k = 2 := by omega
    rcases hk2 with rfl | rfl | rfl
    · have ht1 : decide ((20 : Int) < (n : Int)) = false := decide_eq_false (by omega)
      have ht2 : decide (20 < n) = false := decide_eq_false (by omega)
      go_wp2
      go_roundw
      case rel => exact ⟨1, by omega, rfl, hext.alloc _⟩
      case measure => simp [intOf]
    · have ht1 : decide ((20 : Int) < (m : Int)) = false := decide_eq_false (by omega)
      have ht2 : decide (20 < m) = false := decide_eq_false (by omega)
      go_wp2
      go_roundw
      case rel => exact ⟨2, by omega, rfl, hext.alloc _⟩
      case measure => simp [intOf]
    · go_wp2
      go_ret
      exact ⟨rfl, hext⟩

set_option maxHeartbeats 1000000 in
theorem small_no2 {g : Nat} (hb : Box w g 24 #[.bool s, .slice A n c, .bool t, .slice B m d]) (hno : ¬ (n ≤ 20 ∧ m ≤ 20)) :
    Calls Tryd.prog 6 #[.slice (some ⟨g, 0, none⟩) 2 2] w fun e w' => e = .returned (.bool false) ∧ Ext w w' := by
  have HN := Lib.hid hno
  clear hno
  go_enter Tryd.func6, Tryd.ntmps6
  go_wp2
  go_loopw [7] (fun i wr => ∃ k : Nat, k ≤ 2 ∧ i = .int .i64 (k : Int) ∧ Ext w wr ∧ (1 ≤ k → n ≤ 20) ∧ (2 ≤ k → m ≤ 20)) (fun i _ => 2 - (intOf i).toNat)
  case atStart => exact ⟨0, by omega, rfl, Ext.refl _, fun h => absurd h (by omega), fun h => absurd h (by omega)⟩
  case round =>
    obtain ⟨k, hk, rfl, hext, e0, e1⟩ := hrel
    have c0 := (hb.ext hext).cell 0 (.bool s) rfl
    have c1 := (hb.ext hext).cell 1 (.slice A n c) rfl
    have c2 := (hb.ext hext).cell 2 (.bool t) rfl
    have c3 := (hb.ext hext).cell 3 (.slice B m d) rfl
    have hk2 : k = 0 ∨ k = 1 ∨ k = 2 := by omega
    rcases hk2 with rfl | rfl | rfl
    · by_cases hle : n ≤ 20
      · have ht1 : decide ((20 : Int) < (n : Int)) = false := decide_eq_false (by omega)
        have ht2 : decide (20 < n) = false := decide_eq_false (by omega)
        clear e0 e1
        go_wp2
        go_roundw
        case rel => exact ⟨1, by omega, rfl, hext.alloc _, fun _ => hle, fun h => absurd h (by omega)⟩
        case measure => simp [intOf]
      · have ht1 : decide ((20 : Int) < (n : Int)) = true := decide_eq_true (by omega)
        have ht2 : decide (20 < n) = true := decide_eq_true (by omega)
        clear e0 e1
        go_wp2
        go_ret
        exact ⟨rfl, hext.alloc _⟩
    · by_cases hle : m ≤ 20
      · have ht1 : decide ((20 : Int) < (m : Int)) = false := decide_eq_false (by omega)
        have ht2 : decide (20 < m) = false := decide_eq_false (by omega)
        have f0 := e0 (by omega)
        clear e0 e1
        go_wp2
        go_roundw
        case rel => exact ⟨2, by omega, rfl, hext.alloc _, fun _ => f0, fun _ => hle⟩
        case measure => simp [intOf]
      · have ht1 : decide ((20 : Int) < (m : Int)) = true := decide_eq_true (by omega)
        have ht2 : decide (20 < m) = true := decide_eq_true (by omega)
        clear e0 e1
        go_wp2
        go_ret
        exact ⟨rfl, hext.alloc _⟩
    · exact absurd (show n ≤ 20 ∧ m ≤ 20 by refine ⟨e0 (by omega), e1 (by omega)⟩) HN.out

set_option maxHeartbeats 1000000 in
theorem small_yes3 {g : Nat} {q : Nat} (hb : Box w g 24 #[.bool s, .slice A n c, .bool t, .slice B m d, .bool u, .slice C l q]) (h0 : n ≤ 20) (h1 : m ≤ 20) (h2 : l ≤ 20) :
    Calls Tryd.prog 6 #[.slice (some ⟨g, 0, none⟩) 3 3] w fun e w' => e = .returned (.bool true) ∧ Ext w w' := by
  go_enter Tryd.func6, Tryd.ntmps6
  go_wp2
  go_loopw [7] (fun i wr => ∃ k : Nat, k ≤ 3 ∧ i = .int .i64 (k : Int) ∧ Ext w wr) (fun i _ => 3 - (intOf i).toNat)
  case atStart => exact ⟨0, by omega, rfl, Ext.refl _⟩
  case round =>
    obtain ⟨k, hk, rfl, hext⟩ := hrel
    have c0 := (hb.ext hext).cell 0 (.bool s) rfl
    have c1 := (hb.ext hext).cell 1 (.slice A n c) rfl
    have c2 := (hb.ext hext).cell 2 (.bool t) rfl
    have c3 := (hb.ext hext).cell 3 (.slice B m d) rfl
    have c4 := (hb.ext hext).cell 4 (.bool u) rfl
    have c5 := (hb.ext hext).cell 5 (.slice C l q) rfl
    have hk2 : k = 0 ∨ k = 1 ∨ k = 2 ∨ k = 3 := by omega
    rcases hk2 with rfl | rfl | rfl | rfl
    · have ht1 : decide ((20 : Int) < (n : Int)) = false := decide_eq_false (by omega)
      have ht2 : decide (20 < n) = false := decide_eq_false (by omega)
      go_wp2
      go_roundw
      case rel => exact ⟨1, by omega, rfl, hext.alloc _⟩
      case measure => simp [intOf]
    · have ht1 : decide ((20 : Int) < (m : Int)) = false := decide_eq_false (by omega)
      have ht2 : decide (20 < m) = false := decide_eq_false (by omega)
      go_wp2
      go_roundw
      case rel => exact ⟨2, by omega, rfl, hext.alloc _⟩
      case measure => simp [intOf]
    · have ht1 : decide ((20 : Int) < (l : Int)) = false := decide_eq_false (by omega)
      have ht2 : decide (20 < l) = false := decide_eq_false (by omega)
      go_wp2
      go_roundw
      case rel => exact ⟨3, by omega, rfl, hext.alloc _⟩
      case measure => simp [intOf]
    · go_wp2
      go_ret
      exact ⟨rfl, hext⟩

set_option maxHeartbeats 1000000 in
theorem small_no3 {g : Nat} {q : Nat} (hb : Box w g 24 #[.bool s, .slice A n c, .bool t, .slice B m d, .bool u, .slice C l q]) (hno : ¬ (n ≤ 20 ∧ m ≤ 20 ∧ l ≤ 20)) :
    Calls Tryd.prog 6 #[.slice (some ⟨g, 0, none⟩) 3 3] w fun e w' => e = .returned (.bool false) ∧ Ext w w' := by
  have HN := Lib.hid hno
  clear hno
  go_enter Tryd.func6, Tryd.ntmps6
  go_wp2
  go_loopw [7] (fun i wr => ∃ k : Nat, k ≤ 3 ∧ i = .int .i64 (k : Int) ∧ Ext w wr ∧ (1 ≤ k → n ≤ 20) ∧ (2 ≤ k → m ≤ 20) ∧ (3 ≤ k → l ≤ 20)) (fun i _ => 3 - (intOf i).toNat)
  case atStart => exact ⟨0, by omega, rfl, Ext.refl _, fun h => absurd h (by omega), fun h => absurd h (by omega), fun h => absurd h (by omega)⟩
  case round =>
    obtain ⟨k, hk, rfl, hext, e0, e1, e2⟩ := hrel
    have c0 := (hb.ext hext).cell 0 (.bool s) rfl
    have c1 := (hb.ext hext).cell 1 (.slice A n c) rfl
    have c2 := (hb.ext hext).cell 2 (.bool t) rfl
    have c3 := (hb.ext hext).cell 3 (.slice B m d) rfl
    have c4 := (hb.ext hext).cell 4 (.bool u) rfl
    have c5 := (hb.ext hext).cell 5 (.slice C l q) rfl
    have hk2 : k = 0 ∨ k = 1 ∨ k = 2 ∨ k = 3 := by omega
    rcases hk2 with rfl | rfl | rfl | rfl
    · by_cases hle : n ≤ 20
      · have ht1 : decide ((20 : Int) < (n : Int)) = false := decide_eq_false (by omega)
        have ht2 : decide (20 < n) = false := decide_eq_false (by omega)
        clear e0 e1 e2
        go_wp2
        go_roundw
        case rel => exact ⟨1, by omega, rfl, hext.alloc _, fun _ => hle, fun h => absurd h (by omega), fun h => absurd h (by omega)⟩
        case measure => simp [intOf]
      · have ht1 : decide ((20 : Int) < (n : Int)) = true := decide_eq_true (by omega)
        have ht2 : decide (20 < n) = true := decide_eq_true (by omega)
        clear e0 e1 e2
        go_wp2
        go_ret
        exact ⟨rfl, hext.alloc _⟩
    · by_cases hle : m ≤ 20
      · have ht1 : decide ((20 : Int) < (m : Int)) = false := decide_eq_false (by omega)
        have ht2 : decide (20 < m) = false := decide_eq_false (by omega)
        have f0 := e0 (by omega)
        clear e0 e1 e2
        go_wp2
        go_roundw
        case rel => exact ⟨2, by omega, rfl, hext.alloc _, fun _ => f0, fun _ => hle, fun h => absurd h (by omega)⟩
        case measure => simp [intOf]
      · have ht1 : decide ((20 : Int) < (m : Int)) = true := decide_eq_true (by omega)
        have ht2 : decide (20 < m) = true := decide_eq_true (by omega)
        clear e0 e1 e2
        go_wp2
        go_ret
        exact ⟨rfl, hext.alloc _⟩
    · by_cases hle : l ≤ 20
      · have ht1 : decide ((20 : Int) < (l : Int)) = false := decide_eq_false (by omega)
        have ht2 : decide (20 < l) = false := decide_eq_false (by omega)
        have f0 := e0 (by omega)
        have f1 := e1 (by omega)
        clear e0 e1 e2
        go_wp2
        go_roundw
        case rel => exact ⟨3, by omega, rfl, hext.alloc _, fun _ => f0, fun _ => f1, fun _ => hle⟩
        case measure => simp [intOf]
      · have ht1 : decide ((20 : Int) < (l : Int)) = true := decide_eq_true (by omega)
        have ht2 : decide (20 < l) = true := decide_eq_true (by omega)
        clear e0 e1 e2
        go_wp2
        go_ret
        exact ⟨rfl, hext.alloc _⟩
    · exact absurd (show n ≤ 20 ∧ m ≤ 20 ∧ l ≤ 20 by refine ⟨e0 (by omega), e1 (by omega), e2 (by omega)⟩) HN.out

end
end Go.Proofs.YtmjmcinnbmjpdaaDoor
namespace Go.Proofs.YtmjmcinnbmjpdaaDoor
open Go.RowKit
attribute [local go_sem ↓] Go.wp_at_zero Go.wp_at_succ
/-- the examples of the document hold. -/
def Awake : Prop := ∀ w : World, Calls Tryd.prog 5 #[] w fun e w' => e = .returned (.bool true) ∧ Ext w w'
section
variable {A B : Option Addr} {c d n m : Nat} {xs ys : List Nat} {w : World} {s t : Bool}
end
end Go.Proofs.YtmjmcinnbmjpdaaDoor
namespace Go.Proofs.YtmjmcinnbmjpdaaDoor
open Go.RowKit
theorem dm_far7 {q r : Int} (h : IsDM (-7) 2 q r) : q = -4 ∧ r = 1 := by
  unfold IsDM at h
  omega
theorem dm_near7 {q r : Int} (h : IsDM 7 (-2) q r) : q = -4 ∧ r = -1 := by
  unfold IsDM at h
  omega
theorem pow_two32 : (2 : Int) ^ 32 = 4294967296 := by decide
theorem int_01 : IsInt 4294967296 false [0, 1] := ⟨W32.pair (by omega) (by omega), Nrm.snoc [0] (by omega), fun _ => rfl, by simp [ival, val]⟩
theorem val_99 {b : Bool} {xs : List Nat} (h : IsInt 99 b xs) : b = false ∧ val xs = 99 := by
  have := h.eq
  cases b with
  | false => exact ⟨rfl, by simp [ival] at this; omega⟩
  | true => simp [ival] at this; omega
theorem val_ne {z : Int} {b : Bool} {xs : List Nat} (h : IsInt z b xs) (hz : z ≠ 0) : val xs ≠ 0 := by
  have := h.eq
  intro h0
  unfold ival at this
  rw [h0] at this
  cases b <;> simp at this <;> omega
theorem two_new (w : World) (t : TypeId) (a b : Array Value) : Ext w ((w.alloc (.cells a t)).alloc (.cells b t)) ∧ Box ((w.alloc (.cells a t)).alloc (.cells b t)) w.heap.size t a ∧ Box ((w.alloc (.cells a t)).alloc (.cells b t)) (w.heap.size + 1) t b := by
  obtain ⟨W, rfl, h1, h2, h3, _⟩ := box2 w t t a b
  exact ⟨h1, h2, h3⟩
section
variable {A B : Option Addr} {c d n m : Nat} {xs ys : List Nat} {w : World} {s t : Bool}
set_option maxHeartbeats 8000000 in
theorem awake : Awake := by
  intro w
  go_enter Tryd.func5, Tryd.ntmps5
  go_wp2_with fail
  refine (int_FromInt 2 (by omega) (by omega)).mono ?_
  rintro e w1 ⟨b1, A1, c1, s1, rfl, hr1, hc1, hm1, hi1, hl1, ext1⟩
  go_wp2_with fail
  refine (int_Pow (k := 32) multiply_127 rfl hr1 hc1 hm1 (by omega) (by omega) (by omega)).mono ?_
  rintro e w2 ⟨bp, Ap, cp, p, rfl, hrp, hcp, hmp, hip, hlp, ext2⟩
  rw [hi1.eq, pow_two32] at hip
  have hlp2 : p.length ≤ 100000 := by omega
  go_upto_region 2 with (fail)
  refine at_world (fun W => Ext w W ∧ Box W w2.heap.size 24 #[.bool bp, .slice Ap p.length cp] ∧ Rd W Ap p) ⟨(ext1.trans ext2).alloc _, Box.new w2 _ _, hrp.ext ((Ext.refl w2).alloc _)⟩ ?_
  generalize w2.heap.size = gp
  clear hr1 hc1 hm1 hi1 hl1 ext1 ext2 hrp hlp
  rintro W1 ⟨E, xp, rp⟩
  go_wp2_with fail
  refine (int_FromInt (-7) (by omega) (by omega)).mono ?_
  rintro e w3 ⟨b3, A3, c3, s3, rfl, hr3, hc3, hm3, hi3, hl3, ext3⟩
  go_wp2_with fail
  refine (int_FromInt 2 (by omega) (by omega)).mono ?_
  rintro e w4 ⟨b4, A4, c4, s4, rfl, hr4, hc4, hm4, hi4, hl4, ext4⟩
  go_wp2_with fail
  refine (int_DivMod_L divide_two rfl rfl (hr3.ext ext4) hr4 hc3 hm3 hc4 hm4 (by omega) (by omega) hl3 (val_ne hi4 (by omega))).mono ?_
  rintro e w5 ⟨bq, Aq, cq, q, br, Ar, cr, r, zq, zr, rfl, hrq, hrr, hcq, hmq, hcr, hmr, hiq, hir, hdm, hlq, hlr, ext5⟩
  rw [hi3.eq, hi4.eq] at hdm
  obtain ⟨rfl, rfl⟩ := dm_far7 hdm
  have hlq2 : q.length ≤ 100000 := by omega
  have hlr2 : r.length ≤ 100000 := by omega
  go_upto_region 3 with (fail)
  refine at_world (fun W => Ext w W ∧ Box W gp 24 #[.bool bp, .slice Ap p.length cp] ∧ Rd W Ap p ∧ Box W w5.heap.size 24 #[.bool bq, .slice Aq q.length cq] ∧ Rd W Aq q ∧ Box W (w5.heap.size + 1) 24 #[.bool br, .slice Ar r.length cr] ∧ Rd W Ar r) ?_ ?_
  · obtain ⟨e1, e2, e3⟩ := two_new w5 24 #[.bool bq, .slice Aq q.length cq] #[.bool br, .slice Ar r.length cr]
    have eW := (ext3.trans ext4).trans (ext5.trans e1)
    exact ⟨E.trans eW, xp.ext eW, rp.ext eW, e2, hrq.ext e1, e3, hrr.ext e1⟩
  generalize w5.heap.size = gq
  clear hr3 hc3 hm3 hi3 hl3 ext3 hr4 hc4 hm4 hi4 hl4 ext4 ext5 hrq hrr hlq hlr hdm E xp rp
  rintro W2 ⟨E, xp, rp, xq, rq, xr, rr⟩
  go_wp2_with fail
  refine (int_FromInt 7 (by omega) (by omega)).mono ?_
  rintro e w3 ⟨b3', A3', c3', s3', rfl, hr3, hc3, hm3, hi3, hl3, ext3⟩
  go_wp2_with fail
  refine (int_FromInt (-2) (by omega) (by omega)).mono ?_
  rintro e w4 ⟨b4', A4', c4', s4', rfl, hr4, hc4, hm4, hi4, hl4, ext4⟩
  go_wp2_with fail
  refine (int_DivMod_L divide_two rfl rfl (hr3.ext ext4) hr4 hc3 hm3 hc4 hm4 (by omega) (by omega) hl3 (val_ne hi4 (by omega))).mono ?_
  rintro e w5 ⟨bs, As, cs, s, bt, At, ct, t, zs, zt, rfl, hrs, hrt, hcs, hms, hct, hmt, his, hit, hdm, hls, hlt, ext5⟩
  rw [hi3.eq, hi4.eq] at hdm
  obtain ⟨rfl, rfl⟩ := dm_near7 hdm
  have hls2 : s.length ≤ 100000 := by omega
  have hlt2 : t.length ≤ 100000 := by omega
  go_upto_region 4 with (fail)
  refine at_world (fun W => Ext w W ∧ Box W gp 24 #[.bool bp, .slice Ap p.length cp] ∧ Rd W Ap p ∧ Box W gq 24 #[.bool bq, .slice Aq q.length cq] ∧ Rd W Aq q ∧ Box W (gq + 1) 24 #[.bool br, .slice Ar r.length cr] ∧ Rd W Ar r ∧ Box W w5.heap.size 24 #[.bool bs, .slice As s.length cs] ∧ Rd W As s ∧ Box W (w5.heap.size + 1) 24 #[.bool bt, .slice At t.length ct] ∧ Rd W At t) ?_ ?_
  · obtain ⟨e1, e2, e3⟩ := two_new w5 24 #[.bool bs, .slice As s.length cs] #[.bool bt, .slice At t.length ct]
    have eW := (ext3.trans ext4).trans (ext5.trans e1)
    exact ⟨E.trans eW, xp.ext eW, rp.ext eW, xq.ext eW, rq.ext eW, xr.ext eW, rr.ext eW, e2, hrs.ext e1, e3, hrt.ext e1⟩
  generalize w5.heap.size = gs
  clear hr3 hc3 hm3 hi3 hl3 ext3 hr4 hc4 hm4 hi4 hl4 ext4 ext5 hrs hrt hls hlt hdm E xp rp xq rq xr rr
  rintro W3 ⟨E, xp, rp, xq, rq, xr, rr, xs, rs, xt, rt⟩
  go_wp2_with fail
  refine (int_FromInt 99 (by omega) (by omega)).mono ?_
  rintro e w3 ⟨b5, A5, c5, s5, rfl, hr3, hc3, hm3, hi3, hl3, ext3⟩
  obtain ⟨rfl, hv5⟩ := val_99 hi3
  go_wp2_with fail
  refine (Sqrt_99 hr3 hv5 hi3.nrm rfl hc3 hm3 (by omega)).mono ?_
  rintro e w4 ⟨bu, Au, cu, u, rfl, hru, hcu, hmu, hiu, hlu, ext4⟩
  have hlu2 : u.length ≤ 100000 := by omega
  go_upto_region 5 with (fail)
  refine at_world (fun W => Ext w W ∧ Box W gp 24 #[.bool bp, .slice Ap p.length cp] ∧ Rd W Ap p ∧ Box W gq 24 #[.bool bq, .slice Aq q.length cq] ∧ Rd W Aq q ∧ Box W (gq + 1) 24 #[.bool br, .slice Ar r.length cr] ∧ Rd W Ar r ∧ Box W gs 24 #[.bool bs, .slice As s.length cs] ∧ Rd W As s ∧ Box W (gs + 1) 24 #[.bool bt, .slice At t.length ct] ∧ Rd W At t ∧ Box W w4.heap.size 24 #[.bool bu, .slice Au u.length cu] ∧ Rd W Au u) ?_ ?_
  · have e1 := (Ext.refl w4).alloc (.cells #[.bool bu, .slice Au u.length cu] 24)
    have eW := ext3.trans (ext4.trans e1)
    exact ⟨E.trans eW, xp.ext eW, rp.ext eW, xq.ext eW, rq.ext eW, xr.ext eW, rr.ext eW, xs.ext eW, rs.ext eW, xt.ext eW, rt.ext eW, Box.new w4 _ _, hru.ext e1⟩
  generalize w4.heap.size = gu
  clear hr3 hc3 hm3 hi3 hl3 ext3 hv5 ext4 hru hlu E xp rp xq rq xr rr xs rs xt rt
  rintro W4 ⟨E, xp, rp, xq, rq, xr, rr, xs, rs, xt, rt, xu, ru⟩
  go_wp2_with fail
  refine parse_m0.mono ?_
  rintro e w3 ⟨bi, Ai, ci, li, rfl, _, _, _, _, _, ext3⟩
  go_upto_region 6 with (fail)
  refine at_world (fun W => Ext W4 W) (ext3.alloc _) ?_
  generalize w3.heap.size = gi
  clear ext3
  intro W5 ext5
  go_wp2_with fail
  refine parse_01.mono ?_
  rintro e w3 ⟨bk, Ak, ck, lk, rfl, _, _, _, _, _, ext3⟩
  go_upto_region 7 with (fail)
  refine at_world (fun W => Ext W4 W) (ext5.trans (ext3.alloc _)) ?_
  generalize w3.heap.size = gk
  clear ext3 ext5 W5
  intro W6 ext6
  have p0 := (xp.ext ext6).cell 0 (.bool bp) rfl
  have p1 := (xp.ext ext6).cell 1 (.slice Ap p.length cp) rfl
  have hnew := (BlkN.lit W6 [0, 1] #[.int .u32 0, .int .u32 1] rfl).rd0 (W32.pair (by omega) (by omega))
  go_wp2_with fail
  refine (law_same_int (ys := [0, 1]) rfl rfl (rp.ext (ext6.alloc _)) hnew hlp2 hip int_01).mono ?_
  rintro e vp ⟨rfl, hxt⟩
  replace ext6 := (ext6.alloc _).trans hxt
  clear hxt p0 p1 hnew
  have q0 := (xq.ext ext6).cell 0 (.bool bq) rfl
  have q1 := (xq.ext ext6).cell 1 (.slice Aq q.length cq) rfl
  go_wp2_with fail
  refine (law_is rfl (rq.ext ext6) hlq2 hiq (by omega) (by omega)).mono ?_
  rintro e vq ⟨rfl, hxt⟩
  replace ext6 := ext6.trans hxt
  clear hxt q0 q1
  have r0 := (xr.ext ext6).cell 0 (.bool br) rfl
  have r1 := (xr.ext ext6).cell 1 (.slice Ar r.length cr) rfl
  go_wp2_with fail
  refine (law_is rfl (rr.ext ext6) hlr2 hir (by omega) (by omega)).mono ?_
  rintro e vr ⟨rfl, hxt⟩
  replace ext6 := ext6.trans hxt
  clear hxt r0 r1
  have s0 := (xs.ext ext6).cell 0 (.bool bs) rfl
  have s1 := (xs.ext ext6).cell 1 (.slice As s.length cs) rfl
  go_wp2_with fail
  refine (law_is rfl (rs.ext ext6) hls2 his (by omega) (by omega)).mono ?_
  rintro e vs ⟨rfl, hxt⟩
  replace ext6 := ext6.trans hxt
  clear hxt s0 s1
  have t0 := (xt.ext ext6).cell 0 (.bool bt) rfl
  have t1 := (xt.ext ext6).cell 1 (.slice At t.length ct) rfl
  go_wp2_with fail
  refine (law_is rfl (rt.ext ext6) hlt2 hit (by omega) (by omega)).mono ?_
  rintro e vt ⟨rfl, hxt⟩
  replace ext6 := ext6.trans hxt
  clear hxt t0 t1
  have u0 := (xu.ext ext6).cell 0 (.bool bu) rfl
  have u1 := (xu.ext ext6).cell 1 (.slice Au u.length cu) rfl
  go_wp2_with fail
  refine (law_is rfl (ru.ext ext6) hlu2 hiu (by omega) (by omega)).mono ?_
  rintro e vu ⟨rfl, hxt⟩
  replace ext6 := ext6.trans hxt
  clear hxt u0 u1
  go_wp2_with fail
  go_ret
  exact ⟨rfl, E.trans ext6⟩
end
end Go.Proofs.YtmjmcinnbmjpdaaDoor
