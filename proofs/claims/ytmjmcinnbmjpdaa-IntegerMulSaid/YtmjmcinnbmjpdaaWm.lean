/- Walks: the sizes that the laws ask for. -/
import Derived.Test.YtmjmcinnbmjpdaaWl
namespace Go.Proofs.Ytmjmcinnbmjpdaa
open Go.RowKit
attribute [local go_sem ↓] Go.wp_at_zero Go.wp_at_succ
section
variable {A B C : Option Addr} {c d n m l : Nat} {w : World} {s t u : Bool}
set_option maxHeartbeats 1000000 in
theorem small_yes1 {g : Nat} (hb : Box w g 24 #[.bool s, .slice A n c]) (h0 : n ≤ 20) :
    Calls Try.prog 11 #[.slice (some ⟨g, 0, none⟩) 1 1] w fun e w' => e = .returned (.bool true) ∧ Ext w w' := by
  go_enter Try.func11, Try.ntmps11
  go_wp2
  go_loopw [7] (fun i wr => ∃ k : Nat, k ≤ 1 ∧ i = .int .i64 (k : Int) ∧ Ext w wr) (fun i _ => 1 - (intOf i).toNat)
  case atStart => exact ⟨0, by omega, rfl, Ext.refl _⟩
  case round =>
    obtain ⟨k, hk, rfl, hext⟩ := hrel
    have c0 := (hb.ext hext).cell 0 (.bool s) rfl
    have c1 := (hb.ext hext).cell 1 (.slice A n c) rfl
    have hk2 : k = 0 ∨ k = 1 := by omega
    rcases hk2 with rfl | rfl
    · have ht1 : decide ((20 : Int) < (n : Int)) = false := decide_eq_false (by omega)
      have ht2 : decide (20 < n) = false := decide_eq_false (by omega)
      go_wp2
      go_roundw
      case rel => exact ⟨1, by omega, rfl, hext.alloc _⟩
      case measure => simp [intOf]
    · go_wp2
      go_ret
      exact ⟨rfl, hext⟩

set_option maxHeartbeats 1000000 in
theorem small_no1 {g : Nat} (hb : Box w g 24 #[.bool s, .slice A n c]) (hno : ¬ (n ≤ 20)) :
    Calls Try.prog 11 #[.slice (some ⟨g, 0, none⟩) 1 1] w fun e w' => e = .returned (.bool false) ∧ Ext w w' := by
  have HN := Lib.hid hno
  clear hno
  go_enter Try.func11, Try.ntmps11
  go_wp2
  go_loopw [7] (fun i wr => ∃ k : Nat, k ≤ 1 ∧ i = .int .i64 (k : Int) ∧ Ext w wr ∧ (1 ≤ k → n ≤ 20)) (fun i _ => 1 - (intOf i).toNat)
  case atStart => exact ⟨0, by omega, rfl, Ext.refl _, fun h => absurd h (by omega)⟩
  case round =>
    obtain ⟨k, hk, rfl, hext, e0⟩ := hrel
    have c0 := (hb.ext hext).cell 0 (.bool s) rfl
    have c1 := (hb.ext hext).cell 1 (.slice A n c) rfl
    have hk2 : k = 0 ∨ k = 1 := by omega
    rcases hk2 with rfl | rfl
    · by_cases hle : n ≤ 20
      · have ht1 : decide ((20 : Int) < (n : Int)) = false := decide_eq_false (by omega)
        have ht2 : decide (20 < n) = false := decide_eq_false (by omega)
        clear e0
        go_wp2
        go_roundw
        case rel => exact ⟨1, by omega, rfl, hext.alloc _, fun _ => hle⟩
        case measure => simp [intOf]
      · have ht1 : decide ((20 : Int) < (n : Int)) = true := decide_eq_true (by omega)
        have ht2 : decide (20 < n) = true := decide_eq_true (by omega)
        clear e0
        go_wp2
        go_ret
        exact ⟨rfl, hext.alloc _⟩
    · exact absurd (e0 (by omega)) HN.out

set_option maxHeartbeats 1000000 in
theorem small_yes2 {g : Nat} (hb : Box w g 24 #[.bool s, .slice A n c, .bool t, .slice B m d]) (h0 : n ≤ 20) (h1 : m ≤ 20) :
    Calls Try.prog 11 #[.slice (some ⟨g, 0, none⟩) 2 2] w fun e w' => e = .returned (.bool true) ∧ Ext w w' := by
  go_enter Try.func11, Try.ntmps11
  go_wp2
  go_loopw [7] (fun i wr => ∃ k : Nat, k ≤ 2 ∧ i = .int .i64 (k : Int) ∧ Ext w wr) (fun i _ => 2 - (intOf i).toNat)
  case atStart => exact ⟨0, by omega, rfl, Ext.refl _⟩
  case round =>
    obtain ⟨k, hk, rfl, hext⟩ := hrel
    have c0 := (hb.ext hext).cell 0 (.bool s) rfl
    have c1 := (hb.ext hext).cell 1 (.slice A n c) rfl
    have c2 := (hb.ext hext).cell 2 (.bool t) rfl
    have c3 := (hb.ext hext).cell 3 (.slice B m d) rfl
    have hk2 : k = 0 ∨ k = 1 ∨ k = 2 := by omega
    rcases hk2 with rfl | rfl | rfl
    · have ht1 : decide ((20 : Int) < (n : Int)) = false := decide_eq_false (by omega)
      have ht2 : decide (20 < n) = false := decide_eq_false (by omega)
      go_wp2
      go_roundw
      case rel => exact ⟨1, by omega, rfl, hext.alloc _⟩
      case measure => simp [intOf]
    · have ht1 : decide ((20 : Int) < (m : Int)) = false := decide_eq_false (by omega)
      have ht2 : decide (20 < m) = false := decide_eq_false (by omega)
      go_wp2
      go_roundw
      case rel => exact ⟨2, by omega, rfl, hext.alloc _⟩
      case measure => simp [intOf]
    · go_wp2
      go_ret
      exact ⟨rfl, hext⟩

set_option maxHeartbeats 1000000 in
theorem small_no2 {g : Nat} (hb : Box w g 24 #[.bool s, .slice A n c, .bool t, .slice B m d]) (hno : ¬ (n ≤ 20 ∧ m ≤ 20)) :
    Calls Try.prog 11 #[.slice (some ⟨g, 0, none⟩) 2 2] w fun e w' => e = .returned (.bool false) ∧ Ext w w' := by
  have HN := Lib.hid hno
  clear hno
  go_enter Try.func11, Try.ntmps11
  go_wp2
  go_loopw [7] (fun i wr => ∃ k : Nat, k ≤ 2 ∧ i = .int .i64 (k : Int) ∧ Ext w wr ∧ (1 ≤ k → n ≤ 20) ∧ (2 ≤ k → m ≤ 20)) (fun i _ => 2 - (intOf i).toNat)
  case atStart => exact ⟨0, by omega, rfl, Ext.refl _, fun h => absurd h (by omega), fun h => absurd h (by omega)⟩
  case round =>
    obtain ⟨k, hk, rfl, hext, e0, e1⟩ := hrel
    have c0 := (hb.ext hext).cell 0 (.bool s) rfl
    have c1 := (hb.ext hext).cell 1 (.slice A n c) rfl
    have c2 := (hb.ext hext).cell 2 (.bool t) rfl
    have c3 := (hb.ext hext).cell 3 (.slice B m d) rfl
    have hk2 : k = 0 ∨ k = 1 ∨ k = 2 := by omega
    rcases hk2 with rfl | rfl | rfl
    · by_cases hle : n ≤ 20
      · have ht1 : decide ((20 : Int) < (n : Int)) = false := decide_eq_false (by omega)
        have ht2 : decide (20 < n) = false := decide_eq_false (by omega)
        clear e0 e1
        go_wp2
        go_roundw
        case rel => exact ⟨1, by omega, rfl, hext.alloc _, fun _ => hle, fun h => absurd h (by omega)⟩
        case measure => simp [intOf]
      · have ht1 : decide ((20 : Int) < (n : Int)) = true := decide_eq_true (by omega)
        have ht2 : decide (20 < n) = true := decide_eq_true (by omega)
        clear e0 e1
        go_wp2
        go_ret
        exact ⟨rfl, hext.alloc _⟩
    · by_cases hle : m ≤ 20
      · have ht1 : decide ((20 : Int) < (m : Int)) = false := decide_eq_false (by omega)
        have ht2 : decide (20 < m) = false := decide_eq_false (by omega)
        have f0 := e0 (by omega)
        clear e0 e1
        go_wp2
        go_roundw
        case rel => exact ⟨2, by omega, rfl, hext.alloc _, fun _ => f0, fun _ => hle⟩
        case measure => simp [intOf]
      · have ht1 : decide ((20 : Int) < (m : Int)) = true := decide_eq_true (by omega)
        have ht2 : decide (20 < m) = true := decide_eq_true (by omega)
        clear e0 e1
        go_wp2
        go_ret
        exact ⟨rfl, hext.alloc _⟩
    · exact absurd (show n ≤ 20 ∧ m ≤ 20 by refine ⟨e0 (by omega), e1 (by omega)⟩) HN.out

set_option maxHeartbeats 1000000 in
theorem small_yes3 {g : Nat} {q : Nat} (hb : Box w g 24 #[.bool s, .slice A n c, .bool t, .slice B m d, .bool u, .slice C l q]) (h0 : n ≤ 20) (h1 : m ≤ 20) (h2 : l ≤ 20) :
    Calls Try.prog 11 #[.slice (some ⟨g, 0, none⟩) 3 3] w fun e w' => e = .returned (.bool true) ∧ Ext w w' := by
  go_enter Try.func11, Try.ntmps11
  go_wp2
  go_loopw [7] (fun i wr => ∃ k : Nat, k ≤ 3 ∧ i = .int .i64 (k : Int) ∧ Ext w wr) (fun i _ => 3 - (intOf i).toNat)
  case atStart => exact ⟨0, by omega, rfl, Ext.refl _⟩
  case round =>
    obtain ⟨k, hk, rfl, hext⟩ := hrel
    have c0 := (hb.ext hext).cell 0 (.bool s) rfl
    have c1 := (hb.ext hext).cell 1 (.slice A n c) rfl
    have c2 := (hb.ext hext).cell 2 (.bool t) rfl
    have c3 := (hb.ext hext).cell 3 (.slice B m d) rfl
    have c4 := (hb.ext hext).cell 4 (.bool u) rfl
    have c5 := (hb.ext hext).cell 5 (.slice C l q) rfl
    have hk2 : k = 0 ∨ k = 1 ∨ k = 2 ∨ k = 3 := by omega
    rcases hk2 with rfl | rfl | rfl | rfl
    · have ht1 : decide ((20 : Int) < (n : Int)) = false := decide_eq_false (by omega)
      have ht2 : decide (20 < n) = false := decide_eq_false (by omega)
      go_wp2
      go_roundw
      case rel => exact ⟨1, by omega, rfl, hext.alloc _⟩
      case measure => simp [intOf]
    · have ht1 : decide ((20 : Int) < (m : Int)) = false := decide_eq_false (by omega)
      have ht2 : decide (20 < m) = false := decide_eq_false (by omega)
      go_wp2
      go_roundw
      case rel => exact ⟨2, by omega, rfl, hext.alloc _⟩
      case measure => simp [intOf]
    · have ht1 : decide ((20 : Int) < (l : Int)) = false := decide_eq_false (by omega)
      have ht2 : decide (20 < l) = false := decide_eq_false (by omega)
      go_wp2
      go_roundw
      case rel => exact ⟨3, by omega, rfl, hext.alloc _⟩
      case measure => simp [intOf]
    · go_wp2
      go_ret
      exact ⟨rfl, hext⟩

set_option maxHeartbeats 1000000 in
theorem small_no3 {g : Nat} {q : Nat} (hb : Box w g 24 #[.bool s, .slice A n c, .bool t, .slice B m d, .bool u, .slice C l q]) (hno : ¬ (n ≤ 20 ∧ m ≤ 20 ∧ l ≤ 20)) :
    Calls Try.prog 11 #[.slice (some ⟨g, 0, none⟩) 3 3] w fun e w' => e = .returned (.bool false) ∧ Ext w w' := by
  have HN := Lib.hid hno
  clear hno
  go_enter Try.func11, Try.ntmps11
  go_wp2
  go_loopw [7] (fun i wr => ∃ k : Nat, k ≤ 3 ∧ i = .int .i64 (k : Int) ∧ Ext w wr ∧ (1 ≤ k → n ≤ 20) ∧ (2 ≤ k → m ≤ 20) ∧ (3 ≤ k → l ≤ 20)) (fun i _ => 3 - (intOf i).toNat)
  case atStart => exact ⟨0, by omega, rfl, Ext.refl _, fun h => absurd h (by omega), fun h => absurd h (by omega), fun h => absurd h (by omega)⟩
  case round =>
    obtain ⟨k, hk, rfl, hext, e0, e1, e2⟩ := hrel
    have c0 := (hb.ext hext).cell 0 (.bool s) rfl
    have c1 := (hb.ext hext).cell 1 (.slice A n c) rfl
    have c2 := (hb.ext hext).cell 2 (.bool t) rfl
    have c3 := (hb.ext hext).cell 3 (.slice B m d) rfl
    have c4 := (hb.ext hext).cell 4 (.bool u) rfl
    have c5 := (hb.ext hext).cell 5 (.slice C l q) rfl
    have hk2 : k = 0 ∨ k = 1 ∨ k = 2 ∨ k = 3 := by omega
    rcases hk2 with rfl | rfl | rfl | rfl
    · by_cases hle : n ≤ 20
      · have ht1 : decide ((20 : Int) < (n : Int)) = false := decide_eq_false (by omega)
        have ht2 : decide (20 < n) = false := decide_eq_false (by omega)
        clear e0 e1 e2
        go_wp2
        go_roundw
        case rel => exact ⟨1, by omega, rfl, hext.alloc _, fun _ => hle, fun h => absurd h (by omega), fun h => absurd h (by omega)⟩
        case measure => simp [intOf]
      · have ht1 : decide ((20 : Int) < (n : Int)) = true := decide_eq_true (by omega)
        have ht2 : decide (20 < n) = true := decide_eq_true (by omega)
        clear e0 e1 e2
        go_wp2
        go_ret
        exact ⟨rfl, hext.alloc _⟩
    · by_cases hle : m ≤ 20
      · have ht1 : decide ((20 : Int) < (m : Int)) = false := decide_eq_false (by omega)
        have ht2 : decide (20 < m) = false := decide_eq_false (by omega)
        have f0 := e0 (by omega)
        clear e0 e1 e2
        go_wp2
        go_roundw
        case rel => exact ⟨2, by omega, rfl, hext.alloc _, fun _ => f0, fun _ => hle, fun h => absurd h (by omega)⟩
        case measure => simp [intOf]
      · have ht1 : decide ((20 : Int) < (m : Int)) = true := decide_eq_true (by omega)
        have ht2 : decide (20 < m) = true := decide_eq_true (by omega)
        clear e0 e1 e2
        go_wp2
        go_ret
        exact ⟨rfl, hext.alloc _⟩
    · by_cases hle : l ≤ 20
      · have ht1 : decide ((20 : Int) < (l : Int)) = false := decide_eq_false (by omega)
        have ht2 : decide (20 < l) = false := decide_eq_false (by omega)
        have f0 := e0 (by omega)
        have f1 := e1 (by omega)
        clear e0 e1 e2
        go_wp2
        go_roundw
        case rel => exact ⟨3, by omega, rfl, hext.alloc _, fun _ => f0, fun _ => f1, fun _ => hle⟩
        case measure => simp [intOf]
      · have ht1 : decide ((20 : Int) < (l : Int)) = true := decide_eq_true (by omega)
        have ht2 : decide (20 < l) = true := decide_eq_true (by omega)
        clear e0 e1 e2
        go_wp2
        go_ret
        exact ⟨rfl, hext.alloc _⟩
    · exact absurd (show n ≤ 20 ∧ m ≤ 20 ∧ l ≤ 20 by refine ⟨e0 (by omega), e1 (by omega), e2 (by omega)⟩) HN.out

end
end Go.Proofs.Ytmjmcinnbmjpdaa
