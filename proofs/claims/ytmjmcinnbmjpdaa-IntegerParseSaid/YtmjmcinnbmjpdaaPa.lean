/- Walks: isDecimal, every text. -/
import Derived.Test.YtmjmcinnbmjpdaaWq
import Derived.Test.YtmjmcinnbmjpdaaNum6
namespace Go.Proofs.Ytmjmcinnbmjpdaa
open Go.RowKit
section
variable (s : ByteArray) (w : World)
theorem digs_at {s : ByteArray} (h : Digs s.data.toList) (k : Nat) (hk : k < s.size) : Dig s[k] := by
  refine h _ ?_
  have : s[k] = s.data.toList[k]'(by rw [← Lib.size_eq]; exact hk) := rfl
  rw [this]
  exact List.getElem_mem _
theorem digs_of {s : ByteArray} (h : ∀ k (hk : k < s.size), Dig s[k]) : Digs s.data.toList := by
  intro c hc
  obtain ⟨k, hk, rfl⟩ := List.getElem_of_mem hc
  exact h k (by rw [Lib.size_eq]; exact hk)
theorem dv_take (s : ByteArray) (k : Nat) (h : k < s.size) : dv (s.data.toList.take (k + 1)) = 10 * dv (s.data.toList.take k) + (s[k].toNat - 48) := by
  rw [List.take_succ_eq_append_getElem (by simpa using h), dv_snoc]; rfl
set_option maxHeartbeats 1000000 in
theorem dec_nd (f : Nat) (hf : f < s.size) (hs : s.size ≤ 100000000) (hd : ∀ k (hk : k < s.size), k < f → Dig s[k]) (hn : ¬ Dig s[f]) :
    Calls Try.prog 70 #[.string s] w fun e w' => e = .returned (.bool false) ∧ w = w' := by
  have HD := Lib.hid hd
  have HN := Lib.hid hn
  clear hd hn
  go_enter Try.func70, Try.ntmps70
  go_wp2
  go_loop [6] (fun i => ∃ k : Nat, k ≤ f ∧ i = .int .i64 (k : Int)) (fun i => f - (intOf i).toNat)
  case atStart => exact ⟨0, Nat.zero_le _, rfl⟩
  case round =>
    obtain ⟨k, hk, rfl⟩ := hrel
    by_cases hlt : k < f
    · obtain ⟨h1, h2⟩ := HD.out k (by omega) hlt
      have t1 : decide ((s[k].toNat : Int) < 48) = false := decide_eq_false (by omega)
      have t2 : decide ((57 : Int) < (s[k].toNat : Int)) = false := decide_eq_false (by omega)
      have hks : k < s.size := by omega
      go_wp2
      go_round
      case rel => exact ⟨k + 1, by omega, by go_num⟩
      case measure => simp [intOf]; omega
    · obtain rfl : f = k := by omega
      by_cases h48 : s[f].toNat < 48
      · have t1 : decide ((s[f].toNat : Int) < 48) = true := decide_eq_true (by omega)
        go_wp2
        go_ret
        exact ⟨rfl, rfl⟩
      · have t1 : decide ((s[f].toNat : Int) < 48) = false := decide_eq_false (by omega)
        have h57 : 57 < s[f].toNat := Nat.lt_of_not_le fun h => HN.out ⟨by omega, h⟩
        have t2 : decide ((57 : Int) < (s[f].toNat : Int)) = true := decide_eq_true (by omega)
        go_wp2
        go_ret
        exact ⟨rfl, rfl⟩
set_option maxHeartbeats 1000000 in
theorem dec_y (hs : s.size ≤ 100000000) (hd : Digs s.data.toList) (h1 : 1 ≤ s.size) (h0 : s[0].toNat ≠ 48) :
    Calls Try.prog 70 #[.string s] w fun e w' => e = .returned (.bool true) ∧ w = w' := by
  have HD := Lib.hid hd
  have e0 : s.data.toList = s[0] :: s.data.toList.drop 1 := by
    have hl : 0 < s.data.toList.length := by rw [← Lib.size_eq]; omega
    exact List.drop_eq_getElem_cons hl
  have b1 : (s.toList == [48]) = false := by
    rw [beq_eq_false_iff_ne, Lib.toList_data, e0]
    intro e
    injection e with e _
    exact h0 (by rw [e]; rfl)
  have b2 : s.toList.isEmpty = false := by rw [Lib.toList_data, e0]; rfl
  have b3 : ((s[0].toNat : Int) == 48) = false := by rw [beq_eq_false_iff_ne]; omega
  have b4 : ((s[0].toNat : Int) != 48) = true := by rw [bne_iff_ne]; omega
  have B1 := Lib.hid b1
  have B2 := Lib.hid b2
  have B3 := Lib.hid b3
  have B4 := Lib.hid b4
  clear b1 b2 b3 b4 e0 h0
  clear hd
  go_enter Try.func70, Try.ntmps70
  go_wp2
  go_loop [6] (fun i => ∃ k : Nat, k ≤ s.size ∧ i = .int .i64 (k : Int)) (fun i => s.size - (intOf i).toNat)
  case atStart => exact ⟨0, Nat.zero_le _, rfl⟩
  case round =>
    obtain ⟨k, hk, rfl⟩ := hrel
    by_cases hlt : k < s.size
    · obtain ⟨h1, h2⟩ := digs_at HD.out k hlt
      have t1 : decide ((s[k].toNat : Int) < 48) = false := decide_eq_false (by omega)
      have t2 : decide ((57 : Int) < (s[k].toNat : Int)) = false := decide_eq_false (by omega)
      go_wp2
      go_round
      case rel => exact ⟨k + 1, by omega, by go_num⟩
      case measure => simp [intOf]; omega
    · obtain rfl : k = s.size := by omega
      have b1 := B1.out
      have b2 := B2.out
      have b3 := B3.out
      have b4 := B4.out
      go_wp2
      go_ret
      exact ⟨rfl, rfl⟩
set_option maxHeartbeats 1000000 in
theorem dec_z (hs : s.size ≤ 100000000) (hd : Digs s.data.toList) (h1 : 2 ≤ s.size) (h0 : s[0].toNat = 48) :
    Calls Try.prog 70 #[.string s] w fun e w' => e = .returned (.bool false) ∧ w = w' := by
  have HD := Lib.hid hd
  have e0 : s.data.toList = s[0] :: s.data.toList.drop 1 := by
    have hl : 0 < s.data.toList.length := by rw [← Lib.size_eq]; omega
    exact List.drop_eq_getElem_cons hl
  have b1 : (s.toList == [48]) = false := by
    rw [beq_eq_false_iff_ne, Lib.toList_data, e0]
    intro e
    injection e with _ e
    have := congrArg List.length e
    rw [List.length_drop, ← Lib.size_eq] at this
    simp at this
    omega
  have b2 : s.toList.isEmpty = false := by rw [Lib.toList_data, e0]; rfl
  have b3 : ((s[0].toNat : Int) == 48) = true := by rw [beq_iff_eq]; omega
  have b4 : ((s[0].toNat : Int) != 48) = false := by rw [bne_eq_false_iff_eq]; omega
  have B1 := Lib.hid b1
  have B2 := Lib.hid b2
  have B3 := Lib.hid b3
  have B4 := Lib.hid b4
  clear b1 b2 b3 b4 e0 h0
  clear hd
  go_enter Try.func70, Try.ntmps70
  go_wp2
  go_loop [6] (fun i => ∃ k : Nat, k ≤ s.size ∧ i = .int .i64 (k : Int)) (fun i => s.size - (intOf i).toNat)
  case atStart => exact ⟨0, Nat.zero_le _, rfl⟩
  case round =>
    obtain ⟨k, hk, rfl⟩ := hrel
    by_cases hlt : k < s.size
    · obtain ⟨h1, h2⟩ := digs_at HD.out k hlt
      have t1 : decide ((s[k].toNat : Int) < 48) = false := decide_eq_false (by omega)
      have t2 : decide ((57 : Int) < (s[k].toNat : Int)) = false := decide_eq_false (by omega)
      go_wp2
      go_round
      case rel => exact ⟨k + 1, by omega, by go_num⟩
      case measure => simp [intOf]; omega
    · obtain rfl : k = s.size := by omega
      have b1 := B1.out
      have b2 := B2.out
      have b3 := B3.out
      have b4 := B4.out
      go_wp2
      go_ret
      exact ⟨rfl, rfl⟩
set_option maxHeartbeats 1000000 in
theorem dec_e (hs : s.size ≤ 100000000) (hd : Digs s.data.toList) (h1 : s.size = 0) :
    Calls Try.prog 70 #[.string s] w fun e w' => e = .returned (.bool false) ∧ w = w' := by
  have HD := Lib.hid hd
  have hl : s.data.toList = [] := List.eq_nil_of_length_eq_zero (by rw [← Lib.size_eq]; exact h1)
  have b1 : (s.toList == [48]) = false := by rw [beq_eq_false_iff_ne, Lib.toList_data, hl]; intro e; cases e
  have b2 : s.toList.isEmpty = true := by rw [Lib.toList_data, hl]; rfl
  have B1 := Lib.hid b1
  have B2 := Lib.hid b2
  have h2 : s.size ≤ 0 := by omega
  clear b1 b2 hl h1
  clear hd
  go_enter Try.func70, Try.ntmps70
  go_wp2
  go_loop [6] (fun i => ∃ k : Nat, k ≤ s.size ∧ i = .int .i64 (k : Int)) (fun i => s.size - (intOf i).toNat)
  case atStart => exact ⟨0, Nat.zero_le _, rfl⟩
  case round =>
    obtain ⟨k, hk, rfl⟩ := hrel
    by_cases hlt : k < s.size
    · obtain ⟨h1, h2⟩ := digs_at HD.out k hlt
      have t1 : decide ((s[k].toNat : Int) < 48) = false := decide_eq_false (by omega)
      have t2 : decide ((57 : Int) < (s[k].toNat : Int)) = false := decide_eq_false (by omega)
      go_wp2
      go_round
      case rel => exact ⟨k + 1, by omega, by go_num⟩
      case measure => simp [intOf]; omega
    · obtain rfl : k = s.size := by omega
      have b1 := B1.out
      have b2 := B2.out
      go_wp2
      go_ret
      exact ⟨rfl, rfl⟩
end
end Go.Proofs.Ytmjmcinnbmjpdaa
