/- Walks: Parse: the sign and the texts that are refused. -/
import Derived.Test.YtmjmcinnbmjpdaaWp
import Derived.Lib.Strings
namespace Go.Proofs.Ytmjmcinnbmjpdaa
open Go.RowKit
section
variable (s : ByteArray) (w : World)
set_option maxHeartbeats 400000 in
theorem hasp_t (h1 : 1 ≤ s.size) (h2 : s.size ≤ 100000000) (hb : ((s.extract 0 1).toList == [45]) = true) : Calls Try.prog 99 #[.string s, .string ⟨#[45]⟩] w fun e w' => e = .returned (.bool true) ∧ w = w' := by
  have t1 : decide ((1 : Int) ≤ (s.size : Int)) = true := decide_eq_true (by omega)
  go_enter Try.func99, Try.ntmps99
  go_wp2
  go_ret
  exact ⟨rfl, rfl⟩
set_option maxHeartbeats 400000 in
theorem hasp_f (h1 : 1 ≤ s.size) (h2 : s.size ≤ 100000000) (hb : ((s.extract 0 1).toList == [45]) = false) : Calls Try.prog 99 #[.string s, .string ⟨#[45]⟩] w fun e w' => e = .returned (.bool false) ∧ w = w' := by
  have t1 : decide ((1 : Int) ≤ (s.size : Int)) = true := decide_eq_true (by omega)
  go_enter Try.func99, Try.ntmps99
  go_wp2
  go_ret
  exact ⟨rfl, rfl⟩
set_option maxHeartbeats 400000 in
theorem hasp_0 (h1 : s.size = 0) : Calls Try.prog 99 #[.string s, .string ⟨#[45]⟩] w fun e w' => e = .returned (.bool false) ∧ w = w' := by
  have t1 : decide ((1 : Int) ≤ (s.size : Int)) = false := decide_eq_false (by omega)
  have h3 : s.size ≤ 0 := by omega
  clear h1
  go_enter Try.func99, Try.ntmps99
  go_wp2
  go_ret
  exact ⟨rfl, rfl⟩
set_option maxHeartbeats 400000 in
theorem cutl_t (h1 : 1 ≤ s.size) (h2 : s.size ≤ 100000000) (hb : ((s.extract 0 1).toList == [45]) = true) : Calls Try.prog 88 #[.string s, .string ⟨#[45]⟩] w fun e w' => e = .returned (.tuple #[.string (s.extract 1 s.size), .bool true]) ∧ w = w' := by
  have Hb := Lib.hid hb
  clear hb
  go_enter Try.func88, Try.ntmps88
  go_wp2_with (go_at_call 99; refine (hasp_t s _ h1 h2 Hb.out).mono ?_; rintro e w' ⟨rfl, rfl⟩)
  go_ret2
  exact ⟨rfl, rfl⟩
set_option maxHeartbeats 400000 in
theorem cutl_f (h : s.size = 0 ∨ 1 ≤ s.size ∧ s.size ≤ 100000000 ∧ ((s.extract 0 1).toList == [45]) = false) : Calls Try.prog 88 #[.string s, .string ⟨#[45]⟩] w fun e w' => e = .returned (.tuple #[.string s, .bool false]) ∧ w = w' := by
  have Hb := Lib.hid h
  clear h
  have hp : Calls Try.prog 99 #[.string s, .string ⟨#[45]⟩] w fun e w' => e = .returned (.bool false) ∧ w = w' := by
    rcases Hb.out with h | ⟨h1, h2, h3⟩
    · exact hasp_0 s w h
    · exact hasp_f s w h1 h2 h3
  have Hp := Lib.hid hp
  clear hp
  go_enter Try.func88, Try.ntmps88
  go_wp2_with (go_at_call 99; refine (Hp.out).mono ?_; rintro e w' ⟨rfl, rfl⟩)
  go_ret2
  exact ⟨rfl, rfl⟩
theorem cut_t (h1 : 1 ≤ s.size) (h2 : s.size ≤ 100000000) (hb : ((s.extract 0 1).toList == [45]) = true) : Calls Try.prog 69 #[.string s, .string ⟨#[45]⟩] w fun e w' => e = .returned (.tuple #[.string (s.extract 1 s.size), .bool true]) ∧ w = w' := by
  have Hb := Lib.hid hb
  clear hb
  go_enter Try.func69, Try.ntmps69
  go_wp2_with (go_at_call 88; refine (cutl_t s _ h1 h2 Hb.out).mono ?_; rintro e w' ⟨rfl, rfl⟩)
  go_ret2
  exact ⟨rfl, rfl⟩
theorem cut_f (h : s.size = 0 ∨ 1 ≤ s.size ∧ s.size ≤ 100000000 ∧ ((s.extract 0 1).toList == [45]) = false) : Calls Try.prog 69 #[.string s, .string ⟨#[45]⟩] w fun e w' => e = .returned (.tuple #[.string s, .bool false]) ∧ w = w' := by
  have Hb := Lib.hid h
  clear h
  go_enter Try.func69, Try.ntmps69
  go_wp2_with (go_at_call 88; refine (cutl_f s _ Hb.out).mono ?_; rintro e w' ⟨rfl, rfl⟩)
  go_ret2
  exact ⟨rfl, rfl⟩
end
set_option maxHeartbeats 400000 in
theorem dec_0 (w : World) : Calls Try.prog 70 #[.string ⟨#[48]⟩] w fun e w' => e = .returned (.bool true) ∧ w = w' := by
  go_enter Try.func70, Try.ntmps70
  go_wp2
  go_loop [6] (fun i => i = .int .i64 0 ∨ i = .int .i64 1) (fun i => 1 - (intOf i).toNat)
  case atStart => exact .inl rfl
  case round =>
    rcases hrel with rfl | rfl
    · go_wp2
      go_round
      case rel => exact .inr rfl
      case measure => simp [intOf]
    · go_wp2
      go_ret
      exact ⟨rfl, rfl⟩
set_option maxHeartbeats 400000 in
theorem dec_01 (w : World) : Calls Try.prog 70 #[.string ⟨#[48, 49]⟩] w fun e w' => e = .returned (.bool false) ∧ w = w' := by
  go_enter Try.func70, Try.ntmps70
  go_wp2
  go_loop [6] (fun i => i = .int .i64 0 ∨ i = .int .i64 1 ∨ i = .int .i64 2) (fun i => 2 - (intOf i).toNat)
  case atStart => exact .inl rfl
  case round =>
    rcases hrel with rfl | rfl | rfl
    · go_wp2
      go_round
      case rel => exact .inr (.inl rfl)
      case measure => simp [intOf]
    · go_wp2
      go_round
      case rel => exact .inr (.inr rfl)
      case measure => simp [intOf]
    · go_wp2
      go_ret
      exact ⟨rfl, rfl⟩
end Go.Proofs.Ytmjmcinnbmjpdaa
