/- Walks: Parse at the two texts of the examples. -/
import Derived.Test.YtmjmcinnbmjpdaaWq
namespace Go.Proofs.Ytmjmcinnbmjpdaa
open Go.RowKit
section
variable {w : World}
theorem ext_m0 : (⟨#[45, 48]⟩ : ByteArray).extract 1 (⟨#[45, 48]⟩ : ByteArray).size = ⟨#[48]⟩ := by decide +kernel
theorem cut_m0 (w : World) : Calls Try.prog 69 #[.string ⟨#[45, 48]⟩, .string ⟨#[45]⟩] w fun e w' => e = .returned (.tuple #[.string ⟨#[48]⟩, .bool true]) ∧ w = w' := by
  have h := cut_t ⟨#[45, 48]⟩ w (by decide) (by decide) (by decide +kernel)
  rw [ext_m0] at h
  exact h
set_option maxHeartbeats 1000000 in
theorem parse_m0  :
    Calls Try.prog 41 #[.string ⟨#[45, 48]⟩] w (RetIE 0 0 2 w) := by
  have hz := Box.new w 24 #[.bool false, .slice none 0 0]
  have z0 := hz.cell 0 (.bool false) rfl
  have z1 := hz.cell 1 (.slice none 0 0) rfl
  have f0 := hz.frozen 0
  have f1 := hz.frozen 1
  clear hz
  have e1 := (Ext.refl w).alloc (.cells #[.bool false, .slice none 0 0] 24)
  go_enter Try.func41, Try.ntmps41
  go_wp2_with fail
  refine (cut_m0 _).mono ?_
  rintro e w1 ⟨rfl, rfl⟩
  go_wp2_with fail
  refine (dec_0 _).mono ?_
  rintro e w1 ⟨rfl, rfl⟩
  go_wp2_with fail
  exact bodyPost_ret (v := .tuple #[.agg #[.bool false, .slice none 0 0], .int .i64 2]) (by simp [results, Try.results41, go_sem, z0, z1]) rfl ⟨false, none, 0, [], rfl, Rd.nil _ _, by simp, by unfold maxLen; omega, IsInt.nil false, by simp, e1⟩

set_option maxHeartbeats 1000000 in
theorem parse_01  :
    Calls Try.prog 41 #[.string ⟨#[48, 49]⟩] w (RetIE 0 0 2 w) := by
  have hz := Box.new w 24 #[.bool false, .slice none 0 0]
  have z0 := hz.cell 0 (.bool false) rfl
  have z1 := hz.cell 1 (.slice none 0 0) rfl
  have f0 := hz.frozen 0
  have f1 := hz.frozen 1
  clear hz
  have e1 := (Ext.refl w).alloc (.cells #[.bool false, .slice none 0 0] 24)
  go_enter Try.func41, Try.ntmps41
  go_wp2_with fail
  refine (cut_f ⟨#[48, 49]⟩ _ (.inr ⟨by decide, by decide, by decide +kernel⟩)).mono ?_
  rintro e w1 ⟨rfl, rfl⟩
  go_wp2_with fail
  refine (dec_01 _).mono ?_
  rintro e w1 ⟨rfl, rfl⟩
  go_wp2_with fail
  exact bodyPost_ret (v := .tuple #[.agg #[.bool false, .slice none 0 0], .int .i64 2]) (by simp [results, Try.results41, go_sem, z0, z1]) rfl ⟨false, none, 0, [], rfl, Rd.nil _ _, by simp, by unfold maxLen; omega, IsInt.nil false, by simp, e1⟩

end
end Go.Proofs.Ytmjmcinnbmjpdaa
