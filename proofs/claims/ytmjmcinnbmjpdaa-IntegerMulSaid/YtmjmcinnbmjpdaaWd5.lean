/- Walks: integers with a sign: differences, comparisons. -/
import Derived.Test.YtmjmcinnbmjpdaaWd4
namespace Go.Proofs.Ytmjmcinnbmjpdaa
open Go.RowKit
attribute [local go_sem ↓] Go.wp_at_zero Go.wp_at_succ
theorem sign_of_lt {a b : Int} (h : a < b) : (a - b).sign = -1 := Int.sign_eq_neg_one_of_neg (by omega)
theorem sign_of_gt {a b : Int} (h : b < a) : (a - b).sign = 1 := Int.sign_eq_one_of_pos (by omega)
theorem sign_of_eq {a b : Int} (h : a = b) : (a - b).sign = 0 := by rw [h, Int.sub_self]; rfl
theorem sign_cases (a : Int) : (a < 0 ∧ a.sign = -1) ∨ (a = 0 ∧ a.sign = 0) ∨ (0 < a ∧ a.sign = 1) := by
  rcases Int.lt_trichotomy a 0 with h | h | h
  · exact .inl ⟨h, Int.sign_eq_neg_one_of_neg h⟩
  · exact .inr (.inl ⟨h, by rw [h]; rfl⟩)
  · exact .inr (.inr ⟨h, Int.sign_eq_one_of_pos h⟩)
theorem cmp_sign {s t : Bool} {xs ys : List Nat} (hx : W32 xs) (hy : W32 ys) (σ : Int) (ha : (ival s xs).sign = σ) (hb : (ival t ys).sign = σ) : σ * cmpL (trimL xs) (trimL ys) = (ival s xs - ival t ys).sign := by
  rw [cmpL_nrm hx.trimL hy.trimL (Nrm.trimL xs) (Nrm.trimL ys), val_trimL, val_trimL]
  have h1 := sign_cases (ival s xs)
  have h2 := sign_cases (ival t ys)
  have e1 : ival s xs = if s then -(val xs : Int) else (val xs : Int) := rfl
  have e2 : ival t ys = if t then -(val ys : Int) else (val ys : Int) := rfl
  rw [ha] at h1
  rw [hb] at h2
  clear ha hb
  rcases Nat.lt_trichotomy (val xs) (val ys) with h | h | h
  · rw [cmpI_of_lt h]
    rcases h1 with ⟨h1, rfl⟩ | ⟨h1, rfl⟩ | ⟨h1, rfl⟩
    · rw [sign_of_gt (by cases s <;> cases t <;> simp at e1 e2 h2 <;> omega)]; rfl
    · rw [sign_of_eq (by cases s <;> cases t <;> simp at e1 e2 h2 <;> omega)]; rfl
    · rw [sign_of_lt (by cases s <;> cases t <;> simp at e1 e2 h2 <;> omega)]; rfl
  · rw [cmpI_of_eq h, Int.mul_zero]
    rw [sign_of_eq (by rcases h1 with ⟨h1, rfl⟩ | ⟨h1, rfl⟩ | ⟨h1, rfl⟩ <;> cases s <;> cases t <;> simp at e1 e2 h2 <;> omega)]
  · rw [cmpI_of_gt h, Int.mul_one]
    rcases h1 with ⟨h1, rfl⟩ | ⟨h1, rfl⟩ | ⟨h1, rfl⟩
    · rw [sign_of_lt (by cases s <;> cases t <;> simp at e1 e2 h2 <;> omega)]
    · rw [sign_of_eq (by cases s <;> cases t <;> simp at e1 e2 h2 <;> omega)]
    · rw [sign_of_gt (by cases s <;> cases t <;> simp at e1 e2 h2 <;> omega)]
theorem cmpI_bd (a b : Nat) : -1 ≤ cmpI a b ∧ cmpI a b ≤ 1 := by unfold cmpI; split <;> (try split) <;> omega
theorem cmpL_bd (xs ys : List Nat) : -1 ≤ cmpL xs ys ∧ cmpL xs ys ≤ 1 := by unfold cmpL; split <;> exact cmpI_bd _ _
section
variable {A B : Option Addr} {c d n m : Nat} {xs ys : List Nat} {w : World} {s t : Bool}
set_option maxHeartbeats 1000000 in
theorem int_Sub (hn : xs.length = n) (hm : ys.length = m) (hx : Rd w A xs) (hy : Rd w B ys) (hc : n ≤ c) (hcm : c ≤ maxLen) (hd : m ≤ d) (hdm : d ≤ maxLen) (h1 : n ≤ 100000) (h2 : m ≤ 100000) :
    Calls Try.prog 28 #[.agg #[.bool s, .slice A n c], .agg #[.bool t, .slice B m d]] w (RetI (ival s xs - ival t ys) (max xs.length ys.length + 1) w) := by
  have Hn := Lib.hid hn
  have Hm := Lib.hid hm
  clear hn hm
  have lx := trimL_len xs
  have ly := trimL_len ys
  have hxt : Rd w A (trimL xs) := by rw [trimL_take]; exact hx.take _
  have hyt : Rd w B (trimL ys) := by rw [trimL_take]; exact hy.take _
  go_enter Try.func28, Try.ntmps28
  go_upto_region 1 with (fail)
  obtain ⟨W, hW, extW, bx, by_, bz, hz⟩ := box3 w 24 24 24 #[.bool s, .slice A n c] #[.bool t, .slice B m d] #[.bool false, .slice none 0 0]
  rw [← hW]
  clear hW
  have x0 := bx.cell 0 (.bool s) rfl
  have x1 := bx.cell 1 (.slice A n c) rfl
  have y0 := by_.cell 0 (.bool t) rfl
  have y1 := by_.cell 1 (.slice B m d) rfl
  have g0 := by_.frozen 0
  have ext4 : Ext W (W.setCell ⟨w.heap.size + 1, 0, none⟩ (.bool (!t))) → True := fun _ => trivial
  clear ext4
  have hE := extW.setCell (p := ⟨w.heap.size + 1, 0, none⟩) (Nat.le_succ _) (.bool (!t))
  have by2 := by_.setA (.bool (!t))
  have bx2 := bx.far (p := ⟨w.heap.size + 1, 0, none⟩) (far_ne (by omega)) (.bool (!t))
  have bz2 := bz.far (p := ⟨w.heap.size + 1, 0, none⟩) (far_ne (by omega)) (.bool (!t))
  have HE := Lib.hid hE
  clear hE
  go_wp2_with (go_at_call 26; refine (int_Add Hn.out Hm.out (hx.ext HE.out) (hy.ext HE.out) hc hcm hd hdm h1 h2).mono ?_; rintro e w3 ⟨b3, A3, c3, rs, rfl, hr3, hc3, hm3, hi3, hl3, hext3⟩; have bz3 := bz2.ext hext3; have z0 := bz3.cell 0 (.bool false) rfl; have z1 := bz3.cell 1 (.slice none 0 0) rfl; have f0 := bz3.frozen 0; have f1 := bz3.frozen 1)
  obtain ⟨r1, r2, r3, r4⟩ := fin_pair (b := b3) (n := rs.length) (c := c3) (HE.out.trans hext3) (by omega) bz3 hr3
  exact bodyPost_ret (v := .agg #[.bool b3, .slice A3 rs.length c3]) (by simp [results, Try.results28, go_sem, r3, r4]) rfl ⟨b3, A3, c3, rs, rfl, r1, hc3, hm3, by rw [ival_not] at hi3; exact hi3, hl3, r2⟩

set_option maxHeartbeats 1000000 in
theorem ref_Sub (hn : xs.length = n) (hm : ys.length = m) (hx : Rd w A xs) (hy : Rd w B ys) (hc : n ≤ c) (hcm : c ≤ maxLen) (hd : m ≤ d) (hdm : d ≤ maxLen) (h1 : n ≤ 100000) (h2 : m ≤ 100000) :
    Calls Try.prog 29 #[.agg #[.bool s, .slice A n c], .agg #[.bool t, .slice B m d]] w (RetI (ival s xs - ival t ys) (max xs.length ys.length + 1) w) := by
  have Hn := Lib.hid hn
  have Hm := Lib.hid hm
  clear hn hm
  have lx := trimL_len xs
  have ly := trimL_len ys
  have hxt : Rd w A (trimL xs) := by rw [trimL_take]; exact hx.take _
  have hyt : Rd w B (trimL ys) := by rw [trimL_take]; exact hy.take _
  go_enter Try.func29, Try.ntmps29
  go_upto_region 1 with (fail)
  obtain ⟨W, hW, extW, bx, by_, bz, hz⟩ := box3 w 24 24 24 #[.bool s, .slice A n c] #[.bool t, .slice B m d] #[.bool false, .slice none 0 0]
  rw [← hW]
  clear hW
  have x0 := bx.cell 0 (.bool s) rfl
  have x1 := bx.cell 1 (.slice A n c) rfl
  have y0 := by_.cell 0 (.bool t) rfl
  have y1 := by_.cell 1 (.slice B m d) rfl
  go_region_held3 (fun w' => w'.cell? ⟨w.heap.size, 0, none⟩ = some (.bool s) ∧ w'.cell? ⟨w.heap.size, 1, none⟩ = some (.slice A n c) ∧ w'.cell? ⟨w.heap.size + 1, 0, none⟩ = some (.bool t) ∧ w'.cell? ⟨w.heap.size + 1, 1, none⟩ = some (.slice B m d)) (first | (go_split_ands; refine ⟨?_, ?_, ?_, ?_⟩ <;> first | (exact Ext.cellv (by assumption) (by assumption)) | (refine (cell_far2 (by omega)).trans ?_; assumption)) | go_keep)
    (first | (go_at_call 31; refine (ref_Neg Hm.out (hy.ext (by first | exact extW | exact extW.drew | exact extW.drewN _ | exact (extW.drew).drew)) hd hdm h2).mono ?_; rintro e w4 ⟨b4, A4, c4, qs, rfl, hr4, hc4, hm4, hi4, hl4, hext4⟩) | (go_at_call 27; refine (ref_Add Hn.out rfl (hx.ext (extW.trans ((Ext.refl W).drew.trans hext4))) hr4 hc hcm hc4 hm4 h1 (by have := Hm.out; omega)).mono ?_; rintro e w3 ⟨b3, A3, c3, rs, rfl, hr3, hc3, hm3, hi3, hl3, hext3⟩; have ext3 := ((Ext.refl W).drew.trans hext4).trans hext3; have bz3 := bz.ext ext3; have z0 := bz3.cell 0 (.bool false) rfl; have z1 := bz3.cell 1 (.slice none 0 0) rfl; have f0 := bz3.frozen 0; have f1 := bz3.frozen 1))
  go_wp2_with fail
  obtain ⟨r1, r2, r3, r4⟩ := fin_pair (b := b3) (n := rs.length) (c := c3) (extW.trans ext3) (by omega) bz3 hr3
  exact bodyPost_ret (v := .agg #[.bool b3, .slice A3 rs.length c3]) (by simp [results, Try.results29, go_sem, r3, r4]) rfl ⟨b3, A3, c3, rs, rfl, r1, hc3, hm3, by rw [hi4.eq] at hi3; exact hi3, by omega, r2⟩

set_option maxHeartbeats 1000000 in
theorem ref_Cmp (hn : xs.length = n) (hm : ys.length = m) (hx : Rd w A xs) (hy : Rd w B ys) (hc : n ≤ c) (hcm : c ≤ maxLen) (hd : m ≤ d) (hdm : d ≤ maxLen) (h1 : n ≤ 50000) (h2 : m ≤ 50000) :
    Calls Try.prog 33 #[.agg #[.bool s, .slice A n c], .agg #[.bool t, .slice B m d]] w fun e w' => e = .returned (.int .i64 (ival s xs - ival t ys).sign) ∧ Ext w w' := by
  go_enter Try.func33, Try.ntmps33
  go_upto_region 1 with (fail)
  obtain ⟨W, hW, extW, bx, by_, hz⟩ := box2 w 24 24 #[.bool s, .slice A n c] #[.bool t, .slice B m d]
  rw [← hW]
  clear hW
  have x0 := bx.cell 0 (.bool s) rfl
  have x1 := bx.cell 1 (.slice A n c) rfl
  have y0 := by_.cell 0 (.bool t) rfl
  have y1 := by_.cell 1 (.slice B m d) rfl
  go_wp2_with fail
  refine (ref_Sub hn hm (hx.ext extW) (hy.ext extW) hc hcm hd hdm (by omega) (by omega)).mono ?_
  rintro e w3 ⟨b3, A3, c3, rs, rfl, hr3, hc3, hm3, hi3, hl3, hext3⟩
  go_wp2_with fail
  refine (ref_Sign rfl hr3 hc3 hm3 (by omega)).mono ?_
  rintro e w4 ⟨rfl, hext4⟩
  go_wp2_with fail
  go_ret
  exact ⟨ret_int (by rw [hi3.eq]), (extW.trans hext3).trans hext4⟩

set_option maxHeartbeats 1000000 in
theorem int_Cmp (hn : xs.length = n) (hm : ys.length = m) (hx : Rd w A xs) (hy : Rd w B ys) (hc : n ≤ c) (hcm : c ≤ maxLen) (hd : m ≤ d) (hdm : d ≤ maxLen) (h1 : n ≤ 100000) (h2 : m ≤ 100000) :
    Calls Try.prog 32 #[.agg #[.bool s, .slice A n c], .agg #[.bool t, .slice B m d]] w fun e w' => e = .returned (.int .i64 (ival s xs - ival t ys).sign) ∧ Ext w w' := by
  have Hn := Lib.hid hn
  have Hm := Lib.hid hm
  clear hn hm
  have lx := trimL_len xs
  have ly := trimL_len ys
  have hxt : Rd w A (trimL xs) := by rw [trimL_take]; exact hx.take _
  have hyt : Rd w B (trimL ys) := by rw [trimL_take]; exact hy.take _
  go_enter Try.func32, Try.ntmps32
  go_upto_region 1 with (fail)
  obtain ⟨W, hW, extW, bx, by_, hz⟩ := box2 w 24 24 #[.bool s, .slice A n c] #[.bool t, .slice B m d]
  rw [← hW]
  clear hW
  have x0 := bx.cell 0 (.bool s) rfl
  have x1 := bx.cell 1 (.slice A n c) rfl
  have y0 := by_.cell 0 (.bool t) rfl
  have y1 := by_.cell 1 (.slice B m d) rfl
  go_region_held3 (fun w' => w'.cell? ⟨w.heap.size, 0, none⟩ = some (.bool s) ∧ w'.cell? ⟨w.heap.size, 1, none⟩ = some (.slice A n c) ∧ w'.cell? ⟨w.heap.size + 1, 0, none⟩ = some (.bool t) ∧ w'.cell? ⟨w.heap.size + 1, 1, none⟩ = some (.slice B m d)) (first | (go_split_ands; refine ⟨?_, ?_, ?_, ?_⟩ <;> first | (exact Ext.cellv (by assumption) (by assumption)) | (refine (cell_far2 (by omega)).trans ?_; assumption)) | go_keep)
    (first | (go_at_call_of 20 A; refine (int_Sign Hn.out (hx.ext (by first | exact extW | exact extW.drew | exact extW.drewN _ | exact (extW.drew).drew)) hc hcm h1).mono ?_; rintro e w3 ⟨rfl, hext3⟩) | (go_at_call_of 20 B; refine (int_Sign Hm.out (hy.ext (extW.trans ((Ext.refl W).drew.trans hext3))) hd hdm h2).mono ?_; rintro e w4 ⟨rfl, hext4⟩))
  have ext4 := ((Ext.refl W).drew.trans hext3).trans hext4
  have bx4 := bx.ext ext4
  have by4 := by_.ext ext4
  have extN := extW.trans ext4
  clear bx by_ x0 x1 y0 y1 ext4 hext3 hext4 extW
  have x1 := bx4.cell 1 (.slice A n c) rfl
  have y1 := by4.cell 1 (.slice B m d) rfl
  have hx4 := hx.ext extN
  have hy4 := hy.ext extN
  have hxt4 := hxt.ext extN
  have hyt4 := hyt.ext extN
  rename_i hh
  clear hh
  rcases sign_cases (ival s xs) with ⟨ha, ea⟩ | ⟨ha, ea⟩ | ⟨ha, ea⟩ <;> rcases sign_cases (ival t ys) with ⟨hb, eb⟩ | ⟨hb, eb⟩ | ⟨hb, eb⟩
  all_goals
    rw [ea, eb]
    have Ea := Lib.hid ea
    have Eb := Lib.hid eb
    have Ha := Lib.hid ha
    have Hb := Lib.hid hb
    clear ea eb ha hb
    go_wp2_with fail
    first
    | (go_ret
       exact ⟨ret_int (by have := Ha.out; have := Hb.out; first | exact (sign_of_lt (by omega)).symm | exact (sign_of_gt (by omega)).symm), extN⟩)
    | skip
  all_goals
    have hbd := cmpL_bd (trimL xs) (trimL ys)
    have hbd1 := hbd.1
    have hbd2 := hbd.2
    clear hbd
    have hfin := Lib.hid (cmp_sign hx.1 hy.1 _ Ea.out Eb.out)
    go_region_held3 (fun w' => w'.cell? ⟨w.heap.size, 1, none⟩ = some (.slice A n c) ∧ w'.cell? ⟨w.heap.size + 1, 1, none⟩ = some (.slice B m d)) (first | (go_split_ands; refine ⟨?_, ?_⟩ <;> first | (exact Ext.cellv (by assumption) (by assumption)) | (refine (cell_far2 (by omega)).trans ?_; assumption)) | go_keep)
      (first | (go_at_call_of 44 A; refine (int_trimN Hn.out (hx4.ext (by first | exact Ext.refl _ | exact (Ext.refl _).drew)) hc hcm).mono ?_; rintro e w5 ⟨rfl, rfl⟩) | (go_at_call_of 44 B; refine (int_trimN Hm.out (hy4.ext (by first | exact Ext.refl _ | exact (Ext.refl _).drew)) hd hdm).mono ?_; rintro e w5 ⟨rfl, rfl⟩) | (go_at_call 57; refine (int_compare A B c d (trimL xs) (trimL ys) _ (hxt4.ext (by first | exact Ext.refl _ | exact (Ext.refl _).drew)) (hyt4.ext (by first | exact Ext.refl _ | exact (Ext.refl _).drew)) (by have := Hn.out; unfold maxLen; omega) (by have := Hm.out; unfold maxLen; omega)).mono ?_; rintro e w6 ⟨rfl, hext6⟩))
    go_wp2_with fail
    go_ret
    refine ⟨ret_int ?_, extN.trans ((Ext.refl _).drew.trans hext6)⟩
    rw [← hfin.out]
    first | omega | (rw [IntWalk.i64_in _ (by omega)]; omega) | (rw [IntWalk.i64_in _ (by constructor <;> omega)]; omega) | (simp; done)

end
end Go.Proofs.Ytmjmcinnbmjpdaa
