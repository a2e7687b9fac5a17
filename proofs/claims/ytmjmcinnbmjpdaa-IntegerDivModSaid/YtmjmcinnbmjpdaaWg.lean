/- Walks: integers with a sign: products. -/
import Derived.Test.YtmjmcinnbmjpdaaWd4
import Derived.Test.YtmjmcinnbmjpdaaWf
namespace Go.Proofs.Ytmjmcinnbmjpdaa
open Go.RowKit
attribute [local go_sem ↓] Go.wp_at_zero Go.wp_at_succ
theorem ival_mul {s t : Bool} {xs ys zs : List Nat} (h : val zs = val xs * val ys) : ival (!(s == t)) zs = ival s xs * ival t ys := by
  unfold ival
  rw [h]
  cases s <;> cases t <;> simp [Int.natCast_mul, Int.neg_mul, Int.mul_neg]
section
variable {A B : Option Addr} {c d n m : Nat} {xs ys : List Nat} {w : World} {s t : Bool}
set_option maxHeartbeats 1000000 in
theorem int_Mul_s (hn : xs.length = n) (hm : ys.length = m) (hx : Rd w A xs) (hy : Rd w B ys) (hc : n ≤ c) (hcm : c ≤ maxLen) (hd : m ≤ d) (hdm : d ≤ maxLen) (h64 : min n m < 64) (h1 : n ≤ 100000) (h2 : m ≤ 100000) :
    Calls Try.prog 34 #[.agg #[.bool s, .slice A n c], .agg #[.bool t, .slice B m d]] w (RetI (ival s xs * ival t ys) (xs.length + ys.length) w) := by
  have Hn := Lib.hid hn
  have Hm := Lib.hid hm
  clear hn hm
  have lx := trimL_len xs
  have ly := trimL_len ys
  have hxt : Rd w A (trimL xs) := by rw [trimL_take]; exact hx.take _
  have hyt : Rd w B (trimL ys) := by rw [trimL_take]; exact hy.take _
  go_enter Try.func34, Try.ntmps34
  go_upto_region 1 with (fail)
  obtain ⟨W, hW, extW, bx, by_, bz, hz⟩ := box3 w 24 24 24 #[.bool s, .slice A n c] #[.bool t, .slice B m d] #[.bool false, .slice none 0 0]
  rw [← hW]
  clear hW
  have x0 := bx.cell 0 (.bool s) rfl
  have x1 := bx.cell 1 (.slice A n c) rfl
  have y0 := by_.cell 0 (.bool t) rfl
  have y1 := by_.cell 1 (.slice B m d) rfl
  go_region_held3 (fun w' => w'.cell? ⟨w.heap.size, 0, none⟩ = some (.bool s) ∧ w'.cell? ⟨w.heap.size, 1, none⟩ = some (.slice A n c) ∧ w'.cell? ⟨w.heap.size + 1, 0, none⟩ = some (.bool t) ∧ w'.cell? ⟨w.heap.size + 1, 1, none⟩ = some (.slice B m d)) (first | (go_split_ands; refine ⟨?_, ?_, ?_, ?_⟩ <;> first | (exact Ext.cellv (by assumption) (by assumption)) | (refine (cell_far2 (by omega)).trans ?_; assumption)) | go_keep)
    (first | (go_at_call_of 44 A; refine (int_trimN Hn.out (hx.ext (by first | exact extW | exact extW.drew | exact extW.drewN _ | exact (extW.drew).drew)) hc hcm).mono ?_; rintro e w1 ⟨rfl, rfl⟩) | (go_at_call_of 44 B; refine (int_trimN Hm.out (hy.ext (by first | exact extW | exact extW.drew | exact extW.drewN _ | exact (extW.drew).drew)) hd hdm).mono ?_; rintro e w1 ⟨rfl, rfl⟩) | (go_at_call 62; refine (int_multiply_s rfl rfl (hxt.ext (by first | exact extW | exact extW.drew | exact extW.drewN _ | exact (extW.drew).drew)) (hyt.ext (by first | exact extW | exact extW.drew | exact extW.drewN _ | exact (extW.drew).drew)) (by have := Hn.out; have := Hm.out; omega) (by have := Hn.out; have := Hm.out; omega)).mono ?_; rintro e w2 ⟨A2, c2, zs, rfl, ho2, hc2, hm2, ⟨hv2, hn2, hl2⟩, hext2⟩; have Hv2 := Lib.hid hv2; clear hv2) | (go_at_call 48; refine (int_signed rfl ho2.rd hc2 hm2 hn2).mono ?_; rintro e w3 ⟨b3, A3, c3, rs, rfl, hr3, hc3, hm3, hi3, hl3, hext3⟩; have ext3 := ((Ext.refl W).drew.trans hext2).trans hext3; have bz3 := bz.ext ext3; have z0 := bz3.cell 0 (.bool false) rfl; have z1 := bz3.cell 1 (.slice none 0 0) rfl; have f0 := bz3.frozen 0; have f1 := bz3.frozen 1))
  go_wp2_with fail
  obtain ⟨r1, r2, r3, r4⟩ := fin_pair (b := b3) (n := rs.length) (c := c3) (extW.trans ext3) (by omega) bz3 hr3
  exact bodyPost_ret (v := .agg #[.bool b3, .slice A3 rs.length c3]) (by simp [results, Try.results34, go_sem, r3, r4]) rfl ⟨b3, A3, c3, rs, rfl, r1, hc3, hm3, by rw [ival_mul Hv2.out, ival_trim, ival_trim] at hi3; exact hi3, by omega, r2⟩

set_option maxHeartbeats 1000000 in
theorem ref_Mul (hn : xs.length = n) (hm : ys.length = m) (hx : Rd w A xs) (hy : Rd w B ys) (hc : n ≤ c) (hcm : c ≤ maxLen) (hd : m ≤ d) (hdm : d ≤ maxLen) (h1 : n ≤ 100000) (h2 : m ≤ 100000) :
    Calls Try.prog 35 #[.agg #[.bool s, .slice A n c], .agg #[.bool t, .slice B m d]] w (RetI (ival s xs * ival t ys) (xs.length + ys.length) w) := by
  have Hn := Lib.hid hn
  have Hm := Lib.hid hm
  clear hn hm
  have lx := trimL_len xs
  have ly := trimL_len ys
  have hxt : Rd w A (trimL xs) := by rw [trimL_take]; exact hx.take _
  have hyt : Rd w B (trimL ys) := by rw [trimL_take]; exact hy.take _
  go_enter Try.func35, Try.ntmps35
  go_upto_region 1 with (fail)
  obtain ⟨W, hW, extW, bx, by_, bz, hz⟩ := box3 w 24 24 24 #[.bool s, .slice A n c] #[.bool t, .slice B m d] #[.bool false, .slice none 0 0]
  rw [← hW]
  clear hW
  have x0 := bx.cell 0 (.bool s) rfl
  have x1 := bx.cell 1 (.slice A n c) rfl
  have y0 := by_.cell 0 (.bool t) rfl
  have y1 := by_.cell 1 (.slice B m d) rfl
  have hf0 := bx.frozen 0
  have hf1 := bx.frozen 1
  have hg0 := by_.frozen 0
  have hg1 := by_.frozen 1
  go_cut [] (fun wx => TwoN w W (ival s xs) (ival t ys) xs.length ys.length (fun wx => Box wx (w.heap.size + 1 + 1) 24 #[.bool false, .slice none 0 0] ∧ w.heap.size + 3 ≤ wx.heap.size) wx)
  case first =>
    go_region_with (first | (go_at_call_of 17 A; refine (ref_Norm Hn.out (hx.ext (by first | exact extW | exact extW.drew | exact extW.drewN _ | exact (extW.drew).drew)) hc hcm h1).mono ?_; rintro e w3 ⟨b3, A3, c3, rs, rfl, hr3, hc3, hm3, hi3, hl3, hext3⟩; have e3 := (by first | exact hext3 | exact (Ext.refl W).drew.trans hext3 : Ext W w3); have y30 := (by_.ext e3).cell 0 (.bool t) rfl; have y31 := (by_.ext e3).cell 1 (.slice B m d) rfl) | (go_at_call_of 17 B; refine (ref_Norm Hm.out (hy.ext (extW.trans e3)) hd hdm h2).mono ?_; rintro e w4 ⟨b4, A4, c4, qs, rfl, hr4, hc4, hm4, hi4, hl4, hext4⟩; have e4 := e3.trans hext4; have x40 := (bx.ext e4).cell 0 (.bool s) rfl; have x41 := (bx.ext e4).cell 1 (.slice A n c) rfl; have y40 := (by_.ext e4).cell 0 (.bool t) rfl; have y41 := (by_.ext e4).cell 1 (.slice B m d) rfl; have k0 := (bx.ext e4).frozen 0; have k1 := (bx.ext e4).frozen 1; have k2 := (by_.ext e4).frozen 0; have k3 := (by_.ext e4).frozen 1))
    all_goals (go_wp2_with fail; go_meet; exact TwoN.mk' extW e4 bx by_ (hr3.ext hext4) hr4 hc3 hm3 hc4 hm4 hi3 hi4 hl3 hl4 (fun u v p q => ⟨(((((bz.ext e4).far (far_ne (by omega)) _).far (far_ne (by omega)) _).far (far_ne (by omega)) _).far (far_ne (by omega)) _), by have := e4.size; simp [World.setCell]; omega⟩))
  case rest =>
    clear bx by_ bz hz x0 x1 y0 y1 hf0 hf1 hg0 hg1 extW
    obtain ⟨b1, A1, c1, ps, b2, A2, c2, qs, extN, bx, by_, ⟨bz, hz⟩, hp, hq, hc1, hm1, hc2, hm2, hi1, hi2, hl1, hl2⟩ := hcut
    have hps : ps.length ≤ 100000 := by have := Hn.out; omega
    have hqs : qs.length ≤ 100000 := by have := Hm.out; omega
    have x0 := bx.cell 0 (.bool b1) rfl
    have x1 := bx.cell 1 (.slice A1 ps.length c1) rfl
    have y0 := by_.cell 0 (.bool b2) rfl
    have y1 := by_.cell 1 (.slice A2 qs.length c2) rfl
    go_wp2_with fail
    go_region_held3 (fun w' => w'.cell? ⟨w.heap.size, 0, none⟩ = some (.bool b1) ∧ w'.cell? ⟨w.heap.size, 1, none⟩ = some (.slice A1 ps.length c1) ∧ w'.cell? ⟨w.heap.size + 1, 0, none⟩ = some (.bool b2) ∧ w'.cell? ⟨w.heap.size + 1, 1, none⟩ = some (.slice A2 qs.length c2)) (first | (go_split_ands; refine ⟨?_, ?_, ?_, ?_⟩ <;> first | (exact Ext.cellv (by assumption) (by assumption)) | (refine (cell_far2 (by omega)).trans ?_; assumption)) | go_keep)
      (first | (go_at_call 63; refine (ref_times1 rfl rfl (hp.ext (by first | exact Ext.refl _ | exact (Ext.refl _).drew | exact (Ext.refl _).drewN _)) (hq.ext (by first | exact Ext.refl _ | exact (Ext.refl _).drew | exact (Ext.refl _).drewN _)) (by omega)).mono ?_; rintro e w5 ⟨A5, c5, zs, rfl, ho5, hc5, hm5, ⟨hv5, hn5, hl5⟩, hext5⟩; have Hv5 := Lib.hid hv5; clear hv5) | (go_at_call 50; refine (ref_signed rfl ho5.rd hc5 hm5).mono ?_; rintro e w3 ⟨b3, A3, c3, rs, rfl, hr3, hc3, hm3, hi3, hl3, hext3⟩; have ext3 := ((Ext.refl wc).drew.trans hext5).trans hext3; have bz3 := bz.ext ext3; have z0 := bz3.cell 0 (.bool false) rfl; have z1 := bz3.cell 1 (.slice none 0 0) rfl; have f0 := bz3.frozen 0; have f1 := bz3.frozen 1))
    go_wp2_with fail
    obtain ⟨r1, r2, r3, r4⟩ := fin_pair (b := b3) (n := rs.length) (c := c3) (extN.trans ext3) (by omega) bz3 hr3
    exact bodyPost_ret (v := .agg #[.bool b3, .slice A3 rs.length c3]) (by simp [results, Try.results35, go_sem, r3, r4]) rfl ⟨b3, A3, c3, rs, rfl, r1, hc3, hm3, by rw [ival_mul Hv5.out, hi1.eq, hi2.eq] at hi3; exact hi3, by omega, r2⟩

end
end Go.Proofs.Ytmjmcinnbmjpdaa
