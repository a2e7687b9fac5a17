/- Walks: integers with a sign: sums of the reference, differences, comparisons. -/
import Derived.Test.YtmjmcinnbmjpdaaWd3
namespace Go.Proofs.Ytmjmcinnbmjpdaa
open Go.RowKit
attribute [local go_sem ↓] Go.wp_at_zero Go.wp_at_succ
section
variable {A B : Option Addr} {c d n m : Nat} {xs ys : List Nat} {w : World} {s t : Bool}
set_option maxHeartbeats 1000000 in
theorem ref_Add (hn : xs.length = n) (hm : ys.length = m) (hx : Rd w A xs) (hy : Rd w B ys) (hc : n ≤ c) (hcm : c ≤ maxLen) (hd : m ≤ d) (hdm : d ≤ maxLen) (h1 : n ≤ 100000) (h2 : m ≤ 100000) :
    Calls Try.prog 27 #[.agg #[.bool s, .slice A n c], .agg #[.bool t, .slice B m d]] w (RetI (ival s xs + ival t ys) (max xs.length ys.length + 1) w) := by
  have Hn := Lib.hid hn
  have Hm := Lib.hid hm
  clear hn hm
  have lx := trimL_len xs
  have ly := trimL_len ys
  have hxt : Rd w A (trimL xs) := by rw [trimL_take]; exact hx.take _
  have hyt : Rd w B (trimL ys) := by rw [trimL_take]; exact hy.take _
  go_enter Try.func27, Try.ntmps27
  go_upto_region 1 with (fail)
  obtain ⟨W, hW, extW, bx, by_, bz, hz⟩ := box3 w 24 24 24 #[.bool s, .slice A n c] #[.bool t, .slice B m d] #[.bool false, .slice none 0 0]
  rw [← hW]
  clear hW
  have x0 := bx.cell 0 (.bool s) rfl
  have x1 := bx.cell 1 (.slice A n c) rfl
  have y0 := by_.cell 0 (.bool t) rfl
  have y1 := by_.cell 1 (.slice B m d) rfl
  have hf0 := bx.frozen 0
  have hf1 := bx.frozen 1
  have hg0 := by_.frozen 0
  have hg1 := by_.frozen 1
  go_cut [] (fun wx => TwoN w W (ival s xs) (ival t ys) xs.length ys.length (fun wx => Box wx (w.heap.size + 1 + 1) 24 #[.bool false, .slice none 0 0] ∧ w.heap.size + 3 ≤ wx.heap.size) wx)
  case first =>
    go_region_with (first | (go_at_call_of 17 A; refine (ref_Norm Hn.out (hx.ext (by first | exact extW | exact extW.drew | exact extW.drewN _ | exact (extW.drew).drew)) hc hcm h1).mono ?_; rintro e w3 ⟨b3, A3, c3, rs, rfl, hr3, hc3, hm3, hi3, hl3, hext3⟩; have e3 := (by first | exact hext3 | exact (Ext.refl W).drew.trans hext3 : Ext W w3); have y30 := (by_.ext e3).cell 0 (.bool t) rfl; have y31 := (by_.ext e3).cell 1 (.slice B m d) rfl) | (go_at_call_of 17 B; refine (ref_Norm Hm.out (hy.ext (extW.trans e3)) hd hdm h2).mono ?_; rintro e w4 ⟨b4, A4, c4, qs, rfl, hr4, hc4, hm4, hi4, hl4, hext4⟩; have e4 := e3.trans hext4; have x40 := (bx.ext e4).cell 0 (.bool s) rfl; have x41 := (bx.ext e4).cell 1 (.slice A n c) rfl; have y40 := (by_.ext e4).cell 0 (.bool t) rfl; have y41 := (by_.ext e4).cell 1 (.slice B m d) rfl; have k0 := (bx.ext e4).frozen 0; have k1 := (bx.ext e4).frozen 1; have k2 := (by_.ext e4).frozen 0; have k3 := (by_.ext e4).frozen 1))
    all_goals (go_wp2_with fail; go_meet; exact TwoN.mk' extW e4 bx by_ (hr3.ext hext4) hr4 hc3 hm3 hc4 hm4 hi3 hi4 hl3 hl4 (fun u v p q => ⟨(((((bz.ext e4).far (far_ne (by omega)) _).far (far_ne (by omega)) _).far (far_ne (by omega)) _).far (far_ne (by omega)) _), by have := e4.size; simp [World.setCell]; omega⟩))
  case rest =>
    clear bx by_ bz hz x0 x1 y0 y1 hf0 hf1 hg0 hg1 extW
    obtain ⟨b1, A1, c1, ps, b2, A2, c2, qs, extN, bx, by_, ⟨bz, hz⟩, hp, hq, hc1, hm1, hc2, hm2, hi1, hi2, hl1, hl2⟩ := hcut
    have x0 := bx.cell 0 (.bool b1) rfl
    have x1 := bx.cell 1 (.slice A1 ps.length c1) rfl
    have y0 := by_.cell 0 (.bool b2) rfl
    have y1 := by_.cell 1 (.slice A2 qs.length c2) rfl
    have hps : ps.length ≤ 100000 := by have := Hn.out; omega
    have hqs : qs.length ≤ 100000 := by have := Hm.out; omega
    have hv1 := isint_val hi1
    have hv2 := isint_val hi2
    have Hv1 := Lib.hid hv1
    have Hv2 := Lib.hid hv2
    clear hv1 hv2
    cases hst : (b1 == b2) with
    | true =>
      go_wp2_with fail
      go_region_held3 (fun w' => w'.cell? ⟨w.heap.size, 0, none⟩ = some (.bool b1) ∧ w'.cell? ⟨w.heap.size, 1, none⟩ = some (.slice A1 ps.length c1) ∧ w'.cell? ⟨w.heap.size + 1, 0, none⟩ = some (.bool b2) ∧ w'.cell? ⟨w.heap.size + 1, 1, none⟩ = some (.slice A2 qs.length c2)) (first | (go_split_ands; refine ⟨?_, ?_, ?_, ?_⟩ <;> first | (exact Ext.cellv (by assumption) (by assumption)) | (refine (cell_far2 (by omega)).trans ?_; assumption)) | go_keep)
        (first | (go_at_call 59; refine (ref_plus rfl rfl (hp.ext (by first | exact Ext.refl _ | exact (Ext.refl _).drew | exact (Ext.refl _).drewN _)) (hq.ext (by first | exact Ext.refl _ | exact (Ext.refl _).drew | exact (Ext.refl _).drewN _)) (by omega) (by omega)).mono ?_; rintro e w5 ⟨A5, c5, zs, rfl, ho5, hc5, hm5, ⟨hv5, hn5, hl5⟩, hext5⟩; have Hv5 := Lib.hid hv5; clear hv5) | (go_at_call 50; refine (ref_signed rfl ho5.rd hc5 hm5).mono ?_; rintro e w3 ⟨b3, A3, c3, rs, rfl, hr3, hc3, hm3, hi3, hl3, hext3⟩; have ext3 := ((Ext.refl wc).drew.trans hext5).trans hext3; have bz3 := bz.ext ext3; have z0 := bz3.cell 0 (.bool false) rfl; have z1 := bz3.cell 1 (.slice none 0 0) rfl; have f0 := bz3.frozen 0; have f1 := bz3.frozen 1))
      go_wp2_with fail
      obtain ⟨r1, r2, r3, r4⟩ := fin_pair (b := b3) (n := rs.length) (c := c3) (extN.trans ext3) (by omega) bz3 hr3
      refine bodyPost_ret (v := .agg #[.bool b3, .slice A3 rs.length c3]) (by simp [results, Try.results27, go_sem, r3, r4]) rfl ⟨b3, A3, c3, rs, rfl, r1, hc3, hm3, ?_, by omega, r2⟩
      have h := Hv5.out
      have g1 := Hv1.out
      have g2 := Hv2.out
      have hst' : b1 = b2 := by simpa using hst
      subst hst'
      have e : ival b1 zs = ival s xs + ival t ys := by
        unfold ival at *
        cases b1 <;> simp at g1 g2 ⊢ <;> omega
      rw [← e]
      exact hi3
    | false =>
      rcases Nat.lt_trichotomy (val ps) (val qs) with hlt | hlt | hlt
      · have hcm := Lib.hid (show cmpL ps qs = (-1) by rw [cmpL_nrm hp.1 hq.1 hi1.nrm hi2.nrm]; exact cmpI_of_lt hlt)
        have hle := len_le hq.1 hi1.nrm (Nat.le_of_lt hlt)
        have Hlt := Lib.hid hlt
        clear hlt
        go_wp2_with fail
        refine (ref_compare A1 A2 c1 c2 ps qs wc hp hq (by unfold maxLen; omega) (by unfold maxLen; omega)).mono ?_
        rintro e w1 ⟨rfl, hext1⟩
        rw [hcm.out]
        replace extN := extN.trans hext1
        replace hp := hp.ext hext1
        replace hq := hq.ext hext1
        replace bx := bx.ext hext1
        replace by_ := by_.ext hext1
        replace bz := bz.ext hext1
        clear x0 x1 y0 y1 hext1
        have x0 := bx.cell 0 (.bool b1) rfl
        have x1 := bx.cell 1 (.slice A1 ps.length c1) rfl
        have y0 := by_.cell 0 (.bool b2) rfl
        have y1 := by_.cell 1 (.slice A2 qs.length c2) rfl
        go_wp2_with fail
        go_region_held3 (fun w' => w'.cell? ⟨w.heap.size + 1, 0, none⟩ = some (.bool b2) ∧ w'.cell? ⟨w.heap.size + 1, 1, none⟩ = some (.slice A2 qs.length c2) ∧ w'.cell? ⟨w.heap.size, 1, none⟩ = some (.slice A1 ps.length c1)) (first | (go_split_ands; refine ⟨?_, ?_, ?_⟩ <;> first | (exact Ext.cellv (by assumption) (by assumption)) | (refine (cell_far2 (by omega)).trans ?_; assumption)) | go_keep)
          (first | (go_at_call 61; refine (ref_minus rfl rfl (hq.ext (by first | exact Ext.refl _ | exact (Ext.refl _).drew | exact (Ext.refl _).drewN _)) (hp.ext (by first | exact Ext.refl _ | exact (Ext.refl _).drew | exact (Ext.refl _).drewN _)) hle (Nat.le_of_lt Hlt.out) (by omega)).mono ?_; rintro e w5 ⟨A5, c5, zs, rfl, ho5, hc5, hm5, ⟨hv5, hn5, hl5⟩, hext5⟩; have Hv5 := Lib.hid hv5; clear hv5) | (go_at_call 50; refine (ref_signed rfl ho5.rd hc5 hm5).mono ?_; rintro e w3 ⟨b3, A3, c3, rs, rfl, hr3, hc3, hm3, hi3, hl3, hext3⟩; have ext3 := ((Ext.refl w1).drew.trans hext5).trans hext3; have bz3 := bz.ext ext3; have z0 := bz3.cell 0 (.bool false) rfl; have z1 := bz3.cell 1 (.slice none 0 0) rfl; have f0 := bz3.frozen 0; have f1 := bz3.frozen 1))
        go_wp2_with fail
        obtain ⟨r1, r2, r3, r4⟩ := fin_pair (b := b3) (n := rs.length) (c := c3) (extN.trans ext3) (by omega) bz3 hr3
        refine bodyPost_ret (v := .agg #[.bool b3, .slice A3 rs.length c3]) (by simp [results, Try.results27, go_sem, r3, r4]) rfl ⟨b3, A3, c3, rs, rfl, r1, hc3, hm3, ?_, by omega, r2⟩
        have h := Hv5.out
        have g1 := Hv1.out
        have g2 := Hv2.out
        have h' := Hlt.out
        have e : ival b2 zs = ival s xs + ival t ys := by
          unfold ival at *
          cases b1 <;> cases b2 <;> simp at hst <;> simp at g1 g2 ⊢ <;> omega
        rw [← e]
        exact hi3
      · have hcm := Lib.hid (show cmpL ps qs = 0 by rw [cmpL_nrm hp.1 hq.1 hi1.nrm hi2.nrm]; exact cmpI_of_eq hlt)
        have hle := len_le hp.1 hi2.nrm (by omega)
        have Hlt := Lib.hid hlt
        clear hlt
        go_wp2_with fail
        refine (ref_compare A1 A2 c1 c2 ps qs wc hp hq (by unfold maxLen; omega) (by unfold maxLen; omega)).mono ?_
        rintro e w1 ⟨rfl, hext1⟩
        rw [hcm.out]
        replace extN := extN.trans hext1
        replace hp := hp.ext hext1
        replace hq := hq.ext hext1
        replace bx := bx.ext hext1
        replace by_ := by_.ext hext1
        replace bz := bz.ext hext1
        clear x0 x1 y0 y1 hext1
        have x0 := bx.cell 0 (.bool b1) rfl
        have x1 := bx.cell 1 (.slice A1 ps.length c1) rfl
        have y0 := by_.cell 0 (.bool b2) rfl
        have y1 := by_.cell 1 (.slice A2 qs.length c2) rfl
        go_wp2_with fail
        go_region_held3 (fun w' => w'.cell? ⟨w.heap.size, 0, none⟩ = some (.bool b1) ∧ w'.cell? ⟨w.heap.size, 1, none⟩ = some (.slice A1 ps.length c1) ∧ w'.cell? ⟨w.heap.size + 1, 1, none⟩ = some (.slice A2 qs.length c2)) (first | (go_split_ands; refine ⟨?_, ?_, ?_⟩ <;> first | (exact Ext.cellv (by assumption) (by assumption)) | (refine (cell_far2 (by omega)).trans ?_; assumption)) | go_keep)
          (first | (go_at_call 61; refine (ref_minus rfl rfl (hp.ext (by first | exact Ext.refl _ | exact (Ext.refl _).drew | exact (Ext.refl _).drewN _)) (hq.ext (by first | exact Ext.refl _ | exact (Ext.refl _).drew | exact (Ext.refl _).drewN _)) hle (by have := Hlt.out; omega) (by omega)).mono ?_; rintro e w5 ⟨A5, c5, zs, rfl, ho5, hc5, hm5, ⟨hv5, hn5, hl5⟩, hext5⟩; have Hv5 := Lib.hid hv5; clear hv5) | (go_at_call 50; refine (ref_signed rfl ho5.rd hc5 hm5).mono ?_; rintro e w3 ⟨b3, A3, c3, rs, rfl, hr3, hc3, hm3, hi3, hl3, hext3⟩; have ext3 := ((Ext.refl w1).drew.trans hext5).trans hext3; have bz3 := bz.ext ext3; have z0 := bz3.cell 0 (.bool false) rfl; have z1 := bz3.cell 1 (.slice none 0 0) rfl; have f0 := bz3.frozen 0; have f1 := bz3.frozen 1))
        go_wp2_with fail
        obtain ⟨r1, r2, r3, r4⟩ := fin_pair (b := b3) (n := rs.length) (c := c3) (extN.trans ext3) (by omega) bz3 hr3
        refine bodyPost_ret (v := .agg #[.bool b3, .slice A3 rs.length c3]) (by simp [results, Try.results27, go_sem, r3, r4]) rfl ⟨b3, A3, c3, rs, rfl, r1, hc3, hm3, ?_, by omega, r2⟩
        have h := Hv5.out
        have g1 := Hv1.out
        have g2 := Hv2.out
        have h' := Hlt.out
        have e : ival b1 zs = ival s xs + ival t ys := by
          unfold ival at *
          cases b1 <;> cases b2 <;> simp at hst <;> simp at g1 g2 ⊢ <;> omega
        rw [← e]
        exact hi3
      · have hcm := Lib.hid (show cmpL ps qs = 1 by rw [cmpL_nrm hp.1 hq.1 hi1.nrm hi2.nrm]; exact cmpI_of_gt hlt)
        have hle := len_le hp.1 hi2.nrm (by omega)
        have Hlt := Lib.hid hlt
        clear hlt
        go_wp2_with fail
        refine (ref_compare A1 A2 c1 c2 ps qs wc hp hq (by unfold maxLen; omega) (by unfold maxLen; omega)).mono ?_
        rintro e w1 ⟨rfl, hext1⟩
        rw [hcm.out]
        replace extN := extN.trans hext1
        replace hp := hp.ext hext1
        replace hq := hq.ext hext1
        replace bx := bx.ext hext1
        replace by_ := by_.ext hext1
        replace bz := bz.ext hext1
        clear x0 x1 y0 y1 hext1
        have x0 := bx.cell 0 (.bool b1) rfl
        have x1 := bx.cell 1 (.slice A1 ps.length c1) rfl
        have y0 := by_.cell 0 (.bool b2) rfl
        have y1 := by_.cell 1 (.slice A2 qs.length c2) rfl
        go_wp2_with fail
        go_region_held3 (fun w' => w'.cell? ⟨w.heap.size, 0, none⟩ = some (.bool b1) ∧ w'.cell? ⟨w.heap.size, 1, none⟩ = some (.slice A1 ps.length c1) ∧ w'.cell? ⟨w.heap.size + 1, 1, none⟩ = some (.slice A2 qs.length c2)) (first | (go_split_ands; refine ⟨?_, ?_, ?_⟩ <;> first | (exact Ext.cellv (by assumption) (by assumption)) | (refine (cell_far2 (by omega)).trans ?_; assumption)) | go_keep)
          (first | (go_at_call 61; refine (ref_minus rfl rfl (hp.ext (by first | exact Ext.refl _ | exact (Ext.refl _).drew | exact (Ext.refl _).drewN _)) (hq.ext (by first | exact Ext.refl _ | exact (Ext.refl _).drew | exact (Ext.refl _).drewN _)) hle (by have := Hlt.out; omega) (by omega)).mono ?_; rintro e w5 ⟨A5, c5, zs, rfl, ho5, hc5, hm5, ⟨hv5, hn5, hl5⟩, hext5⟩; have Hv5 := Lib.hid hv5; clear hv5) | (go_at_call 50; refine (ref_signed rfl ho5.rd hc5 hm5).mono ?_; rintro e w3 ⟨b3, A3, c3, rs, rfl, hr3, hc3, hm3, hi3, hl3, hext3⟩; have ext3 := ((Ext.refl w1).drew.trans hext5).trans hext3; have bz3 := bz.ext ext3; have z0 := bz3.cell 0 (.bool false) rfl; have z1 := bz3.cell 1 (.slice none 0 0) rfl; have f0 := bz3.frozen 0; have f1 := bz3.frozen 1))
        go_wp2_with fail
        obtain ⟨r1, r2, r3, r4⟩ := fin_pair (b := b3) (n := rs.length) (c := c3) (extN.trans ext3) (by omega) bz3 hr3
        refine bodyPost_ret (v := .agg #[.bool b3, .slice A3 rs.length c3]) (by simp [results, Try.results27, go_sem, r3, r4]) rfl ⟨b3, A3, c3, rs, rfl, r1, hc3, hm3, ?_, by omega, r2⟩
        have h := Hv5.out
        have g1 := Hv1.out
        have g2 := Hv2.out
        have h' := Hlt.out
        have e : ival b1 zs = ival s xs + ival t ys := by
          unfold ival at *
          cases b1 <;> cases b2 <;> simp at hst <;> simp at g1 g2 ⊢ <;> omega
        rw [← e]
        exact hi3

end
end Go.Proofs.Ytmjmcinnbmjpdaa
