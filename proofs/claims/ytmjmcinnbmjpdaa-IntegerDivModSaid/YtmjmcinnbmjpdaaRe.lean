/- Walks: DivMod of the reference. -/
import Derived.Test.YtmjmcinnbmjpdaaRd
import Derived.Test.YtmjmcinnbmjpdaaWk
import Derived.Test.YtmjmcinnbmjpdaaWg
import Derived.Test.YtmjmcinnbmjpdaaWd5
namespace Go.Proofs.Ytmjmcinnbmjpdaa
open Go.RowKit
attribute [local go_sem ↓] Go.wp_at_zero Go.wp_at_succ
theorem dm_rest {b1 b2 : Bool} {x y q r : Nat} (h : x = q * y + r) : (if b1 then -(x : Int) else (x : Int)) - (if (!(b1 == b2)) = true then -(q : Int) else (q : Int)) * (if b2 then -(y : Int) else (y : Int)) = if b1 then -(r : Int) else (r : Int) := by
  have e : (x : Int) = (q : Int) * (y : Int) + (r : Int) := by rw [h, Int.natCast_add, Int.natCast_mul]
  rw [e]
  cases b1 <;> cases b2 <;> simp <;> grind
theorem dm_abs {a b : Int} {b1 b2 bq : Bool} {ps qs us qq : List Nat} (h1 : IsInt a b1 ps) (h2 : IsInt b b2 qs) (hq : 0 < qs.length) (hu : val us = val ps / val qs) (h3 : IsInt (ival (!(b1 == b2)) us) bq qq) :
    b ≠ 0 ∧ -(b.natAbs : Int) < a - ival bq qq * b ∧ a - ival bq qq * b < (b.natAbs : Int) := by
  have hv : 0 < val qs := by
    rcases Nat.eq_zero_or_pos (val qs) with h | h
    · rw [h2.nrm.zero.1 h] at hq; simp at hq
    · exact h
  have e := dm_rest (b1 := b1) (b2 := b2) (x := val ps) (y := val qs) (q := val us) (r := val ps % val qs) (by rw [hu, Nat.mul_comm]; exact (Nat.div_add_mod _ _).symm)
  have hl := Nat.mod_lt (val ps) hv
  have i1 : ival b1 ps = if b1 then -(val ps : Int) else (val ps : Int) := rfl
  have i2 : ival b2 qs = if b2 then -(val qs : Int) else (val qs : Int) := rfl
  have i3 : ival (!(b1 == b2)) us = if (!(b1 == b2)) = true then -(val us : Int) else (val us : Int) := rfl
  rw [← i1, ← i2, ← i3, h1.eq, h2.eq, ← h3.eq] at e
  have hb := h2.eq
  rw [i2] at hb
  generalize val ps % val qs = r at *
  refine ⟨?_, ?_, ?_⟩
  · cases b2 <;> simp at hb <;> omega
  · rw [e]; cases b1 <;> cases b2 <;> simp at hb ⊢ <;> omega
  · rw [e]; cases b1 <;> cases b2 <;> simp at hb ⊢ <;> omega
/-- the rest has the other sign than the divisor. -/
def negB (r b : Int) : Bool := decide ((0 < b ∧ r < 0) ∨ (b < 0 ∧ 0 < r))
theorem dm_fin {a b q : Int} (hb : b ≠ 0) (hr : -(b.natAbs : Int) < a - q * b ∧ a - q * b < (b.natAbs : Int)) :
    b ≠ 0 ∧ (negB (a - q * b) b = true → IsDM a b (q - 1) (a - q * b + b)) ∧ (negB (a - q * b) b = false → IsDM a b q (a - q * b)) := by
  refine ⟨hb, fun h => ?_, fun h => ?_⟩
  · have h := of_decide_eq_true h
    refine ⟨by grind, ?_⟩
    omega
  · have h := of_decide_eq_false h
    refine ⟨by grind, ?_⟩
    omega
theorem dm_signs {b r : Int} (hb : b ≠ 0) : ∃ SR SB : Int, r.sign = SR ∧ b.sign = SB ∧ ((SR = 1 ∧ SB = 1 ∧ negB r b = false) ∨ (SR = 0 ∧ SB = 1 ∧ negB r b = false) ∨ (SR = -1 ∧ SB = 1 ∧ negB r b = true) ∨ (SR = 1 ∧ SB = -1 ∧ negB r b = true) ∨ (SR = 0 ∧ SB = -1 ∧ negB r b = false) ∨ (SR = -1 ∧ SB = -1 ∧ negB r b = false)) := by
  refine ⟨_, _, rfl, rfl, ?_⟩
  unfold negB
  rcases Int.lt_trichotomy b 0 with h | h | h
  · rw [Int.sign_eq_neg_one_of_neg h]
    rcases Int.lt_trichotomy r 0 with k | k | k
    · rw [Int.sign_eq_neg_one_of_neg k]; exact .inr (.inr (.inr (.inr (.inr ⟨rfl, rfl, decide_eq_false (by omega)⟩))))
    · subst k; exact .inr (.inr (.inr (.inr (.inl ⟨rfl, rfl, decide_eq_false (by omega)⟩))))
    · rw [Int.sign_eq_one_of_pos k]; exact .inr (.inr (.inr (.inl ⟨rfl, rfl, decide_eq_true (by omega)⟩)))
  · exact absurd h hb
  · rw [Int.sign_eq_one_of_pos h]
    rcases Int.lt_trichotomy r 0 with k | k | k
    · rw [Int.sign_eq_neg_one_of_neg k]; exact .inr (.inr (.inl ⟨rfl, rfl, decide_eq_true (by omega)⟩))
    · subst k; exact .inr (.inl ⟨rfl, rfl, decide_eq_false (by omega)⟩)
    · rw [Int.sign_eq_one_of_pos k]; exact .inl ⟨rfl, rfl, decide_eq_false (by omega)⟩
section
variable {A B : Option Addr} {c d n m : Nat} {xs ys : List Nat} {w : World} {s t : Bool}
set_option maxHeartbeats 4000000 in
theorem ref_DivMod_0 (hn : xs.length = n) (hm : ys.length = m) (hx : Rd w A xs) (hy : Rd w B ys) (hc : n ≤ c) (hcm : c ≤ maxLen) (hd : m ≤ d) (hdm : d ≤ maxLen) (h1 : n ≤ 9000) (h2 : m ≤ 9000) (h0 : val ys = 0) :
    Calls Try.prog 37 #[.agg #[.bool s, .slice A n c], .agg #[.bool t, .slice B m d]] w fun e w' => e = .returned (.tuple #[.agg #[.bool false, .slice none 0 0], .agg #[.bool false, .slice none 0 0], .int .i64 6]) ∧ Ext w w' := by
  have Hn := Lib.hid hn
  have Hm := Lib.hid hm
  clear hn hm
  go_enter Try.func37, Try.ntmps37
  go_upto_region 1 with (fail)
  obtain ⟨W, hW, extW, bx, by_, bz, bu, hz⟩ := box4 w 24 24 24 24 #[.bool s, .slice A n c] #[.bool t, .slice B m d] #[.bool false, .slice none 0 0] #[.bool false, .slice none 0 0]
  rw [← hW]
  clear hW
  have x0 := bx.cell 0 (.bool s) rfl
  have x1 := bx.cell 1 (.slice A n c) rfl
  have y0 := by_.cell 0 (.bool t) rfl
  have y1 := by_.cell 1 (.slice B m d) rfl
  have hf0 := bx.frozen 0
  have hf1 := bx.frozen 1
  have hg0 := by_.frozen 0
  have hg1 := by_.frozen 1
  go_cut [] (fun wx => TwoN w W (ival s xs) (ival t ys) xs.length ys.length (fun wx => Box wx (w.heap.size + 1 + 1) 24 #[.bool false, .slice none 0 0] ∧ Box wx (w.heap.size + 1 + 1 + 1) 24 #[.bool false, .slice none 0 0] ∧ w.heap.size + 4 ≤ wx.heap.size) wx)
  case first =>
    go_region_with (first | (go_at_call_of 17 A; refine (ref_Norm Hn.out (hx.ext (by first | exact extW | exact extW.drew | exact extW.drewN _ | exact (extW.drew).drew)) hc hcm (by omega)).mono ?_; rintro e w3 ⟨b3, A3, c3, rs, rfl, hr3, hc3, hm3, hi3, hl3, hext3⟩; have e3 := (by first | exact hext3 | exact (Ext.refl W).drew.trans hext3 : Ext W w3); have y30 := (by_.ext e3).cell 0 (.bool t) rfl; have y31 := (by_.ext e3).cell 1 (.slice B m d) rfl) | (go_at_call_of 17 B; refine (ref_Norm Hm.out (hy.ext (extW.trans e3)) hd hdm (by omega)).mono ?_; rintro e w4 ⟨b4, A4, c4, qs, rfl, hr4, hc4, hm4, hi4, hl4, hext4⟩; have e4 := e3.trans hext4; have x40 := (bx.ext e4).cell 0 (.bool s) rfl; have x41 := (bx.ext e4).cell 1 (.slice A n c) rfl; have y40 := (by_.ext e4).cell 0 (.bool t) rfl; have y41 := (by_.ext e4).cell 1 (.slice B m d) rfl; have f40 := (bx.ext e4).frozen 0; have f41 := (bx.ext e4).frozen 1; have g40 := (by_.ext e4).frozen 0; have g41 := (by_.ext e4).frozen 1))
    all_goals (go_wp2_with fail; go_meet; exact TwoN.mk' extW e4 bx by_ (hr3.ext hext4) hr4 hc3 hm3 hc4 hm4 hi3 hi4 hl3 hl4 (fun u v p q => ⟨(((((bz.ext e4).far (far_ne (by omega)) _).far (far_ne (by omega)) _).far (far_ne (by omega)) _).far (far_ne (by omega)) _), (((((bu.ext e4).far (far_ne (by omega)) _).far (far_ne (by omega)) _).far (far_ne (by omega)) _).far (far_ne (by omega)) _), by have := e4.size; simp [World.setCell]; omega⟩))
  case rest =>
    clear bx by_ bz bu hz x0 x1 y0 y1 hf0 hf1 hg0 hg1 extW
    obtain ⟨b1, A1, c1, ps, b2, A2, c2, qs, extN, bx, by_, ⟨bz, bu, hz⟩, hp, hq, hc1, hm1, hc2, hm2, hi1, hi2, hl1, hl2⟩ := hcut
    have hps : ps.length ≤ 9000 := by have := Hn.out; omega
    have hqs : qs.length ≤ 9000 := by have := Hm.out; omega
    have x0 := bx.cell 0 (.bool b1) rfl
    have x1 := bx.cell 1 (.slice A1 ps.length c1) rfl
    have y0 := by_.cell 0 (.bool b2) rfl
    have y1 := by_.cell 1 (.slice A2 qs.length c2) rfl
    have hq0 : qs = [] := by
      refine hi2.zero.2 ?_
      unfold ival
      rw [h0]
      cases t <;> rfl
    subst hq0
    have z0 := bz.cell 0 (.bool false) rfl
    have z1 := bz.cell 1 (.slice none 0 0) rfl
    have f0 := bz.frozen 0
    have f1 := bz.frozen 1
    have u0 := bu.cell 0 (.bool false) rfl
    have u1 := bu.cell 1 (.slice none 0 0) rfl
    have g0 := bu.frozen 0
    have g1 := bu.frozen 1
    go_wp2_with fail
    obtain ⟨W', hW', r1, r2, r3, r4, r5, r6, r7⟩ := fin_two (b := false) (A := none) (n := 0) (c := 0) (b' := false) (A' := none) (n' := 0) (c' := 0) (rs := []) (rs' := []) extN (show w.heap.size ≤ w.heap.size + 1 + 1 by omega) (show w.heap.size ≤ w.heap.size + 1 + 1 + 1 by omega) (by omega) bz bu (Rd.nil _ _) (Rd.nil _ _) _ _ _ _ rfl rfl rfl rfl
    rw [← hW']
    exact bodyPost_ret (v := .tuple #[.agg #[.bool false, .slice none 0 0], .agg #[.bool false, .slice none 0 0], .int .i64 6]) (by simp [results, Try.results37, go_sem, r4, r5, r6, r7]) rfl ⟨rfl, r3⟩
theorem sub_len {a b c : Nat} (h : c ≤ max a b + 1) (ha : a ≤ 9000) (hb : b ≤ 20000) : c ≤ 30000 := by omega
set_option maxHeartbeats 16000000 in
theorem ref_DivMod_nz (hn : xs.length = n) (hm : ys.length = m) (hx : Rd w A xs) (hy : Rd w B ys) (hc : n ≤ c) (hcm : c ≤ maxLen) (hd : m ≤ d) (hdm : d ≤ maxLen) (h1 : n ≤ 9000) (h2 : m ≤ 9000) (h0 : val ys ≠ 0) :
    Calls Try.prog 37 #[.agg #[.bool s, .slice A n c], .agg #[.bool t, .slice B m d]] w (RetDM (ival s xs) (ival t ys) 60000 60000 w) := by
  have Hn := Lib.hid hn
  have Hm := Lib.hid hm
  clear hn hm
  go_enter Try.func37, Try.ntmps37
  go_upto_region 1 with (fail)
  obtain ⟨W, hW, extW, bx, by_, bz, bu, hz⟩ := box4 w 24 24 24 24 #[.bool s, .slice A n c] #[.bool t, .slice B m d] #[.bool false, .slice none 0 0] #[.bool false, .slice none 0 0]
  rw [← hW]
  clear hW
  have x0 := bx.cell 0 (.bool s) rfl
  have x1 := bx.cell 1 (.slice A n c) rfl
  have y0 := by_.cell 0 (.bool t) rfl
  have y1 := by_.cell 1 (.slice B m d) rfl
  have hf0 := bx.frozen 0
  have hf1 := bx.frozen 1
  have hg0 := by_.frozen 0
  have hg1 := by_.frozen 1
  go_cut [] (fun wx => TwoN w W (ival s xs) (ival t ys) xs.length ys.length (fun wx => Box wx (w.heap.size + 1 + 1) 24 #[.bool false, .slice none 0 0] ∧ Box wx (w.heap.size + 1 + 1 + 1) 24 #[.bool false, .slice none 0 0] ∧ w.heap.size + 4 ≤ wx.heap.size) wx)
  case first =>
    go_region_with (first | (go_at_call_of 17 A; refine (ref_Norm Hn.out (hx.ext (by first | exact extW | exact extW.drew | exact extW.drewN _ | exact (extW.drew).drew)) hc hcm (by omega)).mono ?_; rintro e w3 ⟨b3, A3, c3, rs, rfl, hr3, hc3, hm3, hi3, hl3, hext3⟩; have e3 := (by first | exact hext3 | exact (Ext.refl W).drew.trans hext3 : Ext W w3); have y30 := (by_.ext e3).cell 0 (.bool t) rfl; have y31 := (by_.ext e3).cell 1 (.slice B m d) rfl) | (go_at_call_of 17 B; refine (ref_Norm Hm.out (hy.ext (extW.trans e3)) hd hdm (by omega)).mono ?_; rintro e w4 ⟨b4, A4, c4, qs, rfl, hr4, hc4, hm4, hi4, hl4, hext4⟩; have e4 := e3.trans hext4; have x40 := (bx.ext e4).cell 0 (.bool s) rfl; have x41 := (bx.ext e4).cell 1 (.slice A n c) rfl; have y40 := (by_.ext e4).cell 0 (.bool t) rfl; have y41 := (by_.ext e4).cell 1 (.slice B m d) rfl; have f40 := (bx.ext e4).frozen 0; have f41 := (bx.ext e4).frozen 1; have g40 := (by_.ext e4).frozen 0; have g41 := (by_.ext e4).frozen 1))
    all_goals (go_wp2_with fail; go_meet; exact TwoN.mk' extW e4 bx by_ (hr3.ext hext4) hr4 hc3 hm3 hc4 hm4 hi3 hi4 hl3 hl4 (fun u v p q => ⟨(((((bz.ext e4).far (far_ne (by omega)) _).far (far_ne (by omega)) _).far (far_ne (by omega)) _).far (far_ne (by omega)) _), (((((bu.ext e4).far (far_ne (by omega)) _).far (far_ne (by omega)) _).far (far_ne (by omega)) _).far (far_ne (by omega)) _), by have := e4.size; simp [World.setCell]; omega⟩))
  case rest =>
    clear bx by_ bz bu hz x0 x1 y0 y1 hf0 hf1 hg0 hg1 extW
    obtain ⟨b1, A1, c1, ps, b2, A2, c2, qs, extN, bx, by_, ⟨bz, bu, hz⟩, hp, hq, hc1, hm1, hc2, hm2, hi1, hi2, hl1, hl2⟩ := hcut
    have hps : ps.length ≤ 9000 := by have := Hn.out; omega
    have hqs : qs.length ≤ 9000 := by have := Hm.out; omega
    have x0 := bx.cell 0 (.bool b1) rfl
    have x1 := bx.cell 1 (.slice A1 ps.length c1) rfl
    have y0 := by_.cell 0 (.bool b2) rfl
    have y1 := by_.cell 1 (.slice A2 qs.length c2) rfl
    have hqpos : 0 < qs.length := by
      rcases Nat.eq_zero_or_pos qs.length with h | h
      · exfalso
        apply h0
        have hz0 := hi2.zero.1 (List.length_eq_zero_iff.1 h)
        unfold ival at hz0
        cases t <;> simp at hz0 <;> omega
      · exact h
    have hqne : ((qs.length : Int) == 0) = false := by rw [beq_eq_false_iff_ne]; omega
    go_wp2_with fail
    refine (ref_divide rfl rfl hp hq hc1 hm1 hi1.nrm hi2.nrm hqpos (by omega) (by omega)).mono ?_
    rintro e w5 ⟨A5, c5, us, A6, c6, rs6, rfl, hr5, hr6, hc5, hm5, hc6, hm6, huv, hrv, hun, hrn, hxt5⟩
    have hul : us.length ≤ ps.length := nrm_len_le hp.1 hun (by rw [huv]; exact Nat.div_le_self _ _)
    have Huv := Lib.hid huv
    clear huv hrv hr6 x0 x1 y0 y1
    have x0 := (bx.ext hxt5).cell 0 (.bool b1) rfl
    have x1 := (bx.ext hxt5).cell 1 (.slice A1 ps.length c1) rfl
    have y0 := (by_.ext hxt5).cell 0 (.bool b2) rfl
    have y1 := (by_.ext hxt5).cell 1 (.slice A2 qs.length c2) rfl
    go_wp2_with fail
    refine (ref_signed rfl hr5 hc5 hm5).mono ?_
    rintro e w6 ⟨bq, Aq, cq, qq, rfl, hrq, hcq, hmq, hiq, hlq, hxt6⟩
    have E6 := hxt5.trans hxt6
    go_upto_region 6 with (fail)
    refine at_world (fun V => Ext wc V ∧ Box V w6.heap.size 24 #[.bool bq, .slice Aq qq.length cq] ∧ Rd V Aq qq) ⟨E6.alloc _, Box.new w6 _ _, hrq.ext ((Ext.refl w6).alloc _)⟩ ?_
    have hgq := E6.size
    generalize w6.heap.size = gq at *
    clear hrq E6 hxt5 hxt6 hr5 x0 x1 y0 y1
    rintro V ⟨EV, xq, hrq⟩
    have xa := bx.ext EV
    have xb := by_.ext EV
    have xz := bz.ext EV
    have xu := bu.ext EV
    have hpV := hp.ext EV
    have hqV := hq.ext EV
    have EW := extN.trans EV
    clear bx by_ bz bu hp hq EV
    have x0 := xa.cell 0 (.bool b1) rfl
    have x1 := xa.cell 1 (.slice A1 ps.length c1) rfl
    have y0 := xb.cell 0 (.bool b2) rfl
    have y1 := xb.cell 1 (.slice A2 qs.length c2) rfl
    have q0 := xq.cell 0 (.bool bq) rfl
    have q1 := xq.cell 1 (.slice Aq qq.length cq) rfl
    have hql : qq.length ≤ 9000 := by omega

    go_cut [10] (fun p X => ∃ gr b7 A7 c7 rr, p = .pointer (some ⟨gr, 0, none⟩) ∧ V.heap.size ≤ gr ∧ Ext V X ∧ Box X gr 24 #[.bool b7, .slice A7 (List.length rr) c7] ∧ Rd X A7 rr ∧ rr.length ≤ c7 ∧ c7 ≤ maxLen ∧ IsInt (ival s xs - ival bq qq * ival t ys) b7 rr ∧ rr.length ≤ 30000)
    case first =>
      have ET := Ext.refl V
      have hsz5 : V.heap.size ≤ V.heap.size := Nat.le_refl _
      go_region_held3 (fun w' => w'.cell? ⟨w.heap.size, 0, none⟩ = some (.bool b1) ∧ w'.cell? ⟨w.heap.size, 1, none⟩ = some (.slice A1 ps.length c1) ∧ w'.cell? ⟨(w.heap.size + 1), 0, none⟩ = some (.bool b2) ∧ w'.cell? ⟨(w.heap.size + 1), 1, none⟩ = some (.slice A2 qs.length c2) ∧ w'.cell? ⟨gq, 0, none⟩ = some (.bool bq) ∧ w'.cell? ⟨gq, 1, none⟩ = some (.slice Aq qq.length cq)) (first | exact ⟨(xa.ext ET).cell 0 _ rfl, (xa.ext ET).cell 1 _ rfl, (xb.ext ET).cell 0 _ rfl, (xb.ext ET).cell 1 _ rfl, (xq.ext ET).cell 0 _ rfl, (xq.ext ET).cell 1 _ rfl⟩ | exact ⟨(xa.ext ET.drew).cell 0 _ rfl, (xa.ext ET.drew).cell 1 _ rfl, (xb.ext ET.drew).cell 0 _ rfl, (xb.ext ET.drew).cell 1 _ rfl, (xq.ext ET.drew).cell 0 _ rfl, (xq.ext ET.drew).cell 1 _ rfl⟩ | exact ⟨(xa.ext (ET.alloc _)).cell 0 _ rfl, (xa.ext (ET.alloc _)).cell 1 _ rfl, (xb.ext (ET.alloc _)).cell 0 _ rfl, (xb.ext (ET.alloc _)).cell 1 _ rfl, (xq.ext (ET.alloc _)).cell 0 _ rfl, (xq.ext (ET.alloc _)).cell 1 _ rfl⟩ | exact ⟨(xa.ext (ET.drew.alloc _)).cell 0 _ rfl, (xa.ext (ET.drew.alloc _)).cell 1 _ rfl, (xb.ext (ET.drew.alloc _)).cell 0 _ rfl, (xb.ext (ET.drew.alloc _)).cell 1 _ rfl, (xq.ext (ET.drew.alloc _)).cell 0 _ rfl, (xq.ext (ET.drew.alloc _)).cell 1 _ rfl⟩ | exact ⟨(xa.ext ((ET.setCell (p := ⟨wk.heap.size, 0, none⟩) hsz _).setCell (p := ⟨wk.heap.size, 1, none⟩) hsz _)).cell 0 _ rfl, (xa.ext ((ET.setCell (p := ⟨wk.heap.size, 0, none⟩) hsz _).setCell (p := ⟨wk.heap.size, 1, none⟩) hsz _)).cell 1 _ rfl, (xb.ext ((ET.setCell (p := ⟨wk.heap.size, 0, none⟩) hsz _).setCell (p := ⟨wk.heap.size, 1, none⟩) hsz _)).cell 0 _ rfl, (xb.ext ((ET.setCell (p := ⟨wk.heap.size, 0, none⟩) hsz _).setCell (p := ⟨wk.heap.size, 1, none⟩) hsz _)).cell 1 _ rfl, (xq.ext ((ET.setCell (p := ⟨wk.heap.size, 0, none⟩) hsz _).setCell (p := ⟨wk.heap.size, 1, none⟩) hsz _)).cell 0 _ rfl, (xq.ext ((ET.setCell (p := ⟨wk.heap.size, 0, none⟩) hsz _).setCell (p := ⟨wk.heap.size, 1, none⟩) hsz _)).cell 1 _ rfl⟩ | exact ⟨(xa.ext ((ET.setCell (p := ⟨V.heap.size, 0, none⟩) hsz5 _).setCell (p := ⟨V.heap.size, 1, none⟩) hsz5 _)).cell 0 _ rfl, (xa.ext ((ET.setCell (p := ⟨V.heap.size, 0, none⟩) hsz5 _).setCell (p := ⟨V.heap.size, 1, none⟩) hsz5 _)).cell 1 _ rfl, (xb.ext ((ET.setCell (p := ⟨V.heap.size, 0, none⟩) hsz5 _).setCell (p := ⟨V.heap.size, 1, none⟩) hsz5 _)).cell 0 _ rfl, (xb.ext ((ET.setCell (p := ⟨V.heap.size, 0, none⟩) hsz5 _).setCell (p := ⟨V.heap.size, 1, none⟩) hsz5 _)).cell 1 _ rfl, (xq.ext ((ET.setCell (p := ⟨V.heap.size, 0, none⟩) hsz5 _).setCell (p := ⟨V.heap.size, 1, none⟩) hsz5 _)).cell 0 _ rfl, (xq.ext ((ET.setCell (p := ⟨V.heap.size, 0, none⟩) hsz5 _).setCell (p := ⟨V.heap.size, 1, none⟩) hsz5 _)).cell 1 _ rfl⟩)
        (first | (go_at_call 35; refine (ref_Mul rfl rfl (hrq.ext (by first | exact ET | exact ET.drew | exact ET.alloc _ | exact ET.drew.alloc _ | exact (ET.alloc _).drew)) (hqV.ext (by first | exact ET | exact ET.drew | exact ET.alloc _ | exact ET.drew.alloc _ | exact (ET.alloc _).drew)) hcq hmq hc2 hm2 (by omega) (by omega)).mono ?_; rintro e wk ⟨b4, A4, c4, ms, rfl, hr4, hc4, hm4, hi4, hl4, hxt⟩; replace ET := (by first | exact ET.trans hxt | exact ET.drew.trans hxt | exact (ET.alloc _).trans hxt | exact (ET.drew.alloc _).trans hxt : Ext V _); have hsz := ET.size; first | (have xnb : Box wk V.heap.size 24 #[Value.bool false, Value.slice none 0 0] := Box.ext (Box.new V 24 #[Value.bool false, Value.slice none 0 0]) hxt; have n0 := xnb.cell 0 (Value.bool false) rfl; have n1 := xnb.cell 1 (Value.slice none 0 0) rfl; have nf0 := xnb.frozen 0; have nf1 := xnb.frozen 1) | (have xnb : Box wk V.heap.size 24 #[Value.bool false, Value.slice none 0 0] := Box.ext (Box.new V.drew 24 #[Value.bool false, Value.slice none 0 0]) hxt; have n0 := xnb.cell 0 (Value.bool false) rfl; have n1 := xnb.cell 1 (Value.slice none 0 0) rfl; have nf0 := xnb.frozen 0; have nf1 := xnb.frozen 1) | skip) | (go_at_call 29; refine (ref_Sub rfl rfl (hpV.ext (by first | exact ET | exact ET.drew | exact ET.alloc _ | exact ET.drew.alloc _ | exact (ET.alloc _).drew)) (by first | exact hr4 | exact hr4.ext ((Ext.refl _).alloc _)) hc1 hm1 hc4 hm4 (by omega) (by omega)).mono ?_; rintro e wk2 ⟨b5, A5, c5, ns, rfl, hr5, hc5, hm5, hi5, hl5, hxt⟩; replace ET := (by first | exact ET.trans hxt | exact ET.drew.trans hxt | exact (ET.alloc _).trans hxt | exact (ET.drew.alloc _).trans hxt : Ext V _); first | (replace xnb := Box.ext xnb hxt; have n0 := xnb.cell 0 (Value.bool false) rfl; have n1 := xnb.cell 1 (Value.slice none 0 0) rfl; have nf0 := xnb.frozen 0; have nf1 := xnb.frozen 1) | (have xnb : Box wk2 wk.heap.size 24 #[Value.bool false, Value.slice none 0 0] := Box.ext (Box.new wk 24 #[Value.bool false, Value.slice none 0 0]) hxt; have n0 := xnb.cell 0 (Value.bool false) rfl; have n1 := xnb.cell 1 (Value.slice none 0 0) rfl; have nf0 := xnb.frozen 0; have nf1 := xnb.frozen 1) | skip))
      all_goals (go_wp2_with fail; go_meet; rw [hi4.eq, hi1.eq, hi2.eq] at hi5; first | exact ⟨_, b5, A5, c5, ns, rfl, ET.size, ET.alloc _, Box.new _ _ _, hr5.ext ((Ext.refl _).alloc _), hc5, hm5, hi5, by omega⟩ | exact ⟨_, b5, A5, c5, ns, rfl, ET.size, ET.drew.alloc _, Box.new _ _ _, hr5.ext ((Ext.refl _).drew.alloc _), hc5, hm5, hi5, by omega⟩ | exact ⟨wk.heap.size, b5, A5, c5, ns, rfl, hsz, ((ET.setCell (p := ⟨wk.heap.size, 0, none⟩) hsz _).setCell (p := ⟨wk.heap.size, 1, none⟩) hsz _), (xnb.setA _).setB _, (fin_pair ET hsz xnb hr5).1, hc5, hm5, hi5, by omega⟩ | exact ⟨V.heap.size, b5, A5, c5, ns, rfl, hsz5, ((ET.setCell (p := ⟨V.heap.size, 0, none⟩) hsz5 _).setCell (p := ⟨V.heap.size, 1, none⟩) hsz5 _), (xnb.setA _).setB _, (fin_pair ET hsz5 xnb hr5).1, hc5, hm5, hi5, by omega⟩)
    case rest =>
      clear x0 x1 y0 y1 q0 q1
      obtain ⟨gr, b7, A7, c7, rr, rfl, hgr, EX, xr, hrr, hc7, hm7, hi7, hl7⟩ := hcut
      have EWX := EW.trans EX
      have xqX := xq.ext EX
      have xbX := xb.ext EX
      have xzX := xz.ext EX
      have xuX := xu.ext EX
      have hqqX := hrq.ext EX
      have hqsX := hqV.ext EX
      have hgqV := xq.lt
      have hgrX := xr.lt
      have hsz4 : w.heap.size + 4 ≤ gq := by omega
      have hgqr : gq < gr := by omega
      clear xq xb xz xu hrq hqV xa hpV EW EX extN
      have hdm := dm_abs hi1 hi2 hqpos Huv.out hiq
      obtain ⟨db, hfin⟩ := dm_fin hdm.1 hdm.2
      have Hfin := Lib.hid hfin
      clear hdm hfin
      have R0 := xr.cell 0 (.bool b7) rfl
      have R1 := xr.cell 1 (.slice A7 rr.length c7) rfl
      have y0 := xbX.cell 0 (.bool b2) rfl
      have y1 := xbX.cell 1 (.slice A2 qs.length c2) rfl
      go_wp2_with fail
      go_cut [46] (fun p X => p = .bool (negB (ival s xs - ival bq qq * ival t ys) (ival t ys)) ∧ Ext wc X)
      case first =>
        obtain ⟨SR, SB, hs1, hs2, hs3⟩ := dm_signs db (r := ival s xs - ival bq qq * ival t ys)
        rw [← hi7.eq] at hs1
        rw [← hi2.eq] at hs2
        rcases hs3 with ⟨rfl, rfl, hs3⟩ | ⟨rfl, rfl, hs3⟩ | ⟨rfl, rfl, hs3⟩ | ⟨rfl, rfl, hs3⟩ | ⟨rfl, rfl, hs3⟩ | ⟨rfl, rfl, hs3⟩
        all_goals
          have Hs1 := Lib.hid hs1
          have Hs2 := Lib.hid hs2
          have Hs3 := Lib.hid hs3
          clear hs1 hs2 hs3
          have ET := Ext.refl wc
          go_region_held3 (fun w' => w'.cell? ⟨gr, 0, none⟩ = some (.bool b7) ∧ w'.cell? ⟨gr, 1, none⟩ = some (.slice A7 rr.length c7) ∧ w'.cell? ⟨(w.heap.size + 1), 0, none⟩ = some (.bool b2) ∧ w'.cell? ⟨(w.heap.size + 1), 1, none⟩ = some (.slice A2 qs.length c2)) (first | exact ⟨(xr.ext ET).cell 0 _ rfl, (xr.ext ET).cell 1 _ rfl, (xbX.ext ET).cell 0 _ rfl, (xbX.ext ET).cell 1 _ rfl⟩ | exact ⟨(xr.ext ET.drew).cell 0 _ rfl, (xr.ext ET.drew).cell 1 _ rfl, (xbX.ext ET.drew).cell 0 _ rfl, (xbX.ext ET.drew).cell 1 _ rfl⟩ | exact ⟨(xr.ext (ET.alloc _)).cell 0 _ rfl, (xr.ext (ET.alloc _)).cell 1 _ rfl, (xbX.ext (ET.alloc _)).cell 0 _ rfl, (xbX.ext (ET.alloc _)).cell 1 _ rfl⟩ | exact ⟨(xr.ext (ET.drew.alloc _)).cell 0 _ rfl, (xr.ext (ET.drew.alloc _)).cell 1 _ rfl, (xbX.ext (ET.drew.alloc _)).cell 0 _ rfl, (xbX.ext (ET.drew.alloc _)).cell 1 _ rfl⟩)
            (first | (go_at_call_of 21 A7; refine (ref_Sign rfl (hrr.ext (by first | exact ET | exact ET.drew | exact ET.drewN _)) hc7 hm7 (by omega)).mono ?_; rintro e wk ⟨rfl, hxt⟩; rw [Hs1.out]; replace ET := (by first | exact ET.trans hxt | exact ET.drew.trans hxt : Ext wc _)) | (go_at_call_of 21 A2; refine (ref_Sign rfl (hqsX.ext (by first | exact ET | exact ET.drew | exact ET.drewN _)) hc2 hm2 (by omega)).mono ?_; rintro e wk ⟨rfl, hxt⟩; rw [Hs2.out]; replace ET := (by first | exact ET.trans hxt | exact ET.drew.trans hxt : Ext wc _)))
          go_wp2_with fail
          go_meet
          exact ⟨by rw [Hs3.out]; rfl, by first | exact ET | exact ET.drew | exact ET.drewN _⟩
      case rest =>
        clear R0 R1 y0 y1
        obtain ⟨rfl, EX⟩ := hcut
        have EWX := EWX.trans EX
        have xqX := xqX.ext EX
        have xr := xr.ext EX
        have xbX := xbX.ext EX
        have xzX := xzX.ext EX
        have xuX := xuX.ext EX
        have hqqX := hqqX.ext EX
        have hqsX := hqsX.ext EX
        have hrrX := hrr.ext EX
        have hqq2 : qq.length ≤ 30000 := by omega
        go_upto_if 46 with fail
        go_cut [] (fun X => ∃ b9 A9 c9 q9 b0 A0 c0 r9 Q R, Ext w X ∧ Box X gq 24 #[.bool b9, .slice A9 (List.length q9) c9] ∧ Box X gr 24 #[.bool b0, .slice A0 (List.length r9) c0] ∧ Box X (w.heap.size + 1 + 1) 24 #[.bool false, .slice none 0 0] ∧ Box X (w.heap.size + 1 + 1 + 1) 24 #[.bool false, .slice none 0 0] ∧ Rd X A9 q9 ∧ Rd X A0 r9 ∧ q9.length ≤ c9 ∧ c9 ≤ maxLen ∧ r9.length ≤ c0 ∧ c0 ≤ maxLen ∧ IsInt Q b9 q9 ∧ IsInt R b0 r9 ∧ IsDM (ival s xs) (ival t ys) Q R ∧ q9.length ≤ 60000 ∧ r9.length ≤ 60000)
        case first =>
          cases hng : negB (ival s xs - ival bq qq * ival t ys) (ival t ys) with
          | false =>
            have Hdm := Lib.hid (Hfin.out.2 hng)
            clear hng
            go_wp2_with fail
            go_meet
            exact ⟨bq, Aq, cq, qq, b7, A7, c7, rr, _, _, EWX, xqX, xr, xzX, xuX, hqqX, hrrX, hcq, hmq, hc7, hm7, ⟨hiq.w32, hiq.nrm, hiq.sgn, rfl⟩, hi7, Hdm.out, by omega, by omega⟩
          | true =>
            have Hdm := Lib.hid (Hfin.out.1 hng)
            clear hng
            have q0 := xqX.cell 0 (.bool bq) rfl
            have q1 := xqX.cell 1 (.slice Aq qq.length cq) rfl
            go_upto_region 8 with fail
            go_cut [] (fun X => ∃ b9 A9 c9 q9, Ext w X ∧ Box X gq 24 #[.bool b9, .slice A9 (List.length q9) c9] ∧ Box X gr 24 #[.bool b7, .slice A7 rr.length c7] ∧ Box X (w.heap.size + 1) 24 #[.bool b2, .slice A2 qs.length c2] ∧ Box X (w.heap.size + 1 + 1) 24 #[.bool false, .slice none 0 0] ∧ Box X (w.heap.size + 1 + 1 + 1) 24 #[.bool false, .slice none 0 0] ∧ Rd X A9 q9 ∧ Rd X A7 rr ∧ Rd X A2 qs ∧ q9.length ≤ c9 ∧ c9 ≤ maxLen ∧ IsInt (ival bq qq - 1) b9 q9 ∧ q9.length ≤ 40000)
            case first =>
              go_region_with (first | (go_at_call 25; refine (ref_FromInt 1 (by omega) (by omega)).mono ?_; rintro e wk ⟨b4, A4, c4, ms, rfl, hr4, hc4, hm4, hi4, hl4, hxt⟩; have ET := (by first | exact hxt | exact (Ext.refl wc).drew.trans hxt : Ext wc wk); have qk0 := (xqX.ext ET).cell 0 (.bool bq) rfl; have qk1 := (xqX.ext ET).cell 1 (.slice Aq qq.length cq) rfl) | (go_at_call 29; refine (ref_Sub rfl rfl (hqqX.ext ET) hr4 hcq hmq hc4 hm4 (by omega) (by omega)).mono ?_; rintro e wk2 ⟨b5, A5, c5, ns, rfl, hr5, hc5, hm5, hi5, hl5, hxt2⟩; have ET2 := ET.trans hxt2; have xq2 := xqX.ext ET2; have qq0 := xq2.cell 0 (.bool bq) rfl; have qq1 := xq2.cell 1 (.slice Aq qq.length cq) rfl; have qf0 := xq2.frozen 0; have qf1 := xq2.frozen 1))
              all_goals (go_wp2_with fail; go_meet; rw [hi4.eq] at hi5; exact ⟨b5, A5, c5, ns, ((EWX.trans ET2).setCell (p := ⟨gq, 0, none⟩) (by show w.heap.size ≤ gq; omega) _).setCell (p := ⟨gq, 1, none⟩) (by show w.heap.size ≤ gq; omega) _, (xq2.setA _).setB _, ((xr.ext ET2).far (far_ne (by omega)) _).far (far_ne (by omega)) _, ((xbX.ext ET2).far (far_ne (by omega)) _).far (far_ne (by omega)) _, ((xzX.ext ET2).far (far_ne (by omega)) _).far (far_ne (by omega)) _, ((xuX.ext ET2).far (far_ne (by omega)) _).far (far_ne (by omega)) _, (fin_pair (w := w) (EWX.trans ET2) (by omega) xq2 hr5).1, ((hrrX.ext ET2).setBox xq2 NoWord.two 0 _).setBox (xq2.setA _) NoWord.two 1 _, ((hqsX.ext ET2).setBox xq2 NoWord.two 0 _).setBox (xq2.setA _) NoWord.two 1 _, hc5, hm5, hi5, by omega⟩)
            case rest =>
              clear EWX xqX xr xbX xzX xuX hqqX hqsX hrrX q0 q1
              obtain ⟨b9, A9, c9, q9, EWX, xqX, xr, xbX, xzX, xuX, hq9, hrrX, hqsX, hc9, hm9, hi9, hl9⟩ := hcut
              have R0 := xr.cell 0 (.bool b7) rfl
              have R1 := xr.cell 1 (.slice A7 rr.length c7) rfl
              have y0 := xbX.cell 0 (.bool b2) rfl
              have y1 := xbX.cell 1 (.slice A2 qs.length c2) rfl
              go_wp2_with fail
              refine (ref_Add rfl rfl hrrX hqsX hc7 hm7 hc2 hm2 (by omega) (by omega)).mono ?_
              rintro e wk ⟨b0, A0, c0, r9, rfl, hr0, hc0, hm0, hi0, hl0, hxt⟩
              have xr2 := xr.ext hxt
              have R0 := xr2.cell 0 (.bool b7) rfl
              have R1 := xr2.cell 1 (.slice A7 rr.length c7) rfl
              have F0 := xr2.frozen 0
              have F1 := xr2.frozen 1
              go_wp2_with fail
              go_meet
              rw [hi7.eq, hi2.eq] at hi0
              exact ⟨b9, A9, c9, q9, b0, A0, c0, r9, _, _, ((EWX.trans hxt).setCell (p := ⟨gr, 0, none⟩) (by show w.heap.size ≤ gr; omega) _).setCell (p := ⟨gr, 1, none⟩) (by show w.heap.size ≤ gr; omega) _, ((xqX.ext hxt).far (far_ne (by omega)) _).far (far_ne (by omega)) _, (xr2.setA _).setB _, ((xzX.ext hxt).far (far_ne (by omega)) _).far (far_ne (by omega)) _, ((xuX.ext hxt).far (far_ne (by omega)) _).far (far_ne (by omega)) _, ((hq9.ext hxt).setBox xr2 NoWord.two 0 _).setBox (xr2.setA _) NoWord.two 1 _, (fin_pair (w := w) (EWX.trans hxt) (by omega) xr2 hr0).1, hc9, hm9, hc0, hm0, hi9, hi0, Hdm.out, by omega, by omega⟩
        case rest =>
          clear EWX xqX xr xbX xzX xuX hqqX hqsX hrrX
          obtain ⟨b9, A9, c9, q9, b0, A0, c0, r9, Q, R, EWX, xqX, xr, xzX, xuX, hq9, hr9, hc9, hm9, hc0, hm0, hi9, hi0, hdm, hl9, hl0⟩ := hcut
          have q0 := xqX.cell 0 (.bool b9) rfl
          have q1 := xqX.cell 1 (.slice A9 q9.length c9) rfl
          have R0 := xr.cell 0 (.bool b0) rfl
          have R1 := xr.cell 1 (.slice A0 r9.length c0) rfl
          have z0 := xzX.cell 0 (.bool false) rfl
          have z1 := xzX.cell 1 (.slice none 0 0) rfl
          have f0 := xzX.frozen 0
          have f1 := xzX.frozen 1
          have u0 := xuX.cell 0 (.bool false) rfl
          have u1 := xuX.cell 1 (.slice none 0 0) rfl
          have g0 := xuX.frozen 0
          have g1 := xuX.frozen 1
          have Hdm := Lib.hid hdm
          clear hdm
          go_upto_region 10 with fail
          go_region
          all_goals
            go_wp2_with fail
            obtain ⟨W', hW', r1, r2, r3, r4, r5, r6, r7⟩ := fin_two (b := b9) (A := A9) (n := q9.length) (c := c9) (b' := b0) (A' := A0) (n' := r9.length) (c' := c0) (by first | exact EWX | exact EWX.drew | exact EWX.drewN _) (show w.heap.size ≤ w.heap.size + 1 + 1 by omega) (show w.heap.size ≤ w.heap.size + 1 + 1 + 1 by omega) (by omega) (by first | exact xzX | exact xzX.ext ((Ext.refl _).drew) | exact xzX.ext ((Ext.refl _).drewN _)) (by first | exact xuX | exact xuX.ext ((Ext.refl _).drew) | exact xuX.ext ((Ext.refl _).drewN _)) (by first | exact hq9 | exact hq9.ext ((Ext.refl _).drew) | exact hq9.ext ((Ext.refl _).drewN _)) (by first | exact hr9 | exact hr9.ext ((Ext.refl _).drew) | exact hr9.ext ((Ext.refl _).drewN _)) _ _ _ _ rfl rfl rfl rfl
            rw [← hW']
            exact bodyPost_ret (v := .tuple #[.agg #[.bool b9, .slice A9 q9.length c9], .agg #[.bool b0, .slice A0 r9.length c0], .int .i64 0]) (by simp [results, Try.results37, go_sem, r4, r5, r6, r7]) rfl ⟨b9, A9, c9, q9, b0, A0, c0, r9, Q, R, rfl, r1, r2, hc9, hm9, hc0, hm0, hi9, hi0, Hdm.out, hl9, hl0, by first | exact r3 | exact r3.drew | exact r3.drewN _⟩
end
end Go.Proofs.Ytmjmcinnbmjpdaa
