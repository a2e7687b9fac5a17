/- Walks and laws, a part. -/
import Derived.Test.YtpeddoaknfjbbaaGreatDoorMe2
import Derived.Test.YtpeddoaknfjbbaaGreatDoorMe1
import Derived.Test.YtpeddoaknfjbbaaGreatDoorMe3
import Derived.Test.YtpeddoaknfjbbaaGreatDoorMe0
import Derived.Lib.Strings
import Derived.Lib.MinMax
set_option linter.unusedSimpArgs false
set_option linter.unusedVariables false
set_option maxHeartbeats 64000000
namespace Go.Proofs.YtpeddoaknfjbbaaGreatDoor
section
open Go.RowKit
theorem two_new (w : World) (t : TypeId) (a b : Array Value) : Ext w ((w.alloc (.cells a t)).alloc (.cells b t)) /\ Box ((w.alloc (.cells a t)).alloc (.cells b t)) w.heap.size t a /\ Box ((w.alloc (.cells a t)).alloc (.cells b t)) (w.heap.size + 1) t b := by
 obtain ⟨W, rfl, h1, h2, h3, _⟩ := box2 w t t a b;exact ⟨h1, h2, h3⟩
section
variable {A B : Option Addr} {c d n m : Nat} {xs ys : List Nat} {w : World} {s t : Bool}
end
end
section
open Go.RowKit
attribute [local go_sem ↓] Go.wp_at_zero Go.wp_at_succ
theorem dm_rest {b1 b2 : Bool} {x y q r : Nat} (h : x = q * y + r) : (if b1 then -(x : Int) else (x : Int)) - (if (!(b1 == b2)) = true then -(q : Int) else (q : Int)) * (if b2 then -(y : Int) else (y : Int)) = if b1 then -(r : Int) else (r : Int) := by
 have e : (x : Int) = (q : Int) * (y : Int) + (r : Int) := by rw [h, Int.natCast_add, Int.natCast_mul]
 rw [e]
 cases b1 <;> cases b2 <;> simp <;> grind
theorem dm_abs {a b : Int} {b1 b2 bq : Bool} {ps qs us qq : List Nat} (h1 : IsInt a b1 ps) (h2 : IsInt b b2 qs) (hq : 0 < qs.length) (hu : val us = val ps / val qs) (h3 : IsInt (ival (!(b1 == b2)) us) bq qq) :
  b ≠ 0 /\ -(b.natAbs : Int) < a - ival bq qq * b /\ a - ival bq qq * b < (b.natAbs : Int) := by
 have hv : 0 < val qs := by
  rcases Nat.eq_zero_or_pos (val qs) with h | h
  ·rw [h2.nrm.zero.1 h] at hq; simp at hq
  ·exact h
 have e := dm_rest (b1 := b1) (b2 := b2) (x := val ps) (y := val qs) (q := val us) (r := val ps % val qs) (by rw [hu, Nat.mul_comm]; exact (Nat.div_add_mod _ _).symm);have hl := Nat.mod_lt (val ps) hv;have i1 : ival b1 ps = if b1 then -(val ps : Int) else (val ps : Int) := rfl;have i2 : ival b2 qs = if b2 then -(val qs : Int) else (val qs : Int) := rfl;have i3 : ival (!(b1 == b2)) us = if (!(b1 == b2)) = true then -(val us : Int) else (val us : Int) := rfl;rw [<- i1, <- i2, <- i3, h1.eq, h2.eq, <- h3.eq] at e;have hb := h2.eq;rw [i2] at hb;generalize val ps % val qs = r at *;refine ⟨?_, ?_, ?_⟩
 ·cases b2 <;> simp at hb <;> omega
 ·rw [e]; cases b1 <;> cases b2 <;> simp at hb ⊢ <;> omega
 ·rw [e]; cases b1 <;> cases b2 <;> simp at hb ⊢ <;> omega
def negB (r b : Int) : Bool := decide ((0 < b /\ r < 0) \/ (b < 0 /\ 0 < r))
theorem dm_fin {a b q : Int} (hb : b ≠ 0) (hr : -(b.natAbs : Int) < a - q * b /\ a - q * b < (b.natAbs : Int)) :
  b ≠ 0 /\ (negB (a - q * b) b = true -> IsDM a b (q - 1) (a - q * b + b)) /\ (negB (a - q * b) b = false -> IsDM a b q (a - q * b)) := by
 refine ⟨hb, fun h => ?_, fun h => ?_⟩
 ·have h := of_decide_eq_true h
  refine ⟨by grind, ?_⟩;omega
 ·have h := of_decide_eq_false h
  refine ⟨by grind, ?_⟩;omega
theorem dm_signs {b r : Int} (hb : b ≠ 0) : ∃ SR SB : Int, r.sign = SR /\ b.sign = SB /\ ((SR = 1 /\ SB = 1 /\ negB r b = false) \/ (SR = 0 /\ SB = 1 /\ negB r b = false) \/ (SR = -1 /\ SB = 1 /\ negB r b = true) \/ (SR = 1 /\ SB = -1 /\ negB r b = true) \/ (SR = 0 /\ SB = -1 /\ negB r b = false) \/ (SR = -1 /\ SB = -1 /\ negB r b = false)) := by
 refine ⟨_, _, rfl, rfl, ?_⟩;unfold negB
 rcases Int.lt_trichotomy b 0 with h | h | h
 ·rw [Int.sign_eq_neg_one_of_neg h]
  rcases Int.lt_trichotomy r 0 with k | k | k
  ·rw [Int.sign_eq_neg_one_of_neg k]; exact .inr (.inr (.inr (.inr (.inr ⟨rfl, rfl, decide_eq_false (by omega)⟩))))
  ·subst k; exact .inr (.inr (.inr (.inr (.inl ⟨rfl, rfl, decide_eq_false (by omega)⟩))))
  ·rw [Int.sign_eq_one_of_pos k]; exact .inr (.inr (.inr (.inl ⟨rfl, rfl, decide_eq_true (by omega)⟩)))
 ·exact absurd h hb
 ·rw [Int.sign_eq_one_of_pos h]
  rcases Int.lt_trichotomy r 0 with k | k | k
  ·rw [Int.sign_eq_neg_one_of_neg k]; exact .inr (.inr (.inl ⟨rfl, rfl, decide_eq_true (by omega)⟩))
  ·subst k; exact .inr (.inl ⟨rfl, rfl, decide_eq_false (by omega)⟩)
  ·rw [Int.sign_eq_one_of_pos k]; exact .inl ⟨rfl, rfl, decide_eq_false (by omega)⟩
section
variable {A B : Option Addr} {c d n m : Nat} {xs ys : List Nat} {w : World} {s t : Bool}
theorem ref_DivMod_nz (hn : xs.length = n) (hm : ys.length = m) (hx : Rd w A xs) (hy : Rd w B ys) (hc : n <= c) (hcm : c <= maxLen) (hd : m <= d) (hdm : d <= maxLen) (h1 : n <= 9000) (h2 : m <= 9000) (h0 : val ys ≠ 0) :
  Calls Tryz.prog 82 #[.agg #[.bool s, .slice A n c], .agg #[.bool t, .slice B m d]] w (RetDM (ival s xs) (ival t ys) 60000 60000 w) := by
 have Hn := Lib.hid hn;have Hm := Lib.hid hm;clear hn hm
 go_enter Tryz.func82, Tryz.ntmps82
 go_upto_region 1 with (fail)
 obtain ⟨W, hW, extW, bx, by_, bz, bu, hz⟩ := box4 w 25 25 25 25 #[.bool s, .slice A n c] #[.bool t, .slice B m d] #[.bool false, .slice none 0 0] #[.bool false, .slice none 0 0];rw [<- hW];clear hW;have x0 := bx.cell 0 (.bool s) rfl;have x1 := bx.cell 1 (.slice A n c) rfl;have y0 := by_.cell 0 (.bool t) rfl;have y1 := by_.cell 1 (.slice B m d) rfl;have hf0 := bx.frozen 0;have hf1 := bx.frozen 1;have hg0 := by_.frozen 0;have hg1 := by_.frozen 1
 go_cut [] (fun wx => TwoN w W (ival s xs) (ival t ys) xs.length ys.length (fun wx => Box wx (w.heap.size + 1 + 1) 25 #[.bool false, .slice none 0 0] /\ Box wx (w.heap.size + 1 + 1 + 1) 25 #[.bool false, .slice none 0 0] /\ w.heap.size + 4 <= wx.heap.size) wx)
 case first =>
  go_region_with (first | (go_at_call_of 115 A; refine (ref_Norm Hn.out (hx.ext (by first | exact extW | exact extW.drew | exact extW.drewN _ | exact (extW.drew).drew)) hc hcm (by omega)).mono ?_; rintro e w3 ⟨b3, A3, c3, rs, rfl, hr3, hc3, hm3, hi3, hl3, hext3⟩; have e3 := (by first | exact hext3 | exact (Ext.refl W).drew.trans hext3 : Ext W w3); have y30 := (by_.ext e3).cell 0 (.bool t) rfl; have y31 := (by_.ext e3).cell 1 (.slice B m d) rfl) | (go_at_call_of 115 B; refine (ref_Norm Hm.out (hy.ext (extW.trans e3)) hd hdm (by omega)).mono ?_; rintro e w4 ⟨b4, A4, c4, qs, rfl, hr4, hc4, hm4, hi4, hl4, hext4⟩; have e4 := e3.trans hext4; have x40 := (bx.ext e4).cell 0 (.bool s) rfl; have x41 := (bx.ext e4).cell 1 (.slice A n c) rfl; have y40 := (by_.ext e4).cell 0 (.bool t) rfl; have y41 := (by_.ext e4).cell 1 (.slice B m d) rfl; have f40 := (bx.ext e4).frozen 0; have f41 := (bx.ext e4).frozen 1; have g40 := (by_.ext e4).frozen 0; have g41 := (by_.ext e4).frozen 1))
  all_goals (go_wp2_with fail; go_meet; exact TwoN.mk' extW e4 bx by_ (hr3.ext hext4) hr4 hc3 hm3 hc4 hm4 hi3 hi4 hl3 hl4 (fun u v p q => ⟨(((((bz.ext e4).far (far_ne (by omega)) _).far (far_ne (by omega)) _).far (far_ne (by omega)) _).far (far_ne (by omega)) _), (((((bu.ext e4).far (far_ne (by omega)) _).far (far_ne (by omega)) _).far (far_ne (by omega)) _).far (far_ne (by omega)) _), by have := e4.size; simp [World.setCell]; omega⟩))
 case rest =>
  clear bx by_ bz bu hz x0 x1 y0 y1 hf0 hf1 hg0 hg1 extW;obtain ⟨b1, A1, c1, ps, b2, A2, c2, qs, extN, bx, by_, ⟨bz, bu, hz⟩, hp, hq, hc1, hm1, hc2, hm2, hi1, hi2, hl1, hl2⟩ := hcut;have hps : ps.length <= 9000 := by have := Hn.out; omega
  have hqs : qs.length <= 9000 := by have := Hm.out; omega
  have x0 := bx.cell 0 (.bool b1) rfl;have x1 := bx.cell 1 (.slice A1 ps.length c1) rfl;have y0 := by_.cell 0 (.bool b2) rfl;have y1 := by_.cell 1 (.slice A2 qs.length c2) rfl
  have hqpos : 0 < qs.length := by
   rcases Nat.eq_zero_or_pos qs.length with h | h
   ·exfalso
    apply h0
    have hz0 := hi2.zero.1 (List.length_eq_zero_iff.1 h);unfold ival at hz0
    cases t <;> simp at hz0 <;> omega
   ·exact h
  have hqne : ((qs.length : Int) == 0) = false := by rw [beq_eq_false_iff_ne]; omega
  go_wp2_with fail
  refine (ref_divide rfl rfl hp hq hc1 hm1 hi1.nrm hi2.nrm hqpos (by omega) (by omega)).mono ?_;rintro e w5 ⟨A5, c5, us, A6, c6, rs6, rfl, hr5, hr6, hc5, hm5, hc6, hm6, huv, hrv, hun, hrn, hxt5⟩;have hul : us.length <= ps.length := nrm_len_le hp.1 hun (by rw [huv]; exact Nat.div_le_self _ _);have Huv := Lib.hid huv;clear huv hrv hr6 x0 x1 y0 y1;have x0 := (bx.ext hxt5).cell 0 (.bool b1) rfl;have x1 := (bx.ext hxt5).cell 1 (.slice A1 ps.length c1) rfl;have y0 := (by_.ext hxt5).cell 0 (.bool b2) rfl;have y1 := (by_.ext hxt5).cell 1 (.slice A2 qs.length c2) rfl
  go_wp2_with fail
  refine (ref_signed rfl hr5 hc5 hm5).mono ?_;rintro e w6 ⟨bq, Aq, cq, qq, rfl, hrq, hcq, hmq, hiq, hlq, hxt6⟩;have E6 := hxt5.trans hxt6
  go_upto_region 6 with (fail)
  refine at_world (fun V => Ext wc V /\ Box V w6.heap.size 25 #[.bool bq, .slice Aq qq.length cq] /\ Rd V Aq qq) ⟨E6.alloc _, Box.new w6 _ _, hrq.ext ((Ext.refl w6).alloc _)⟩ ?_;have hgq := E6.size;generalize w6.heap.size = gq at *;clear hrq E6 hxt5 hxt6 hr5 x0 x1 y0 y1;rintro V ⟨EV, xq, hrq⟩;have xa := bx.ext EV;have xb := by_.ext EV;have xz := bz.ext EV;have xu := bu.ext EV;have hpV := hp.ext EV;have hqV := hq.ext EV;have EW := extN.trans EV;clear bx by_ bz bu hp hq EV;have x0 := xa.cell 0 (.bool b1) rfl;have x1 := xa.cell 1 (.slice A1 ps.length c1) rfl;have y0 := xb.cell 0 (.bool b2) rfl;have y1 := xb.cell 1 (.slice A2 qs.length c2) rfl;have q0 := xq.cell 0 (.bool bq) rfl;have q1 := xq.cell 1 (.slice Aq qq.length cq) rfl;have hql : qq.length <= 9000 := by omega
  go_cut [10] (fun p X => ∃ gr b7 A7 c7 rr, p = .pointer (some ⟨gr, 0, none⟩) /\ V.heap.size <= gr /\ Ext V X /\ Box X gr 25 #[.bool b7, .slice A7 (List.length rr) c7] /\ Rd X A7 rr /\ rr.length <= c7 /\ c7 <= maxLen /\ IsInt (ival s xs - ival bq qq * ival t ys) b7 rr /\ rr.length <= 30000)
  case first =>
   have ET := Ext.refl V;have hsz5 : V.heap.size <= V.heap.size := Nat.le_refl _
   go_region_held3 (fun w' => w'.cell? ⟨w.heap.size, 0, none⟩ = some (.bool b1) /\ w'.cell? ⟨w.heap.size, 1, none⟩ = some (.slice A1 ps.length c1) /\ w'.cell? ⟨(w.heap.size + 1), 0, none⟩ = some (.bool b2) /\ w'.cell? ⟨(w.heap.size + 1), 1, none⟩ = some (.slice A2 qs.length c2) /\ w'.cell? ⟨gq, 0, none⟩ = some (.bool bq) /\ w'.cell? ⟨gq, 1, none⟩ = some (.slice Aq qq.length cq)) (first | exact ⟨(xa.ext ET).cell 0 _ rfl, (xa.ext ET).cell 1 _ rfl, (xb.ext ET).cell 0 _ rfl, (xb.ext ET).cell 1 _ rfl, (xq.ext ET).cell 0 _ rfl, (xq.ext ET).cell 1 _ rfl⟩ | exact ⟨(xa.ext ET.drew).cell 0 _ rfl, (xa.ext ET.drew).cell 1 _ rfl, (xb.ext ET.drew).cell 0 _ rfl, (xb.ext ET.drew).cell 1 _ rfl, (xq.ext ET.drew).cell 0 _ rfl, (xq.ext ET.drew).cell 1 _ rfl⟩ | exact ⟨(xa.ext (ET.alloc _)).cell 0 _ rfl, (xa.ext (ET.alloc _)).cell 1 _ rfl, (xb.ext (ET.alloc _)).cell 0 _ rfl, (xb.ext (ET.alloc _)).cell 1 _ rfl, (xq.ext (ET.alloc _)).cell 0 _ rfl, (xq.ext (ET.alloc _)).cell 1 _ rfl⟩ | exact ⟨(xa.ext (ET.drew.alloc _)).cell 0 _ rfl, (xa.ext (ET.drew.alloc _)).cell 1 _ rfl, (xb.ext (ET.drew.alloc _)).cell 0 _ rfl, (xb.ext (ET.drew.alloc _)).cell 1 _ rfl, (xq.ext (ET.drew.alloc _)).cell 0 _ rfl, (xq.ext (ET.drew.alloc _)).cell 1 _ rfl⟩ | exact ⟨(xa.ext ((ET.setCell (p := ⟨wk.heap.size, 0, none⟩) hsz _).setCell (p := ⟨wk.heap.size, 1, none⟩) hsz _)).cell 0 _ rfl, (xa.ext ((ET.setCell (p := ⟨wk.heap.size, 0, none⟩) hsz _).setCell (p := ⟨wk.heap.size, 1, none⟩) hsz _)).cell 1 _ rfl, (xb.ext ((ET.setCell (p := ⟨wk.heap.size, 0, none⟩) hsz _).setCell (p := ⟨wk.heap.size, 1, none⟩) hsz _)).cell 0 _ rfl, (xb.ext ((ET.setCell (p := ⟨wk.heap.size, 0, none⟩) hsz _).setCell (p := ⟨wk.heap.size, 1, none⟩) hsz _)).cell 1 _ rfl, (xq.ext ((ET.setCell (p := ⟨wk.heap.size, 0, none⟩) hsz _).setCell (p := ⟨wk.heap.size, 1, none⟩) hsz _)).cell 0 _ rfl, (xq.ext ((ET.setCell (p := ⟨wk.heap.size, 0, none⟩) hsz _).setCell (p := ⟨wk.heap.size, 1, none⟩) hsz _)).cell 1 _ rfl⟩ | exact ⟨(xa.ext ((ET.setCell (p := ⟨V.heap.size, 0, none⟩) hsz5 _).setCell (p := ⟨V.heap.size, 1, none⟩) hsz5 _)).cell 0 _ rfl, (xa.ext ((ET.setCell (p := ⟨V.heap.size, 0, none⟩) hsz5 _).setCell (p := ⟨V.heap.size, 1, none⟩) hsz5 _)).cell 1 _ rfl, (xb.ext ((ET.setCell (p := ⟨V.heap.size, 0, none⟩) hsz5 _).setCell (p := ⟨V.heap.size, 1, none⟩) hsz5 _)).cell 0 _ rfl, (xb.ext ((ET.setCell (p := ⟨V.heap.size, 0, none⟩) hsz5 _).setCell (p := ⟨V.heap.size, 1, none⟩) hsz5 _)).cell 1 _ rfl, (xq.ext ((ET.setCell (p := ⟨V.heap.size, 0, none⟩) hsz5 _).setCell (p := ⟨V.heap.size, 1, none⟩) hsz5 _)).cell 0 _ rfl, (xq.ext ((ET.setCell (p := ⟨V.heap.size, 0, none⟩) hsz5 _).setCell (p := ⟨V.heap.size, 1, none⟩) hsz5 _)).cell 1 _ rfl⟩)
    (first | (go_at_call 75; refine (ref_Mul rfl rfl (hrq.ext (by first | exact ET | exact ET.drew | exact ET.alloc _ | exact ET.drew.alloc _ | exact (ET.alloc _).drew)) (hqV.ext (by first | exact ET | exact ET.drew | exact ET.alloc _ | exact ET.drew.alloc _ | exact (ET.alloc _).drew)) hcq hmq hc2 hm2 (by omega) (by omega)).mono ?_; rintro e wk ⟨b4, A4, c4, ms, rfl, hr4, hc4, hm4, hi4, hl4, hxt⟩; replace ET := (by first | exact ET.trans hxt | exact ET.drew.trans hxt | exact (ET.alloc _).trans hxt | exact (ET.drew.alloc _).trans hxt : Ext V _); have hsz := ET.size; first | (have xnb : Box wk V.heap.size 25 #[Value.bool false, Value.slice none 0 0] := Box.ext (Box.new V 25 #[Value.bool false, Value.slice none 0 0]) hxt; have n0 := xnb.cell 0 (Value.bool false) rfl; have n1 := xnb.cell 1 (Value.slice none 0 0) rfl; have nf0 := xnb.frozen 0; have nf1 := xnb.frozen 1) | (have xnb : Box wk V.heap.size 25 #[Value.bool false, Value.slice none 0 0] := Box.ext (Box.new V.drew 25 #[Value.bool false, Value.slice none 0 0]) hxt; have n0 := xnb.cell 0 (Value.bool false) rfl; have n1 := xnb.cell 1 (Value.slice none 0 0) rfl; have nf0 := xnb.frozen 0; have nf1 := xnb.frozen 1) | skip) | (go_at_call 118; refine (ref_Sub rfl rfl (hpV.ext (by first | exact ET | exact ET.drew | exact ET.alloc _ | exact ET.drew.alloc _ | exact (ET.alloc _).drew)) (by first | exact hr4 | exact hr4.ext ((Ext.refl _).alloc _)) hc1 hm1 hc4 hm4 (by omega) (by omega)).mono ?_; rintro e wk2 ⟨b5, A5, c5, ns, rfl, hr5, hc5, hm5, hi5, hl5, hxt⟩; replace ET := (by first | exact ET.trans hxt | exact ET.drew.trans hxt | exact (ET.alloc _).trans hxt | exact (ET.drew.alloc _).trans hxt : Ext V _); first | (replace xnb := Box.ext xnb hxt; have n0 := xnb.cell 0 (Value.bool false) rfl; have n1 := xnb.cell 1 (Value.slice none 0 0) rfl; have nf0 := xnb.frozen 0; have nf1 := xnb.frozen 1) | (have xnb : Box wk2 wk.heap.size 25 #[Value.bool false, Value.slice none 0 0] := Box.ext (Box.new wk 25 #[Value.bool false, Value.slice none 0 0]) hxt; have n0 := xnb.cell 0 (Value.bool false) rfl; have n1 := xnb.cell 1 (Value.slice none 0 0) rfl; have nf0 := xnb.frozen 0; have nf1 := xnb.frozen 1) | skip))
   all_goals (go_wp2_with fail; go_meet; rw [hi4.eq, hi1.eq, hi2.eq] at hi5; first | exact ⟨_, b5, A5, c5, ns, rfl, ET.size, ET.alloc _, Box.new _ _ _, hr5.ext ((Ext.refl _).alloc _), hc5, hm5, hi5, by omega⟩ | exact ⟨_, b5, A5, c5, ns, rfl, ET.size, ET.drew.alloc _, Box.new _ _ _, hr5.ext ((Ext.refl _).drew.alloc _), hc5, hm5, hi5, by omega⟩ | exact ⟨wk.heap.size, b5, A5, c5, ns, rfl, hsz, ((ET.setCell (p := ⟨wk.heap.size, 0, none⟩) hsz _).setCell (p := ⟨wk.heap.size, 1, none⟩) hsz _), (xnb.setA _).setB _, (fin_pair ET hsz xnb hr5).1, hc5, hm5, hi5, by omega⟩ | exact ⟨V.heap.size, b5, A5, c5, ns, rfl, hsz5, ((ET.setCell (p := ⟨V.heap.size, 0, none⟩) hsz5 _).setCell (p := ⟨V.heap.size, 1, none⟩) hsz5 _), (xnb.setA _).setB _, (fin_pair ET hsz5 xnb hr5).1, hc5, hm5, hi5, by omega⟩)
  case rest =>
   clear x0 x1 y0 y1 q0 q1;obtain ⟨gr, b7, A7, c7, rr, rfl, hgr, EX, xr, hrr, hc7, hm7, hi7, hl7⟩ := hcut;have EWX := EW.trans EX;have xqX := xq.ext EX;have xbX := xb.ext EX;have xzX := xz.ext EX;have xuX := xu.ext EX;have hqqX := hrq.ext EX;have hqsX := hqV.ext EX;have hgqV := xq.lt;have hgrX := xr.lt;have hsz4 : w.heap.size + 4 <= gq := by omega
   have hgqr : gq < gr := by omega
   clear xq xb xz xu hrq hqV xa hpV EW EX extN;have hdm := dm_abs hi1 hi2 hqpos Huv.out hiq;obtain ⟨db, hfin⟩ := dm_fin hdm.1 hdm.2;have Hfin := Lib.hid hfin;clear hdm hfin;have R0 := xr.cell 0 (.bool b7) rfl;have R1 := xr.cell 1 (.slice A7 rr.length c7) rfl;have y0 := xbX.cell 0 (.bool b2) rfl;have y1 := xbX.cell 1 (.slice A2 qs.length c2) rfl
   go_wp2_with fail
   go_cut [46] (fun p X => p = .bool (negB (ival s xs - ival bq qq * ival t ys) (ival t ys)) /\ Ext wc X)
   case first =>
    obtain ⟨SR, SB, hs1, hs2, hs3⟩ := dm_signs db (r := ival s xs - ival bq qq * ival t ys);rw [<- hi7.eq] at hs1;rw [<- hi2.eq] at hs2
    rcases hs3 with ⟨rfl, rfl, hs3⟩ | ⟨rfl, rfl, hs3⟩ | ⟨rfl, rfl, hs3⟩ | ⟨rfl, rfl, hs3⟩ | ⟨rfl, rfl, hs3⟩ | ⟨rfl, rfl, hs3⟩
    all_goals
     have Hs1 := Lib.hid hs1;have Hs2 := Lib.hid hs2;have Hs3 := Lib.hid hs3;clear hs1 hs2 hs3;have ET := Ext.refl wc
     go_region_held3 (fun w' => w'.cell? ⟨gr, 0, none⟩ = some (.bool b7) /\ w'.cell? ⟨gr, 1, none⟩ = some (.slice A7 rr.length c7) /\ w'.cell? ⟨(w.heap.size + 1), 0, none⟩ = some (.bool b2) /\ w'.cell? ⟨(w.heap.size + 1), 1, none⟩ = some (.slice A2 qs.length c2)) (first | exact ⟨(xr.ext ET).cell 0 _ rfl, (xr.ext ET).cell 1 _ rfl, (xbX.ext ET).cell 0 _ rfl, (xbX.ext ET).cell 1 _ rfl⟩ | exact ⟨(xr.ext ET.drew).cell 0 _ rfl, (xr.ext ET.drew).cell 1 _ rfl, (xbX.ext ET.drew).cell 0 _ rfl, (xbX.ext ET.drew).cell 1 _ rfl⟩ | exact ⟨(xr.ext (ET.alloc _)).cell 0 _ rfl, (xr.ext (ET.alloc _)).cell 1 _ rfl, (xbX.ext (ET.alloc _)).cell 0 _ rfl, (xbX.ext (ET.alloc _)).cell 1 _ rfl⟩ | exact ⟨(xr.ext (ET.drew.alloc _)).cell 0 _ rfl, (xr.ext (ET.drew.alloc _)).cell 1 _ rfl, (xbX.ext (ET.drew.alloc _)).cell 0 _ rfl, (xbX.ext (ET.drew.alloc _)).cell 1 _ rfl⟩)
      (first | (go_at_call_of 71 A7; refine (ref_Sign rfl (hrr.ext (by first | exact ET | exact ET.drew | exact ET.drewN _)) hc7 hm7 (by omega)).mono ?_; rintro e wk ⟨rfl, hxt⟩; rw [Hs1.out]; replace ET := (by first | exact ET.trans hxt | exact ET.drew.trans hxt : Ext wc _)) | (go_at_call_of 71 A2; refine (ref_Sign rfl (hqsX.ext (by first | exact ET | exact ET.drew | exact ET.drewN _)) hc2 hm2 (by omega)).mono ?_; rintro e wk ⟨rfl, hxt⟩; rw [Hs2.out]; replace ET := (by first | exact ET.trans hxt | exact ET.drew.trans hxt : Ext wc _)))
     go_wp2_with fail
     go_meet
     exact ⟨by rw [Hs3.out]; rfl, by first | exact ET | exact ET.drew | exact ET.drewN _⟩
   case rest =>
    clear R0 R1 y0 y1;obtain ⟨rfl, EX⟩ := hcut;have EWX := EWX.trans EX;have xqX := xqX.ext EX;have xr := xr.ext EX;have xbX := xbX.ext EX;have xzX := xzX.ext EX;have xuX := xuX.ext EX;have hqqX := hqqX.ext EX;have hqsX := hqsX.ext EX;have hrrX := hrr.ext EX;have hqq2 : qq.length <= 30000 := by omega
    go_upto_if 46 with fail
    go_cut [] (fun X => ∃ b9 A9 c9 q9 b0 A0 c0 r9 Q R, Ext w X /\ Box X gq 25 #[.bool b9, .slice A9 (List.length q9) c9] /\ Box X gr 25 #[.bool b0, .slice A0 (List.length r9) c0] /\ Box X (w.heap.size + 1 + 1) 25 #[.bool false, .slice none 0 0] /\ Box X (w.heap.size + 1 + 1 + 1) 25 #[.bool false, .slice none 0 0] /\ Rd X A9 q9 /\ Rd X A0 r9 /\ q9.length <= c9 /\ c9 <= maxLen /\ r9.length <= c0 /\ c0 <= maxLen /\ IsInt Q b9 q9 /\ IsInt R b0 r9 /\ IsDM (ival s xs) (ival t ys) Q R /\ q9.length <= 60000 /\ r9.length <= 60000)
    case first =>
     cases hng : negB (ival s xs - ival bq qq * ival t ys) (ival t ys) with
     | false =>
      have Hdm := Lib.hid (Hfin.out.2 hng);clear hng
      go_wp2_with fail
      go_meet
      exact ⟨bq, Aq, cq, qq, b7, A7, c7, rr, _, _, EWX, xqX, xr, xzX, xuX, hqqX, hrrX, hcq, hmq, hc7, hm7, ⟨hiq.w32, hiq.nrm, hiq.sgn, rfl⟩, hi7, Hdm.out, by omega, by omega⟩
     | true =>
      have Hdm := Lib.hid (Hfin.out.1 hng);clear hng;have q0 := xqX.cell 0 (.bool bq) rfl;have q1 := xqX.cell 1 (.slice Aq qq.length cq) rfl
      go_upto_region 8 with fail
      go_cut [] (fun X => ∃ b9 A9 c9 q9, Ext w X /\ Box X gq 25 #[.bool b9, .slice A9 (List.length q9) c9] /\ Box X gr 25 #[.bool b7, .slice A7 rr.length c7] /\ Box X (w.heap.size + 1) 25 #[.bool b2, .slice A2 qs.length c2] /\ Box X (w.heap.size + 1 + 1) 25 #[.bool false, .slice none 0 0] /\ Box X (w.heap.size + 1 + 1 + 1) 25 #[.bool false, .slice none 0 0] /\ Rd X A9 q9 /\ Rd X A7 rr /\ Rd X A2 qs /\ q9.length <= c9 /\ c9 <= maxLen /\ IsInt (ival bq qq - 1) b9 q9 /\ q9.length <= 40000)
      case first =>
       go_region_with (first | (go_at_call 81; refine (ref_FromInt 1 (by omega) (by omega)).mono ?_; rintro e wk ⟨b4, A4, c4, ms, rfl, hr4, hc4, hm4, hi4, hl4, hxt⟩; have ET := (by first | exact hxt | exact (Ext.refl wc).drew.trans hxt : Ext wc wk); have qk0 := (xqX.ext ET).cell 0 (.bool bq) rfl; have qk1 := (xqX.ext ET).cell 1 (.slice Aq qq.length cq) rfl) | (go_at_call 118; refine (ref_Sub rfl rfl (hqqX.ext ET) hr4 hcq hmq hc4 hm4 (by omega) (by omega)).mono ?_; rintro e wk2 ⟨b5, A5, c5, ns, rfl, hr5, hc5, hm5, hi5, hl5, hxt2⟩; have ET2 := ET.trans hxt2; have xq2 := xqX.ext ET2; have qq0 := xq2.cell 0 (.bool bq) rfl; have qq1 := xq2.cell 1 (.slice Aq qq.length cq) rfl; have qf0 := xq2.frozen 0; have qf1 := xq2.frozen 1))
       all_goals (go_wp2_with fail; go_meet; rw [hi4.eq] at hi5; exact ⟨b5, A5, c5, ns, ((EWX.trans ET2).setCell (p := ⟨gq, 0, none⟩) (by show w.heap.size <= gq; omega) _).setCell (p := ⟨gq, 1, none⟩) (by show w.heap.size <= gq; omega) _, (xq2.setA _).setB _, ((xr.ext ET2).far (far_ne (by omega)) _).far (far_ne (by omega)) _, ((xbX.ext ET2).far (far_ne (by omega)) _).far (far_ne (by omega)) _, ((xzX.ext ET2).far (far_ne (by omega)) _).far (far_ne (by omega)) _, ((xuX.ext ET2).far (far_ne (by omega)) _).far (far_ne (by omega)) _, (fin_pair (w := w) (EWX.trans ET2) (by omega) xq2 hr5).1, ((hrrX.ext ET2).setBox xq2 NoWord.two 0 _).setBox (xq2.setA _) NoWord.two 1 _, ((hqsX.ext ET2).setBox xq2 NoWord.two 0 _).setBox (xq2.setA _) NoWord.two 1 _, hc5, hm5, hi5, by omega⟩)
      case rest =>
       clear EWX xqX xr xbX xzX xuX hqqX hqsX hrrX q0 q1;obtain ⟨b9, A9, c9, q9, EWX, xqX, xr, xbX, xzX, xuX, hq9, hrrX, hqsX, hc9, hm9, hi9, hl9⟩ := hcut;have R0 := xr.cell 0 (.bool b7) rfl;have R1 := xr.cell 1 (.slice A7 rr.length c7) rfl;have y0 := xbX.cell 0 (.bool b2) rfl;have y1 := xbX.cell 1 (.slice A2 qs.length c2) rfl
       go_wp2_with fail
       refine (ref_Add rfl rfl hrrX hqsX hc7 hm7 hc2 hm2 (by omega) (by omega)).mono ?_;rintro e wk ⟨b0, A0, c0, r9, rfl, hr0, hc0, hm0, hi0, hl0, hxt⟩;have xr2 := xr.ext hxt;have R0 := xr2.cell 0 (.bool b7) rfl;have R1 := xr2.cell 1 (.slice A7 rr.length c7) rfl;have F0 := xr2.frozen 0;have F1 := xr2.frozen 1
       go_wp2_with fail
       go_meet
       rw [hi7.eq, hi2.eq] at hi0;exact ⟨b9, A9, c9, q9, b0, A0, c0, r9, _, _, ((EWX.trans hxt).setCell (p := ⟨gr, 0, none⟩) (by show w.heap.size <= gr; omega) _).setCell (p := ⟨gr, 1, none⟩) (by show w.heap.size <= gr; omega) _, ((xqX.ext hxt).far (far_ne (by omega)) _).far (far_ne (by omega)) _, (xr2.setA _).setB _, ((xzX.ext hxt).far (far_ne (by omega)) _).far (far_ne (by omega)) _, ((xuX.ext hxt).far (far_ne (by omega)) _).far (far_ne (by omega)) _, ((hq9.ext hxt).setBox xr2 NoWord.two 0 _).setBox (xr2.setA _) NoWord.two 1 _, (fin_pair (w := w) (EWX.trans hxt) (by omega) xr2 hr0).1, hc9, hm9, hc0, hm0, hi9, hi0, Hdm.out, by omega, by omega⟩
    case rest =>
     clear EWX xqX xr xbX xzX xuX hqqX hqsX hrrX;obtain ⟨b9, A9, c9, q9, b0, A0, c0, r9, Q, R, EWX, xqX, xr, xzX, xuX, hq9, hr9, hc9, hm9, hc0, hm0, hi9, hi0, hdm, hl9, hl0⟩ := hcut;have q0 := xqX.cell 0 (.bool b9) rfl;have q1 := xqX.cell 1 (.slice A9 q9.length c9) rfl;have R0 := xr.cell 0 (.bool b0) rfl;have R1 := xr.cell 1 (.slice A0 r9.length c0) rfl;have z0 := xzX.cell 0 (.bool false) rfl;have z1 := xzX.cell 1 (.slice none 0 0) rfl;have f0 := xzX.frozen 0;have f1 := xzX.frozen 1;have u0 := xuX.cell 0 (.bool false) rfl;have u1 := xuX.cell 1 (.slice none 0 0) rfl;have g0 := xuX.frozen 0;have g1 := xuX.frozen 1;have Hdm := Lib.hid hdm;clear hdm
     go_upto_region 10 with fail
     go_region
     all_goals
      go_wp2_with fail
      obtain ⟨W', hW', r1, r2, r3, r4, r5, r6, r7⟩ := fin_two (b := b9) (A := A9) (n := q9.length) (c := c9) (b' := b0) (A' := A0) (n' := r9.length) (c' := c0) (by first | exact EWX | exact EWX.drew | exact EWX.drewN _) (show w.heap.size <= w.heap.size + 1 + 1 by omega) (show w.heap.size <= w.heap.size + 1 + 1 + 1 by omega) (by omega) (by first | exact xzX | exact xzX.ext ((Ext.refl _).drew) | exact xzX.ext ((Ext.refl _).drewN _)) (by first | exact xuX | exact xuX.ext ((Ext.refl _).drew) | exact xuX.ext ((Ext.refl _).drewN _)) (by first | exact hq9 | exact hq9.ext ((Ext.refl _).drew) | exact hq9.ext ((Ext.refl _).drewN _)) (by first | exact hr9 | exact hr9.ext ((Ext.refl _).drew) | exact hr9.ext ((Ext.refl _).drewN _)) _ _ _ _ rfl rfl rfl rfl;rw [<- hW'];exact bodyPost_ret (v := .tuple #[.agg #[.bool b9, .slice A9 q9.length c9], .agg #[.bool b0, .slice A0 r9.length c0], .int .i64 0]) (by simp [results, Tryz.results82, go_sem, r4, r5, r6, r7]) rfl ⟨b9, A9, c9, q9, b0, A0, c0, r9, Q, R, rfl, r1, r2, hc9, hm9, hc0, hm0, hi9, hi0, Hdm.out, hl9, hl0, by first | exact r3 | exact r3.drew | exact r3.drewN _⟩
end
end
section
open Go.RowKit
structure NI (w : World) (z : Int) (L : Nat) (s : Bool) (A : Option Addr) (n c : Nat) : Prop where
 out : ∃ xs : List Nat, xs.length = n /\ Rd w A xs /\ n <= c /\ c <= maxLen /\ IsInt z s xs /\ n <= L
def RetNI (z : Int) (L : Nat) (w : World) (e : Ending) (w' : World) : Prop :=
 ∃ s A n c, e = .returned (.agg #[.bool s, .slice A n c]) /\ NI w' z L s A n c /\ Ext w w'
theorem ival_ab (s : Bool) (xs : List Nat) : (ival s xs).natAbs = val xs := by unfold ival; cases s <;> simp
theorem IsInt.abs {z : Int} {s : Bool} {xs : List Nat} (h : IsInt z s xs) : val xs = z.natAbs := by rw [<- h.eq, ival_ab]
theorem RetI.ni {z : Int} {L L' : Nat} {w w' : World} {e : Ending} (h : RetI z L w e w') (hl : L <= L') : RetNI z L' w e w' := by
 obtain ⟨b, A, c, ys, rfl, hr, hc, hm, hi, hy, hx⟩ := h;exact ⟨b, A, ys.length, c, rfl, ⟨ys, rfl, hr, hc, hm, hi, by omega⟩, hx⟩
section
variable {w w' : World} {z y : Int} {L L' M : Nat} {s t : Bool} {A B : Option Addr} {n c m d : Nat}
theorem NI.ext (h : NI w z L s A n c) (e : Ext w w') : NI w' z L s A n c := by
 obtain ⟨xs, h1, h2, h3⟩ := h.out;exact ⟨xs, h1, h2.ext e, h3⟩
theorem NI.le (h : NI w z L s A n c) (hl : L <= L') : NI w z L' s A n c := by
 obtain ⟨xs, h1, h2, h3, h4, h5, h6⟩ := h.out;exact ⟨xs, h1, h2, h3, h4, h5, by omega⟩
theorem NI.size (h : NI w z L s A n c) : n <= L := by
 obtain ⟨_, _, _, _, _, _, h6⟩ := h.out;exact h6
theorem NI.nil (w : World) (L : Nat) : NI w 0 L false none 0 0 := ⟨[], rfl, Rd.nil _ _, Nat.le_refl _, by unfold maxLen; omega, IsInt.nil false, by omega⟩
theorem NI.zero (h : NI w z L s A n c) : n = 0 ↔ z = 0 := by
 obtain ⟨xs, h1, _, _, _, h5, _⟩ := h.out;rw [<- h5.zero, <- h1];exact List.length_eq_zero_iff
theorem NI.tight (h : NI w z L s A n c) (h' : NI w' y M t B m d) (hz : z.natAbs <= y.natAbs) : NI w z M s A n c := by
 obtain ⟨xs, h1, h2, h3, h4, h5, h6⟩ := h.out;obtain ⟨ys, k1, k2, _, _, k5, k6⟩ := h'.out;refine ⟨xs, h1, h2, h3, h4, h5, ?_⟩;have := nrm_len_le k5.w32 h5.nrm (by rw [h5.abs, k5.abs]; exact hz);omega
theorem NI.tight' (h : NI w z L s A n c) (hz : z.natAbs < 4294967296 ^ M) : NI w z M s A n c := by
 obtain ⟨xs, h1, h2, h3, h4, h5, h6⟩ := h.out;refine ⟨xs, h1, h2, h3, h4, h5, ?_⟩;refine Decidable.byContradiction fun hc => ?_
 have h7 := h5.nrm.ge (by rintro rfl; simp at h1; omega);rw [h5.abs] at h7;have h8 : 4294967296 ^ M <= 4294967296 ^ (xs.length - 1) := Nat.pow_le_pow_right (by omega) (by omega);omega
theorem p_Sign (h : NI w z L s A n c) (hL : L <= 100000) : Calls Tryz.prog 96 #[.agg #[.bool s, .slice A n c]] w fun e w' => e = .returned (.int .i64 z.sign) /\ Ext w w' := by
 obtain ⟨xs, hn, hx, hc, hcm, hi, hl⟩ := h.out;refine (int_Sign hn hx hc hcm (by omega)).mono ?_;rintro e w' ⟨rfl, hxt⟩;rw [hi.eq];exact ⟨rfl, hxt⟩
theorem q_Sign (h : NI w z L s A n c) (hL : L <= 100000) : Calls Tryz.prog 71 #[.agg #[.bool s, .slice A n c]] w fun e w' => e = .returned (.int .i64 z.sign) /\ Ext w w' := by
 obtain ⟨xs, hn, hx, hc, hcm, hi, hl⟩ := h.out;refine (ref_Sign hn hx hc hcm (by omega)).mono ?_;rintro e w' ⟨rfl, hxt⟩;rw [hi.eq];exact ⟨rfl, hxt⟩
theorem p_Norm (h : NI w z L s A n c) (hL : L <= 100000) : Calls Tryz.prog 95 #[.agg #[.bool s, .slice A n c]] w (RetNI z L w) := by
 obtain ⟨xs, hn, hx, hc, hcm, hi, hl⟩ := h.out;refine (int_Norm hn hx hc hcm (by omega)).mono fun e w' hr => ?_
 rw [hi.eq] at hr;exact hr.ni (by omega)
theorem p_Neg (h : NI w z L s A n c) (hL : L <= 100000) : Calls Tryz.prog 106 #[.agg #[.bool s, .slice A n c]] w (RetNI (-z) L w) := by
 obtain ⟨xs, hn, hx, hc, hcm, hi, hl⟩ := h.out;refine (int_Neg hn hx hc hcm (by omega)).mono fun e w' hr => ?_
 rw [hi.eq] at hr;exact hr.ni (by omega)
theorem q_Neg (h : NI w z L s A n c) (hL : L <= 100000) : Calls Tryz.prog 83 #[.agg #[.bool s, .slice A n c]] w (RetNI (-z) L w) := by
 obtain ⟨xs, hn, hx, hc, hcm, hi, hl⟩ := h.out;refine (ref_Neg hn hx hc hcm (by omega)).mono fun e w' hr => ?_
 rw [hi.eq] at hr;exact hr.ni (by omega)
theorem p_Add (h : NI w z L s A n c) (k : NI w y M t B m d) (hL : L <= 50000) (hM : M <= 50000) : Calls Tryz.prog 101 #[.agg #[.bool s, .slice A n c], .agg #[.bool t, .slice B m d]] w (RetNI (z + y) (max L M + 1) w) := by
 obtain ⟨xs, hn, hx, hc, hcm, hi, hl⟩ := h.out;obtain ⟨ys, hm, hy, hd, hdm, hj, hk⟩ := k.out;refine (int_Add hn hm hx hy hc hcm hd hdm (by omega) (by omega)).mono fun e w' hr => ?_
 rw [hi.eq, hj.eq] at hr;exact hr.ni (by omega)
theorem q_Add (h : NI w z L s A n c) (k : NI w y M t B m d) (hL : L <= 50000) (hM : M <= 50000) : Calls Tryz.prog 104 #[.agg #[.bool s, .slice A n c], .agg #[.bool t, .slice B m d]] w (RetNI (z + y) (max L M + 1) w) := by
 obtain ⟨xs, hn, hx, hc, hcm, hi, hl⟩ := h.out;obtain ⟨ys, hm, hy, hd, hdm, hj, hk⟩ := k.out;refine (ref_Add hn hm hx hy hc hcm hd hdm (by omega) (by omega)).mono fun e w' hr => ?_
 rw [hi.eq, hj.eq] at hr;exact hr.ni (by omega)
theorem p_Mul (h : NI w z L s A n c) (k : NI w y M t B m d) (hL : L <= 50000) (hM : M <= 50000) (h64 : min L M < 64) : Calls Tryz.prog 64 #[.agg #[.bool s, .slice A n c], .agg #[.bool t, .slice B m d]] w (RetNI (z * y) (L + M) w) := by
 obtain ⟨xs, hn, hx, hc, hcm, hi, hl⟩ := h.out;obtain ⟨ys, hm, hy, hd, hdm, hj, hk⟩ := k.out;refine (int_Mul_s hn hm hx hy hc hcm hd hdm (by omega) (by omega) (by omega)).mono fun e w' hr => ?_
 rw [hi.eq, hj.eq] at hr;exact hr.ni (by omega)
theorem q_Mul (h : NI w z L s A n c) (k : NI w y M t B m d) (hL : L <= 50000) (hM : M <= 50000) : Calls Tryz.prog 75 #[.agg #[.bool s, .slice A n c], .agg #[.bool t, .slice B m d]] w (RetNI (z * y) (L + M) w) := by
 obtain ⟨xs, hn, hx, hc, hcm, hi, hl⟩ := h.out;obtain ⟨ys, hm, hy, hd, hdm, hj, hk⟩ := k.out;refine (ref_Mul hn hm hx hy hc hcm hd hdm (by omega) (by omega)).mono fun e w' hr => ?_
 rw [hi.eq, hj.eq] at hr;exact hr.ni (by omega)
theorem p_Cmp (h : NI w z L s A n c) (k : NI w y M t B m d) (hL : L <= 50000) (hM : M <= 50000) : Calls Tryz.prog 126 #[.agg #[.bool s, .slice A n c], .agg #[.bool t, .slice B m d]] w fun e w' => e = .returned (.int .i64 (z - y).sign) /\ Ext w w' := by
 obtain ⟨xs, hn, hx, hc, hcm, hi, hl⟩ := h.out;obtain ⟨ys, hm, hy, hd, hdm, hj, hk⟩ := k.out;refine (int_Cmp hn hm hx hy hc hcm hd hdm (by omega) (by omega)).mono ?_;rw [hi.eq, hj.eq];exact fun _ _ h => h
theorem q_Cmp (h : NI w z L s A n c) (k : NI w y M t B m d) (hL : L <= 50000) (hM : M <= 50000) : Calls Tryz.prog 74 #[.agg #[.bool s, .slice A n c], .agg #[.bool t, .slice B m d]] w fun e w' => e = .returned (.int .i64 (z - y).sign) /\ Ext w w' := by
 obtain ⟨xs, hn, hx, hc, hcm, hi, hl⟩ := h.out;obtain ⟨ys, hm, hy, hd, hdm, hj, hk⟩ := k.out;refine (ref_Cmp hn hm hx hy hc hcm hd hdm (by omega) (by omega)).mono ?_;rw [hi.eq, hj.eq];exact fun _ _ h => h
theorem gcd_le_max (a b : Nat) : Nat.gcd a b <= max a b := by
 rcases Nat.eq_zero_or_pos a with h | h
 ·subst h; simp
 ·have := Nat.le_of_dvd h (Nat.gcd_dvd_left a b); omega
theorem gcd_tight {g : Nat} (h : NI w z L s A n c) (k : NI w y M t B m d) {w1 : World} {K : Nat} {u : Bool} {C : Option Addr} {l e : Nat} (hg : NI w1 (g : Int) K u C l e) (hgg : g = Nat.gcd z.natAbs y.natAbs) : NI w1 (g : Int) (max L M) u C l e := by
 have := gcd_le_max z.natAbs y.natAbs
 rcases Nat.le_total z.natAbs y.natAbs with hle | hle
 ·exact (hg.tight k (by simp; omega)).le (by omega)
 ·exact (hg.tight h (by simp; omega)).le (by omega)
theorem p_GCD (h : NI w z L s A n c) (k : NI w y M t B m d) (hL : L <= 3000) (hM : M <= 3000) (hT : Tab w) : Calls Tryz.prog 102 #[.agg #[.bool s, .slice A n c], .agg #[.bool t, .slice B m d]] w (RetNI ((Nat.gcd z.natAbs y.natAbs : Nat) : Int) (max L M) w) := by
 obtain ⟨xs, hn, hx, hc, hcm, hi, hl⟩ := h.out;obtain ⟨ys, hm, hy, hd, hdm, hj, hk⟩ := k.out;refine (int_GCD hn hm hx hy hc hcm hd hdm (by omega) (by omega) hT).mono fun e w' hr => ?_
 rw [hi.abs, hj.abs] at hr;obtain ⟨u, C, l, e', he, hg, hx'⟩ := hr.ni (Nat.le_refl _);exact ⟨u, C, l, e', he, gcd_tight h k hg rfl, hx'⟩
theorem q_GCD (h : NI w z L s A n c) (k : NI w y M t B m d) (hL : L <= 3000) (hM : M <= 3000) : Calls Tryz.prog 73 #[.agg #[.bool s, .slice A n c], .agg #[.bool t, .slice B m d]] w (RetNI ((Nat.gcd z.natAbs y.natAbs : Nat) : Int) (max L M) w) := by
 obtain ⟨xs, hn, hx, hc, hcm, hi, hl⟩ := h.out;obtain ⟨ys, hm, hy, hd, hdm, hj, hk⟩ := k.out;refine (ref_GCD hn hm hx hy hc hcm hd hdm (by omega) (by omega)).mono fun e w' hr => ?_
 rw [hi.abs, hj.abs] at hr;exact hr.ni (by omega)
theorem p_FromInt (k : Int) (h0 : -9223372036854775808 <= k) (h1 : k < 9223372036854775808) : Calls Tryz.prog 66 #[.int .i64 k] w (RetNI k 2 w) :=
 (int_FromInt k h0 h1).mono fun _ _ h => h.ni (Nat.le_refl _)
theorem q_FromInt (k : Int) (h0 : -9223372036854775808 <= k) (h1 : k < 9223372036854775808) : Calls Tryz.prog 81 #[.int .i64 k] w (RetNI k 2 w) :=
 (ref_FromInt k h0 h1).mono fun _ _ h => h.ni (Nat.le_refl _)
def RetND (a b : Int) (L M : Nat) (w : World) (e : Ending) (w' : World) : Prop :=
 ∃ s A n c t B m d, ∃ q r : Int, e = .returned (.tuple #[.agg #[.bool s, .slice A n c], .agg #[.bool t, .slice B m d], .int .i64 0]) /\ NI w' q L s A n c /\ NI w' r M t B m d /\ IsDM a b q r /\ Ext w w'
theorem dm_q_le {a b q r : Int} (h : IsDM a b q r) (hb : b ≠ 0) : q.natAbs <= a.natAbs + 1 /\ r.natAbs <= b.natAbs /\ (b ∣ a -> r = 0 /\ q = a / b /\ q.natAbs <= a.natAbs) := by
 obtain ⟨h1, h2⟩ := h;have hm : ∀ q : Int, (q * b).natAbs = q.natAbs * b.natAbs := fun q => Int.natAbs_mul q b
 have hb1 : 1 <= b.natAbs := by omega
 have hq : q.natAbs <= (q * b).natAbs := by rw [hm]; exact Nat.le_mul_of_pos_right _ hb1
 refine ⟨?_, by omega, fun hd => ?_⟩
 ·-- the remainder has the sign of the divisor
  rcases Nat.lt_or_ge q.natAbs 2 with hs | hs
  ·rcases Nat.lt_or_ge 0 a.natAbs with h0 | h0
   ·omega
   ·omega
  ·have h3 : (q.natAbs - 1) * b.natAbs <= a.natAbs := by
    have h4 : (q * b).natAbs <= a.natAbs + b.natAbs := by omega
    rw [hm] at h4
    have h5 : q.natAbs * b.natAbs = (q.natAbs - 1) * b.natAbs + b.natAbs := by
     rw [show q.natAbs = (q.natAbs - 1) + 1 by omega, Nat.add_mul, Nat.one_mul]; simp
    omega
   have h6 : q.natAbs - 1 <= (q.natAbs - 1) * b.natAbs := Nat.le_mul_of_pos_right _ hb1;omega
 ·have hr : b ∣ r := by
   have : r = a - q * b := by omega
   rw [this];exact Int.dvd_sub hd (Int.dvd_mul_left _ _)
  have h0 : r = 0 := by
   refine Decidable.byContradiction fun hne => ?_
   have := Int.natAbs_dvd_natAbs.2 hr;have := Nat.le_of_dvd (by omega) this;omega
  subst h0;have e : a = q * b := by omega
  refine ⟨rfl, ?_, by rw [e]; exact hq⟩;rw [e, Int.mul_ediv_cancel _ hb]
theorem p_DivMod (h : NI w z L s A n c) (k : NI w y M t B m d) (hL : L <= 9000) (hM : M <= 9000) (h0 : y ≠ 0) : Calls Tryz.prog 136 #[.agg #[.bool s, .slice A n c], .agg #[.bool t, .slice B m d]] w (RetND z y (L + 1) M w) := by
 obtain ⟨xs, hn, hx, hc, hcm, hi, hl⟩ := h.out;obtain ⟨ys, hm, hy, hd, hdm, hj, hk⟩ := k.out;refine (int_DivMod_L divide_ok hn hm hx hy hc hcm hd hdm (by omega) (by omega) (by omega) (by rw [hj.abs]; omega)).mono ?_;rintro e w' ⟨b3, A3, c3, qs, b4, A4, c4, rs, q, r, rfl, hr3, hr4, hc3, hm3, hc4, hm4, hi3, hi4, hdm, hl3, hl4, hxt⟩;rw [hi.eq, hj.eq] at hdm;have hr : NI w' r (max xs.length ys.length) b4 A4 rs.length c4 := ⟨rs, rfl, hr4, hc4, hm4, hi4, hl4⟩;exact ⟨b3, A3, qs.length, c3, b4, A4, rs.length, c4, q, r, rfl, ⟨qs, rfl, hr3, hc3, hm3, hi3, by omega⟩, hr.tight k (dm_q_le hdm h0).2.1, hdm, hxt⟩
theorem q_DivMod (h : NI w z L s A n c) (k : NI w y M t B m d) (hL : L <= 9000) (hM : M <= 9000) (h0 : y ≠ 0) : Calls Tryz.prog 82 #[.agg #[.bool s, .slice A n c], .agg #[.bool t, .slice B m d]] w (RetND z y 60000 M w) := by
 obtain ⟨xs, hn, hx, hc, hcm, hi, hl⟩ := h.out;obtain ⟨ys, hm, hy, hd, hdm, hj, hk⟩ := k.out;refine (ref_DivMod_nz hn hm hx hy hc hcm hd hdm (by omega) (by omega) (by rw [hj.abs]; omega)).mono ?_;rintro e w' ⟨b3, A3, c3, qs, b4, A4, c4, rs, q, r, rfl, hr3, hr4, hc3, hm3, hc4, hm4, hi3, hi4, hdm, hl3, hl4, hxt⟩;rw [hi.eq, hj.eq] at hdm;have hr : NI w' r 60000 b4 A4 rs.length c4 := ⟨rs, rfl, hr4, hc4, hm4, hi4, hl4⟩;exact ⟨b3, A3, qs.length, c3, b4, A4, rs.length, c4, q, r, rfl, ⟨qs, rfl, hr3, hc3, hm3, hi3, hl3⟩, hr.tight k (dm_q_le hdm h0).2.1, hdm, hxt⟩
end
end
section
open Go.RowKit
attribute [local go_sem ↓] Go.wp_at_zero Go.wp_at_succ
structure NR (w : World) (q : Rat) (L : Nat) (s : Bool) (A : Option Addr) (n c : Nat) (t : Bool) (B : Option Addr) (m d : Nat) : Prop where
 num : NI w q.num L s A n c
 den : NI w (q.den : Int) L t B m d
def RetNR (q : Rat) (L : Nat) (w : World) (e : Ending) (w' : World) : Prop :=
 ∃ s A n c t B m d, e = .returned (.agg #[.bool s, .slice A n c, .bool t, .slice B m d]) /\ NR w' q L s A n c t B m d /\ Ext w w'
section
variable {w w' : World} {q p : Rat} {z y : Int} {L L' M : Nat} {s t s' t' : Bool} {A B A' B' : Option Addr} {n c m d n' c' m' d' : Nat}
theorem NR.ext (h : NR w q L s A n c t B m d) (e : Ext w w') : NR w' q L s A n c t B m d := ⟨h.num.ext e, h.den.ext e⟩
theorem NR.le (h : NR w q L s A n c t B m d) (hl : L <= L') : NR w q L' s A n c t B m d := ⟨h.num.le hl, h.den.le hl⟩
theorem NI.one_iff (h : NI w z L s A n c) : z = 1 ↔ s = false /\ n = 1 /\ ∃ b off, A = some ⟨b, off, none⟩ /\ w.cell? ⟨b, off, none⟩ = some (.int .u32 1) := by
 obtain ⟨xs, h1, h2, h3, h4, h5, h6⟩ := h.out;have hv := h5.eq
 constructor
 ·intro hz
  have hi1 : IsInt 1 false [1] := ⟨W32.one (by omega), Nrm.snoc [] (by omega), fun _ => rfl, by simp [ival, val]⟩;rw [hz] at h5;obtain ⟨rfl, rfl⟩ := h5.unique hi1;obtain ⟨b, off, hA, hb, hc⟩ := h2.at_ (i := 0) (by simp);exact ⟨rfl, by simpa using h1.symm, b, off, hA, by simpa using hc⟩
 ·rintro ⟨rfl, rfl, b, off, rfl, hc⟩
  match xs, h1 with
  | [x], _ =>
   obtain ⟨b', off', hA, hb, hc'⟩ := h2.at_ (i := 0) (by simp)
   injection hA with hA
   injection hA with e1 e2
   subst e1; subst e2;simp only [Nat.add_zero, List.getElem_cons_zero] at hc';rw [hc] at hc'
   injection hc' with hc'
   injection hc' with _ hc'
   rw [<- hv];simp [ival, val];omega
end
theorem NoWord.four {a b : Bool} {A B : Option Addr} {n c m d : Nat} : NoWord #[.bool a, .slice A n c, .bool b, .slice B m d] := by
 intro i k h
 match i with
 | 0 => simp at h
 | 1 => simp at h
 | 2 => simp at h
 | 3 => simp at h
 | i + 4 => simp at h
def set4 (w : World) (g : Nat) (a b c d : Value) : World := (((w.setCell ⟨g, 0, none⟩ a).setCell ⟨g, 1, none⟩ b).setCell ⟨g, 2, none⟩ c).setCell ⟨g, 3, none⟩ d
def set2 (w : World) (g : Nat) (a b : Value) : World := (w.setCell ⟨g, 0, none⟩ a).setCell ⟨g, 1, none⟩ b
section
variable {w W w' w2 : World} {z : Int} {q : Rat} {L : Nat} {s t x y : Bool} {A B P Q : Option Addr} {n c m d k l i j g : Nat} {T : TypeId}
theorem NI.set (h : NI w z L s A n c) {cs : Array Value} (hb : Box w g T cs) (hn : NoWord cs) (i : Nat) (u : Value) : NI (w.setCell ⟨g, i, none⟩ u) z L s A n c := by
 obtain ⟨xs, h1, h2, h3⟩ := h.out;exact ⟨xs, h1, h2.setBox hb hn i u, h3⟩
theorem fin_quad (hb : Box w2 g T #[.bool x, .slice P k l, .bool y, .slice Q i j]) :
  Box (set4 w2 g (.bool s) (.slice A n c) (.bool t) (.slice B m d)) g T #[.bool s, .slice A n c, .bool t, .slice B m d] /\
  (∀ z L s' A' n' c', NI w2 z L s' A' n' c' -> NI (set4 w2 g (.bool s) (.slice A n c) (.bool t) (.slice B m d)) z L s' A' n' c') /\
  (∀ W, Ext W w2 -> W.heap.size <= g -> Ext W (set4 w2 g (.bool s) (.slice A n c) (.bool t) (.slice B m d))) /\
  (∀ g' T' cs', g' ≠ g -> Box w2 g' T' cs' -> Box (set4 w2 g (.bool s) (.slice A n c) (.bool t) (.slice B m d)) g' T' cs') := by
 unfold set4;have h1 : Box (w2.setCell ⟨g, 0, none⟩ (.bool s)) g T #[.bool s, .slice P k l, .bool y, .slice Q i j] := hb.set 0 (.bool s);have h2 : Box ((w2.setCell ⟨g, 0, none⟩ (.bool s)).setCell ⟨g, 1, none⟩ (.slice A n c)) g T #[.bool s, .slice A n c, .bool y, .slice Q i j] := h1.set 1 (.slice A n c);have h3 : Box (((w2.setCell ⟨g, 0, none⟩ (.bool s)).setCell ⟨g, 1, none⟩ (.slice A n c)).setCell ⟨g, 2, none⟩ (.bool t)) g T #[.bool s, .slice A n c, .bool t, .slice Q i j] := h2.set 2 (.bool t);refine ⟨h3.set 3 (.slice B m d), fun z L s' A' n' c' h => ?_, fun W e hg => ?_, fun g' T' cs' hg h => ?_⟩
 ·exact (((h.set hb NoWord.four 0 _).set h1 NoWord.four 1 _).set h2 NoWord.four 2 _).set h3 NoWord.four 3 _
 ·exact (((e.setCell hg _).setCell hg _).setCell hg _).setCell hg _
 ·exact (((h.far hg _).far hg _).far hg _).far hg _
theorem fin_dual (hb : Box w2 g T #[.bool x, .slice P k l]) :
  Box (set2 w2 g (.bool s) (.slice A n c)) g T #[.bool s, .slice A n c] /\
  (∀ z L s' A' n' c', NI w2 z L s' A' n' c' -> NI (set2 w2 g (.bool s) (.slice A n c)) z L s' A' n' c') /\
  (∀ W, Ext W w2 -> W.heap.size <= g -> Ext W (set2 w2 g (.bool s) (.slice A n c))) /\
  (∀ g' T' cs', g' ≠ g -> Box w2 g' T' cs' -> Box (set2 w2 g (.bool s) (.slice A n c)) g' T' cs') := by
 unfold set2;have h1 : Box (w2.setCell ⟨g, 0, none⟩ (.bool s)) g T #[.bool s, .slice P k l] := hb.set 0 (.bool s);refine ⟨h1.set 1 (.slice A n c), fun z L s' A' n' c' h => ?_, fun W e hg => ?_, fun g' T' cs' hg h => ?_⟩
 ·exact (h.set hb NoWord.two 0 _).set h1 NoWord.two 1 _
 ·exact (e.setCell hg _).setCell hg _
 ·exact (h.far hg _).far hg _
theorem p_isOne (h : NI w z L s A n c) : Calls Tryz.prog 99 #[.agg #[.bool s, .slice A n c]] w fun e w' => e = .returned (.bool (decide (z = 1))) /\ Ext w w' := by
 have h1 := h.one_iff
 cases s with
 | true =>
  have hd : decide (z = 1) = false := decide_eq_false fun hz => by have := (h1.1 hz).1; cases this
  rw [hd]
  go_enter Tryz.func99, Tryz.ntmps99
  go_wp2
  go_ret
  exact ⟨rfl, (Ext.refl w).alloc _⟩
 | false =>
  by_cases hn : n = 1
  ·subst hn
   obtain ⟨xs, hl, hx, _⟩ := h.out;obtain ⟨b, off, rfl, hb, hc⟩ := hx.at_ (i := 0) (by omega);simp only [Nat.add_zero] at hc
   have hv : (decide (z = 1)) = (((xs[0]'(by omega) : Nat) : Int) == 1) := by
    by_cases hz : z = 1
    ·obtain ⟨_, _, b', off', hA, hc'⟩ := h1.1 hz
     injection hA with hA
     injection hA with e1 e2
     subst e1; subst e2;rw [hc] at hc'
     injection hc' with hc'
     injection hc' with _ hc'
     rw [hc'];simp [hz]
    ·have : ¬ ((xs[0]'(by omega) : Nat) : Int) = 1 := fun h2 => hz (h1.2 ⟨rfl, rfl, b, off, rfl, by rw [hc, h2]⟩)
     rw [decide_eq_false hz];exact (beq_eq_false_iff_ne.2 this).symm
   rw [hv];generalize (xs[0]'(by omega) : Nat) = k at hc;have hc2 := ((Ext.refl w).alloc (.cells #[.bool false, .slice (some ⟨b, off, none⟩) 1 c] 25)).cellv hc;clear h1 h hv hx hl
   go_enter Tryz.func99, Tryz.ntmps99
   go_wp2
   go_ret
   exact ⟨rfl, (Ext.refl w).alloc _⟩
  ·have hd : decide (z = 1) = false := decide_eq_false fun hz => hn (h1.1 hz).2.1
   have hn2 : ((n : Int) == 1) = false := by rw [beq_eq_false_iff_ne]; omega
   rw [hd]
   go_enter Tryz.func99, Tryz.ntmps99
   go_wp2
   go_ret
   exact ⟨rfl, (Ext.refl w).alloc _⟩
end
end
section
open Go.RowKit
section
variable {P : Program} {ops : Array Oper} {Q : Exit -> Act -> World -> Prop} {md : Region.Mode} {W0 : World} {z : Nat}
def wpL (P : Program) (md : Region.Mode) (ops : Array Oper) (Q : Exit -> Act -> World -> Prop) (W0 : World) (z : Nat) : Nat -> Array Bool -> Act -> World -> Prop
 | 0, L, a, w => Region.ready md ops L = [] /\ Q .normal a w
 | f + 1, L, a, w =>
  (Region.ready md ops L = [] -> Q .normal a w) /\
  ∀ i ∈ Region.ready md ops L, wpOp P ops Q i (fun a' w' => ((L.setIfInBounds i true).getD z false = true \/ Ext W0 w') /\ wpL P md ops Q W0 z f (L.setIfInBounds i true) a' w') a w
theorem wpL.any : ∀ (f : Nat) (L : Array Bool) (a : Act) (w : World), wpL P md ops Q W0 z f L a w -> wpAny P md ops Q f L a w
 | 0, _, _, _, h => h
 | f + 1, _, _, _, h => ⟨h.1, fun i hi => wpOp_mono (fun a' w' h' => wpL.any f _ a' w' h'.2) (h.2 i hi)⟩
theorem wpL.start {id : Nat} {a : Act} {w : World} (z : Nat) (hm : P.follows .mixedOrders = true) (hQ : QStill Q) (h : QStill Q -> Ext w w.drew -> wpL P .any ops Q w z ops.size (Array.replicate ops.size false) a w.drew) : (Code.region id ops true).wp P Q a w :=
 wp_region_any hm (wpL.any _ _ _ _ (h hQ (Ext.refl w).drew))
theorem wpL.st {id : Nat} {a : Act} {w : World} (z : Nat) (h : QStill Q -> Ext w w.drew -> wpL P .any ops Q w z ops.size (Array.replicate ops.size false) a w.drew) (hm : P.follows .mixedOrders = true := by kernel_rfl) (hQ : QStill Q := by exact (fun _ _ _ _ _ => ⟨fun h => h, fun h => h⟩)) : (Code.region id ops true).wp P Q a w := wpL.start z hm hQ h
def allBut (n i z : Nat) : Array Bool := ((Array.replicate n true).setIfInBounds i false).setIfInBounds z false
theorem allBut_on {n i z k : Nat} (h1 : k ≠ i) (h2 : k ≠ z) (hk : k < n) : (allBut n i z).getD k false = true := by
 unfold allBut;simp [Ne.symm h1, Ne.symm h2, hk]
def Waits (md : Region.Mode) (ops : Array Oper) (i z : Nat) : Prop := ∃ o, ops[z]? = some o /\ ∃ e ∈ o.after, Region.binds md e = true /\ (allBut ops.size i z).getD e.on false = false
theorem waits_not {i : Nat} {L : Array Bool} (h : Waits md ops i z) (hi : L.getD i true = false) (hz : L.getD z false = false) (hsz : L.size = ops.size) : z ∉ Region.ready md ops L := by
 intro hr;obtain ⟨_, o, ho, hall⟩ := mem_ready.1 hr;obtain ⟨o', ho', e, he, hb, hf⟩ := h;rw [ho] at ho'
 injection ho' with ho'
 subst ho';have h1 := hall e he hb
 have hlt : e.on < L.size := by
  rcases Nat.lt_or_ge e.on L.size with h | h
  ·exact h
  ·simp [h] at h1
 have hne1 : e.on ≠ i := by
  intro hh;rw [<- hh] at hi;simp [hlt] at h1 hi;rw [h1] at hi
  cases hi
 have hne2 : e.on ≠ z := by
  intro hh;rw [hh, hz] at h1
  cases h1
 rw [allBut_on hne1 hne2 (by omega)] at hf
 cases hf
theorem wpL.first {i : Nat} {oi : Oper} {v : Value} (hi : ops[i]? = some oi) (hs : Region.noSelect ops = true) (hiz : i ≠ z) (hw : Waits md ops i z) (hQ : QStill Q) :
  ∀ (f : Nat) (L : Array Bool) (a : Act) (w : World), L.size = ops.size -> L.getD z false = false ->
   (∀ j oj, ops[j]? = some oj -> j ≠ i -> L.getD j true = false -> (∀ e ∈ oj.after, Region.binds md e = true -> e.on ≠ i) -> oi.apart ops oj = true) ->
   i ∈ Region.ready md ops L -> YieldsIf P ops (Ext W0) oi v a -> Ext W0 w ->
   wpL P md ops Q W0 z f (L.setIfInBounds i true) (a.put oi.dst v) w -> wpL P md ops Q W0 z (f + 1) L a w := by
 have hsel := Region.noSelect_spec hs;intro f
 induction f with
 | zero =>
  intro L a w _ _ _ hr hy hS H;refine ⟨(fun h0 => by rw [h0] at hr; cases hr), fun j hj => ?_⟩
  by_cases hji : j = i
  ·subst hji; exact hy.wpOp hi hS ⟨.inr hS, H⟩
  ·have := ready_mono hj hji
   rw [H.1] at this
   cases this
 | succ f ih =>
  intro L a w hsz hzL hfree hr hy hS H;refine ⟨(fun h0 => by rw [h0] at hr; cases hr), fun j hj => ?_⟩
  by_cases hji : j = i
  ·subst hji; exact hy.wpOp hi hS ⟨.inr hS, H⟩
  ·have hiL := (mem_ready.1 hr).1
   have hjz : j ≠ z := fun e => waits_not hw hiL hzL hsz (e ▸ hj)
   obtain ⟨hjun, oj, hoj, hall⟩ := mem_ready.1 hj
   have hnot : ∀ e ∈ oj.after, Region.binds md e = true -> e.on ≠ i := fun e he hb hh => by
    have h1 := hall e he hb;rw [hh] at h1
    have hlt : i < L.size := by
     rcases Nat.lt_or_ge i L.size with h | h
     ·exact h
     ·simp [h] at h1
    simp [hlt] at h1 hiL;rw [h1] at hiL
    cases hiL
   have h1 := H.2 j (ready_mono hj hji);have h2 := wpOp_putIf hoj (hfree j oj hoj hji hjun hnot) (fun cs b => hsel i oi cs b hi) (fun cs b => hsel j oj cs b hoj) (fun c a w => (hQ.put c a _ _ w).1) hy h1;refine wpOp_mono (fun a' w' h3 => ?_) h2;obtain ⟨hy', hS', H'⟩ := h3
   have hzz : ((L.setIfInBounds i true).setIfInBounds j true).getD z false = false := by
    rw [getD_set_ne false hjz, getD_set_ne false hiz]; exact hzL
   have hE : Ext W0 w' := by
    rcases hS' with h | h
    ·rw [hzz] at h; cases h
    ·exact h
   refine ⟨.inr hE, ih (L.setIfInBounds j true) a' w' (by simpa using hsz) (by rw [getD_set_ne false hjz]; exact hzL) ?_ (ready_mono hr (Ne.symm hji)) hy' hE ?_⟩
   ·intro k ok hk hki hun hno
    refine hfree k ok hk hki ?_ hno
    by_cases hjk : j = k
    ·subst hjk; exact hjun
    ·rwa [getD_set_ne true hjk] at hun
   ·rw [Array.setIfInBounds_comm _ _ hji]
    exact H'
def waitsB (md : Region.Mode) (ops : Array Oper) (i z : Nat) : Bool := match ops[z]? with
 | some o => o.after.toList.any fun e => Region.binds md e && !(allBut ops.size i z).getD e.on false
 | none => false
theorem waitsB_spec {i : Nat} (h : waitsB md ops i z = true) : Waits md ops i z := by
 unfold waitsB at h
 cases ho : ops[z]? with
 | none => rw [ho] at h; cases h
 | some o =>
  rw [ho] at h;obtain ⟨e, he, hb⟩ := List.any_eq_true.1 h;rw [Bool.and_eq_true, Bool.not_eq_true'] at hb;exact ⟨o, ho, e, Array.mem_toList_iff.1 he, hb.1, hb.2⟩
theorem wpL.take {f i : Nat} {oi : Oper} {d : Option Tmp} {v : Value} {L : Array Bool} {a : Act} {w : World} (hi : ops[i]? = some oi) (hd : oi.dst = d) (hs : Region.noSelect ops = true) (hf : Region.free md ops L i = true)
  (hr : (Region.ready md ops L).contains i = true) (hz : (i != z && waitsB md ops i z && !L.getD z false && L.size == ops.size) = true) (hQ : QStill Q) (hy : YieldsIf P ops (Ext W0) oi v a) (hS : Ext W0 w)
  (h : wpL P md ops Q W0 z f (L.setIfInBounds i true) (a.put d v) w) : wpL P md ops Q W0 z (f + 1) L a w := by
 subst hd;simp only [Bool.and_eq_true, bne_iff_ne, Bool.not_eq_true', beq_iff_eq] at hz;obtain ⟨⟨⟨h1, h2⟩, h3⟩, h4⟩ := hz;exact wpL.first hi hs h1 (waitsB_spec h2) hQ f L a w h4 h3 (fun j oj hj hne hun hno => Region.free_spec hi hf j oj hj hne hun hno) (by simpa using hr) hy hS h
theorem wpL.tk {f i : Nat} {oi : Oper} {d : Option Tmp} {v : Value} {L : Array Bool} {a : Act} {w : World} (hi : ops[i]? = some oi) (hd : oi.dst = d) (hQ : QStill Q) (hy : YieldsIf P ops (Ext W0) oi v a) (hS : Ext W0 w) (h : wpL P md ops Q W0 z f (L.setIfInBounds i true) (a.put d v) w) (hs : Region.noSelect ops = true := by kernel_rfl) (hf : Region.free md ops L i = true := by kernel_rfl) (hr : (Region.ready md ops L).contains i = true := by kernel_rfl) (hz : (i != z && waitsB md ops i z && !L.getD z false && L.size == ops.size) = true := by kernel_rfl) : wpL P md ops Q W0 z (f + 1) L a w := wpL.take hi hd hs hf hr hz hQ hy hS h
theorem wpL.t {f : Nat} {oi : Oper} {L : Array Bool} {a : Act} {w : World} (i : Nat) (d : Tmp) (v : Value) (hQ : QStill Q) (hy : ∀ w, Ext W0 w -> (execOp a.eval oi).run P w = .ok (.value v) w) (hS : Ext W0 w) (h : wpL P md ops Q W0 z f (L.setIfInBounds i true) (a.put (some d) v) w) (hi : ops[i]? = some oi := by exact rfl) (hd : oi.dst = some d := by exact rfl) (hw : Region.wanted oi (yielded ops a.tmps) = true := by exact rfl) (hs : Region.noSelect ops = true := by kernel_rfl) (hf : Region.free md ops L i = true := by kernel_rfl) (hr : (Region.ready md ops L).contains i = true := by kernel_rfl) (hz : (i != z && waitsB md ops i z && !L.getD z false && L.size == ops.size) = true := by kernel_rfl) : wpL P md ops Q W0 z (f + 1) L a w := wpL.take hi hd hs hf hr hz hQ (Or.inl ⟨hw, hy⟩) hS h
theorem wpL.call {f i : Nat} {o : Oper} {L : Array Bool} {a : Act} {w : World} (ho : ops[i]? = some o) (hr : Region.ready md ops L = [i])
  (h : ∀ K : Act -> World -> Prop, Shut (∀ a' w', Ext W0 w' -> wpL P md ops Q W0 z f (L.setIfInBounds i true) a' w' -> K a' w') -> if Region.wanted o (yielded ops a.tmps) = true then Oper.wp P o a w K Q else K (a.put o.dst undef) w) : wpL P md ops Q W0 z (f + 1) L a w := by
 refine ⟨(fun h0 => by rw [hr] at h0; cases h0), fun j hj => ?_⟩;rw [hr, List.mem_singleton] at hj;subst hj;exact wpOp_step ho fun K hK => h K (fun a' w' e hL => hK a' w' ⟨.inr e, hL⟩)
theorem wpL.cl {f i : Nat} {o : Oper} {L : Array Bool} {a : Act} {w : World} (ho : ops[i]? = some o) (h : ∀ K : Act -> World -> Prop, Shut (∀ a' w', Ext W0 w' -> wpL P md ops Q W0 z f (L.setIfInBounds i true) a' w' -> K a' w') -> if Region.wanted o (yielded ops a.tmps) = true then Oper.wp P o a w K Q else K (a.put o.dst undef) w) (hr : Region.ready md ops L = [i] := by kernel_rfl) : wpL P md ops Q W0 z (f + 1) L a w := wpL.call ho hr h
theorem wpL.tail {f i : Nat} {o : Oper} {L : Array Bool} {a : Act} {w : World} (ho : ops[i]? = some o) (hr : Region.ready md ops L = [i]) (hz : (L.setIfInBounds i true).getD z false = true)
  (h : ∀ K : Act -> World -> Prop, Shut (∀ a' w', wpL P md ops Q W0 z f (L.setIfInBounds i true) a' w' -> K a' w') -> if Region.wanted o (yielded ops a.tmps) = true then Oper.wp P o a w K Q else K (a.put o.dst undef) w) : wpL P md ops Q W0 z (f + 1) L a w := by
 refine ⟨(fun h0 => by rw [hr] at h0; cases h0), fun j hj => ?_⟩;rw [hr, List.mem_singleton] at hj;subst hj;exact wpOp_step ho fun K hK => h K (fun a' w' hL => hK a' w' ⟨.inl hz, hL⟩)
theorem wpL.tl {f i : Nat} {o : Oper} {L : Array Bool} {a : Act} {w : World} (ho : ops[i]? = some o) (h : ∀ K : Act -> World -> Prop, Shut (∀ a' w', wpL P md ops Q W0 z f (L.setIfInBounds i true) a' w' -> K a' w') -> if Region.wanted o (yielded ops a.tmps) = true then Oper.wp P o a w K Q else K (a.put o.dst undef) w) (hr : Region.ready md ops L = [i] := by kernel_rfl) (hz : (L.setIfInBounds i true).getD z false = true := by kernel_rfl) : wpL P md ops Q W0 z (f + 1) L a w := wpL.tail ho hr hz h
theorem wpL.done {L : Array Bool} {a : Act} {w : World} (hr : Region.ready md ops L = []) (h : Q .normal a w) : ∀ f, wpL P md ops Q W0 z f L a w
 | 0 => ⟨hr, h⟩
 | _ + 1 => ⟨fun _ => h, by rw [hr]; simp⟩
end
end
section
open Go.RowKit
attribute [local go_sem ↓] Go.wp_at_zero Go.wp_at_succ
section
variable {w w' : World} {z y : Int} {q : Rat} {L M : Nat} {s t : Bool} {A B : Option Addr} {n c m d : Nat}
theorem p_whole (h : NI w z L s A n c) : Calls Tryz.prog 100 #[.agg #[.bool s, .slice A n c]] w (RetNR (z : Rat) (max L 2) w) := by
 go_enter Tryz.func100, Tryz.ntmps100
 go_upto_region 1 with (fail)
 obtain ⟨W, hW, extW, bx, bz, hz⟩ := box2 w 25 27 #[.bool s, .slice A n c] #[Value.bool false, Value.slice none 0 0, Value.bool false, Value.slice none 0 0];rw [<- hW];clear hW;refine wpL.st 3 (fun hQ ES => ?_);refine wpL.t 0 3 ?v_0 hQ ?y_0 ES ?_
 case y_0 => intro w' hSw;have k00 := (bx.ext hSw).c2;go_simp;try rfl
 try simp only [zP]
 refine wpL.cl (i := 1) rfl (fun K hK => ?_);go_simp
 (go_at_call 66; refine (p_FromInt 1 (by omega) (by omega)).mono ?_; rintro e wa ⟨s1, A1, n1, c1, rfl, h1, hx0⟩; have E0_1 := Ext.trans ES hx0)
 refine hK.out _ _ E0_1 ?_;clear hK K
 try simp only [zP]
 refine wpL.t 2 5 ?v_1 hQ ?y_1 E0_1 ?_
 case y_1 => intro w' hSw;go_simp;try rfl
 try simp only [zP]
 have z0 := (bz.ext E0_1).cell 0 _ rfl;have z1 := (bz.ext E0_1).cell 1 _ rfl;have z2 := (bz.ext E0_1).cell 2 _ rfl;have z3 := (bz.ext E0_1).cell 3 _ rfl;have f0 := (bz.ext E0_1).frozen 0;have f1 := (bz.ext E0_1).frozen 1;have f2 := (bz.ext E0_1).frozen 2;have f3 := (bz.ext E0_1).frozen 3;refine wpL.tl (i := 3) rfl (fun K hK => ?_);go_simp;refine hK.out _ _ ?_;clear hK K
 try simp only [zP]
 refine wpL.done (by kernel_rfl) ?_ _;clear hQ
 go_wp2_with fail
 obtain ⟨b1, b2, b3, _⟩ := fin_quad (s := s) (A := A) (n := n) (c := c) (t := s1) (B := A1) (m := n1) (d := c1) (bz.ext E0_1);have r0 := b1.cell 0 (.bool s) rfl;have r1 := b1.cell 1 (.slice A n c) rfl;have r2 := b1.cell 2 (.bool s1) rfl;have r3 := b1.cell 3 (.slice A1 n1 c1) rfl;unfold set4 at r0 r1 r2 r3;refine bodyPost_ret (v := .agg #[.bool s, .slice A n c, .bool s1, .slice A1 n1 c1]) (by simp [results, Tryz.results100, go_sem, r0, r1, r2, r3]) rfl ⟨s, A, n, c, s1, A1, n1, c1, rfl, ⟨?_, ?_⟩, b3 _ (extW.trans E0_1) (by omega)⟩
 ·exact (b2 _ _ _ _ _ _ (h.ext (extW.trans E0_1))).le (by omega)
 ·exact (b2 _ _ _ _ _ _ h1).le (by omega)
theorem p_FromIntR (k : Int) (h0 : -9223372036854775808 <= k) (h1 : k < 9223372036854775808) : Calls Tryz.prog 69 #[.int .i64 k] w (RetNR (k : Rat) 2 w) := by
 go_enter Tryz.func69, Tryz.ntmps69
 go_upto_region 1 with (fail)
 obtain ⟨W, hW, extW, bz, hz⟩ := box1 w 27 #[Value.bool false, Value.slice none 0 0, Value.bool false, Value.slice none 0 0];rw [<- hW];clear hW
 go_wp2_with fail
 refine (p_FromInt k h0 h1).mono ?_;rintro e wa ⟨s1, A1, n1, c1, rfl, hk, hx0⟩
 go_wp2_with fail
 refine (p_whole hk).mono ?_;rintro e wb ⟨s, A, n, c, t, B, m, d, rfl, hr, hx1⟩;have hE := hx0.trans hx1;have z0 := (bz.ext hE).cell 0 _ rfl;have z1 := (bz.ext hE).cell 1 _ rfl;have z2 := (bz.ext hE).cell 2 _ rfl;have z3 := (bz.ext hE).cell 3 _ rfl;have f0 := (bz.ext hE).frozen 0;have f1 := (bz.ext hE).frozen 1;have f2 := (bz.ext hE).frozen 2;have f3 := (bz.ext hE).frozen 3
 go_wp2_with fail
 obtain ⟨b1, b2, b3, b4⟩ := fin_quad (s := s) (A := A) (n := n) (c := c) (t := t) (B := B) (m := m) (d := d) (bz.ext hE);have r0 := b1.cell 0 (.bool s) rfl;have r1 := b1.cell 1 (.slice A n c) rfl;have r2 := b1.cell 2 (.bool t) rfl;have r3 := b1.cell 3 (.slice B m d) rfl;unfold set4 at r0 r1 r2 r3;refine bodyPost_ret (v := .agg #[.bool s, .slice A n c, .bool t, .slice B m d]) (by simp [results, Tryz.results69, go_sem, r0, r1, r2, r3]) rfl ⟨s, A, n, c, t, B, m, d, rfl, ⟨?_, ?_⟩, b3 _ (extW.trans hE) (by omega)⟩
 ·exact b2 _ _ _ _ _ _ hr.num
 ·exact b2 _ _ _ _ _ _ hr.den
theorem p_SignR (h : NR w q L s A n c t B m d) (hL : L <= 50000) : Calls Tryz.prog 52 #[.agg #[.bool s, .slice A n c, .bool t, .slice B m d]] w fun e w' => e = .returned (.int .i64 q.num.sign) /\ Ext w w' := by
 go_enter Tryz.func52, Tryz.ntmps52
 go_upto_region 1 with (fail)
 obtain ⟨W, hW, extW, bx, hz⟩ := box1 w 27 #[.bool s, .slice A n c, .bool t, .slice B m d];rw [<- hW];clear hW;have x0 := bx.cell 0 (.bool s) rfl;have x1 := bx.cell 1 (.slice A n c) rfl
 go_wp2_with fail
 refine (p_Sign (h.num.ext extW) (by omega)).mono ?_;rintro e wa ⟨rfl, hx0⟩
 go_wp2_with fail
 go_ret
 exact ⟨rfl, extW.trans hx0⟩
theorem p_NegR (h : NR w q L s A n c t B m d) (hL : L <= 100000) : Calls Tryz.prog 56 #[.agg #[.bool s, .slice A n c, .bool t, .slice B m d]] w (RetNR (-q) L w) := by
 go_enter Tryz.func56, Tryz.ntmps56
 go_upto_region 1 with (fail)
 obtain ⟨W, hW, extW, bx, bz, hz⟩ := box2 w 27 27 #[.bool s, .slice A n c, .bool t, .slice B m d] #[Value.bool false, Value.slice none 0 0, Value.bool false, Value.slice none 0 0];rw [<- hW];clear hW;refine wpL.st 7 (fun hQ ES => ?_);refine wpL.t 0 3 ?v_0 hQ ?y_0 ES ?_
 case y_0 => intro w' hSw;go_simp;try rfl
 try simp only [zP]
 refine wpL.t 3 6 ?v_1 hQ ?y_1 ES ?_
 case y_1 => intro w' hSw;go_simp;try rfl
 try simp only [zP]
 refine wpL.t 1 4 ?v_2 hQ ?y_2 ES ?_
 case y_2 => intro w' hSw;have k00 := (bx.ext hSw).c4;go_simp;try rfl
 try simp only [zP]
 refine wpL.t 4 7 ?v_3 hQ ?y_3 ES ?_
 case y_3 => intro w' hSw;have k00 := (bx.ext hSw).c4;go_simp;try rfl
 try simp only [zP]
 refine wpL.cl (i := 2) rfl (fun K hK => ?_);go_simp
 (go_at_call 106; refine (p_Neg (h.num.ext (extW.trans ES)) hL).mono ?_; rintro e wa ⟨s1, A1, n1, c1, rfl, h1, hx0⟩; have E0_1 := Ext.trans ES hx0)
 refine hK.out _ _ E0_1 ?_;clear hK K
 try simp only [zP]
 refine wpL.cl (i := 5) rfl (fun K hK => ?_);go_simp
 (go_at_call 95; refine (p_Norm (h.den.ext (extW.trans E0_1)) hL).mono ?_; rintro e wb ⟨s2, A2, n2, c2, rfl, h2, hx1⟩; have E1_1 := Ext.trans E0_1 hx1)
 refine hK.out _ _ E1_1 ?_;clear hK K
 try simp only [zP]
 refine wpL.t 6 9 ?v_4 hQ ?y_4 E1_1 ?_
 case y_4 => intro w' hSw;go_simp;try rfl
 try simp only [zP]
 have z0 := (bz.ext E1_1).cell 0 _ rfl;have z1 := (bz.ext E1_1).cell 1 _ rfl;have z2 := (bz.ext E1_1).cell 2 _ rfl;have z3 := (bz.ext E1_1).cell 3 _ rfl;have f0 := (bz.ext E1_1).frozen 0;have f1 := (bz.ext E1_1).frozen 1;have f2 := (bz.ext E1_1).frozen 2;have f3 := (bz.ext E1_1).frozen 3;refine wpL.tl (i := 7) rfl (fun K hK => ?_);go_simp;refine hK.out _ _ ?_;clear hK K
 try simp only [zP]
 refine wpL.done (by kernel_rfl) ?_ _;clear hQ
 go_wp2_with fail
 obtain ⟨b1, b2, b3, b4⟩ := fin_quad (s := s1) (A := A1) (n := n1) (c := c1) (t := s2) (B := A2) (m := n2) (d := c2) (bz.ext E1_1);have r0 := b1.cell 0 (.bool s1) rfl;have r1 := b1.cell 1 (.slice A1 n1 c1) rfl;have r2 := b1.cell 2 (.bool s2) rfl;have r3 := b1.cell 3 (.slice A2 n2 c2) rfl;unfold set4 at r0 r1 r2 r3;refine bodyPost_ret (v := .agg #[.bool s1, .slice A1 n1 c1, .bool s2, .slice A2 n2 c2]) (by simp [results, Tryz.results56, go_sem, r0, r1, r2, r3]) rfl ⟨s1, A1, n1, c1, s2, A2, n2, c2, rfl, ⟨?_, ?_⟩, b3 _ (extW.trans E1_1) (by omega)⟩
 ·exact b2 _ _ _ _ _ _ (h1.ext hx1)
 ·exact b2 _ _ _ _ _ _ h2
theorem p_divide (h : NI w z L s A n c) (k : NI w y M t B m d) (hL : L <= 8000) (hM : M <= 8000) (h0 : y ≠ 0) (hd : y ∣ z) : Calls Tryz.prog 103 #[.agg #[.bool s, .slice A n c], .agg #[.bool t, .slice B m d]] w (RetNI (z / y) L w) := by
 go_enter Tryz.func103, Tryz.ntmps103
 go_upto_region 1 with (fail)
 obtain ⟨W, hW, extW, bx, by_, bz, hz⟩ := box3 w 25 25 25 #[.bool s, .slice A n c] #[.bool t, .slice B m d] #[Value.bool false, Value.slice none 0 0];rw [<- hW];clear hW;have y0 := by_.cell 0 (.bool t) rfl;have y1 := by_.cell 1 (.slice B m d) rfl
 go_wp2_with fail
 refine (p_isOne (k.ext extW)).mono ?_;rintro e wa ⟨rfl, hx0⟩;have x0 := (bx.ext hx0).cell 0 (.bool s) rfl;have x1 := (bx.ext hx0).cell 1 (.slice A n c) rfl;have y2 := (by_.ext hx0).cell 0 (.bool t) rfl;have y3 := (by_.ext hx0).cell 1 (.slice B m d) rfl;have z0 := (bz.ext hx0).cell 0 _ rfl;have z1 := (bz.ext hx0).cell 1 _ rfl;have f0 := (bz.ext hx0).frozen 0;have f1 := (bz.ext hx0).frozen 1;clear y0 y1
 by_cases h1 : y = 1
 ·have hd1 : decide (y = 1) = true := decide_eq_true h1
  rw [hd1]
  go_wp2_with fail
  obtain ⟨b1, b2, b3, b4⟩ := fin_dual (s := s) (A := A) (n := n) (c := c) (bz.ext hx0);have r0 := b1.cell 0 (.bool s) rfl;have r1 := b1.cell 1 (.slice A n c) rfl;unfold set2 at r0 r1;refine bodyPost_ret (v := .agg #[.bool s, .slice A n c]) (by simp [results, Tryz.results103, go_sem, r0, r1]) rfl ⟨s, A, n, c, rfl, ?_, b3 _ (extW.trans hx0) (by omega)⟩;rw [h1, Int.ediv_one];exact b2 _ _ _ _ _ _ (h.ext (extW.trans hx0))
 ·have hd1 : decide (y = 1) = false := decide_eq_false h1
  rw [hd1]
  go_wp2_with fail
  refine (p_DivMod (h.ext (extW.trans hx0)) (k.ext (extW.trans hx0)) (by omega) (by omega) h0).mono ?_;rintro e wb ⟨s1, A1, n1, c1, s2, A2, n2, c2, q, r, rfl, hq, hr, hdm, hx1⟩;obtain ⟨_, hqe, hql⟩ := (dm_q_le hdm h0).2.2 hd;rw [hqe] at hq hql;have hq' := hq.tight h (by simpa using hql);clear x0 x1 y2 y3 z0 z1 f0 f1
  go_upto_region 4 with (fail)
  refine at_world (fun V => Ext W V /\ Box V wb.heap.size 25 #[.bool s1, .slice A1 n1 c1] /\ NI V (z / y) L s1 A1 n1 c1) ?_ ?_
  ·obtain ⟨e1, e2, e3⟩ := two_new wb 25 #[.bool s1, .slice A1 n1 c1] #[.bool s2, .slice A2 n2 c2]
   exact ⟨(hx0.trans hx1).trans e1, e2, hq'.ext e1⟩
  generalize wb.heap.size = g5;rintro V ⟨EV, b5, hqV⟩;have x0 := b5.cell 0 _ rfl;have x1 := b5.cell 1 _ rfl;have z0 := (bz.ext EV).cell 0 _ rfl;have z1 := (bz.ext EV).cell 1 _ rfl;have f0 := (bz.ext EV).frozen 0;have f1 := (bz.ext EV).frozen 1
  go_wp2_with fail
  obtain ⟨b1, b2, b3, b4⟩ := fin_dual (s := s1) (A := A1) (n := n1) (c := c1) (bz.ext EV);have r0 := b1.cell 0 (.bool s1) rfl;have r1 := b1.cell 1 (.slice A1 n1 c1) rfl;unfold set2 at r0 r1;refine bodyPost_ret (v := .agg #[.bool s1, .slice A1 n1 c1]) (by simp [results, Tryz.results103, go_sem, r0, r1]) rfl ⟨s1, A1, n1, c1, rfl, ?_, b3 _ (extW.trans EV) (by omega)⟩;exact b2 _ _ _ _ _ _ hqV
end
section
variable {w w' : World} {z y : Int} {q p : Rat} {L M : Nat} {s t s' t' : Bool} {A B A' B' : Option Addr} {n c m d n' c' m' d' : Nat}
theorem cmp_signs (a b d e : Int) (hd : 0 < d) (he : 0 < e) (h : a.sign ≠ b.sign) : (a - b).sign = (a * e - b * d).sign := by
 rcases Int.lt_trichotomy a 0 with ha | ha | ha <;> rcases Int.lt_trichotomy b 0 with hb | hb | hb
 ·exact absurd (by rw [Int.sign_eq_neg_one_of_neg ha, Int.sign_eq_neg_one_of_neg hb]) h
 ·have := Int.mul_neg_of_neg_of_pos ha he
  subst hb;rw [Int.sign_eq_neg_one_of_neg (by omega), Int.sign_eq_neg_one_of_neg (by omega)]
 ·have := Int.mul_neg_of_neg_of_pos ha he
  have := Int.mul_pos hb hd;rw [Int.sign_eq_neg_one_of_neg (by omega), Int.sign_eq_neg_one_of_neg (by omega)]
 ·have := Int.mul_neg_of_neg_of_pos hb hd
  subst ha;rw [Int.sign_eq_one_of_pos (by omega), Int.sign_eq_one_of_pos (by omega)]
 ·subst ha; subst hb; simp
 ·have := Int.mul_pos hb hd
  subst ha;rw [Int.sign_eq_neg_one_of_neg (by omega), Int.sign_eq_neg_one_of_neg (by omega)]
 ·have := Int.mul_pos ha he
  have := Int.mul_neg_of_neg_of_pos hb hd;rw [Int.sign_eq_one_of_pos (by omega), Int.sign_eq_one_of_pos (by omega)]
 ·have := Int.mul_pos ha he
  subst hb;rw [Int.sign_eq_one_of_pos (by omega), Int.sign_eq_one_of_pos (by omega)]
 ·exact absurd (by rw [Int.sign_eq_one_of_pos ha, Int.sign_eq_one_of_pos hb]) h
def ratCmp (q p : Rat) : Int := (q.num * (p.den : Int) - p.num * (q.den : Int)).sign
set_option maxRecDepth 100000 in
theorem p_CmpR (h : NR w q L s A n c t B m d) (k : NR w p M s' A' n' c' t' B' m' d') (hL : L <= 20000) (hM : M <= 20000) (h64 : min L M < 64) : Calls Tryz.prog 85 #[.agg #[.bool s, .slice A n c, .bool t, .slice B m d], .agg #[.bool s', .slice A' n' c', .bool t', .slice B' m' d']] w fun e w' => e = .returned (.int .i64 (ratCmp q p)) /\ Ext w w' := by
 go_enter Tryz.func85, Tryz.ntmps85
 go_upto_region 1 with (fail)
 obtain ⟨W, hW, extW, bx, by_, hz⟩ := box2 w 27 27 #[.bool s, .slice A n c, .bool t, .slice B m d] #[.bool s', .slice A' n' c', .bool t', .slice B' m' d'];rw [<- hW];clear hW
 by_cases hs : q.num.sign = p.num.sign
 ·have Hs := Lib.hid hs
  by_cases h1 : (q.den : Int) = 1
  ·have ho1 : decide ((q.den : Int) = 1) = true := decide_eq_true h1
   have H1 := Lib.hid h1;clear h1
   by_cases h2 : (p.den : Int) = 1
   ·have ho2 : decide ((p.den : Int) = 1) = true := decide_eq_true h2
    have H2 := Lib.hid h2;clear hs h2;have ES0 := Ext.refl W;refine wp_region_held_drew (S := Ext W) (by kernel_rfl) ES0.drew (fun ES => ?_);clear ES0;refine Late.s0 ES (fun hAl hQ => ?_);refine Late.t 0 5 ?v_0 hQ ?y_0 ?_
    case y_0 => intro w' hSw;have k00 := (bx.ext hSw).c4;have k10 := (by_.ext hSw).c4;go_simp;try rfl
    try simp only [zP]
    refine Late.t 2 7 ?v_1 hQ ?y_1 ?_
    case y_1 => intro w' hSw;have k00 := (bx.ext hSw).c4;have k10 := (by_.ext hSw).c4;go_simp;try rfl
    try simp only [zP]
    refine Late.cl (i := 1) rfl hAl hQ (fun w1 e1 E1 K hK => ?_);go_simp
    (go_at_call 52; refine (p_SignR (h.ext (extW.trans E1)) (by omega)).mono ?_; rintro e wk1 ⟨rfl, hx1⟩)
    refine hK.out _ _ hx1 ?_;clear hK K
    try simp only [zP]
    refine Late.cl (i := 3) rfl hAl hQ (fun w3 e3 E3 K hK => ?_);go_simp
    (go_at_call 52; refine (p_SignR (k.ext (extW.trans E3)) (by omega)).mono ?_; rintro e wk2 ⟨rfl, hx3⟩)
    refine hK.out _ _ hx3 ?_;clear hK K
    try simp only [zP]
    have hne : (q.num.sign != p.num.sign) = false := by simp [Hs.out]
    refine Late.t 4 9 ?v_2 hQ ?y_2 ?_
    case y_2 => intro w' hSw;go_simp;try rfl
    try simp only [zP]
    refine Late.t 5 10 ?v_3 hQ ?y_3 ?_
    case y_3 => intro w' hSw;go_simp;try rfl
    try simp only [zP]
    refine Late.t 6 11 ?v_4 hQ ?y_4 ?_
    case y_4 => intro w' hSw;go_simp;try rfl
    try simp only [zP]
    refine Late.t 7 12 ?v_5 hQ ?y_5 ?_
    case y_5 => intro w' hSw;have k00 := (bx.ext hSw).c4;have k10 := (by_.ext hSw).c4;go_simp;try rfl
    try simp only [zP]
    refine Late.cl (i := 8) rfl hAl hQ (fun w8 e8 E8 K hK => ?_);go_simp
    (go_at_call 99; refine (p_isOne (h.den.ext (extW.trans E8))).mono ?_; rintro e wk3 ⟨rfl, hx8⟩; rw [ho1])
    refine hK.out _ _ hx8 ?_;clear hK K
    try simp only [zP]
    refine Late.t 9 14 ?v_6 hQ ?y_6 ?_
    case y_6 => intro w' hSw;go_simp;try rfl
    try simp only [zP]
    refine Late.t 10 15 ?v_7 hQ ?y_7 ?_
    case y_7 => intro w' hSw;go_simp;try rfl
    try simp only [zP]
    refine Late.t 11 16 ?v_8 hQ ?y_8 ?_
    case y_8 => intro w' hSw;have k00 := (bx.ext hSw).c4;have k10 := (by_.ext hSw).c4;go_simp;try rfl
    try simp only [zP]
    refine Late.cl (i := 12) rfl hAl hQ (fun w12 e12 E12 K hK => ?_);go_simp
    (go_at_call 99; refine (p_isOne (k.den.ext (extW.trans E12))).mono ?_; rintro e wk4 ⟨rfl, hx12⟩; rw [ho2])
    refine hK.out _ _ hx12 ?_;clear hK K
    try simp only [zP]
    refine Late.t 13 18 ?v_9 hQ ?y_9 ?_
    case y_9 => intro w' hSw;go_simp;try rfl
    try simp only [zP]
    refine Late.t 14 19 ?v_a hQ ?y_a ?_
    case y_a => intro w' hSw;go_simp;try rfl
    try simp only [zP]
    refine Late.d0 (fun wz ez Ez => ?_);clear hAl hQ ES;replace extW := extW.trans Ez;replace bx := bx.ext Ez;replace by_ := by_.ext Ez;clear Ez ez;have x0 := bx.cell 0 (.bool s) rfl;have x1 := bx.cell 1 (.slice A n c) rfl;have y0 := by_.cell 0 (.bool s') rfl;have y1 := by_.cell 1 (.slice A' n' c') rfl
    go_wp2_with fail
    refine (p_Cmp (h.num.ext extW) (k.num.ext extW) (by omega) (by omega)).mono ?_;rintro e wm ⟨rfl, hxm⟩
    go_wp2_with fail
    go_ret
    refine ⟨?_, extW.trans hxm⟩;unfold ratCmp;rw [H1.out, H2.out, Int.mul_one, Int.mul_one]
    rfl
   ·have ho2 : decide ((p.den : Int) = 1) = false := decide_eq_false h2
    clear hs h2;have ES0 := Ext.refl W;refine wp_region_held_drew (S := Ext W) (by kernel_rfl) ES0.drew (fun ES => ?_);clear ES0;refine Late.s0 ES (fun hAl hQ => ?_);refine Late.t 0 5 ?v_b hQ ?y_b ?_
    case y_b => intro w' hSw;have k00 := (bx.ext hSw).c4;have k10 := (by_.ext hSw).c4;go_simp;try rfl
    try simp only [zP]
    refine Late.t 2 7 ?v_c hQ ?y_c ?_
    case y_c => intro w' hSw;have k00 := (bx.ext hSw).c4;have k10 := (by_.ext hSw).c4;go_simp;try rfl
    try simp only [zP]
    refine Late.cl (i := 1) rfl hAl hQ (fun w1 e1 E1 K hK => ?_);go_simp
    (go_at_call 52; refine (p_SignR (h.ext (extW.trans E1)) (by omega)).mono ?_; rintro e wk1 ⟨rfl, hx1⟩)
    refine hK.out _ _ hx1 ?_;clear hK K
    try simp only [zP]
    refine Late.cl (i := 3) rfl hAl hQ (fun w3 e3 E3 K hK => ?_);go_simp
    (go_at_call 52; refine (p_SignR (k.ext (extW.trans E3)) (by omega)).mono ?_; rintro e wk2 ⟨rfl, hx3⟩)
    refine hK.out _ _ hx3 ?_;clear hK K
    try simp only [zP]
    have hne : (q.num.sign != p.num.sign) = false := by simp [Hs.out]
    refine Late.t 4 9 ?v_d hQ ?y_d ?_
    case y_d => intro w' hSw;go_simp;try rfl
    try simp only [zP]
    refine Late.t 5 10 ?v_e hQ ?y_e ?_
    case y_e => intro w' hSw;go_simp;try rfl
    try simp only [zP]
    refine Late.t 6 11 ?v_f hQ ?y_f ?_
    case y_f => intro w' hSw;go_simp;try rfl
    try simp only [zP]
    refine Late.t 7 12 ?v_g hQ ?y_g ?_
    case y_g => intro w' hSw;have k00 := (bx.ext hSw).c4;have k10 := (by_.ext hSw).c4;go_simp;try rfl
    try simp only [zP]
    refine Late.cl (i := 8) rfl hAl hQ (fun w8 e8 E8 K hK => ?_);go_simp
    (go_at_call 99; refine (p_isOne (h.den.ext (extW.trans E8))).mono ?_; rintro e wk3 ⟨rfl, hx8⟩; rw [ho1])
    refine hK.out _ _ hx8 ?_;clear hK K
    try simp only [zP]
    refine Late.t 9 14 ?v_h hQ ?y_h ?_
    case y_h => intro w' hSw;go_simp;try rfl
    try simp only [zP]
    refine Late.t 10 15 ?v_i hQ ?y_i ?_
    case y_i => intro w' hSw;go_simp;try rfl
    try simp only [zP]
    refine Late.t 11 16 ?v_j hQ ?y_j ?_
    case y_j => intro w' hSw;have k00 := (bx.ext hSw).c4;have k10 := (by_.ext hSw).c4;go_simp;try rfl
    try simp only [zP]
    refine Late.cl (i := 12) rfl hAl hQ (fun w12 e12 E12 K hK => ?_);go_simp
    (go_at_call 99; refine (p_isOne (k.den.ext (extW.trans E12))).mono ?_; rintro e wk4 ⟨rfl, hx12⟩; rw [ho2])
    refine hK.out _ _ hx12 ?_;clear hK K
    try simp only [zP]
    refine Late.t 13 18 ?v_k hQ ?y_k ?_
    case y_k => intro w' hSw;go_simp;try rfl
    try simp only [zP]
    refine Late.t 14 19 ?v_l hQ ?y_l ?_
    case y_l => intro w' hSw;go_simp;try rfl
    try simp only [zP]
    refine Late.d0 (fun wz ez Ez => ?_);clear hAl hQ ES;replace extW := extW.trans Ez;replace bx := bx.ext Ez;replace by_ := by_.ext Ez;clear Ez ez
    go_wp2_with fail
    have ES0 := Ext.refl wz;refine wp_region_held_drew (S := Ext wz) (by kernel_rfl) ES0.drew (fun ES => ?_);clear ES0;refine Late.s0 ES (fun hAl hQ => ?_);refine Late.t 0 25 ?v_m hQ ?y_m ?_
    case y_m => intro w' hSw;go_simp;try rfl
    try simp only [zP]
    refine Late.t 2 27 ?v_n hQ ?y_n ?_
    case y_n => intro w' hSw;go_simp;try rfl
    try simp only [zP]
    refine Late.t 5 30 ?v_o hQ ?y_o ?_
    case y_o => intro w' hSw;go_simp;try rfl
    try simp only [zP]
    refine Late.t 7 32 ?v_p hQ ?y_p ?_
    case y_p => intro w' hSw;go_simp;try rfl
    try simp only [zP]
    refine Late.t 1 26 ?v_q hQ ?y_q ?_
    case y_q => intro w' hSw;have k00 := (bx.ext hSw).c4;have k10 := (by_.ext hSw).c4;go_simp;try rfl
    try simp only [zP]
    refine Late.t 3 28 ?v_r hQ ?y_r ?_
    case y_r => intro w' hSw;have k00 := (bx.ext hSw).c4;have k10 := (by_.ext hSw).c4;go_simp;try rfl
    try simp only [zP]
    refine Late.t 6 31 ?v_s hQ ?y_s ?_
    case y_s => intro w' hSw;have k00 := (bx.ext hSw).c4;have k10 := (by_.ext hSw).c4;go_simp;try rfl
    try simp only [zP]
    refine Late.t 8 33 ?v_t hQ ?y_t ?_
    case y_t => intro w' hSw;have k00 := (bx.ext hSw).c4;have k10 := (by_.ext hSw).c4;go_simp;try rfl
    try simp only [zP]
    refine Late.cl (i := 4) rfl hAl hQ (fun w4 e4 E4 K hK => ?_);go_simp
    (go_at_call 64; refine (p_Mul (h.num.ext (extW.trans E4)) (k.den.ext (extW.trans E4)) (by omega) (by omega) h64).mono ?_; rintro e m1 ⟨s1, A1, n1, c1, rfl, h1, hx4⟩)
    refine hK.out _ _ hx4 ?_;clear hK K
    try simp only [zP]
    refine Late.cl (i := 9) rfl hAl hQ (fun w9 e9 E9 K hK => ?_);go_simp
    (go_at_call 64; refine (p_Mul (k.num.ext (extW.trans E9)) (h.den.ext (extW.trans E9)) (by omega) (by omega) (by omega)).mono ?_; rintro e m2 ⟨s2, A2, n2, c2, rfl, h2, hx9⟩)
    refine hK.out _ _ hx9 ?_;clear hK K
    try simp only [zP]
    refine Late.cl (i := 10) rfl hAl hQ (fun w10 e10 E10 K hK => ?_);go_simp
    (go_at_call 126; refine (p_Cmp (h1.ext (e9.trans (hx9.trans e10))) (h2.ext e10) (by omega) (by omega)).mono ?_; rintro e m3 ⟨rfl, hx10⟩)
    refine hK.out _ _ hx10 ?_;clear hK K
    try simp only [zP]
    refine Late.t 11 4 ?v_u hQ ?y_u ?_
    case y_u => intro w' hSw;go_simp;try rfl
    try simp only [zP]
    refine Late.d0 (fun wz ez Ez => ?_);clear hAl hQ ES
    go_wp2_with fail
    go_ret
    exact ⟨rfl, extW.trans Ez⟩
  ·have ho1 : decide ((q.den : Int) = 1) = false := decide_eq_false h1
   clear hs h1;have ES0 := Ext.refl W;refine wp_region_held_drew (S := Ext W) (by kernel_rfl) ES0.drew (fun ES => ?_);clear ES0;refine Late.s0 ES (fun hAl hQ => ?_);refine Late.t 0 5 ?v_v hQ ?y_v ?_
   case y_v => intro w' hSw;have k00 := (bx.ext hSw).c4;have k10 := (by_.ext hSw).c4;go_simp;try rfl
   try simp only [zP]
   refine Late.t 2 7 ?v_w hQ ?y_w ?_
   case y_w => intro w' hSw;have k00 := (bx.ext hSw).c4;have k10 := (by_.ext hSw).c4;go_simp;try rfl
   try simp only [zP]
   refine Late.cl (i := 1) rfl hAl hQ (fun w1 e1 E1 K hK => ?_);go_simp
   (go_at_call 52; refine (p_SignR (h.ext (extW.trans E1)) (by omega)).mono ?_; rintro e wk1 ⟨rfl, hx1⟩)
   refine hK.out _ _ hx1 ?_;clear hK K
   try simp only [zP]
   refine Late.cl (i := 3) rfl hAl hQ (fun w3 e3 E3 K hK => ?_);go_simp
   (go_at_call 52; refine (p_SignR (k.ext (extW.trans E3)) (by omega)).mono ?_; rintro e wk2 ⟨rfl, hx3⟩)
   refine hK.out _ _ hx3 ?_;clear hK K
   try simp only [zP]
   have hne : (q.num.sign != p.num.sign) = false := by simp [Hs.out]
   refine Late.t 4 9 ?v_x hQ ?y_x ?_
   case y_x => intro w' hSw;go_simp;try rfl
   try simp only [zP]
   refine Late.t 5 10 ?v_y hQ ?y_y ?_
   case y_y => intro w' hSw;go_simp;try rfl
   try simp only [zP]
   refine Late.t 6 11 ?v_z hQ ?y_z ?_
   case y_z => intro w' hSw;go_simp;try rfl
   try simp only [zP]
   refine Late.t 7 12 ?v_10 hQ ?y_10 ?_
   case y_10 => intro w' hSw;have k00 := (bx.ext hSw).c4;have k10 := (by_.ext hSw).c4;go_simp;try rfl
   try simp only [zP]
   refine Late.cl (i := 8) rfl hAl hQ (fun w8 e8 E8 K hK => ?_);go_simp
   (go_at_call 99; refine (p_isOne (h.den.ext (extW.trans E8))).mono ?_; rintro e wk3 ⟨rfl, hx8⟩; rw [ho1])
   refine hK.out _ _ hx8 ?_;clear hK K
   try simp only [zP]
   refine Late.t 9 14 ?v_11 hQ ?y_11 ?_
   case y_11 => intro w' hSw;go_simp;try rfl
   try simp only [zP]
   refine Late.tk (i := 10) (d := some 15) (v := undef) rfl rfl hQ (Or.inr ⟨by kernel_rfl, rfl⟩) ?_
   try simp only [zP]
   refine Late.tk (i := 11) (d := some 16) (v := undef) rfl rfl hQ (Or.inr ⟨by kernel_rfl, rfl⟩) ?_
   try simp only [zP]
   refine Late.tk (i := 12) (d := some 17) (v := undef) rfl rfl hQ (Or.inr ⟨by kernel_rfl, rfl⟩) ?_
   try simp only [zP]
   refine Late.t 13 18 ?v_12 hQ ?y_12 ?_
   case y_12 => intro w' hSw;go_simp;try rfl
   try simp only [zP]
   refine Late.t 14 19 ?v_13 hQ ?y_13 ?_
   case y_13 => intro w' hSw;go_simp;try rfl
   try simp only [zP]
   refine Late.d0 (fun wz ez Ez => ?_);clear hAl hQ ES;replace extW := extW.trans Ez;replace bx := bx.ext Ez;replace by_ := by_.ext Ez;clear Ez ez
   go_wp2_with fail
   have ES0 := Ext.refl wz;refine wp_region_held_drew (S := Ext wz) (by kernel_rfl) ES0.drew (fun ES => ?_);clear ES0;refine Late.s0 ES (fun hAl hQ => ?_);refine Late.t 0 25 ?v_14 hQ ?y_14 ?_
   case y_14 => intro w' hSw;go_simp;try rfl
   try simp only [zP]
   refine Late.t 2 27 ?v_15 hQ ?y_15 ?_
   case y_15 => intro w' hSw;go_simp;try rfl
   try simp only [zP]
   refine Late.t 5 30 ?v_16 hQ ?y_16 ?_
   case y_16 => intro w' hSw;go_simp;try rfl
   try simp only [zP]
   refine Late.t 7 32 ?v_17 hQ ?y_17 ?_
   case y_17 => intro w' hSw;go_simp;try rfl
   try simp only [zP]
   refine Late.t 1 26 ?v_18 hQ ?y_18 ?_
   case y_18 => intro w' hSw;have k00 := (bx.ext hSw).c4;have k10 := (by_.ext hSw).c4;go_simp;try rfl
   try simp only [zP]
   refine Late.t 3 28 ?v_19 hQ ?y_19 ?_
   case y_19 => intro w' hSw;have k00 := (bx.ext hSw).c4;have k10 := (by_.ext hSw).c4;go_simp;try rfl
   try simp only [zP]
   refine Late.t 6 31 ?v_1a hQ ?y_1a ?_
   case y_1a => intro w' hSw;have k00 := (bx.ext hSw).c4;have k10 := (by_.ext hSw).c4;go_simp;try rfl
   try simp only [zP]
   refine Late.t 8 33 ?v_1b hQ ?y_1b ?_
   case y_1b => intro w' hSw;have k00 := (bx.ext hSw).c4;have k10 := (by_.ext hSw).c4;go_simp;try rfl
   try simp only [zP]
   refine Late.cl (i := 4) rfl hAl hQ (fun w4 e4 E4 K hK => ?_);go_simp
   (go_at_call 64; refine (p_Mul (h.num.ext (extW.trans E4)) (k.den.ext (extW.trans E4)) (by omega) (by omega) h64).mono ?_; rintro e m1 ⟨s1, A1, n1, c1, rfl, h1, hx4⟩)
   refine hK.out _ _ hx4 ?_;clear hK K
   try simp only [zP]
   refine Late.cl (i := 9) rfl hAl hQ (fun w9 e9 E9 K hK => ?_);go_simp
   (go_at_call 64; refine (p_Mul (k.num.ext (extW.trans E9)) (h.den.ext (extW.trans E9)) (by omega) (by omega) (by omega)).mono ?_; rintro e m2 ⟨s2, A2, n2, c2, rfl, h2, hx9⟩)
   refine hK.out _ _ hx9 ?_;clear hK K
   try simp only [zP]
   refine Late.cl (i := 10) rfl hAl hQ (fun w10 e10 E10 K hK => ?_);go_simp
   (go_at_call 126; refine (p_Cmp (h1.ext (e9.trans (hx9.trans e10))) (h2.ext e10) (by omega) (by omega)).mono ?_; rintro e m3 ⟨rfl, hx10⟩)
   refine hK.out _ _ hx10 ?_;clear hK K
   try simp only [zP]
   refine Late.t 11 4 ?v_1c hQ ?y_1c ?_
   case y_1c => intro w' hSw;go_simp;try rfl
   try simp only [zP]
   refine Late.d0 (fun wz ez Ez => ?_);clear hAl hQ ES
   go_wp2_with fail
   go_ret
   exact ⟨rfl, extW.trans Ez⟩
 ·have Hs := Lib.hid hs
  have ES0 := Ext.refl W;refine wp_region_held_drew (S := Ext W) (by kernel_rfl) ES0.drew (fun ES => ?_);clear ES0;refine Late.s0 ES (fun hAl hQ => ?_);refine Late.t 0 5 ?v_1d hQ ?y_1d ?_
  case y_1d => intro w' hSw;have k00 := (bx.ext hSw).c4;have k10 := (by_.ext hSw).c4;go_simp;try rfl
  try simp only [zP]
  refine Late.t 2 7 ?v_1e hQ ?y_1e ?_
  case y_1e => intro w' hSw;have k00 := (bx.ext hSw).c4;have k10 := (by_.ext hSw).c4;go_simp;try rfl
  try simp only [zP]
  refine Late.cl (i := 1) rfl hAl hQ (fun w1 e1 E1 K hK => ?_);go_simp
  (go_at_call 52; refine (p_SignR (h.ext (extW.trans E1)) (by omega)).mono ?_; rintro e wk1 ⟨rfl, hx1⟩)
  refine hK.out _ _ hx1 ?_;clear hK K
  try simp only [zP]
  refine Late.cl (i := 3) rfl hAl hQ (fun w3 e3 E3 K hK => ?_);go_simp
  (go_at_call 52; refine (p_SignR (k.ext (extW.trans E3)) (by omega)).mono ?_; rintro e wk2 ⟨rfl, hx3⟩)
  refine hK.out _ _ hx3 ?_;clear hK K
  try simp only [zP]
  have hne : (q.num.sign != p.num.sign) = true := bne_iff_ne.2 Hs.out;refine Late.t 4 9 ?v_1f hQ ?y_1f ?_
  case y_1f => intro w' hSw;go_simp;try rfl
  try simp only [zP]
  refine Late.t 5 10 ?v_1g hQ ?y_1g ?_
  case y_1g => intro w' hSw;go_simp;try rfl
  try simp only [zP]
  refine Late.tk (i := 6) (d := some 11) (v := undef) rfl rfl hQ (Or.inr ⟨by kernel_rfl, rfl⟩) ?_
  try simp only [zP]
  refine Late.tk (i := 7) (d := some 12) (v := undef) rfl rfl hQ (Or.inr ⟨by kernel_rfl, rfl⟩) ?_
  try simp only [zP]
  refine Late.tk (i := 8) (d := some 13) (v := undef) rfl rfl hQ (Or.inr ⟨by kernel_rfl, rfl⟩) ?_
  try simp only [zP]
  refine Late.tk (i := 9) (d := some 14) (v := undef) rfl rfl hQ (Or.inr ⟨by kernel_rfl, rfl⟩) ?_
  try simp only [zP]
  refine Late.tk (i := 10) (d := some 15) (v := undef) rfl rfl hQ (Or.inr ⟨by kernel_rfl, rfl⟩) ?_
  try simp only [zP]
  refine Late.tk (i := 11) (d := some 16) (v := undef) rfl rfl hQ (Or.inr ⟨by kernel_rfl, rfl⟩) ?_
  try simp only [zP]
  refine Late.tk (i := 12) (d := some 17) (v := undef) rfl rfl hQ (Or.inr ⟨by kernel_rfl, rfl⟩) ?_
  try simp only [zP]
  refine Late.tk (i := 13) (d := some 18) (v := undef) rfl rfl hQ (Or.inr ⟨by kernel_rfl, rfl⟩) ?_
  try simp only [zP]
  refine Late.t 14 19 ?v_1h hQ ?y_1h ?_
  case y_1h => intro w' hSw;go_simp;try rfl
  try simp only [zP]
  refine Late.d0 (fun wz ez Ez => ?_);clear hAl hQ ES;replace extW := extW.trans Ez;replace bx := bx.ext Ez;replace by_ := by_.ext Ez;clear Ez ez;have x0 := bx.cell 0 (.bool s) rfl;have x1 := bx.cell 1 (.slice A n c) rfl;have y0 := by_.cell 0 (.bool s') rfl;have y1 := by_.cell 1 (.slice A' n' c') rfl
  go_wp2_with fail
  refine (p_Cmp (h.num.ext extW) (k.num.ext extW) (by omega) (by omega)).mono ?_;rintro e wm ⟨rfl, hxm⟩
  go_wp2_with fail
  go_ret
  refine ⟨?_, extW.trans hxm⟩;unfold ratCmp;rw [cmp_signs _ _ (q.den : Int) (p.den : Int) (by have := q.den_pos; omega) (by have := p.den_pos; omega) Hs.out]
  rfl
end
theorem gcd_tmod (a b : Int) : Nat.gcd b.natAbs (Int.tmod a b).natAbs = Nat.gcd a.natAbs b.natAbs := by
 rw [Int.natAbs_tmod, Nat.gcd_comm a.natAbs, Nat.gcd_rec b.natAbs a.natAbs, Nat.gcd_comm]
theorem tmod_lt (a b : Int) (h : b ≠ 0) : (Int.tmod a b).natAbs < b.natAbs := by
 rw [Int.natAbs_tmod];exact Nat.mod_lt _ (by omega)
section
variable {w : World}
theorem small_gcd (a b : Int) (ha : a ≠ 0) (h1 : a.natAbs < 9223372036854775808) (h2 : b.natAbs < 9223372036854775808) :
  Calls Tryz.prog 156 #[.int .i64 a, .int .i64 b] w fun e w' => e = .returned (.int .i64 ((Nat.gcd a.natAbs b.natAbs : Nat) : Int)) /\ Ext w w' := by
 obtain ⟨G, hG⟩ : ∃ G, Nat.gcd a.natAbs b.natAbs = G := ⟨_, rfl⟩;rw [hG]
 go_enter Tryz.func156, Tryz.ntmps156
 go_wp2
 go_loopw [0, 1] (fun x y V => ∃ c d : Int, x = .int .i64 c /\ y = .int .i64 d /\ Nat.gcd c.natAbs d.natAbs = G /\ c ≠ 0 /\ c.natAbs < 9223372036854775808 /\ d.natAbs < 9223372036854775808 /\ Ext w V) (fun _ y _ => (intOf y).natAbs)
 case atStart => exact ⟨a, b, rfl, rfl, hG, ha, h1, h2, Ext.refl _⟩
 case round =>
  obtain ⟨c, d, rfl, rfl, hg, hc0, hc, hd, hext⟩ := hrel;have Hg := Lib.hid hg;clear hg
  by_cases h0 : d = 0
  ·subst h0
   have hG2 : c.natAbs = G := by have := Hg.out; rwa [Int.natAbs_zero, Nat.gcd_zero_right] at this
   have hmx : max c (-c) = (G : Int) := by omega
   go_wp2
   go_ret
   exact ⟨rfl, hext⟩
  ·have hne : (d == 0) = false := by rw [beq_eq_false_iff_ne]; exact h0
   have hlt := tmod_lt c d h0;have hgt := gcd_tmod c d;obtain ⟨m, hm⟩ : ∃ m, Int.tmod c d = m := ⟨_, rfl⟩;rw [hm] at hlt hgt;have hw : wrap64 (Int.tmod c d) = m := by rw [hm]; exact IntWalk.wrap64_in _ (by omega)
   have hw2 : IntKind.i64.wrap (Int.tmod c d) = m := by rw [hm]; exact IntWalk.i64_in _ (by omega)
   have Hgt := Lib.hid hgt;clear hgt
   go_wp2_with fail
   have ES0 := Ext.refl wr;refine wp_region_held_drew (S := Ext wr) (by kernel_rfl) ES0.drew (fun ES => ?_);clear ES0;refine Late.s0 ES (fun hAl hQ => ?_);refine Late.t 0 7 ?v_0 hQ ?y_0 ?_
   case y_0 => intro w' hSw;go_simp;try rfl
   try simp only [zP]
   refine Late.t 1 8 ?v_1 hQ ?y_1 ?_
   case y_1 => intro w' hSw;go_simp;try rfl
   try simp only [zP]
   refine Late.t 2 9 ?v_2 hQ ?y_2 ?_
   case y_2 => intro w' hSw;go_simp;try rfl
   try simp only [zP]
   refine Late.t 3 10 ?v_3 hQ ?y_3 ?_
   case y_3 => intro w' hSw;go_simp;try rfl
   try simp only [zP]
   refine Late.t 4 0 ?v_4 hQ ?y_4 ?_
   case y_4 => intro w' hSw;go_simp;try rfl
   try simp only [zP]
   refine Late.t 5 1 ?v_5 hQ ?y_5 ?_
   case y_5 => intro w' hSw;go_simp;try rfl
   try simp only [zP]
   refine Late.d0 (fun wz ez Ez => ?_);clear hAl hQ ES
   go_wp2_with fail
   refine ⟨⟨d, m, rfl, rfl, by rw [Hgt.out, Hg.out], h0, hd, by omega, hext.trans Ez⟩, ?_⟩;simp only [intOf];exact hlt
theorem tdiv_abs_le (a b : Int) : (Int.tdiv a b).natAbs <= a.natAbs := by
 rw [Int.natAbs_tdiv]; exact Nat.div_le_self _ _
theorem p_lowest (N D : Int) (hD : 0 < D) (hN1 : N.natAbs < 9223372036854775808) (hD1 : D.natAbs < 9223372036854775808) : Calls Tryz.prog 131 #[.int .i64 N, .int .i64 D] w (RetNR (mkRat N D.natAbs) 2 w) := by
 obtain ⟨e1, e2⟩ := mkRat_parts N (D := D.natAbs) (by omega);obtain ⟨g, hg⟩ : ∃ g, Nat.gcd D.natAbs N.natAbs = g := ⟨_, rfl⟩;have hg' : N.natAbs.gcd D.natAbs = g := by rw [<- hg, Nat.gcd_comm]
 rw [hg'] at e1 e2;have hgD : g ∣ D.natAbs := by rw [<- hg']; exact Nat.gcd_dvd_right _ _
 have hgN : g ∣ N.natAbs := by rw [<- hg']; exact Nat.gcd_dvd_left _ _
 have hg0 : 0 < g := Nat.pos_of_dvd_of_pos hgD (by omega);have hdN : (g : Int) ∣ N := Int.ofNat_dvd_left.2 hgN;have hdD : (g : Int) ∣ D := Int.ofNat_dvd_left.2 hgD;have hne : ((g : Int) == 0) = false := by rw [beq_eq_false_iff_ne]; omega
 have b1 := tdiv_abs_le N g;have b2 := tdiv_abs_le D g;obtain ⟨Q1, hQ1⟩ : ∃ Q, Int.tdiv N g = Q := ⟨_, rfl⟩;obtain ⟨Q2, hQ2⟩ : ∃ Q, Int.tdiv D g = Q := ⟨_, rfl⟩;rw [hQ1] at b1;rw [hQ2] at b2;have w1 : wrap64 (Int.tdiv N g) = Q1 := by rw [hQ1]; exact IntWalk.wrap64_in _ (by omega)
 have w2 : IntKind.i64.wrap (Int.tdiv N g) = Q1 := by rw [hQ1]; exact IntWalk.i64_in _ (by omega)
 have w3 : wrap64 (Int.tdiv D g) = Q2 := by rw [hQ2]; exact IntWalk.wrap64_in _ (by omega)
 have w4 : IntKind.i64.wrap (Int.tdiv D g) = Q2 := by rw [hQ2]; exact IntWalk.i64_in _ (by omega)
 have hgn : ¬ g = 0 := by omega
 have w5 : IntKind.i64.wrap Q1 = Q1 := IntWalk.i64_in _ (by omega);have w6 : IntKind.i64.wrap Q2 = Q2 := IntWalk.i64_in _ (by omega);have w7 : wrap64 Q1 = Q1 := IntWalk.wrap64_in _ (by omega);have w8 : wrap64 Q2 = Q2 := IntWalk.wrap64_in _ (by omega);have hN : (mkRat N D.natAbs).num = Q1 := by rw [e1, <- hQ1, Int.tdiv_eq_ediv_of_dvd hdN]
 have hDD : ((mkRat N D.natAbs).den : Int) = Q2 := by rw [e2, <- hQ2, Int.tdiv_eq_ediv_of_dvd hdD, Int.natCast_ediv, Int.natAbs_of_nonneg (Int.le_of_lt hD)]
 have HN := Lib.hid hN;have HDD := Lib.hid hDD;have Hg := Lib.hid hg;clear hg hg' e1 e2 hgD hgN hdN hdD hN hDD
 go_enter Tryz.func131, Tryz.ntmps131
 go_upto_region 1 with (fail)
 obtain ⟨W, hW, extW, bz, hz⟩ := box1 w 27 #[Value.bool false, Value.slice none 0 0, Value.bool false, Value.slice none 0 0];rw [<- hW];clear hW
 go_wp2_with fail
 refine (small_gcd D N (by omega) hD1 hN1).mono ?_;rintro e wa ⟨rfl, hxa⟩;rw [Hg.out];replace bz := bz.ext hxa;replace extW := extW.trans hxa
 go_wp2_with fail
 refine wpL.st 9 (fun hQ ES => ?_);refine wpL.t 0 9 ?v_0 hQ ?y_0 ES ?_
 case y_0 => intro w' hSw;go_simp;try rfl
 try simp only [zP]
 refine wpL.t 1 10 ?v_1 hQ ?y_1 ES ?_
 case y_1 => intro w' hSw;go_simp;try rfl
 try simp only [zP]
 refine wpL.t 4 13 ?v_2 hQ ?y_2 ES ?_
 case y_2 => intro w' hSw;go_simp;try rfl
 try simp only [zP]
 refine wpL.t 5 14 ?v_3 hQ ?y_3 ES ?_
 case y_3 => intro w' hSw;go_simp;try rfl
 try simp only [zP]
 refine wpL.t 2 11 ?v_4 hQ ?y_4 ES ?_
 case y_4 => intro w' hSw;go_simp;try rfl
 try simp only [zP]
 refine wpL.t 6 15 ?v_5 hQ ?y_5 ES ?_
 case y_5 => intro w' hSw;go_simp;try rfl
 try simp only [zP]
 refine wpL.cl (i := 3) rfl (fun K hK => ?_);go_simp
 (go_at_call 66; refine (p_FromInt Q1 (by omega) (by omega)).mono ?_; rintro e wb ⟨s1, A1, n1, c1, rfl, h1, hx0⟩; have E0_2 := Ext.trans ES hx0)
 refine hK.out _ _ E0_2 ?_;clear hK K
 try simp only [zP]
 refine wpL.cl (i := 7) rfl (fun K hK => ?_);go_simp
 (go_at_call 66; refine (p_FromInt Q2 (by omega) (by omega)).mono ?_; rintro e wc ⟨s2, A2, n2, c2, rfl, h2, hx1⟩; have E1_2 := Ext.trans E0_2 hx1)
 refine hK.out _ _ E1_2 ?_;clear hK K
 try simp only [zP]
 refine wpL.t 8 17 ?v_6 hQ ?y_6 E1_2 ?_
 case y_6 => intro w' hSw;go_simp;try rfl
 try simp only [zP]
 have z0 := (bz.ext E1_2).cell 0 _ rfl;have z1 := (bz.ext E1_2).cell 1 _ rfl;have z2 := (bz.ext E1_2).cell 2 _ rfl;have z3 := (bz.ext E1_2).cell 3 _ rfl;have f0 := (bz.ext E1_2).frozen 0;have f1 := (bz.ext E1_2).frozen 1;have f2 := (bz.ext E1_2).frozen 2;have f3 := (bz.ext E1_2).frozen 3;refine wpL.tl (i := 9) rfl (fun K hK => ?_);go_simp;refine hK.out _ _ ?_;clear hK K
 try simp only [zP]
 refine wpL.done (by kernel_rfl) ?_ _;clear hQ
 go_wp2_with fail
 clear b1 b2;obtain ⟨b1, b2, b3, b4⟩ := fin_quad (s := s1) (A := A1) (n := n1) (c := c1) (t := s2) (B := A2) (m := n2) (d := c2) (bz.ext E1_2);have r0 := b1.cell 0 (.bool s1) rfl;have r1 := b1.cell 1 (.slice A1 n1 c1) rfl;have r2 := b1.cell 2 (.bool s2) rfl;have r3 := b1.cell 3 (.slice A2 n2 c2) rfl;unfold set4 at r0 r1 r2 r3;refine bodyPost_ret (v := .agg #[.bool s1, .slice A1 n1 c1, .bool s2, .slice A2 n2 c2]) (by simp [results, Tryz.results131, go_sem, r0, r1, r2, r3]) rfl ⟨s1, A1, n1, c1, s2, A2, n2, c2, rfl, ⟨?_, ?_⟩, b3 _ (extW.trans E1_2) (by omega)⟩
 ·rw [HN.out]
  exact b2 _ _ _ _ _ _ (h1.ext hx1)
 ·rw [HDD.out]
  exact b2 _ _ _ _ _ _ h2
end
end
end Go.Proofs.YtpeddoaknfjbbaaGreatDoor
