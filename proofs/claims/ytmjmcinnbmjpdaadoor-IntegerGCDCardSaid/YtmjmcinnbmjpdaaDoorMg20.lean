/- Walks and laws, part 20. -/
import Derived.Test.YtmjmcinnbmjpdaaDoorMg2
import Derived.Test.YtmjmcinnbmjpdaaDoorMg13
import Derived.Test.YtmjmcinnbmjpdaaDoorMg14
import Derived.Test.YtmjmcinnbmjpdaaDoorMg17
import Derived.Test.YtmjmcinnbmjpdaaDoorMg19
import Derived.Lib.Strings
namespace Go.Proofs.YtmjmcinnbmjpdaaDoor
open Go.RowKit
attribute [local go_sem ↓] Go.wp_at_zero Go.wp_at_succ
/-- the examples of the document hold. -/
def Awake : Prop := ∀ w : World, Calls Tryd.prog 5 #[] w fun e w' => e = .returned (.bool true) ∧ Ext w w'
section
variable {A B : Option Addr} {c d n m : Nat} {xs ys : List Nat} {w : World} {s t : Bool}
end
end Go.Proofs.YtmjmcinnbmjpdaaDoor
namespace Go.Proofs.YtmjmcinnbmjpdaaDoor
open Go.RowKit
section
variable (s : ByteArray) (w : World)
set_option maxHeartbeats 400000 in
theorem hasp_t (h1 : 1 ≤ s.size) (h2 : s.size ≤ 100000000) (hb : ((s.extract 0 1).toList == [45]) = true) : Calls Tryd.prog 88 #[.string s, .string ⟨#[45]⟩] w fun e w' => e = .returned (.bool true) ∧ w = w' := by
  have t1 : decide ((1 : Int) ≤ (s.size : Int)) = true := decide_eq_true (by omega)
  go_enter Tryd.func88, Tryd.ntmps88
  go_wp2
  go_ret
  exact ⟨rfl, rfl⟩
set_option maxHeartbeats 400000 in
theorem hasp_f (h1 : 1 ≤ s.size) (h2 : s.size ≤ 100000000) (hb : ((s.extract 0 1).toList == [45]) = false) : Calls Tryd.prog 88 #[.string s, .string ⟨#[45]⟩] w fun e w' => e = .returned (.bool false) ∧ w = w' := by
  have t1 : decide ((1 : Int) ≤ (s.size : Int)) = true := decide_eq_true (by omega)
  go_enter Tryd.func88, Tryd.ntmps88
  go_wp2
  go_ret
  exact ⟨rfl, rfl⟩
set_option maxHeartbeats 400000 in
theorem hasp_0 (h1 : s.size = 0) : Calls Tryd.prog 88 #[.string s, .string ⟨#[45]⟩] w fun e w' => e = .returned (.bool false) ∧ w = w' := by
  have t1 : decide ((1 : Int) ≤ (s.size : Int)) = false := decide_eq_false (by omega)
  have h3 : s.size ≤ 0 := by omega
  clear h1
  go_enter Tryd.func88, Tryd.ntmps88
  go_wp2
  go_ret
  exact ⟨rfl, rfl⟩
set_option maxHeartbeats 400000 in
theorem cutl_t (h1 : 1 ≤ s.size) (h2 : s.size ≤ 100000000) (hb : ((s.extract 0 1).toList == [45]) = true) : Calls Tryd.prog 64 #[.string s, .string ⟨#[45]⟩] w fun e w' => e = .returned (.tuple #[.string (s.extract 1 s.size), .bool true]) ∧ w = w' := by
  have Hb := Lib.hid hb
  clear hb
  go_enter Tryd.func64, Tryd.ntmps64
  go_wp2_with (go_at_call 88; refine (hasp_t s _ h1 h2 Hb.out).mono ?_; rintro e w' ⟨rfl, rfl⟩)
  go_ret2
  exact ⟨rfl, rfl⟩
set_option maxHeartbeats 400000 in
theorem cutl_f (h : s.size = 0 ∨ 1 ≤ s.size ∧ s.size ≤ 100000000 ∧ ((s.extract 0 1).toList == [45]) = false) : Calls Tryd.prog 64 #[.string s, .string ⟨#[45]⟩] w fun e w' => e = .returned (.tuple #[.string s, .bool false]) ∧ w = w' := by
  have Hb := Lib.hid h
  clear h
  have hp : Calls Tryd.prog 88 #[.string s, .string ⟨#[45]⟩] w fun e w' => e = .returned (.bool false) ∧ w = w' := by
    rcases Hb.out with h | ⟨h1, h2, h3⟩
    · exact hasp_0 s w h
    · exact hasp_f s w h1 h2 h3
  have Hp := Lib.hid hp
  clear hp
  go_enter Tryd.func64, Tryd.ntmps64
  go_wp2_with (go_at_call 88; refine (Hp.out).mono ?_; rintro e w' ⟨rfl, rfl⟩)
  go_ret2
  exact ⟨rfl, rfl⟩
theorem cut_t (h1 : 1 ≤ s.size) (h2 : s.size ≤ 100000000) (hb : ((s.extract 0 1).toList == [45]) = true) : Calls Tryd.prog 35 #[.string s, .string ⟨#[45]⟩] w fun e w' => e = .returned (.tuple #[.string (s.extract 1 s.size), .bool true]) ∧ w = w' := by
  have Hb := Lib.hid hb
  clear hb
  go_enter Tryd.func35, Tryd.ntmps35
  go_wp2_with (go_at_call 64; refine (cutl_t s _ h1 h2 Hb.out).mono ?_; rintro e w' ⟨rfl, rfl⟩)
  go_ret2
  exact ⟨rfl, rfl⟩
theorem cut_f (h : s.size = 0 ∨ 1 ≤ s.size ∧ s.size ≤ 100000000 ∧ ((s.extract 0 1).toList == [45]) = false) : Calls Tryd.prog 35 #[.string s, .string ⟨#[45]⟩] w fun e w' => e = .returned (.tuple #[.string s, .bool false]) ∧ w = w' := by
  have Hb := Lib.hid h
  clear h
  go_enter Tryd.func35, Tryd.ntmps35
  go_wp2_with (go_at_call 64; refine (cutl_f s _ Hb.out).mono ?_; rintro e w' ⟨rfl, rfl⟩)
  go_ret2
  exact ⟨rfl, rfl⟩
end
set_option maxHeartbeats 400000 in
theorem dec_0 (w : World) : Calls Tryd.prog 36 #[.string ⟨#[48]⟩] w fun e w' => e = .returned (.bool true) ∧ w = w' := by
  go_enter Tryd.func36, Tryd.ntmps36
  go_wp2
  go_loop [6] (fun i => i = .int .i64 0 ∨ i = .int .i64 1) (fun i => 1 - (intOf i).toNat)
  case atStart => exact .inl rfl
  case round =>
    rcases hrel with rfl | rfl
    · go_wp2
      go_round
      case rel => exact .inr rfl
      case measure => simp [intOf]
    · go_wp2
      go_ret
      exact ⟨rfl, rfl⟩
set_option maxHeartbeats 400000 in
theorem dec_01 (w : World) : Calls Tryd.prog 36 #[.string ⟨#[48, 49]⟩] w fun e w' => e = .returned (.bool false) ∧ w = w' := by
  go_enter Tryd.func36, Tryd.ntmps36
  go_wp2
  go_loop [6] (fun i => i = .int .i64 0 ∨ i = .int .i64 1 ∨ i = .int .i64 2) (fun i => 2 - (intOf i).toNat)
  case atStart => exact .inl rfl
  case round =>
    rcases hrel with rfl | rfl | rfl
    · go_wp2
      go_round
      case rel => exact .inr (.inl rfl)
      case measure => simp [intOf]
    · go_wp2
      go_round
      case rel => exact .inr (.inr rfl)
      case measure => simp [intOf]
    · go_wp2
      go_ret
      exact ⟨rfl, rfl⟩
end Go.Proofs.YtmjmcinnbmjpdaaDoor
namespace Go.Proofs.YtmjmcinnbmjpdaaDoor
open Go.RowKit
section
variable {w : World}
theorem ext_m0 : (⟨#[45, 48]⟩ : ByteArray).extract 1 (⟨#[45, 48]⟩ : ByteArray).size = ⟨#[48]⟩ := by decide +kernel
theorem cut_m0 (w : World) : Calls Tryd.prog 35 #[.string ⟨#[45, 48]⟩, .string ⟨#[45]⟩] w fun e w' => e = .returned (.tuple #[.string ⟨#[48]⟩, .bool true]) ∧ w = w' := by
  have h := cut_t ⟨#[45, 48]⟩ w (by decide) (by decide) (by decide +kernel)
  rw [ext_m0] at h
  exact h
set_option maxHeartbeats 1000000 in
theorem parse_m0  :
    Calls Tryd.prog 16 #[.string ⟨#[45, 48]⟩] w (RetIE 0 0 2 w) := by
  have hz := Box.new w 24 #[.bool false, .slice none 0 0]
  have z0 := hz.cell 0 (.bool false) rfl
  have z1 := hz.cell 1 (.slice none 0 0) rfl
  have f0 := hz.frozen 0
  have f1 := hz.frozen 1
  clear hz
  have e1 := (Ext.refl w).alloc (.cells #[.bool false, .slice none 0 0] 24)
  go_enter Tryd.func16, Tryd.ntmps16
  go_wp2_with fail
  refine (cut_m0 _).mono ?_
  rintro e w1 ⟨rfl, rfl⟩
  go_wp2_with fail
  refine (dec_0 _).mono ?_
  rintro e w1 ⟨rfl, rfl⟩
  go_wp2_with fail
  exact bodyPost_ret (v := .tuple #[.agg #[.bool false, .slice none 0 0], .int .i64 2]) (by simp [results, Tryd.results16, go_sem, z0, z1]) rfl ⟨false, none, 0, [], rfl, Rd.nil _ _, by simp, by unfold maxLen; omega, IsInt.nil false, by simp, e1⟩

set_option maxHeartbeats 1000000 in
theorem parse_01  :
    Calls Tryd.prog 16 #[.string ⟨#[48, 49]⟩] w (RetIE 0 0 2 w) := by
  have hz := Box.new w 24 #[.bool false, .slice none 0 0]
  have z0 := hz.cell 0 (.bool false) rfl
  have z1 := hz.cell 1 (.slice none 0 0) rfl
  have f0 := hz.frozen 0
  have f1 := hz.frozen 1
  clear hz
  have e1 := (Ext.refl w).alloc (.cells #[.bool false, .slice none 0 0] 24)
  go_enter Tryd.func16, Tryd.ntmps16
  go_wp2_with fail
  refine (cut_f ⟨#[48, 49]⟩ _ (.inr ⟨by decide, by decide, by decide +kernel⟩)).mono ?_
  rintro e w1 ⟨rfl, rfl⟩
  go_wp2_with fail
  refine (dec_01 _).mono ?_
  rintro e w1 ⟨rfl, rfl⟩
  go_wp2_with fail
  exact bodyPost_ret (v := .tuple #[.agg #[.bool false, .slice none 0 0], .int .i64 2]) (by simp [results, Tryd.results16, go_sem, z0, z1]) rfl ⟨false, none, 0, [], rfl, Rd.nil _ _, by simp, by unfold maxLen; omega, IsInt.nil false, by simp, e1⟩

end
end Go.Proofs.YtmjmcinnbmjpdaaDoor
namespace Go.Proofs.YtmjmcinnbmjpdaaDoor
open Go.RowKit
theorem dm_far7 {q r : Int} (h : IsDM (-7) 2 q r) : q = -4 ∧ r = 1 := by
  unfold IsDM at h
  omega
theorem dm_near7 {q r : Int} (h : IsDM 7 (-2) q r) : q = -4 ∧ r = -1 := by
  unfold IsDM at h
  omega
theorem pow_two32 : (2 : Int) ^ 32 = 4294967296 := by decide
theorem int_01 : IsInt 4294967296 false [0, 1] := ⟨W32.pair (by omega) (by omega), Nrm.snoc [0] (by omega), fun _ => rfl, by simp [ival, val]⟩
theorem val_99 {b : Bool} {xs : List Nat} (h : IsInt 99 b xs) : b = false ∧ val xs = 99 := by
  have := h.eq
  cases b with
  | false => exact ⟨rfl, by simp [ival] at this; omega⟩
  | true => simp [ival] at this; omega
theorem val_ne {z : Int} {b : Bool} {xs : List Nat} (h : IsInt z b xs) (hz : z ≠ 0) : val xs ≠ 0 := by
  have := h.eq
  intro h0
  unfold ival at this
  rw [h0] at this
  cases b <;> simp at this <;> omega
theorem two_new (w : World) (t : TypeId) (a b : Array Value) : Ext w ((w.alloc (.cells a t)).alloc (.cells b t)) ∧ Box ((w.alloc (.cells a t)).alloc (.cells b t)) w.heap.size t a ∧ Box ((w.alloc (.cells a t)).alloc (.cells b t)) (w.heap.size + 1) t b := by
  obtain ⟨W, rfl, h1, h2, h3, _⟩ := box2 w t t a b
  exact ⟨h1, h2, h3⟩
section
variable {A B : Option Addr} {c d n m : Nat} {xs ys : List Nat} {w : World} {s t : Bool}
set_option maxHeartbeats 8000000 in
theorem awake : Awake := by
  intro w
  go_enter Tryd.func5, Tryd.ntmps5
  go_wp2_with fail
  refine (int_FromInt 2 (by omega) (by omega)).mono ?_
  rintro e w1 ⟨b1, A1, c1, s1, rfl, hr1, hc1, hm1, hi1, hl1, ext1⟩
  go_wp2_with fail
  refine (int_Pow (k := 32) multiply_127 rfl hr1 hc1 hm1 (by omega) (by omega) (by omega)).mono ?_
  rintro e w2 ⟨bp, Ap, cp, p, rfl, hrp, hcp, hmp, hip, hlp, ext2⟩
  rw [hi1.eq, pow_two32] at hip
  have hlp2 : p.length ≤ 100000 := by omega
  go_upto_region 2 with (fail)
  refine at_world (fun W => Ext w W ∧ Box W w2.heap.size 24 #[.bool bp, .slice Ap p.length cp] ∧ Rd W Ap p) ⟨(ext1.trans ext2).alloc _, Box.new w2 _ _, hrp.ext ((Ext.refl w2).alloc _)⟩ ?_
  generalize w2.heap.size = gp
  clear hr1 hc1 hm1 hi1 hl1 ext1 ext2 hrp hlp
  rintro W1 ⟨E, xp, rp⟩
  go_wp2_with fail
  refine (int_FromInt (-7) (by omega) (by omega)).mono ?_
  rintro e w3 ⟨b3, A3, c3, s3, rfl, hr3, hc3, hm3, hi3, hl3, ext3⟩
  go_wp2_with fail
  refine (int_FromInt 2 (by omega) (by omega)).mono ?_
  rintro e w4 ⟨b4, A4, c4, s4, rfl, hr4, hc4, hm4, hi4, hl4, ext4⟩
  go_wp2_with fail
  refine (int_DivMod_L divide_two rfl rfl (hr3.ext ext4) hr4 hc3 hm3 hc4 hm4 (by omega) (by omega) hl3 (val_ne hi4 (by omega))).mono ?_
  rintro e w5 ⟨bq, Aq, cq, q, br, Ar, cr, r, zq, zr, rfl, hrq, hrr, hcq, hmq, hcr, hmr, hiq, hir, hdm, hlq, hlr, ext5⟩
  rw [hi3.eq, hi4.eq] at hdm
  obtain ⟨rfl, rfl⟩ := dm_far7 hdm
  have hlq2 : q.length ≤ 100000 := by omega
  have hlr2 : r.length ≤ 100000 := by omega
  go_upto_region 3 with (fail)
  refine at_world (fun W => Ext w W ∧ Box W gp 24 #[.bool bp, .slice Ap p.length cp] ∧ Rd W Ap p ∧ Box W w5.heap.size 24 #[.bool bq, .slice Aq q.length cq] ∧ Rd W Aq q ∧ Box W (w5.heap.size + 1) 24 #[.bool br, .slice Ar r.length cr] ∧ Rd W Ar r) ?_ ?_
  · obtain ⟨e1, e2, e3⟩ := two_new w5 24 #[.bool bq, .slice Aq q.length cq] #[.bool br, .slice Ar r.length cr]
    have eW := (ext3.trans ext4).trans (ext5.trans e1)
    exact ⟨E.trans eW, xp.ext eW, rp.ext eW, e2, hrq.ext e1, e3, hrr.ext e1⟩
  generalize w5.heap.size = gq
  clear hr3 hc3 hm3 hi3 hl3 ext3 hr4 hc4 hm4 hi4 hl4 ext4 ext5 hrq hrr hlq hlr hdm E xp rp
  rintro W2 ⟨E, xp, rp, xq, rq, xr, rr⟩
  go_wp2_with fail
  refine (int_FromInt 7 (by omega) (by omega)).mono ?_
  rintro e w3 ⟨b3', A3', c3', s3', rfl, hr3, hc3, hm3, hi3, hl3, ext3⟩
  go_wp2_with fail
  refine (int_FromInt (-2) (by omega) (by omega)).mono ?_
  rintro e w4 ⟨b4', A4', c4', s4', rfl, hr4, hc4, hm4, hi4, hl4, ext4⟩
  go_wp2_with fail
  refine (int_DivMod_L divide_two rfl rfl (hr3.ext ext4) hr4 hc3 hm3 hc4 hm4 (by omega) (by omega) hl3 (val_ne hi4 (by omega))).mono ?_
  rintro e w5 ⟨bs, As, cs, s, bt, At, ct, t, zs, zt, rfl, hrs, hrt, hcs, hms, hct, hmt, his, hit, hdm, hls, hlt, ext5⟩
  rw [hi3.eq, hi4.eq] at hdm
  obtain ⟨rfl, rfl⟩ := dm_near7 hdm
  have hls2 : s.length ≤ 100000 := by omega
  have hlt2 : t.length ≤ 100000 := by omega
  go_upto_region 4 with (fail)
  refine at_world (fun W => Ext w W ∧ Box W gp 24 #[.bool bp, .slice Ap p.length cp] ∧ Rd W Ap p ∧ Box W gq 24 #[.bool bq, .slice Aq q.length cq] ∧ Rd W Aq q ∧ Box W (gq + 1) 24 #[.bool br, .slice Ar r.length cr] ∧ Rd W Ar r ∧ Box W w5.heap.size 24 #[.bool bs, .slice As s.length cs] ∧ Rd W As s ∧ Box W (w5.heap.size + 1) 24 #[.bool bt, .slice At t.length ct] ∧ Rd W At t) ?_ ?_
  · obtain ⟨e1, e2, e3⟩ := two_new w5 24 #[.bool bs, .slice As s.length cs] #[.bool bt, .slice At t.length ct]
    have eW := (ext3.trans ext4).trans (ext5.trans e1)
    exact ⟨E.trans eW, xp.ext eW, rp.ext eW, xq.ext eW, rq.ext eW, xr.ext eW, rr.ext eW, e2, hrs.ext e1, e3, hrt.ext e1⟩
  generalize w5.heap.size = gs
  clear hr3 hc3 hm3 hi3 hl3 ext3 hr4 hc4 hm4 hi4 hl4 ext4 ext5 hrs hrt hls hlt hdm E xp rp xq rq xr rr
  rintro W3 ⟨E, xp, rp, xq, rq, xr, rr, xs, rs, xt, rt⟩
  go_wp2_with fail
  refine (int_FromInt 99 (by omega) (by omega)).mono ?_
  rintro e w3 ⟨b5, A5, c5, s5, rfl, hr3, hc3, hm3, hi3, hl3, ext3⟩
  obtain ⟨rfl, hv5⟩ := val_99 hi3
  go_wp2_with fail
  refine (Sqrt_99 hr3 hv5 hi3.nrm rfl hc3 hm3 (by omega)).mono ?_
  rintro e w4 ⟨bu, Au, cu, u, rfl, hru, hcu, hmu, hiu, hlu, ext4⟩
  have hlu2 : u.length ≤ 100000 := by omega
  go_upto_region 5 with (fail)
  refine at_world (fun W => Ext w W ∧ Box W gp 24 #[.bool bp, .slice Ap p.length cp] ∧ Rd W Ap p ∧ Box W gq 24 #[.bool bq, .slice Aq q.length cq] ∧ Rd W Aq q ∧ Box W (gq + 1) 24 #[.bool br, .slice Ar r.length cr] ∧ Rd W Ar r ∧ Box W gs 24 #[.bool bs, .slice As s.length cs] ∧ Rd W As s ∧ Box W (gs + 1) 24 #[.bool bt, .slice At t.length ct] ∧ Rd W At t ∧ Box W w4.heap.size 24 #[.bool bu, .slice Au u.length cu] ∧ Rd W Au u) ?_ ?_
  · have e1 := (Ext.refl w4).alloc (.cells #[.bool bu, .slice Au u.length cu] 24)
    have eW := ext3.trans (ext4.trans e1)
    exact ⟨E.trans eW, xp.ext eW, rp.ext eW, xq.ext eW, rq.ext eW, xr.ext eW, rr.ext eW, xs.ext eW, rs.ext eW, xt.ext eW, rt.ext eW, Box.new w4 _ _, hru.ext e1⟩
  generalize w4.heap.size = gu
  clear hr3 hc3 hm3 hi3 hl3 ext3 hv5 ext4 hru hlu E xp rp xq rq xr rr xs rs xt rt
  rintro W4 ⟨E, xp, rp, xq, rq, xr, rr, xs, rs, xt, rt, xu, ru⟩
  go_wp2_with fail
  refine parse_m0.mono ?_
  rintro e w3 ⟨bi, Ai, ci, li, rfl, _, _, _, _, _, ext3⟩
  go_upto_region 6 with (fail)
  refine at_world (fun W => Ext W4 W) (ext3.alloc _) ?_
  generalize w3.heap.size = gi
  clear ext3
  intro W5 ext5
  go_wp2_with fail
  refine parse_01.mono ?_
  rintro e w3 ⟨bk, Ak, ck, lk, rfl, _, _, _, _, _, ext3⟩
  go_upto_region 7 with (fail)
  refine at_world (fun W => Ext W4 W) (ext5.trans (ext3.alloc _)) ?_
  generalize w3.heap.size = gk
  clear ext3 ext5 W5
  intro W6 ext6
  have p0 := (xp.ext ext6).cell 0 (.bool bp) rfl
  have p1 := (xp.ext ext6).cell 1 (.slice Ap p.length cp) rfl
  have hnew := (BlkN.lit W6 [0, 1] #[.int .u32 0, .int .u32 1] rfl).rd0 (W32.pair (by omega) (by omega))
  go_wp2_with fail
  refine (law_same_int (ys := [0, 1]) rfl rfl (rp.ext (ext6.alloc _)) hnew hlp2 hip int_01).mono ?_
  rintro e vp ⟨rfl, hxt⟩
  replace ext6 := (ext6.alloc _).trans hxt
  clear hxt p0 p1 hnew
  have q0 := (xq.ext ext6).cell 0 (.bool bq) rfl
  have q1 := (xq.ext ext6).cell 1 (.slice Aq q.length cq) rfl
  go_wp2_with fail
  refine (law_is rfl (rq.ext ext6) hlq2 hiq (by omega) (by omega)).mono ?_
  rintro e vq ⟨rfl, hxt⟩
  replace ext6 := ext6.trans hxt
  clear hxt q0 q1
  have r0 := (xr.ext ext6).cell 0 (.bool br) rfl
  have r1 := (xr.ext ext6).cell 1 (.slice Ar r.length cr) rfl
  go_wp2_with fail
  refine (law_is rfl (rr.ext ext6) hlr2 hir (by omega) (by omega)).mono ?_
  rintro e vr ⟨rfl, hxt⟩
  replace ext6 := ext6.trans hxt
  clear hxt r0 r1
  have s0 := (xs.ext ext6).cell 0 (.bool bs) rfl
  have s1 := (xs.ext ext6).cell 1 (.slice As s.length cs) rfl
  go_wp2_with fail
  refine (law_is rfl (rs.ext ext6) hls2 his (by omega) (by omega)).mono ?_
  rintro e vs ⟨rfl, hxt⟩
  replace ext6 := ext6.trans hxt
  clear hxt s0 s1
  have t0 := (xt.ext ext6).cell 0 (.bool bt) rfl
  have t1 := (xt.ext ext6).cell 1 (.slice At t.length ct) rfl
  go_wp2_with fail
  refine (law_is rfl (rt.ext ext6) hlt2 hit (by omega) (by omega)).mono ?_
  rintro e vt ⟨rfl, hxt⟩
  replace ext6 := ext6.trans hxt
  clear hxt t0 t1
  have u0 := (xu.ext ext6).cell 0 (.bool bu) rfl
  have u1 := (xu.ext ext6).cell 1 (.slice Au u.length cu) rfl
  go_wp2_with fail
  refine (law_is rfl (ru.ext ext6) hlu2 hiu (by omega) (by omega)).mono ?_
  rintro e vu ⟨rfl, hxt⟩
  replace ext6 := ext6.trans hxt
  clear hxt u0 u1
  go_wp2_with fail
  go_ret
  exact ⟨rfl, E.trans ext6⟩
end
end Go.Proofs.YtmjmcinnbmjpdaaDoor
namespace Go.Proofs.YtmjmcinnbmjpdaaDoor
open Go.RowKit
attribute [local go_sem ↓] Go.wp_at_zero Go.wp_at_succ
theorem ival_abs (s : Bool) (xs : List Nat) : (ival s xs).natAbs = val xs := by unfold ival; cases s <;> simp
theorem dm_divides {a b q r : Int} (hb : 0 < b) (h : IsDM a b q r) (hd : b ∣ a) : r = 0 ∧ a = q * b := by
  obtain ⟨h1, h2⟩ := h
  have h3 : b ∣ r := by
    have : r = a - q * b := by omega
    rw [this]
    exact Int.dvd_sub hd (Int.dvd_mul_left _ _)
  have h0 : r = 0 := by
    rcases h2 with h2 | h2 | h2
    · exact h2
    · obtain ⟨k, rfl⟩ := h3
      exfalso
      have : 0 < k := by
        refine Decidable.byContradiction fun hk => ?_
        have := Int.mul_nonpos_of_nonneg_of_nonpos (Int.le_of_lt hb) (show k ≤ 0 by omega)
        omega
      have := Int.mul_le_mul_of_nonneg_left (show (1 : Int) ≤ k by omega) (Int.le_of_lt hb)
      omega
    · omega
  subst h0
  exact ⟨rfl, by omega⟩
theorem gcd_one {p q x y G : Nat} (hx : x = p * G) (hy : y = q * G) (hg : Nat.gcd x y = G) (h0 : G ≠ 0) : Nat.gcd p q = 1 := by
  rw [hx, hy, Nat.gcd_mul_right] at hg
  have : Nat.gcd p q * G = 1 * G := by omega
  exact Nat.eq_of_mul_eq_mul_right (Nat.pos_of_ne_zero h0) this
theorem gcd_dvd_ival {s : Bool} {xs : List Nat} {G : Nat} (h : G ∣ val xs) : (G : Int) ∣ ival s xs := by
  rw [Int.ofNat_dvd_left, ival_abs]; exact h
theorem val_quot {s t : Bool} {xs ps : List Nat} {G : Nat} (h : ival s xs = ival t ps * (G : Int)) : val xs = val ps * G := by
  have := congrArg Int.natAbs h
  rw [Int.natAbs_mul, ival_abs, ival_abs] at this
  simpa using this
section
variable {A B C : Option Addr} {c d e0 n m l : Nat} {xs ys zs : List Nat} {w : World} {s t u : Bool}
theorem sign_at0 (hz : ival s xs = 0) (hn : xs.length = n) (hx : Rd w A xs) (hc : n ≤ c) (hcm : c ≤ maxLen) (h1 : n ≤ 100000) :
    Calls Tryd.prog 12 #[.agg #[.bool s, .slice A n c]] w fun e w' => e = .returned (.int .i64 0) ∧ Ext w w' := by
  refine (ref_Sign hn hx hc hcm h1).mono ?_
  rintro e w' ⟨rfl, h⟩
  rw [hz]
  exact ⟨rfl, h⟩
theorem sign_at1 (hz : 0 < ival s xs) (hn : xs.length = n) (hx : Rd w A xs) (hc : n ≤ c) (hcm : c ≤ maxLen) (h1 : n ≤ 100000) :
    Calls Tryd.prog 12 #[.agg #[.bool s, .slice A n c]] w fun e w' => e = .returned (.int .i64 1) ∧ Ext w w' := by
  refine (ref_Sign hn hx hc hcm h1).mono ?_
  rintro e w' ⟨rfl, h⟩
  rw [Int.sign_eq_one_of_pos hz]
  exact ⟨rfl, h⟩
set_option maxRecDepth 100000 in
set_option maxHeartbeats 16000000 in
theorem gcd_yes (hn : xs.length = n) (hm : ys.length = m) (hl : zs.length = l) (hx : Rd w A xs) (hy : Rd w B ys) (hz : Rd w C zs) (hc : n ≤ c) (hcm : c ≤ maxLen) (hd : m ≤ d) (hdm : d ≤ maxLen) (he : l ≤ e0) (hem : e0 ≤ maxLen) (h1 : n ≤ 20) (h2 : m ≤ 20) (h3 : l ≤ 20) (hT : Tab w) :
    Calls Tryd.prog 3 #[.agg #[.bool s, .slice A n c], .agg #[.bool t, .slice B m d], .agg #[.bool u, .slice C l e0]] w fun e w' => e = .returned (.bool true) ∧ Ext w w' := by
  have Hn := Lib.hid hn
  have Hm := Lib.hid hm
  have Hl := Lib.hid hl
  have HA := Lib.hid awake
  clear hn hm hl
  go_enter Tryd.func3, Tryd.ntmps3
  go_upto_region 1 with (fail)
  obtain ⟨W0, hW, extW, bx, by_, bz, hzz⟩ := box3 w 24 24 24 #[.bool s, .slice A n c] #[.bool t, .slice B m d] #[.bool u, .slice C l e0]
  rw [← hW]
  clear hW hzz
  go_wp2_with fail
  refine (HA.out _).mono ?_
  rintro e W ⟨rfl, hxt⟩
  replace extW := extW.trans hxt
  replace bx := bx.ext hxt
  replace by_ := by_.ext hxt
  replace bz := bz.ext hxt
  clear hxt
  have bx0 := bx.cell 0 (.bool s) rfl
  have bx1 := bx.cell 1 (.slice A n c) rfl
  have by_0 := by_.cell 0 (.bool t) rfl
  have by_1 := by_.cell 1 (.slice B m d) rfl
  have bz0 := bz.cell 0 (.bool u) rfl
  have bz1 := bz.cell 1 (.slice C l e0) rfl
  have hnb := Box.new W 24 #[.bool s, .slice A n c, .bool t, .slice B m d, .bool u, .slice C l e0]
  have e1 := (Ext.refl W).alloc (.cells #[.bool s, .slice A n c, .bool t, .slice B m d, .bool u, .slice C l e0] 24)
  go_wp2_with fail
  refine (small_yes3 hnb h1 h2 h3).mono ?_
  rintro e W1 ⟨rfl, hxt⟩
  have ES := e1.trans hxt
  clear hnb e1 hxt
  clear bx0 bx1 by_0 by_1 bz0 bz1
  replace bx := bx.ext ES
  replace by_ := by_.ext ES
  replace bz := bz.ext ES
  replace extW := extW.trans ES
  replace hx := hx.ext extW
  replace hy := hy.ext extW
  replace hz := hz.ext extW
  clear ES
  have bx0 := bx.cell 0 (.bool s) rfl
  have bx1 := bx.cell 1 (.slice A n c) rfl
  have by_0 := by_.cell 0 (.bool t) rfl
  have by_1 := by_.cell 1 (.slice B m d) rfl
  have bz0 := bz.cell 0 (.bool u) rfl
  have bz1 := bz.cell 1 (.slice C l e0) rfl
  go_wp2_with fail
  go_cut [7, 8] (fun p q X => ∃ g7 g8 b3 A3 c3 us b4 A4 c4 vs, p = .pointer (some ⟨g7, 0, none⟩) ∧ q = .pointer (some ⟨g8, 0, none⟩) ∧ Ext W1 X ∧ Box X g7 24 #[.bool b3, .slice A3 (List.length us) c3] ∧ Box X g8 24 #[.bool b4, .slice A4 (List.length vs) c4] ∧ Rd X A3 us ∧ Rd X A4 vs ∧ us.length ≤ c3 ∧ c3 ≤ maxLen ∧ vs.length ≤ c4 ∧ c4 ≤ maxLen ∧ us.length ≤ 100 ∧ vs.length ≤ 100)
  case first =>
    have ES0 := Ext.refl W1
    refine wp_region_held_drew (S := Ext W1) (by kernel_rfl) ES0.drew (fun ES => ?_)
    clear ES0
    refine Late.start2 (x := ⟨6, 7, 24, #[Value.bool false, Value.slice none 0 0]⟩) (y := ⟨7, 8, 24, #[Value.bool false, Value.slice none 0 0]⟩) (n := 8) ⟨_, rfl, rfl, rfl, fun a w => by go_simp⟩ ⟨_, rfl, rfl, rfl, fun a w => by go_simp⟩ (fun _ _ _ _ _ => ⟨fun h => h, fun h => h⟩) ES rfl (fun hAl hQ => ?_)
    refine Late.take (i := 0) (d := some 27) (v := ?v0_1) rfl rfl (by kernel_rfl) (by kernel_rfl) (by kernel_rfl) (by kernel_rfl) hQ (Or.inl ⟨by rfl, ?y0_1⟩) ?r0_1
    case y0_1 =>
      intro w' hSw
      have k0 := (bx.ext hSw).cell 0 _ rfl
      have k1 := (bx.ext hSw).cell 1 _ rfl
      go_simp
      try with_reducible rfl
    try simp only [Act.put]
    try simp only [List.setIfInBounds_toArray]
    try simp only [List.set_cons_succ]
    try simp only [List.set_cons_zero]
    refine Late.take (i := 1) (d := some 28) (v := ?v1_2) rfl rfl (by kernel_rfl) (by kernel_rfl) (by kernel_rfl) (by kernel_rfl) hQ (Or.inl ⟨by rfl, ?y1_2⟩) ?r1_2
    case y1_2 =>
      intro w' hSw
      have k0 := (bz.ext hSw).cell 0 _ rfl
      have k1 := (bz.ext hSw).cell 1 _ rfl
      go_simp
      try with_reducible rfl
    try simp only [Act.put]
    try simp only [List.setIfInBounds_toArray]
    try simp only [List.set_cons_succ]
    try simp only [List.set_cons_zero]
    refine Late.take (i := 3) (d := some 30) (v := ?v3_3) rfl rfl (by kernel_rfl) (by kernel_rfl) (by kernel_rfl) (by kernel_rfl) hQ (Or.inl ⟨by rfl, ?y3_3⟩) ?r3_3
    case y3_3 =>
      intro w' hSw
      have k0 := (by_.ext hSw).cell 0 _ rfl
      have k1 := (by_.ext hSw).cell 1 _ rfl
      go_simp
      try with_reducible rfl
    try simp only [Act.put]
    try simp only [List.setIfInBounds_toArray]
    try simp only [List.set_cons_succ]
    try simp only [List.set_cons_zero]
    refine Late.take (i := 4) (d := some 31) (v := ?v4_4) rfl rfl (by kernel_rfl) (by kernel_rfl) (by kernel_rfl) (by kernel_rfl) hQ (Or.inl ⟨by rfl, ?y4_4⟩) ?r4_4
    case y4_4 =>
      intro w' hSw
      have k0 := (bz.ext hSw).cell 0 _ rfl
      have k1 := (bz.ext hSw).cell 1 _ rfl
      go_simp
      try with_reducible rfl
    try simp only [Act.put]
    try simp only [List.setIfInBounds_toArray]
    try simp only [List.set_cons_succ]
    try simp only [List.set_cons_zero]
    refine Late.call (i := 2) rfl (by kernel_rfl) hAl (by kernel_rfl) (by kernel_rfl) (by kernel_rfl) hQ (fun w2 e2 E2 K hK => ?_)
    go_simp
    (go_at_call 7; refine (ref_Mul Hn.out Hl.out (hx.ext E2) (hz.ext E2) hc hcm he hem (by have := Hn.out; have := Hm.out; have := Hl.out; omega) (by have := Hn.out; have := Hm.out; have := Hl.out; omega)).mono ?_; rintro e wa ⟨b3, A3, c3, us, rfl, hr3, hc3, hm3, hi3, hl3, hxa⟩)
    refine hK.out _ _ hxa ?_
    clear hK K
    try simp only [Act.put]
    try simp only [List.setIfInBounds_toArray]
    try simp only [List.set_cons_succ]
    try simp only [List.set_cons_zero]
    refine Late.call (i := 5) rfl (by kernel_rfl) hAl (by kernel_rfl) (by kernel_rfl) (by kernel_rfl) hQ (fun w5 e5 E5 K hK => ?_)
    go_simp
    (go_at_call 7; refine (ref_Mul Hm.out Hl.out (hy.ext E5) (hz.ext E5) hd hdm he hem (by have := Hn.out; have := Hm.out; have := Hl.out; omega) (by have := Hn.out; have := Hm.out; have := Hl.out; omega)).mono ?_; rintro e wb ⟨b4, A4, c4, vs, rfl, hr4, hc4, hm4, hi4, hl4, hxb⟩)
    refine hK.out _ _ hxb ?_
    clear hK K
    try simp only [Act.put]
    try simp only [List.setIfInBounds_toArray]
    try simp only [List.set_cons_succ]
    try simp only [List.set_cons_zero]
    refine Late.finish2 (hAl _ (by simp)) (hAl _ (by simp)) (by decide) (by decide) (by kernel_rfl) (by kernel_rfl) (by kernel_rfl) (fun wz g7 g8 ez Ez lg7 lg8 hne xb1 xb2 => ?_)
    clear hAl hQ ES
    clear bx0 bx1 by_0 by_1 bz0 bz1
    have p10 := xb1.cell 0 (Value.bool false) rfl
    have p11 := xb1.cell 1 (Value.slice none 0 0) rfl
    have f10 := xb1.frozen 0
    have f11 := xb1.frozen 1
    have p20 := xb2.cell 0 (Value.bool false) rfl
    have p21 := xb2.cell 1 (Value.slice none 0 0) rfl
    have f20 := xb2.frozen 0
    have f21 := xb2.frozen 1
    try simp only [Act.put]
    try simp only [List.setIfInBounds_toArray]
    try simp only [List.set_cons_succ]
    try simp only [List.set_cons_zero]
    replace xb1 : Box wz g7 24 #[Value.bool false, Value.slice none 0 0] := xb1
    replace xb2 : Box wz g8 24 #[Value.bool false, Value.slice none 0 0] := xb2
    have hp := put_box (b := b3) (A := A3) (n := List.length us) (c := c3) xb1
    have ra := hp.2.2.1 A3 us (hr3.ext ((e5.trans hxb).trans ez))
    have rb := hp.2.2.1 A4 vs (hr4.ext ez)
    refine wpAnyH_ready (rs := [8]) (by kernel_rfl) (by simp) (AllReadyH.cons rfl (fun K hK => ?_) AllReadyH.nil)
    go_simp
    refine hK.out _ _ (hp.2.2.2 _ Ez lg7) (fun _ => ?_)
    clear hK K
    try simp only [Act.put]
    try simp only [List.setIfInBounds_toArray]
    try simp only [List.set_cons_succ]
    try simp only [List.set_cons_zero]
    refine any_world (fun V => Box V g7 24 #[.bool b3, .slice A3 (List.length us) c3] ∧ Box V g8 24 #[Value.bool false, Value.slice none 0 0] ∧ Rd V A3 us ∧ Rd V A4 vs ∧ Ext W1 V) ⟨hp.1, hp.2.1 _ _ _ (Ne.symm hne) xb2, ra, rb, hp.2.2.2 _ Ez lg7⟩ ?_
    clear hp ra rb xb1 xb2 p10 p11 p20 p21 f10 f11 f20 f21
    rintro V ⟨xb1, xb2, ra, rb, EV⟩
    have p20 := xb2.cell 0 (Value.bool false) rfl
    have p21 := xb2.cell 1 (Value.slice none 0 0) rfl
    have f20 := xb2.frozen 0
    have f21 := xb2.frozen 1
    have hp := put_box (b := b4) (A := A4) (n := List.length vs) (c := c4) xb2
    have rc := hp.2.2.1 A3 us ra
    have rd := hp.2.2.1 A4 vs rb
    refine wpAnyH_ready (rs := [9]) (by kernel_rfl) (by simp) (AllReadyH.cons rfl (fun K hK => ?_) AllReadyH.nil)
    go_simp
    refine hK.out _ _ (hp.2.2.2 _ EV lg8) (fun _ => ?_)
    clear hK K
    try simp only [Act.put]
    try simp only [List.setIfInBounds_toArray]
    try simp only [List.set_cons_succ]
    try simp only [List.set_cons_zero]
    refine any_world (fun U => Box U g7 24 #[.bool b3, .slice A3 (List.length us) c3] ∧ Box U g8 24 #[.bool b4, .slice A4 (List.length vs) c4] ∧ Rd U A3 us ∧ Rd U A4 vs ∧ Ext W1 U) ⟨hp.2.1 _ _ _ hne xb1, hp.1, rc, rd, hp.2.2.2 _ EV lg8⟩ ?_
    clear hp ra rb rc rd xb1 xb2 p20 p21 f20 f21
    rintro U ⟨xb1, xb2, ra, rb, EU⟩
    refine wpAnyH_done (by kernel_rfl) ?_ _
    go_wp2_with fail
    go_meet
    exact ⟨g7, g8, b3, A3, c3, us, b4, A4, c4, vs, rfl, rfl, EU, xb1, xb2, ra, rb, hc3, hm3, hc4, hm4, (by have := Hn.out; have := Hm.out; have := Hl.out; omega), (by have := Hn.out; have := Hm.out; have := Hl.out; omega)⟩
  case rest =>
    clear bx0 bx1 by_0 by_1 bz0 bz1 bx by_ bz hx hy hz hc hcm hd hdm he hem
    obtain ⟨g7, g8, b3, A3, c3, us, b4, A4, c4, vs, rfl, rfl, EX, x7, x8, hr3, hr4, hc3, hm3, hc4, hm4, hl3, hl4⟩ := hcut
    replace extW := extW.trans EX
    clear EX
    have x70 := x7.cell 0 (.bool b3) rfl
    have x71 := x7.cell 1 (.slice A3 us.length c3) rfl
    have x80 := x8.cell 0 (.bool b4) rfl
    have x81 := x8.cell 1 (.slice A4 vs.length c4) rfl
    go_wp2_with fail
    go_cut [9] (fun p Y => ∃ g9 b5 A5 c5 gs, p = .pointer (some ⟨g9, 0, none⟩) ∧ Ext wc Y ∧ Box Y g9 24 #[.bool b5, .slice A5 (List.length gs) c5] ∧ Rd Y A5 gs ∧ gs.length ≤ c5 ∧ c5 ≤ maxLen ∧ IsInt ((Nat.gcd (val us) (val vs) : Nat) : Int) b5 gs ∧ gs.length ≤ 100)
    case first =>
      have ES0 := Ext.refl wc
      refine wp_region_held_drew (S := Ext wc) (by kernel_rfl) ES0.drew (fun ES => ?_)
      clear ES0
      refine Late.start1 (x := ⟨5, 9, 24, #[Value.bool false, Value.slice none 0 0]⟩) (n := 6) ⟨_, rfl, rfl, rfl, fun a w => by go_simp⟩ (fun _ _ _ _ _ => ⟨fun h => h, fun h => h⟩) ES rfl (fun hAl hQ => ?_)
      refine Late.take (i := 0) (d := some 33) (v := ?v0_5) rfl rfl (by kernel_rfl) (by kernel_rfl) (by kernel_rfl) (by kernel_rfl) hQ (Or.inl ⟨by rfl, ?y0_5⟩) ?r0_5
      case y0_5 =>
        intro w' hSw
        have k0 := (x7.ext hSw).cell 0 _ rfl
        have k1 := (x7.ext hSw).cell 1 _ rfl
        go_simp
        try with_reducible rfl
      try simp only [Act.put]
      try simp only [List.setIfInBounds_toArray]
      try simp only [List.set_cons_succ]
      try simp only [List.set_cons_zero]
      refine Late.take (i := 2) (d := some 35) (v := ?v2_6) rfl rfl (by kernel_rfl) (by kernel_rfl) (by kernel_rfl) (by kernel_rfl) hQ (Or.inl ⟨by rfl, ?y2_6⟩) ?r2_6
      case y2_6 =>
        intro w' hSw
        have k0 := (x8.ext hSw).cell 0 _ rfl
        have k1 := (x8.ext hSw).cell 1 _ rfl
        go_simp
        try with_reducible rfl
      try simp only [Act.put]
      try simp only [List.setIfInBounds_toArray]
      try simp only [List.set_cons_succ]
      try simp only [List.set_cons_zero]
      refine Late.call (i := 1) rfl (by kernel_rfl) hAl (by kernel_rfl) (by kernel_rfl) (by kernel_rfl) hQ (fun w1 e1 E1 K hK => ?_)
      go_simp
      (go_at_call 9; refine (law_cp rfl (hr3.ext E1) (by omega)).mono ?_; rintro e wa ⟨A1, c1, rfl, hr1, hc1, hm1, hxa⟩)
      refine hK.out _ _ hxa ?_
      clear hK K
      try simp only [Act.put]
      try simp only [List.setIfInBounds_toArray]
      try simp only [List.set_cons_succ]
      try simp only [List.set_cons_zero]
      refine Late.call (i := 3) rfl (by kernel_rfl) hAl (by kernel_rfl) (by kernel_rfl) (by kernel_rfl) hQ (fun w3 e3 E3 K hK => ?_)
      go_simp
      (go_at_call 9; refine (law_cp rfl (hr4.ext E3) (by omega)).mono ?_; rintro e wb ⟨A2, c2, rfl, hr2, hc2, hm2, hxb⟩)
      refine hK.out _ _ hxb ?_
      clear hK K
      try simp only [Act.put]
      try simp only [List.setIfInBounds_toArray]
      try simp only [List.set_cons_succ]
      try simp only [List.set_cons_zero]
      refine Late.call (i := 4) rfl (by kernel_rfl) hAl (by kernel_rfl) (by kernel_rfl) (by kernel_rfl) hQ (fun w4 e4 E4 K hK => ?_)
      go_simp
      (go_at_call 8; refine (int_GCD rfl rfl (hr1.ext (e3.trans (hxb.trans e4))) (hr2.ext e4) hc1 hm1 hc2 hm2 (by omega) (by omega) (hT.ext (extW.trans E4))).mono ?_; rintro e wd ⟨b5, A5, c5, gs, rfl, hr5, hc5, hm5, hi5, hl5, hxd⟩)
      refine hK.out _ _ hxd ?_
      clear hK K
      try simp only [Act.put]
      try simp only [List.setIfInBounds_toArray]
      try simp only [List.set_cons_succ]
      try simp only [List.set_cons_zero]
      refine Late.finish1 (hAl _ (by simp)) (by kernel_rfl) (fun wz g9 ez Ez lg9 xb1 => ?_)
      clear hAl hQ ES
      clear x70 x71 x80 x81
      have p10 := xb1.cell 0 (Value.bool false) rfl
      have p11 := xb1.cell 1 (Value.slice none 0 0) rfl
      have f10 := xb1.frozen 0
      have f11 := xb1.frozen 1
      try simp only [Act.put]
      try simp only [List.setIfInBounds_toArray]
      try simp only [List.set_cons_succ]
      try simp only [List.set_cons_zero]
      replace xb1 : Box wz g9 24 #[Value.bool false, Value.slice none 0 0] := xb1
      have hp := put_box (b := b5) (A := A5) (n := List.length gs) (c := c5) xb1
      have ra := hp.2.2.1 A5 gs (hr5.ext ez)
      refine wpAnyH_ready (rs := [6]) (by kernel_rfl) (by simp) (AllReadyH.cons rfl (fun K hK => ?_) AllReadyH.nil)
      go_simp
      refine hK.out _ _ (hp.2.2.2 _ Ez lg9) (fun _ => ?_)
      clear hK K
      try simp only [Act.put]
      try simp only [List.setIfInBounds_toArray]
      try simp only [List.set_cons_succ]
      try simp only [List.set_cons_zero]
      refine any_world (fun V => Box V g9 24 #[.bool b5, .slice A5 (List.length gs) c5] ∧ Rd V A5 gs ∧ Ext wc V) ⟨hp.1, ra, hp.2.2.2 _ Ez lg9⟩ ?_
      clear hp ra xb1 p10 p11 f10 f11
      rintro V ⟨xb1, ra, EV⟩
      refine wpAnyH_done (by kernel_rfl) ?_ _
      go_wp2_with fail
      go_meet
      exact ⟨g9, b5, A5, c5, gs, rfl, EV, xb1, ra, hc5, hm5, hi5, by omega⟩
    case rest =>
      clear x70 x71 x80 x81
      obtain ⟨g9, b5, A5, c5, gs, rfl, EY, x9, hr5, hc5, hm5, hi5, hl5⟩ := hcut
      replace x7 := x7.ext EY
      replace x8 := x8.ext EY
      replace hr3 := hr3.ext EY
      replace hr4 := hr4.ext EY
      replace extW := extW.trans EY
      clear EY
      have x70 := x7.cell 0 (.bool b3) rfl
      have x71 := x7.cell 1 (.slice A3 us.length c3) rfl
      have x80 := x8.cell 0 (.bool b4) rfl
      have x81 := x8.cell 1 (.slice A4 vs.length c4) rfl
      have x90 := x9.cell 0 (.bool b5) rfl
      have x91 := x9.cell 1 (.slice A5 gs.length c5) rfl
      go_wp2_with fail
      have ES0 := Ext.refl wc
      refine wp_region_held_drew (S := Ext wc) (by kernel_rfl) ES0.drew (fun ES => ?_)
      clear ES0
      refine Late.start0 (fun _ _ _ _ _ => ⟨fun h => h, fun h => h⟩) ES (fun hAl hQ => ?_)
      refine Late.take (i := 0) (d := some 38) (v := ?v0_7) rfl rfl (by kernel_rfl) (by kernel_rfl) (by kernel_rfl) (by kernel_rfl) hQ (Or.inl ⟨by rfl, ?y0_7⟩) ?r0_7
      case y0_7 =>
        intro w' hSw
        have k0 := (x9.ext hSw).cell 0 _ rfl
        have k1 := (x9.ext hSw).cell 1 _ rfl
        go_simp
        try with_reducible rfl
      try simp only [Act.put]
      try simp only [List.setIfInBounds_toArray]
      try simp only [List.set_cons_succ]
      try simp only [List.set_cons_zero]
      refine Late.take (i := 1) (d := some 39) (v := ?v1_8) rfl rfl (by kernel_rfl) (by kernel_rfl) (by kernel_rfl) (by kernel_rfl) hQ (Or.inl ⟨by rfl, ?y1_8⟩) ?r1_8
      case y1_8 =>
        intro w' hSw
        have k0 := (x7.ext hSw).cell 0 _ rfl
        have k1 := (x7.ext hSw).cell 1 _ rfl
        go_simp
        try with_reducible rfl
      try simp only [Act.put]
      try simp only [List.setIfInBounds_toArray]
      try simp only [List.set_cons_succ]
      try simp only [List.set_cons_zero]
      refine Late.take (i := 2) (d := some 40) (v := ?v2_9) rfl rfl (by kernel_rfl) (by kernel_rfl) (by kernel_rfl) (by kernel_rfl) hQ (Or.inl ⟨by rfl, ?y2_9⟩) ?r2_9
      case y2_9 =>
        intro w' hSw
        have k0 := (x8.ext hSw).cell 0 _ rfl
        have k1 := (x8.ext hSw).cell 1 _ rfl
        go_simp
        try with_reducible rfl
      try simp only [Act.put]
      try simp only [List.setIfInBounds_toArray]
      try simp only [List.set_cons_succ]
      try simp only [List.set_cons_zero]
      refine Late.call (i := 3) rfl (by kernel_rfl) hAl (by kernel_rfl) (by kernel_rfl) (by kernel_rfl) hQ (fun w3 e3 E3 K hK => ?_)
      go_simp
      (go_at_call 11; refine (ref_GCD rfl rfl (hr3.ext E3) (hr4.ext E3) hc3 hm3 hc4 hm4 (by omega) (by omega)).mono ?_; rintro e wa ⟨b6, A6, c6, ks, rfl, hr6, hc6, hm6, hi6, hl6, hxa⟩)
      refine hK.out _ _ hxa ?_
      clear hK K
      try simp only [Act.put]
      try simp only [List.setIfInBounds_toArray]
      try simp only [List.set_cons_succ]
      try simp only [List.set_cons_zero]
      refine Late.call (i := 4) rfl (by kernel_rfl) hAl (by kernel_rfl) (by kernel_rfl) (by kernel_rfl) hQ (fun w4 e4 E4 K hK => ?_)
      go_simp
      (go_at_call 10; refine (law_same_int rfl rfl (hr5.ext E4) (hr6.ext e4) (by omega) hi5 hi6).mono ?_; rintro e wb ⟨rfl, hxb⟩)
      refine hK.out _ _ hxb ?_
      clear hK K
      try simp only [Act.put]
      try simp only [List.setIfInBounds_toArray]
      try simp only [List.set_cons_succ]
      try simp only [List.set_cons_zero]
      refine Late.take (i := 5) (d := some 43) (v := ?v5_10) rfl rfl (by kernel_rfl) (by kernel_rfl) (by kernel_rfl) (by kernel_rfl) hQ (Or.inl ⟨by rfl, ?y5_10⟩) ?r5_10
      case y5_10 =>
        intro w' hSw
        go_simp
        try with_reducible rfl
      try simp only [Act.put]
      try simp only [List.setIfInBounds_toArray]
      try simp only [List.set_cons_succ]
      try simp only [List.set_cons_zero]
      refine Late.done0 (by kernel_rfl) (fun wz ez Ez => ?_)
      clear hAl hQ ES
      replace extW := extW.trans Ez
      replace x7 := x7.ext Ez
      replace x8 := x8.ext Ez
      replace x9 := x9.ext Ez
      replace hr3 := hr3.ext Ez
      replace hr4 := hr4.ext Ez
      replace hr5 := hr5.ext Ez
      clear Ez hr6 hi6 hxa hxb
      clear x70 x71 x80 x81 x90 x91
      have x70 := x7.cell 0 (.bool b3) rfl
      have x71 := x7.cell 1 (.slice A3 us.length c3) rfl
      have x80 := x8.cell 0 (.bool b4) rfl
      have x81 := x8.cell 1 (.slice A4 vs.length c4) rfl
      have x90 := x9.cell 0 (.bool b5) rfl
      have x91 := x9.cell 1 (.slice A5 gs.length c5) rfl
      obtain ⟨G, hG⟩ : ∃ G, Nat.gcd (val us) (val vs) = G := ⟨_, rfl⟩
      rw [hG] at hi5
      have HG := Lib.hid hG
      clear hG
      by_cases h0 : G = 0
      · subst h0
        have hgx : val us = 0 := by
          have := Nat.gcd_dvd_left (val us) (val vs)
          rw [HG.out] at this
          exact Nat.eq_zero_of_zero_dvd this
        have hgy : val vs = 0 := by
          have := Nat.gcd_dvd_right (val us) (val vs)
          rw [HG.out] at this
          exact Nat.eq_zero_of_zero_dvd this
        have hz5 : ival b5 gs = 0 := hi5.eq
        have hz3 : ival b3 us = 0 := by have := ival_abs b3 us; omega
        have hz4 : ival b4 vs = 0 := by have := ival_abs b4 vs; omega
        have H5 := Lib.hid hz5
        have H3 := Lib.hid hz3
        have H4 := Lib.hid hz4
        clear hgx hgy hz5 hz3 hz4 hi5
        go_wp2_with fail
        refine (sign_at0 H5.out rfl hr5 hc5 hm5 (by omega)).mono ?_
        rintro e wd ⟨rfl, hxt⟩
        replace extW := extW.trans hxt
        replace x7 := x7.ext hxt
        replace x8 := x8.ext hxt
        replace hr3 := hr3.ext hxt
        replace hr4 := hr4.ext hxt
        clear hxt x70 x71 x80 x81 x90 x91
        have x70 := x7.cell 0 (.bool b3) rfl
        have x71 := x7.cell 1 (.slice A3 us.length c3) rfl
        have x80 := x8.cell 0 (.bool b4) rfl
        have x81 := x8.cell 1 (.slice A4 vs.length c4) rfl
        go_wp2_with fail
        refine (sign_at0 H3.out rfl hr3 hc3 hm3 (by omega)).mono ?_
        rintro e we ⟨rfl, hxt⟩
        replace extW := extW.trans hxt
        replace x8 := x8.ext hxt
        replace hr4 := hr4.ext hxt
        clear hxt x70 x71 x80 x81
        have x80 := x8.cell 0 (.bool b4) rfl
        have x81 := x8.cell 1 (.slice A4 vs.length c4) rfl
        go_wp2_with fail
        refine (sign_at0 H4.out rfl hr4 hc4 hm4 (by omega)).mono ?_
        rintro e wf ⟨rfl, hxt⟩
        go_wp2_with fail
        go_ret
        exact ⟨rfl, extW.trans hxt⟩
      · have hgp : (0 : Int) < (G : Int) := by omega
        have hz5 : 0 < ival b5 gs := by rw [hi5.eq]; exact hgp
        have hv5 : val gs ≠ 0 := by have := ival_abs b5 gs; rw [hi5.eq] at this; simp at this; omega
        have hdx : (G : Int) ∣ ival b3 us := gcd_dvd_ival (by rw [← HG.out]; exact Nat.gcd_dvd_left _ _)
        have hdy : (G : Int) ∣ ival b4 vs := gcd_dvd_ival (by rw [← HG.out]; exact Nat.gcd_dvd_right _ _)
        have HDX := Lib.hid hdx
        have HDY := Lib.hid hdy
        have HGP := Lib.hid hgp
        have H5 := Lib.hid hz5
        have HV5 := Lib.hid hv5
        have HI5 := Lib.hid hi5.eq
        clear hdx hdy hgp hz5 hv5 hi5
        go_wp2_with fail
        refine (sign_at1 H5.out rfl hr5 hc5 hm5 (by omega)).mono ?_
        rintro e wd ⟨rfl, hxt⟩
        replace extW := extW.trans hxt
        replace x7 := x7.ext hxt
        replace x8 := x8.ext hxt
        replace x9 := x9.ext hxt
        replace hr3 := hr3.ext hxt
        replace hr4 := hr4.ext hxt
        replace hr5 := hr5.ext hxt
        clear hxt x70 x71 x80 x81 x90 x91 H5
        have x70 := x7.cell 0 (.bool b3) rfl
        have x71 := x7.cell 1 (.slice A3 us.length c3) rfl
        have x80 := x8.cell 0 (.bool b4) rfl
        have x81 := x8.cell 1 (.slice A4 vs.length c4) rfl
        have x90 := x9.cell 0 (.bool b5) rfl
        have x91 := x9.cell 1 (.slice A5 gs.length c5) rfl
        go_wp2_with fail
        refine (int_DivMod_L divide_ok rfl rfl hr3 hr5 hc3 hm3 hc5 hm5 (by omega) (by omega) (by omega) HV5.out).mono ?_
        rintro e we ⟨b6, A6, c6, ps, b7, A7, c7, rs, P, R, rfl, hr6, hr7, hc6, hm6, hc7, hm7, hi6, hi7, hdm, hl6, hl7, hxt⟩
        rw [HI5.out] at hdm
        obtain ⟨rfl, hP⟩ := dm_divides HGP.out hdm HDX.out
        have HZ7 := Lib.hid hi7.eq
        have HP := Lib.hid (val_quot (hP.trans (by rw [hi6.eq] : P * (G : Int) = ival b6 ps * (G : Int))))
        clear hdm hP hi6 hi7 x70 x71 x80 x81 x90 x91
        go_upto_region 10 with (fail)
        refine at_world (fun V => Ext wd V ∧ Box V we.heap.size 24 #[.bool b6, .slice A6 ps.length c6] ∧ Box V (we.heap.size + 1) 24 #[.bool b7, .slice A7 rs.length c7] ∧ Rd V A6 ps ∧ Rd V A7 rs) ?_ ?_
        · obtain ⟨e1, e2, e3⟩ := two_new we 24 #[.bool b6, .slice A6 ps.length c6] #[.bool b7, .slice A7 rs.length c7]
          exact ⟨hxt.trans e1, e2, e3, hr6.ext e1, hr7.ext e1⟩
        generalize we.heap.size = g10
        clear hr6 hr7 hxt
        rintro V ⟨EV, x10, x11, hr6, hr7⟩
        replace extW := extW.trans EV
        replace x8 := x8.ext EV
        replace x9 := x9.ext EV
        replace hr4 := hr4.ext EV
        replace hr5 := hr5.ext EV
        clear EV x7 hr3
        have x80 := x8.cell 0 (.bool b4) rfl
        have x81 := x8.cell 1 (.slice A4 vs.length c4) rfl
        have x90 := x9.cell 0 (.bool b5) rfl
        have x91 := x9.cell 1 (.slice A5 gs.length c5) rfl
        go_wp2_with fail
        refine (int_DivMod_L divide_ok rfl rfl hr4 hr5 hc4 hm4 hc5 hm5 (by omega) (by omega) (by omega) HV5.out).mono ?_
        rintro e wf ⟨b8, A8, c8, qs, b9, A9, c9, ts, Q, S, rfl, hr8, hr9, hc8, hm8, hc9, hm9, hi8, hi9, hdm, hl8, hl9, hxt⟩
        rw [HI5.out] at hdm
        obtain ⟨rfl, hQ⟩ := dm_divides HGP.out hdm HDY.out
        have HZ9 := Lib.hid hi9.eq
        have HQ := Lib.hid (val_quot (hQ.trans (by rw [hi8.eq] : Q * (G : Int) = ival b8 qs * (G : Int))))
        clear hdm hQ hi8 hi9 x80 x81 x90 x91
        go_upto_region 11 with (fail)
        refine at_world (fun V2 => Ext V V2 ∧ Box V2 wf.heap.size 24 #[.bool b8, .slice A8 qs.length c8] ∧ Box V2 (wf.heap.size + 1) 24 #[.bool b9, .slice A9 ts.length c9] ∧ Rd V2 A8 qs ∧ Rd V2 A9 ts) ?_ ?_
        · obtain ⟨e1, e2, e3⟩ := two_new wf 24 #[.bool b8, .slice A8 qs.length c8] #[.bool b9, .slice A9 ts.length c9]
          exact ⟨hxt.trans e1, e2, e3, hr8.ext e1, hr9.ext e1⟩
        generalize wf.heap.size = g13
        clear hr8 hr9 hxt
        rintro V2 ⟨EV, x13, x14, hr8, hr9⟩
        replace extW := extW.trans EV
        replace x10 := x10.ext EV
        replace x11 := x11.ext EV
        replace hr6 := hr6.ext EV
        replace hr7 := hr7.ext EV
        clear EV x8 x9 hr4 hr5
        have y0 := x11.cell 0 (.bool b7) rfl
        have y1 := x11.cell 1 (.slice A7 rs.length c7) rfl
        go_wp2_with fail
        refine (sign_at0 HZ7.out rfl hr7 hc7 hm7 (by omega)).mono ?_
        rintro e wg ⟨rfl, hxt⟩
        replace extW := extW.trans hxt
        replace x10 := x10.ext hxt
        replace x13 := x13.ext hxt
        replace x14 := x14.ext hxt
        replace hr6 := hr6.ext hxt
        replace hr8 := hr8.ext hxt
        replace hr9 := hr9.ext hxt
        clear hxt y0 y1 x11 hr7
        have y0 := x14.cell 0 (.bool b9) rfl
        have y1 := x14.cell 1 (.slice A9 ts.length c9) rfl
        go_wp2_with fail
        refine (sign_at0 HZ9.out rfl hr9 hc9 hm9 (by omega)).mono ?_
        rintro e wh ⟨rfl, hxt⟩
        replace extW := extW.trans hxt
        replace x10 := x10.ext hxt
        replace x13 := x13.ext hxt
        replace hr6 := hr6.ext hxt
        replace hr8 := hr8.ext hxt
        clear hxt y0 y1 x14 hr9
        have y0 := x10.cell 0 (.bool b6) rfl
        have y1 := x10.cell 1 (.slice A6 ps.length c6) rfl
        have y2 := x13.cell 0 (.bool b8) rfl
        have y3 := x13.cell 1 (.slice A8 qs.length c8) rfl
        go_wp2_with fail
        refine (int_GCD rfl rfl hr6 hr8 hc6 hm6 hc8 hm8 (by omega) (by omega) (hT.ext extW)).mono ?_
        rintro e wi ⟨ba, Aa, ca, ks, rfl, hra, hca, hma, hia, hla, hxt⟩
        rw [gcd_one HP.out HQ.out HG.out h0] at hia
        replace extW := extW.trans hxt
        clear hxt
        go_wp2_with fail
        refine (law_is (z := 1) rfl hra (by omega) hia (by omega) (by omega)).mono ?_
        rintro e wj ⟨rfl, hxt⟩
        go_wp2_with fail
        go_ret
        exact ⟨rfl, extW.trans hxt⟩
set_option maxHeartbeats 1000000 in
theorem gcd_no (hno : ¬ (n ≤ 20 ∧ m ≤ 20 ∧ l ≤ 20)) :
    Calls Tryd.prog 3 #[.agg #[.bool s, .slice A n c], .agg #[.bool t, .slice B m d], .agg #[.bool u, .slice C l e0]] w fun e w' => e = .returned (.bool true) ∧ Ext w w' := by
  have HA := Lib.hid awake
  go_enter Tryd.func3, Tryd.ntmps3
  go_upto_region 1 with (fail)
  obtain ⟨W0, hW, extW, bx, by_, bz, hzz⟩ := box3 w 24 24 24 #[.bool s, .slice A n c] #[.bool t, .slice B m d] #[.bool u, .slice C l e0]
  rw [← hW]
  clear hW hzz
  go_wp2_with fail
  refine (HA.out _).mono ?_
  rintro e W ⟨rfl, hxt⟩
  replace extW := extW.trans hxt
  replace bx := bx.ext hxt
  replace by_ := by_.ext hxt
  replace bz := bz.ext hxt
  clear hxt
  have bx0 := bx.cell 0 (.bool s) rfl
  have bx1 := bx.cell 1 (.slice A n c) rfl
  have by_0 := by_.cell 0 (.bool t) rfl
  have by_1 := by_.cell 1 (.slice B m d) rfl
  have bz0 := bz.cell 0 (.bool u) rfl
  have bz1 := bz.cell 1 (.slice C l e0) rfl
  have hnb := Box.new W 24 #[.bool s, .slice A n c, .bool t, .slice B m d, .bool u, .slice C l e0]
  have e1 := (Ext.refl W).alloc (.cells #[.bool s, .slice A n c, .bool t, .slice B m d, .bool u, .slice C l e0] 24)
  go_wp2_with fail
  refine (small_no3 hnb hno).mono ?_
  rintro e W1 ⟨rfl, hxt⟩
  have ES := e1.trans hxt
  clear hnb e1 hxt
  clear bx0 bx1 by_0 by_1 bz0 bz1
  go_wp2_with fail
  refine (HA.out _).mono ?_
  rintro e W2 ⟨rfl, hxt⟩
  go_wp2_with fail
  go_ret
  exact ⟨rfl, (extW.trans ES).trans hxt⟩
theorem gcd_any (hn : xs.length = n) (hm : ys.length = m) (hl : zs.length = l) (hx : Rd w A xs) (hy : Rd w B ys) (hz : Rd w C zs) (hc : n ≤ c) (hcm : c ≤ maxLen) (hd : m ≤ d) (hdm : d ≤ maxLen) (he : l ≤ e0) (hem : e0 ≤ maxLen) (hT : Tab w) :
    Calls Tryd.prog 3 #[.agg #[.bool s, .slice A n c], .agg #[.bool t, .slice B m d], .agg #[.bool u, .slice C l e0]] w fun e w' => e = .returned (.bool true) ∧ Ext w w' := by
  by_cases h : n ≤ 20 ∧ m ≤ 20 ∧ l ≤ 20
  · exact gcd_yes hn hm hl hx hy hz hc hcm hd hdm he hem h.1 h.2.1 h.2.2 hT
  · exact gcd_no h
end
end Go.Proofs.YtmjmcinnbmjpdaaDoor
