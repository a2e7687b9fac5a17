/- Walks and laws, a part. -/
import Derived.Test.YtgagcochepnelaaGreatDoorP0
import Derived.Test.YtgagcochepnelaaGreatDoorP1
import Derived.Test.YtgagcochepnelaaGreatDoorP2
import Derived.Test.YtgagcochepnelaaGreatDoorP3
import Derived.Test.YtgagcochepnelaaGreatDoorP4
import Derived.Test.YtgagcochepnelaaGreatDoorP5
import Derived.Test.YtgagcochepnelaaGreatDoorP6
import Derived.Test.YtgagcochepnelaaGreatDoorP7
import Derived.Test.YtgagcochepnelaaGreatDoorP8
import Derived.Test.YtgagcochepnelaaGreatDoorP9
import Derived.Test.YtgagcochepnelaaGreatDoorP10
import Derived.Test.YtgagcochepnelaaGreatDoorP11
import Derived.Test.YtgagcochepnelaaGreatDoorP12
import Derived.Test.YtgagcochepnelaaGreatDoorP13
import Derived.Deep.DeepCutAuto
set_option linter.unusedSimpArgs false
set_option linter.unusedVariables false
set_option maxHeartbeats 64000000
namespace Go.Proofs.YtgagcochepnelaaGreatDoor
section
theorem rat_add (a b : Rat) {g D1 D2 : Nat} {S : Int} {r : Nat} (hg : g = a.den.gcd b.den) (h1 : D1 = a.den / g) (h2 : D2 = b.den / g) (hS : S = a.num * D2 + b.num * D1) (hr : r = S.natAbs.gcd g) :
  (a + b).num = S / (r : Int) /\ (a + b).den = D1 * (b.den / r) /\ r ∣ b.den /\ r ≠ 0 := by
 have haux : S.natAbs.gcd g = S.natAbs.gcd (D1 * b.den) := by
  rw [hS];exact Rat.add.aux a b hg h1 h2
 have hg0 : g ≠ 0 := by rw [hg]; exact Nat.gcd_ne_zero_left a.den_nz
 have e1 : D1 * g = a.den := by rw [h1, hg]; exact Nat.div_mul_cancel (Nat.gcd_dvd_left _ _)
 have e2 : D2 * g = b.den := by rw [h2, hg]; exact Nat.div_mul_cancel (Nat.gcd_dvd_right _ _)
 have hD1 : D1 ≠ 0 := by rintro rfl; have := a.den_nz; simp at e1; omega
 have hsum : a + b = mkRat S (D1 * b.den) := by
  rw [Rat.add_def', <- Rat.mkRat_mul_right hg0 (n := S) (d := D1 * b.den)]
  congr 1
  ·rw [hS, Int.add_mul, Int.mul_assoc, Int.mul_assoc, <- Int.natCast_mul, <- Int.natCast_mul, e1, e2]
  ·rw [Nat.mul_right_comm, e1]
 have hrg : r ∣ g := by rw [hr]; exact Nat.gcd_dvd_right _ _
 have hrb : r ∣ b.den := Nat.dvd_trans hrg (by rw [hg]; exact Nat.gcd_dvd_right _ _);have hr0 : r ≠ 0 := by rintro rfl; exact hg0 (Nat.eq_zero_of_zero_dvd hrg)
 obtain ⟨p1, p2⟩ := mkRat_parts S (D := D1 * b.den) (Nat.mul_ne_zero hD1 b.den_nz);rw [hsum, p1, p2, <- haux, <- hr];exact ⟨rfl, Nat.mul_div_assoc _ hrb, hrb, hr0⟩
end
section
open Go.RowKit
section
variable (A B : Option Addr) (c d : Nat) (xs ys : List Nat) (w : World)
theorem ref_plus1 (hx : Rd w A xs) (hy : Rd w B ys) (hl : ys.length <= xs.length) (hm : xs.length <= 100000) :
  Calls Tryz.prog 147 #[.slice A xs.length c, .slice B ys.length d] w (RetN (fun zs => val zs = val xs + val ys /\ Nrm zs /\ zs.length <= xs.length + 1) w) := by
 have hmk := mk_words1 26 Tryz.underlying26 xs.length hm
 go_enter Tryz.func147, Tryz.ntmps147
 go_wp2
 go_loopw [6, 7] (fun cr i wr => ∃ (k : Nat) (zs : List Nat) (cy : Nat), k <= xs.length /\ i = .int .i64 (k : Int) /\ cr = .int .u64 (cy : Int) /\ PlusInv xs ys k zs cy /\ BlkN wr w.heap.size zs /\ Ext w wr) (fun _ i _ => xs.length - (intOf i).toNat)
 case atStart => exact ⟨0, List.replicate (xs.length + 1) 0, 0, by omega, rfl, rfl, PlusInv.start xs ys, BlkN.new w _, (Ext.refl w).alloc _⟩
 case round =>
  obtain ⟨k, zs, cy, hk, rfl, rfl, hinv, hblk, hext⟩ := hrel;have hcy := hinv.hcy;have hzl := hinv.len1;have hzl2 := hinv.len2
  by_cases hlt : k < xs.length
  ·obtain ⟨b, off, rfl, hb, hc1⟩ := (hx.ext hext).at_ hlt
   have hxk := hx.1.get hlt;have hzk := hblk.cell (i := k) (by omega);have hfz := hblk.frozen k
   by_cases hly : k < ys.length
   ·obtain ⟨b', off', rfl, hb', hc2⟩ := (hy.ext hext).at_ hly
    have hyk := hy.1.get hly
    go_wp2
    go_roundw
    case rel => exact ⟨k + 1, _, _, by omega, by go_num, by go_num, hinv.step hx.1 hy.1 hlt (s := cy + xs[k] + ys[k]) (by rw [getD_at hlt, getD_at hly]), hblk.set k (by go_num), hext.setCell (Nat.le_refl _) _⟩
    case measure => simp [intOf]; omega
   ·go_wp2
    go_roundw
    case rel => exact ⟨k + 1, _, _, by omega, by go_num, by go_num, hinv.step hx.1 hy.1 hlt (s := cy + xs[k]) (by rw [getD_at hlt, getD_out hly]; rfl), hblk.set k (by go_num), hext.setCell (Nat.le_refl _) _⟩
    case measure => simp [intOf]; omega
  ·have hzk := hblk.cell (i := xs.length) (by omega)
   have hfz := hblk.frozen xs.length;have hk' : k = xs.length := by omega
   subst hk';have hb2 := hblk.set xs.length (v := (cy : Int)) rfl;have hw := hinv.w32.set xs.length (v := cy) (by omega);have hrd := hb2.rd0 hw;have hdn := hinv.done hl;have Hd := Lib.hid hdn;clear hdn
   go_wp2_with (go_at_call 93; refine (ref_trimN (xs := zs.set xs.length cy) (by simp; omega) hrd (by omega) (by unfold maxLen; omega)).mono ?_; rintro e w' ⟨rfl, rfl⟩)
   go_ret
   have hlen := trimL_len (zs.set xs.length cy);rw [List.length_set] at hlen;refine ⟨_, _, trimL (zs.set xs.length cy), rfl, ?_, by omega, by unfold maxLen; omega, ⟨Hd.out, Nrm.trimL _, by omega⟩, hext.setCell (Nat.le_refl _) _⟩;rw [trimL_take];exact (Own.of_blk hb2 hw (Nat.le_refl _)).take _
theorem ref_plus2 (hx : Rd w A xs) (hy : Rd w B ys) (hl : xs.length < ys.length) (hm : ys.length <= 100000) :
  Calls Tryz.prog 147 #[.slice A xs.length c, .slice B ys.length d] w (RetN (fun zs => val zs = val xs + val ys /\ Nrm zs /\ zs.length <= ys.length + 1) w) := by
 have hmk := mk_words1 26 Tryz.underlying26 ys.length hm
 go_enter Tryz.func147, Tryz.ntmps147
 go_wp2
 go_loopw [6, 7] (fun cr i wr => ∃ (k : Nat) (zs : List Nat) (cy : Nat), k <= ys.length /\ i = .int .i64 (k : Int) /\ cr = .int .u64 (cy : Int) /\ PlusInv ys xs k zs cy /\ BlkN wr w.heap.size zs /\ Ext w wr) (fun _ i _ => ys.length - (intOf i).toNat)
 case atStart => exact ⟨0, List.replicate (ys.length + 1) 0, 0, by omega, rfl, rfl, PlusInv.start ys xs, BlkN.new w _, (Ext.refl w).alloc _⟩
 case round =>
  obtain ⟨k, zs, cy, hk, rfl, rfl, hinv, hblk, hext⟩ := hrel;have hcy := hinv.hcy;have hzl := hinv.len1;have hzl2 := hinv.len2
  by_cases hlt : k < ys.length
  ·obtain ⟨b, off, rfl, hb, hc1⟩ := (hy.ext hext).at_ hlt
   have hyk := hy.1.get hlt;have hzk := hblk.cell (i := k) (by omega);have hfz := hblk.frozen k
   by_cases hly : k < xs.length
   ·obtain ⟨b', off', rfl, hb', hc2⟩ := (hx.ext hext).at_ hly
    have hxk := hx.1.get hly
    go_wp2
    go_roundw
    case rel => exact ⟨k + 1, _, _, by omega, by go_num, by go_num, hinv.step hy.1 hx.1 hlt (s := cy + ys[k] + xs[k]) (by rw [getD_at hlt, getD_at hly]), hblk.set k (by go_num), hext.setCell (Nat.le_refl _) _⟩
    case measure => simp [intOf]; omega
   ·go_wp2
    go_roundw
    case rel => exact ⟨k + 1, _, _, by omega, by go_num, by go_num, hinv.step hy.1 hx.1 hlt (s := cy + ys[k]) (by rw [getD_at hlt, getD_out hly]; rfl), hblk.set k (by go_num), hext.setCell (Nat.le_refl _) _⟩
    case measure => simp [intOf]; omega
  ·have hzk := hblk.cell (i := ys.length) (by omega)
   have hfz := hblk.frozen ys.length;have hk' : k = ys.length := by omega
   subst hk';have hb2 := hblk.set ys.length (v := (cy : Int)) rfl;have hw := hinv.w32.set ys.length (v := cy) (by omega);have hrd := hb2.rd0 hw;have hdn := hinv.done (by omega);have Hd := Lib.hid hdn;clear hdn
   go_wp2_with (go_at_call 93; refine (ref_trimN (xs := zs.set ys.length cy) (by simp; omega) hrd (by omega) (by unfold maxLen; omega)).mono ?_; rintro e w' ⟨rfl, rfl⟩)
   go_ret
   have hlen := trimL_len (zs.set ys.length cy);rw [List.length_set] at hlen;refine ⟨_, _, trimL (zs.set ys.length cy), rfl, ?_, by omega, by unfold maxLen; omega, ⟨by rw [Hd.out]; omega, Nrm.trimL _, by omega⟩, hext.setCell (Nat.le_refl _) _⟩;rw [trimL_take];exact (Own.of_blk hb2 hw (Nat.le_refl _)).take _
theorem ref_plus {A B : Option Addr} {c d n m : Nat} {xs ys : List Nat} {w : World} (hn : xs.length = n) (hm : ys.length = m) (hx : Rd w A xs) (hy : Rd w B ys) (h1 : n <= 100000) (h2 : m <= 100000) :
  Calls Tryz.prog 147 #[.slice A n c, .slice B m d] w (RetN (fun zs => val zs = val xs + val ys /\ Nrm zs /\ zs.length <= max xs.length ys.length + 1) w) := by
 subst hn; subst hm
 by_cases h : ys.length <= xs.length
 ·exact (ref_plus1 A B c d xs ys w hx hy h h1).mono fun e w' ⟨A', c', zs, h1, h2, h3, h4, ⟨h5, h6, h7⟩, h8⟩ => ⟨A', c', zs, h1, h2, h3, h4, ⟨h5, h6, by omega⟩, h8⟩
 ·exact (ref_plus2 A B c d xs ys w hx hy (by omega) h2).mono fun e w' ⟨A', c', zs, h1, h2, h3, h4, ⟨h5, h6, h7⟩, h8⟩ => ⟨A', c', zs, h1, h2, h3, h4, ⟨h5, h6, by omega⟩, h8⟩
end
end
section
open Go.RowKit
attribute [local go_sem ↓] Go.wp_at_zero Go.wp_at_succ
section
variable {A B : Option Addr} {c d n m : Nat} {xs ys : List Nat} {w : World} {s t : Bool}
theorem ref_Neg (hn : xs.length = n) (hx : Rd w A xs) (hc : n <= c) (hcm : c <= maxLen) (_h1 : n <= 100000) :
  Calls Tryz.prog 120 #[.agg #[.bool s, .slice A n c]] w (RetI (-(ival s xs)) xs.length w) := by
 have Hn := Lib.hid hn;clear hn;have lx := trimL_len xs;have hxt : Rd w A (trimL xs) := by rw [trimL_take]; exact hx.take _
 go_enter Tryz.func120, Tryz.ntmps120
 go_upto_region 1 with (fail)
 obtain ⟨W, hW, extW, bx, bz, hz⟩ := box2 w 28 28 #[.bool s, .slice A n c] #[.bool false, .slice none 0 0];rw [<- hW];clear hW;have x0 := bx.cell 0 (.bool s) rfl;have x1 := bx.cell 1 (.slice A n c) rfl
 go_wp2_with (go_at_call 96; refine (ref_signed Hn.out (hx.ext extW) hc hcm).mono ?_; rintro e w3 ⟨b3, A3, c3, rs, rfl, hr3, hc3, hm3, hi3, hl3, hext3⟩; have ext3 := hext3; have bz3 := bz.ext ext3; have z0 := bz3.cell 0 (.bool false) rfl; have z1 := bz3.cell 1 (.slice none 0 0) rfl; have f0 := bz3.frozen 0; have f1 := bz3.frozen 1)
 go_wp2_with fail
 obtain ⟨r1, r2, r3, r4⟩ := fin_pair (b := b3) (n := rs.length) (c := c3) (extW.trans ext3) (by omega) bz3 hr3;exact bodyPost_ret (v := .agg #[.bool b3, .slice A3 rs.length c3]) (by simp [results, Tryz.results120, go_sem, r3, r4]) rfl ⟨b3, A3, c3, rs, rfl, r1, hc3, hm3, by rw [ival_not] at hi3; exact hi3, by omega, r2⟩
end
def TwoN (w _W : World) (x y : Int) (lx ly : Nat) (R : World -> Prop) (wx : World) : Prop :=
 ∃ b3 A3 c3 rs b4 A4 c4 qs, Ext w wx /\ Box wx w.heap.size 28 #[.bool b3, .slice A3 (List.length rs) c3] /\ Box wx (w.heap.size + 1) 28 #[.bool b4, .slice A4 (List.length qs) c4] /\ R wx /\ Rd wx A3 rs /\ Rd wx A4 qs /\
  rs.length <= c3 /\ c3 <= maxLen /\ qs.length <= c4 /\ c4 <= maxLen /\ IsInt x b3 rs /\ IsInt y b4 qs /\ rs.length <= lx /\ qs.length <= ly
theorem TwoN.mk' {w W w4 : World} {x y : Int} {lx ly : Nat} {R : World -> Prop} {s t b3 b4 : Bool} {A A3 B A4 : Option Addr} {n c m d c3 c4 : Nat} {rs qs : List Nat} (extW : Ext w W) (e4 : Ext W w4)
  (bx : Box W w.heap.size 28 #[.bool s, .slice A n c]) (by_ : Box W (w.heap.size + 1) 28 #[.bool t, .slice B m d]) (hr3 : Rd w4 A3 rs) (hr4 : Rd w4 A4 qs)
  (h1 : rs.length <= c3) (h2 : c3 <= maxLen) (h3 : qs.length <= c4) (h4 : c4 <= maxLen) (hi3 : IsInt x b3 rs) (hi4 : IsInt y b4 qs) (h5 : rs.length <= lx) (h6 : qs.length <= ly)
  (hR : ∀ u v p q, R ((((w4.setCell ⟨w.heap.size, 0, none⟩ u).setCell ⟨w.heap.size, 1, none⟩ v).setCell ⟨w.heap.size + 1, 0, none⟩ p).setCell ⟨w.heap.size + 1, 1, none⟩ q)) :
  TwoN w W x y lx ly R ((((w4.setCell ⟨w.heap.size, 0, none⟩ (.bool b3)).setCell ⟨w.heap.size, 1, none⟩ (.slice A3 rs.length c3)).setCell ⟨w.heap.size + 1, 0, none⟩ (.bool b4)).setCell ⟨w.heap.size + 1, 1, none⟩ (.slice A4 qs.length c4)) := by
 have k1 := bx.ext e4;have k2 := by_.ext e4;obtain ⟨r1, r2, _, _⟩ := fin_pair (b := b3) (n := rs.length) (c := c3) (extW.trans e4) (Nat.le_refl _) k1 hr3;have q1 := (hr4.setBox k1 NoWord.two 0 (.bool b3)).setBox (k1.setA (.bool b3)) NoWord.two 1 (.slice A3 rs.length c3);have j1 := (k1.setA (.bool b3)).setB (.slice A3 rs.length c3);have j2 := ((k2.far (p := ⟨w.heap.size, 0, none⟩) (by simp) (.bool b3)).far (p := ⟨w.heap.size, 1, none⟩) (by simp) (.slice A3 rs.length c3));have j20 := j2.setA (.bool b4);have j3 := j20.setB (.slice A4 qs.length c4);have j4 := ((j1.far (p := ⟨w.heap.size + 1, 0, none⟩) (by simp) (.bool b4)).far (p := ⟨w.heap.size + 1, 1, none⟩) (by simp) (.slice A4 qs.length c4));have hE := (r2.setCell (p := ⟨w.heap.size + 1, 0, none⟩) (Nat.le_succ _) (.bool b4)).setCell (p := ⟨w.heap.size + 1, 1, none⟩) (Nat.le_succ _) (.slice A4 qs.length c4);have r3 := (r1.setBox j2 NoWord.two 0 (.bool b4)).setBox j20 NoWord.two 1 (.slice A4 qs.length c4);have q3 := (q1.setBox j2 NoWord.two 0 (.bool b4)).setBox j20 NoWord.two 1 (.slice A4 qs.length c4);have hRR := hR (.bool b3) (.slice A3 rs.length c3) (.bool b4) (.slice A4 qs.length c4);exact ⟨b3, A3, c3, rs, b4, A4, c4, qs, hE, j4, j3, hRR, r3, q3, h1, h2, h3, h4, hi3, hi4, h5, h6⟩
theorem isint_val {z : Int} {b : Bool} {ys : List Nat} (h : IsInt z b ys) : (val ys : Int) = if b then -z else z := by
 have := h.eq;unfold ival at this
 cases b <;> simp at this ⊢ <;> omega
section
variable {A B : Option Addr} {c d n m : Nat} {xs ys : List Nat} {w : World} {s t : Bool}
theorem ref_Add (hn : xs.length = n) (hm : ys.length = m) (hx : Rd w A xs) (hy : Rd w B ys) (hc : n <= c) (hcm : c <= maxLen) (hd : m <= d) (hdm : d <= maxLen) (h1 : n <= 100000) (h2 : m <= 100000) :
  Calls Tryz.prog 122 #[.agg #[.bool s, .slice A n c], .agg #[.bool t, .slice B m d]] w (RetI (ival s xs + ival t ys) (max xs.length ys.length + 1) w) := by
 have Hn := Lib.hid hn;have Hm := Lib.hid hm;clear hn hm;have lx := trimL_len xs;have ly := trimL_len ys;have hxt : Rd w A (trimL xs) := by rw [trimL_take]; exact hx.take _
 have hyt : Rd w B (trimL ys) := by rw [trimL_take]; exact hy.take _
 go_enter Tryz.func122, Tryz.ntmps122
 go_upto_region 1 with (fail)
 obtain ⟨W, hW, extW, bx, by_, bz, hz⟩ := box3 w 28 28 28 #[.bool s, .slice A n c] #[.bool t, .slice B m d] #[.bool false, .slice none 0 0];rw [<- hW];clear hW;have x0 := bx.cell 0 (.bool s) rfl;have x1 := bx.cell 1 (.slice A n c) rfl;have y0 := by_.cell 0 (.bool t) rfl;have y1 := by_.cell 1 (.slice B m d) rfl;have hf0 := bx.frozen 0;have hf1 := bx.frozen 1;have hg0 := by_.frozen 0;have hg1 := by_.frozen 1
 go_cut [] (fun wx => TwoN w W (ival s xs) (ival t ys) xs.length ys.length (fun wx => Box wx (w.heap.size + 1 + 1) 28 #[.bool false, .slice none 0 0] /\ w.heap.size + 3 <= wx.heap.size) wx)
 case first =>
  go_region_with (first | (go_at_call_of 94 A; refine (ref_Norm Hn.out (hx.ext (by first | exact extW | exact extW.drew | exact extW.drewN _ | exact (extW.drew).drew)) hc hcm h1).mono ?_; rintro e w3 ⟨b3, A3, c3, rs, rfl, hr3, hc3, hm3, hi3, hl3, hext3⟩; have e3 := (by first | exact hext3 | exact (Ext.refl W).drew.trans hext3 : Ext W w3); have y30 := (by_.ext e3).cell 0 (.bool t) rfl; have y31 := (by_.ext e3).cell 1 (.slice B m d) rfl) | (go_at_call_of 94 B; refine (ref_Norm Hm.out (hy.ext (extW.trans e3)) hd hdm h2).mono ?_; rintro e w4 ⟨b4, A4, c4, qs, rfl, hr4, hc4, hm4, hi4, hl4, hext4⟩; have e4 := e3.trans hext4; have x40 := (bx.ext e4).cell 0 (.bool s) rfl; have x41 := (bx.ext e4).cell 1 (.slice A n c) rfl; have y40 := (by_.ext e4).cell 0 (.bool t) rfl; have y41 := (by_.ext e4).cell 1 (.slice B m d) rfl; have k0 := (bx.ext e4).frozen 0; have k1 := (bx.ext e4).frozen 1; have k2 := (by_.ext e4).frozen 0; have k3 := (by_.ext e4).frozen 1))
  all_goals (go_wp2_with fail; go_meet; exact TwoN.mk' extW e4 bx by_ (hr3.ext hext4) hr4 hc3 hm3 hc4 hm4 hi3 hi4 hl3 hl4 (fun u v p q => ⟨(((((bz.ext e4).far (far_ne (by omega)) _).far (far_ne (by omega)) _).far (far_ne (by omega)) _).far (far_ne (by omega)) _), by have := e4.size; simp [World.setCell]; omega⟩))
 case rest =>
  clear bx by_ bz hz x0 x1 y0 y1 hf0 hf1 hg0 hg1 extW;obtain ⟨b1, A1, c1, ps, b2, A2, c2, qs, extN, bx, by_, ⟨bz, hz⟩, hp, hq, hc1, hm1, hc2, hm2, hi1, hi2, hl1, hl2⟩ := hcut;have x0 := bx.cell 0 (.bool b1) rfl;have x1 := bx.cell 1 (.slice A1 ps.length c1) rfl;have y0 := by_.cell 0 (.bool b2) rfl;have y1 := by_.cell 1 (.slice A2 qs.length c2) rfl;have hps : ps.length <= 100000 := by have := Hn.out; omega
  have hqs : qs.length <= 100000 := by have := Hm.out; omega
  have hv1 := isint_val hi1;have hv2 := isint_val hi2;have Hv1 := Lib.hid hv1;have Hv2 := Lib.hid hv2;clear hv1 hv2
  cases hst : (b1 == b2) with
  | true =>
   go_wp2_with fail
   go_region_held3 (fun w' => w'.cell? ⟨w.heap.size, 0, none⟩ = some (.bool b1) /\ w'.cell? ⟨w.heap.size, 1, none⟩ = some (.slice A1 ps.length c1) /\ w'.cell? ⟨w.heap.size + 1, 0, none⟩ = some (.bool b2) /\ w'.cell? ⟨w.heap.size + 1, 1, none⟩ = some (.slice A2 qs.length c2)) (first | (go_split_ands; refine ⟨?_, ?_, ?_, ?_⟩ <;> first | (exact Ext.cellv (by assumption) (by assumption)) | (refine (cell_far2 (by omega)).trans ?_; assumption)) | go_keep)
    (first | (go_at_call 147; refine (ref_plus rfl rfl (hp.ext (by first | exact Ext.refl _ | exact (Ext.refl _).drew | exact (Ext.refl _).drewN _)) (hq.ext (by first | exact Ext.refl _ | exact (Ext.refl _).drew | exact (Ext.refl _).drewN _)) (by omega) (by omega)).mono ?_; rintro e w5 ⟨A5, c5, zs, rfl, ho5, hc5, hm5, ⟨hv5, hn5, hl5⟩, hext5⟩; have Hv5 := Lib.hid hv5; clear hv5) | (go_at_call 96; refine (ref_signed rfl ho5.rd hc5 hm5).mono ?_; rintro e w3 ⟨b3, A3, c3, rs, rfl, hr3, hc3, hm3, hi3, hl3, hext3⟩; have ext3 := ((Ext.refl wc).drew.trans hext5).trans hext3; have bz3 := bz.ext ext3; have z0 := bz3.cell 0 (.bool false) rfl; have z1 := bz3.cell 1 (.slice none 0 0) rfl; have f0 := bz3.frozen 0; have f1 := bz3.frozen 1))
   go_wp2_with fail
   obtain ⟨r1, r2, r3, r4⟩ := fin_pair (b := b3) (n := rs.length) (c := c3) (extN.trans ext3) (by omega) bz3 hr3;refine bodyPost_ret (v := .agg #[.bool b3, .slice A3 rs.length c3]) (by simp [results, Tryz.results122, go_sem, r3, r4]) rfl ⟨b3, A3, c3, rs, rfl, r1, hc3, hm3, ?_, by omega, r2⟩;have h := Hv5.out;have g1 := Hv1.out;have g2 := Hv2.out;have hst' : b1 = b2 := by simpa using hst
   subst hst'
   have e : ival b1 zs = ival s xs + ival t ys := by
    unfold ival at *
    cases b1 <;> simp at g1 g2 ⊢ <;> omega
   rw [<- e];exact hi3
  | false =>
   rcases Nat.lt_trichotomy (val ps) (val qs) with hlt | hlt | hlt
   ·have hcm := Lib.hid (show cmpL ps qs = (-1) by rw [cmpL_nrm hp.1 hq.1 hi1.nrm hi2.nrm]; exact cmpI_of_lt hlt)
    have hle := len_le hq.1 hi1.nrm (Nat.le_of_lt hlt);have Hlt := Lib.hid hlt;clear hlt
    go_wp2_with fail
    refine (ref_compare A1 A2 c1 c2 ps qs wc hp hq (by unfold maxLen; omega) (by unfold maxLen; omega)).mono ?_;rintro e w1 ⟨rfl, hext1⟩;rw [hcm.out];replace extN := extN.trans hext1;replace hp := hp.ext hext1;replace hq := hq.ext hext1;replace bx := bx.ext hext1;replace by_ := by_.ext hext1;replace bz := bz.ext hext1;clear x0 x1 y0 y1 hext1;have x0 := bx.cell 0 (.bool b1) rfl;have x1 := bx.cell 1 (.slice A1 ps.length c1) rfl;have y0 := by_.cell 0 (.bool b2) rfl;have y1 := by_.cell 1 (.slice A2 qs.length c2) rfl
    go_wp2_with fail
    go_region_held3 (fun w' => w'.cell? ⟨w.heap.size + 1, 0, none⟩ = some (.bool b2) /\ w'.cell? ⟨w.heap.size + 1, 1, none⟩ = some (.slice A2 qs.length c2) /\ w'.cell? ⟨w.heap.size, 1, none⟩ = some (.slice A1 ps.length c1)) (first | (go_split_ands; refine ⟨?_, ?_, ?_⟩ <;> first | (exact Ext.cellv (by assumption) (by assumption)) | (refine (cell_far2 (by omega)).trans ?_; assumption)) | go_keep)
     (first | (go_at_call 134; refine (ref_minus rfl rfl (hq.ext (by first | exact Ext.refl _ | exact (Ext.refl _).drew | exact (Ext.refl _).drewN _)) (hp.ext (by first | exact Ext.refl _ | exact (Ext.refl _).drew | exact (Ext.refl _).drewN _)) hle (Nat.le_of_lt Hlt.out) (by omega)).mono ?_; rintro e w5 ⟨A5, c5, zs, rfl, ho5, hc5, hm5, ⟨hv5, hn5, hl5⟩, hext5⟩; have Hv5 := Lib.hid hv5; clear hv5) | (go_at_call 96; refine (ref_signed rfl ho5.rd hc5 hm5).mono ?_; rintro e w3 ⟨b3, A3, c3, rs, rfl, hr3, hc3, hm3, hi3, hl3, hext3⟩; have ext3 := ((Ext.refl w1).drew.trans hext5).trans hext3; have bz3 := bz.ext ext3; have z0 := bz3.cell 0 (.bool false) rfl; have z1 := bz3.cell 1 (.slice none 0 0) rfl; have f0 := bz3.frozen 0; have f1 := bz3.frozen 1))
    go_wp2_with fail
    obtain ⟨r1, r2, r3, r4⟩ := fin_pair (b := b3) (n := rs.length) (c := c3) (extN.trans ext3) (by omega) bz3 hr3;refine bodyPost_ret (v := .agg #[.bool b3, .slice A3 rs.length c3]) (by simp [results, Tryz.results122, go_sem, r3, r4]) rfl ⟨b3, A3, c3, rs, rfl, r1, hc3, hm3, ?_, by omega, r2⟩;have h := Hv5.out;have g1 := Hv1.out;have g2 := Hv2.out;have h' := Hlt.out
    have e : ival b2 zs = ival s xs + ival t ys := by
     unfold ival at *
     cases b1 <;> cases b2 <;> simp at hst <;> simp at g1 g2 ⊢ <;> omega
    rw [<- e];exact hi3
   ·have hcm := Lib.hid (show cmpL ps qs = 0 by rw [cmpL_nrm hp.1 hq.1 hi1.nrm hi2.nrm]; exact cmpI_of_eq hlt)
    have hle := len_le hp.1 hi2.nrm (by omega);have Hlt := Lib.hid hlt;clear hlt
    go_wp2_with fail
    refine (ref_compare A1 A2 c1 c2 ps qs wc hp hq (by unfold maxLen; omega) (by unfold maxLen; omega)).mono ?_;rintro e w1 ⟨rfl, hext1⟩;rw [hcm.out];replace extN := extN.trans hext1;replace hp := hp.ext hext1;replace hq := hq.ext hext1;replace bx := bx.ext hext1;replace by_ := by_.ext hext1;replace bz := bz.ext hext1;clear x0 x1 y0 y1 hext1;have x0 := bx.cell 0 (.bool b1) rfl;have x1 := bx.cell 1 (.slice A1 ps.length c1) rfl;have y0 := by_.cell 0 (.bool b2) rfl;have y1 := by_.cell 1 (.slice A2 qs.length c2) rfl
    go_wp2_with fail
    go_region_held3 (fun w' => w'.cell? ⟨w.heap.size, 0, none⟩ = some (.bool b1) /\ w'.cell? ⟨w.heap.size, 1, none⟩ = some (.slice A1 ps.length c1) /\ w'.cell? ⟨w.heap.size + 1, 1, none⟩ = some (.slice A2 qs.length c2)) (first | (go_split_ands; refine ⟨?_, ?_, ?_⟩ <;> first | (exact Ext.cellv (by assumption) (by assumption)) | (refine (cell_far2 (by omega)).trans ?_; assumption)) | go_keep)
     (first | (go_at_call 134; refine (ref_minus rfl rfl (hp.ext (by first | exact Ext.refl _ | exact (Ext.refl _).drew | exact (Ext.refl _).drewN _)) (hq.ext (by first | exact Ext.refl _ | exact (Ext.refl _).drew | exact (Ext.refl _).drewN _)) hle (by have := Hlt.out; omega) (by omega)).mono ?_; rintro e w5 ⟨A5, c5, zs, rfl, ho5, hc5, hm5, ⟨hv5, hn5, hl5⟩, hext5⟩; have Hv5 := Lib.hid hv5; clear hv5) | (go_at_call 96; refine (ref_signed rfl ho5.rd hc5 hm5).mono ?_; rintro e w3 ⟨b3, A3, c3, rs, rfl, hr3, hc3, hm3, hi3, hl3, hext3⟩; have ext3 := ((Ext.refl w1).drew.trans hext5).trans hext3; have bz3 := bz.ext ext3; have z0 := bz3.cell 0 (.bool false) rfl; have z1 := bz3.cell 1 (.slice none 0 0) rfl; have f0 := bz3.frozen 0; have f1 := bz3.frozen 1))
    go_wp2_with fail
    obtain ⟨r1, r2, r3, r4⟩ := fin_pair (b := b3) (n := rs.length) (c := c3) (extN.trans ext3) (by omega) bz3 hr3;refine bodyPost_ret (v := .agg #[.bool b3, .slice A3 rs.length c3]) (by simp [results, Tryz.results122, go_sem, r3, r4]) rfl ⟨b3, A3, c3, rs, rfl, r1, hc3, hm3, ?_, by omega, r2⟩;have h := Hv5.out;have g1 := Hv1.out;have g2 := Hv2.out;have h' := Hlt.out
    have e : ival b1 zs = ival s xs + ival t ys := by
     unfold ival at *
     cases b1 <;> cases b2 <;> simp at hst <;> simp at g1 g2 ⊢ <;> omega
    rw [<- e];exact hi3
   ·have hcm := Lib.hid (show cmpL ps qs = 1 by rw [cmpL_nrm hp.1 hq.1 hi1.nrm hi2.nrm]; exact cmpI_of_gt hlt)
    have hle := len_le hp.1 hi2.nrm (by omega);have Hlt := Lib.hid hlt;clear hlt
    go_wp2_with fail
    refine (ref_compare A1 A2 c1 c2 ps qs wc hp hq (by unfold maxLen; omega) (by unfold maxLen; omega)).mono ?_;rintro e w1 ⟨rfl, hext1⟩;rw [hcm.out];replace extN := extN.trans hext1;replace hp := hp.ext hext1;replace hq := hq.ext hext1;replace bx := bx.ext hext1;replace by_ := by_.ext hext1;replace bz := bz.ext hext1;clear x0 x1 y0 y1 hext1;have x0 := bx.cell 0 (.bool b1) rfl;have x1 := bx.cell 1 (.slice A1 ps.length c1) rfl;have y0 := by_.cell 0 (.bool b2) rfl;have y1 := by_.cell 1 (.slice A2 qs.length c2) rfl
    go_wp2_with fail
    go_region_held3 (fun w' => w'.cell? ⟨w.heap.size, 0, none⟩ = some (.bool b1) /\ w'.cell? ⟨w.heap.size, 1, none⟩ = some (.slice A1 ps.length c1) /\ w'.cell? ⟨w.heap.size + 1, 1, none⟩ = some (.slice A2 qs.length c2)) (first | (go_split_ands; refine ⟨?_, ?_, ?_⟩ <;> first | (exact Ext.cellv (by assumption) (by assumption)) | (refine (cell_far2 (by omega)).trans ?_; assumption)) | go_keep)
     (first | (go_at_call 134; refine (ref_minus rfl rfl (hp.ext (by first | exact Ext.refl _ | exact (Ext.refl _).drew | exact (Ext.refl _).drewN _)) (hq.ext (by first | exact Ext.refl _ | exact (Ext.refl _).drew | exact (Ext.refl _).drewN _)) hle (by have := Hlt.out; omega) (by omega)).mono ?_; rintro e w5 ⟨A5, c5, zs, rfl, ho5, hc5, hm5, ⟨hv5, hn5, hl5⟩, hext5⟩; have Hv5 := Lib.hid hv5; clear hv5) | (go_at_call 96; refine (ref_signed rfl ho5.rd hc5 hm5).mono ?_; rintro e w3 ⟨b3, A3, c3, rs, rfl, hr3, hc3, hm3, hi3, hl3, hext3⟩; have ext3 := ((Ext.refl w1).drew.trans hext5).trans hext3; have bz3 := bz.ext ext3; have z0 := bz3.cell 0 (.bool false) rfl; have z1 := bz3.cell 1 (.slice none 0 0) rfl; have f0 := bz3.frozen 0; have f1 := bz3.frozen 1))
    go_wp2_with fail
    obtain ⟨r1, r2, r3, r4⟩ := fin_pair (b := b3) (n := rs.length) (c := c3) (extN.trans ext3) (by omega) bz3 hr3;refine bodyPost_ret (v := .agg #[.bool b3, .slice A3 rs.length c3]) (by simp [results, Tryz.results122, go_sem, r3, r4]) rfl ⟨b3, A3, c3, rs, rfl, r1, hc3, hm3, ?_, by omega, r2⟩;have h := Hv5.out;have g1 := Hv1.out;have g2 := Hv2.out;have h' := Hlt.out
    have e : ival b1 zs = ival s xs + ival t ys := by
     unfold ival at *
     cases b1 <;> cases b2 <;> simp at hst <;> simp at g1 g2 ⊢ <;> omega
    rw [<- e];exact hi3
theorem ref_Mul (hn : xs.length = n) (hm : ys.length = m) (hx : Rd w A xs) (hy : Rd w B ys) (hc : n <= c) (hcm : c <= maxLen) (hd : m <= d) (hdm : d <= maxLen) (h1 : n <= 100000) (h2 : m <= 100000) :
  Calls Tryz.prog 123 #[.agg #[.bool s, .slice A n c], .agg #[.bool t, .slice B m d]] w (RetI (ival s xs * ival t ys) (xs.length + ys.length) w) := by
 have Hn := Lib.hid hn;have Hm := Lib.hid hm;clear hn hm;have lx := trimL_len xs;have ly := trimL_len ys;have hxt : Rd w A (trimL xs) := by rw [trimL_take]; exact hx.take _
 have hyt : Rd w B (trimL ys) := by rw [trimL_take]; exact hy.take _
 go_enter Tryz.func123, Tryz.ntmps123
 go_upto_region 1 with (fail)
 obtain ⟨W, hW, extW, bx, by_, bz, hz⟩ := box3 w 28 28 28 #[.bool s, .slice A n c] #[.bool t, .slice B m d] #[.bool false, .slice none 0 0];rw [<- hW];clear hW;have x0 := bx.cell 0 (.bool s) rfl;have x1 := bx.cell 1 (.slice A n c) rfl;have y0 := by_.cell 0 (.bool t) rfl;have y1 := by_.cell 1 (.slice B m d) rfl;have hf0 := bx.frozen 0;have hf1 := bx.frozen 1;have hg0 := by_.frozen 0;have hg1 := by_.frozen 1
 go_cut [] (fun wx => TwoN w W (ival s xs) (ival t ys) xs.length ys.length (fun wx => Box wx (w.heap.size + 1 + 1) 28 #[.bool false, .slice none 0 0] /\ w.heap.size + 3 <= wx.heap.size) wx)
 case first =>
  go_region_with (first | (go_at_call_of 94 A; refine (ref_Norm Hn.out (hx.ext (by first | exact extW | exact extW.drew | exact extW.drewN _ | exact (extW.drew).drew)) hc hcm h1).mono ?_; rintro e w3 ⟨b3, A3, c3, rs, rfl, hr3, hc3, hm3, hi3, hl3, hext3⟩; have e3 := (by first | exact hext3 | exact (Ext.refl W).drew.trans hext3 : Ext W w3); have y30 := (by_.ext e3).cell 0 (.bool t) rfl; have y31 := (by_.ext e3).cell 1 (.slice B m d) rfl) | (go_at_call_of 94 B; refine (ref_Norm Hm.out (hy.ext (extW.trans e3)) hd hdm h2).mono ?_; rintro e w4 ⟨b4, A4, c4, qs, rfl, hr4, hc4, hm4, hi4, hl4, hext4⟩; have e4 := e3.trans hext4; have x40 := (bx.ext e4).cell 0 (.bool s) rfl; have x41 := (bx.ext e4).cell 1 (.slice A n c) rfl; have y40 := (by_.ext e4).cell 0 (.bool t) rfl; have y41 := (by_.ext e4).cell 1 (.slice B m d) rfl; have k0 := (bx.ext e4).frozen 0; have k1 := (bx.ext e4).frozen 1; have k2 := (by_.ext e4).frozen 0; have k3 := (by_.ext e4).frozen 1))
  all_goals (go_wp2_with fail; go_meet; exact TwoN.mk' extW e4 bx by_ (hr3.ext hext4) hr4 hc3 hm3 hc4 hm4 hi3 hi4 hl3 hl4 (fun u v p q => ⟨(((((bz.ext e4).far (far_ne (by omega)) _).far (far_ne (by omega)) _).far (far_ne (by omega)) _).far (far_ne (by omega)) _), by have := e4.size; simp [World.setCell]; omega⟩))
 case rest =>
  clear bx by_ bz hz x0 x1 y0 y1 hf0 hf1 hg0 hg1 extW;obtain ⟨b1, A1, c1, ps, b2, A2, c2, qs, extN, bx, by_, ⟨bz, hz⟩, hp, hq, hc1, hm1, hc2, hm2, hi1, hi2, hl1, hl2⟩ := hcut;have hps : ps.length <= 100000 := by have := Hn.out; omega
  have hqs : qs.length <= 100000 := by have := Hm.out; omega
  have x0 := bx.cell 0 (.bool b1) rfl;have x1 := bx.cell 1 (.slice A1 ps.length c1) rfl;have y0 := by_.cell 0 (.bool b2) rfl;have y1 := by_.cell 1 (.slice A2 qs.length c2) rfl
  go_wp2_with fail
  go_region_held3 (fun w' => w'.cell? ⟨w.heap.size, 0, none⟩ = some (.bool b1) /\ w'.cell? ⟨w.heap.size, 1, none⟩ = some (.slice A1 ps.length c1) /\ w'.cell? ⟨w.heap.size + 1, 0, none⟩ = some (.bool b2) /\ w'.cell? ⟨w.heap.size + 1, 1, none⟩ = some (.slice A2 qs.length c2)) (first | (go_split_ands; refine ⟨?_, ?_, ?_, ?_⟩ <;> first | (exact Ext.cellv (by assumption) (by assumption)) | (refine (cell_far2 (by omega)).trans ?_; assumption)) | go_keep)
   (first | (go_at_call 148; refine (ref_times1 rfl rfl (hp.ext (by first | exact Ext.refl _ | exact (Ext.refl _).drew | exact (Ext.refl _).drewN _)) (hq.ext (by first | exact Ext.refl _ | exact (Ext.refl _).drew | exact (Ext.refl _).drewN _)) (by omega)).mono ?_; rintro e w5 ⟨A5, c5, zs, rfl, ho5, hc5, hm5, ⟨hv5, hn5, hl5⟩, hext5⟩; have Hv5 := Lib.hid hv5; clear hv5) | (go_at_call 96; refine (ref_signed rfl ho5.rd hc5 hm5).mono ?_; rintro e w3 ⟨b3, A3, c3, rs, rfl, hr3, hc3, hm3, hi3, hl3, hext3⟩; have ext3 := ((Ext.refl wc).drew.trans hext5).trans hext3; have bz3 := bz.ext ext3; have z0 := bz3.cell 0 (.bool false) rfl; have z1 := bz3.cell 1 (.slice none 0 0) rfl; have f0 := bz3.frozen 0; have f1 := bz3.frozen 1))
  go_wp2_with fail
  obtain ⟨r1, r2, r3, r4⟩ := fin_pair (b := b3) (n := rs.length) (c := c3) (extN.trans ext3) (by omega) bz3 hr3;exact bodyPost_ret (v := .agg #[.bool b3, .slice A3 rs.length c3]) (by simp [results, Tryz.results123, go_sem, r3, r4]) rfl ⟨b3, A3, c3, rs, rfl, r1, hc3, hm3, by rw [ival_mul Hv5.out, hi1.eq, hi2.eq] at hi3; exact hi3, by omega, r2⟩
theorem ref_Sub (hn : xs.length = n) (hm : ys.length = m) (hx : Rd w A xs) (hy : Rd w B ys) (hc : n <= c) (hcm : c <= maxLen) (hd : m <= d) (hdm : d <= maxLen) (h1 : n <= 100000) (h2 : m <= 100000) :
  Calls Tryz.prog 164 #[.agg #[.bool s, .slice A n c], .agg #[.bool t, .slice B m d]] w (RetI (ival s xs - ival t ys) (max xs.length ys.length + 1) w) := by
 have Hn := Lib.hid hn;have Hm := Lib.hid hm;clear hn hm;have lx := trimL_len xs;have ly := trimL_len ys;have hxt : Rd w A (trimL xs) := by rw [trimL_take]; exact hx.take _
 have hyt : Rd w B (trimL ys) := by rw [trimL_take]; exact hy.take _
 go_enter Tryz.func164, Tryz.ntmps164
 go_upto_region 1 with (fail)
 obtain ⟨W, hW, extW, bx, by_, bz, hz⟩ := box3 w 28 28 28 #[.bool s, .slice A n c] #[.bool t, .slice B m d] #[.bool false, .slice none 0 0];rw [<- hW];clear hW;have x0 := bx.cell 0 (.bool s) rfl;have x1 := bx.cell 1 (.slice A n c) rfl;have y0 := by_.cell 0 (.bool t) rfl;have y1 := by_.cell 1 (.slice B m d) rfl
 go_region_held3 (fun w' => w'.cell? ⟨w.heap.size, 0, none⟩ = some (.bool s) /\ w'.cell? ⟨w.heap.size, 1, none⟩ = some (.slice A n c) /\ w'.cell? ⟨w.heap.size + 1, 0, none⟩ = some (.bool t) /\ w'.cell? ⟨w.heap.size + 1, 1, none⟩ = some (.slice B m d)) (first | (go_split_ands; refine ⟨?_, ?_, ?_, ?_⟩ <;> first | (exact Ext.cellv (by assumption) (by assumption)) | (refine (cell_far2 (by omega)).trans ?_; assumption)) | go_keep)
  (first | (go_at_call 120; refine (ref_Neg Hm.out (hy.ext (by first | exact extW | exact extW.drew | exact extW.drewN _ | exact (extW.drew).drew)) hd hdm h2).mono ?_; rintro e w4 ⟨b4, A4, c4, qs, rfl, hr4, hc4, hm4, hi4, hl4, hext4⟩) | (go_at_call 122; refine (ref_Add Hn.out rfl (hx.ext (extW.trans ((Ext.refl W).drew.trans hext4))) hr4 hc hcm hc4 hm4 h1 (by have := Hm.out; omega)).mono ?_; rintro e w3 ⟨b3, A3, c3, rs, rfl, hr3, hc3, hm3, hi3, hl3, hext3⟩; have ext3 := ((Ext.refl W).drew.trans hext4).trans hext3; have bz3 := bz.ext ext3; have z0 := bz3.cell 0 (.bool false) rfl; have z1 := bz3.cell 1 (.slice none 0 0) rfl; have f0 := bz3.frozen 0; have f1 := bz3.frozen 1))
 go_wp2_with fail
 obtain ⟨r1, r2, r3, r4⟩ := fin_pair (b := b3) (n := rs.length) (c := c3) (extW.trans ext3) (by omega) bz3 hr3;exact bodyPost_ret (v := .agg #[.bool b3, .slice A3 rs.length c3]) (by simp [results, Tryz.results164, go_sem, r3, r4]) rfl ⟨b3, A3, c3, rs, rfl, r1, hc3, hm3, by rw [hi4.eq] at hi3; exact hi3, by omega, r2⟩
end
theorem dm_rest {b1 b2 : Bool} {x y q r : Nat} (h : x = q * y + r) : (if b1 then -(x : Int) else (x : Int)) - (if (!(b1 == b2)) = true then -(q : Int) else (q : Int)) * (if b2 then -(y : Int) else (y : Int)) = if b1 then -(r : Int) else (r : Int) := by
 have e : (x : Int) = (q : Int) * (y : Int) + (r : Int) := by rw [h, Int.natCast_add, Int.natCast_mul]
 rw [e]
 cases b1 <;> cases b2 <;> simp <;> grind
theorem dm_abs {a b : Int} {b1 b2 bq : Bool} {ps qs us qq : List Nat} (h1 : IsInt a b1 ps) (h2 : IsInt b b2 qs) (hq : 0 < qs.length) (hu : val us = val ps / val qs) (h3 : IsInt (ival (!(b1 == b2)) us) bq qq) :
  b ≠ 0 /\ -(b.natAbs : Int) < a - ival bq qq * b /\ a - ival bq qq * b < (b.natAbs : Int) := by
 have hv : 0 < val qs := by
  rcases Nat.eq_zero_or_pos (val qs) with h | h
  ·rw [h2.nrm.zero.1 h] at hq; simp at hq
  ·exact h
 have e := dm_rest (b1 := b1) (b2 := b2) (x := val ps) (y := val qs) (q := val us) (r := val ps % val qs) (by rw [hu, Nat.mul_comm]; exact (Nat.div_add_mod _ _).symm);have hl := Nat.mod_lt (val ps) hv;have i1 : ival b1 ps = if b1 then -(val ps : Int) else (val ps : Int) := rfl;have i2 : ival b2 qs = if b2 then -(val qs : Int) else (val qs : Int) := rfl;have i3 : ival (!(b1 == b2)) us = if (!(b1 == b2)) = true then -(val us : Int) else (val us : Int) := rfl;rw [<- i1, <- i2, <- i3, h1.eq, h2.eq, <- h3.eq] at e;have hb := h2.eq;rw [i2] at hb;generalize val ps % val qs = r at *;refine ⟨?_, ?_, ?_⟩
 ·cases b2 <;> simp at hb <;> omega
 ·rw [e]; cases b1 <;> cases b2 <;> simp at hb ⊢ <;> omega
 ·rw [e]; cases b1 <;> cases b2 <;> simp at hb ⊢ <;> omega
def negB (r b : Int) : Bool := decide ((0 < b /\ r < 0) \/ (b < 0 /\ 0 < r))
theorem dm_fin {a b q : Int} (hb : b ≠ 0) (hr : -(b.natAbs : Int) < a - q * b /\ a - q * b < (b.natAbs : Int)) :
  b ≠ 0 /\ (negB (a - q * b) b = true -> IsDM a b (q - 1) (a - q * b + b)) /\ (negB (a - q * b) b = false -> IsDM a b q (a - q * b)) := by
 refine ⟨hb, fun h => ?_, fun h => ?_⟩
 ·have h := of_decide_eq_true h
  refine ⟨by grind, ?_⟩;omega
 ·have h := of_decide_eq_false h
  refine ⟨by grind, ?_⟩;omega
theorem dm_signs {b r : Int} (hb : b ≠ 0) : ∃ SR SB : Int, r.sign = SR /\ b.sign = SB /\ ((SR = 1 /\ SB = 1 /\ negB r b = false) \/ (SR = 0 /\ SB = 1 /\ negB r b = false) \/ (SR = -1 /\ SB = 1 /\ negB r b = true) \/ (SR = 1 /\ SB = -1 /\ negB r b = true) \/ (SR = 0 /\ SB = -1 /\ negB r b = false) \/ (SR = -1 /\ SB = -1 /\ negB r b = false)) := by
 refine ⟨_, _, rfl, rfl, ?_⟩;unfold negB
 rcases Int.lt_trichotomy b 0 with h | h | h
 ·rw [Int.sign_eq_neg_one_of_neg h]
  rcases Int.lt_trichotomy r 0 with k | k | k
  ·rw [Int.sign_eq_neg_one_of_neg k]; exact .inr (.inr (.inr (.inr (.inr ⟨rfl, rfl, decide_eq_false (by omega)⟩))))
  ·subst k; exact .inr (.inr (.inr (.inr (.inl ⟨rfl, rfl, decide_eq_false (by omega)⟩))))
  ·rw [Int.sign_eq_one_of_pos k]; exact .inr (.inr (.inr (.inl ⟨rfl, rfl, decide_eq_true (by omega)⟩)))
 ·exact absurd h hb
 ·rw [Int.sign_eq_one_of_pos h]
  rcases Int.lt_trichotomy r 0 with k | k | k
  ·rw [Int.sign_eq_neg_one_of_neg k]; exact .inr (.inr (.inl ⟨rfl, rfl, decide_eq_true (by omega)⟩))
  ·subst k; exact .inr (.inl ⟨rfl, rfl, decide_eq_false (by omega)⟩)
  ·rw [Int.sign_eq_one_of_pos k]; exact .inl ⟨rfl, rfl, decide_eq_false (by omega)⟩
section
variable {A B : Option Addr} {c d n m : Nat} {xs ys : List Nat} {w : World} {s t : Bool}
theorem ref_DivMod_nz (hn : xs.length = n) (hm : ys.length = m) (hx : Rd w A xs) (hy : Rd w B ys) (hc : n <= c) (hcm : c <= maxLen) (hd : m <= d) (hdm : d <= maxLen) (h1 : n <= 9000) (h2 : m <= 9000) (h0 : val ys ≠ 0) :
  Calls Tryz.prog 149 #[.agg #[.bool s, .slice A n c], .agg #[.bool t, .slice B m d]] w (RetDM (ival s xs) (ival t ys) 60000 60000 w) := by
 have Hn := Lib.hid hn;have Hm := Lib.hid hm;clear hn hm
 go_enter Tryz.func149, Tryz.ntmps149
 go_upto_region 1 with (fail)
 obtain ⟨W, hW, extW, bx, by_, bz, bu, hz⟩ := box4 w 28 28 28 28 #[.bool s, .slice A n c] #[.bool t, .slice B m d] #[.bool false, .slice none 0 0] #[.bool false, .slice none 0 0];rw [<- hW];clear hW;have x0 := bx.cell 0 (.bool s) rfl;have x1 := bx.cell 1 (.slice A n c) rfl;have y0 := by_.cell 0 (.bool t) rfl;have y1 := by_.cell 1 (.slice B m d) rfl;have hf0 := bx.frozen 0;have hf1 := bx.frozen 1;have hg0 := by_.frozen 0;have hg1 := by_.frozen 1
 go_cut [] (fun wx => TwoN w W (ival s xs) (ival t ys) xs.length ys.length (fun wx => Box wx (w.heap.size + 1 + 1) 28 #[.bool false, .slice none 0 0] /\ Box wx (w.heap.size + 1 + 1 + 1) 28 #[.bool false, .slice none 0 0] /\ w.heap.size + 4 <= wx.heap.size) wx)
 case first =>
  go_region_with (first | (go_at_call_of 94 A; refine (ref_Norm Hn.out (hx.ext (by first | exact extW | exact extW.drew | exact extW.drewN _ | exact (extW.drew).drew)) hc hcm (by omega)).mono ?_; rintro e w3 ⟨b3, A3, c3, rs, rfl, hr3, hc3, hm3, hi3, hl3, hext3⟩; have e3 := (by first | exact hext3 | exact (Ext.refl W).drew.trans hext3 : Ext W w3); have y30 := (by_.ext e3).cell 0 (.bool t) rfl; have y31 := (by_.ext e3).cell 1 (.slice B m d) rfl) | (go_at_call_of 94 B; refine (ref_Norm Hm.out (hy.ext (extW.trans e3)) hd hdm (by omega)).mono ?_; rintro e w4 ⟨b4, A4, c4, qs, rfl, hr4, hc4, hm4, hi4, hl4, hext4⟩; have e4 := e3.trans hext4; have x40 := (bx.ext e4).cell 0 (.bool s) rfl; have x41 := (bx.ext e4).cell 1 (.slice A n c) rfl; have y40 := (by_.ext e4).cell 0 (.bool t) rfl; have y41 := (by_.ext e4).cell 1 (.slice B m d) rfl; have f40 := (bx.ext e4).frozen 0; have f41 := (bx.ext e4).frozen 1; have g40 := (by_.ext e4).frozen 0; have g41 := (by_.ext e4).frozen 1))
  all_goals (go_wp2_with fail; go_meet; exact TwoN.mk' extW e4 bx by_ (hr3.ext hext4) hr4 hc3 hm3 hc4 hm4 hi3 hi4 hl3 hl4 (fun u v p q => ⟨(((((bz.ext e4).far (far_ne (by omega)) _).far (far_ne (by omega)) _).far (far_ne (by omega)) _).far (far_ne (by omega)) _), (((((bu.ext e4).far (far_ne (by omega)) _).far (far_ne (by omega)) _).far (far_ne (by omega)) _).far (far_ne (by omega)) _), by have := e4.size; simp [World.setCell]; omega⟩))
 case rest =>
  clear bx by_ bz bu hz x0 x1 y0 y1 hf0 hf1 hg0 hg1 extW;obtain ⟨b1, A1, c1, ps, b2, A2, c2, qs, extN, bx, by_, ⟨bz, bu, hz⟩, hp, hq, hc1, hm1, hc2, hm2, hi1, hi2, hl1, hl2⟩ := hcut;have hps : ps.length <= 9000 := by have := Hn.out; omega
  have hqs : qs.length <= 9000 := by have := Hm.out; omega
  have x0 := bx.cell 0 (.bool b1) rfl;have x1 := bx.cell 1 (.slice A1 ps.length c1) rfl;have y0 := by_.cell 0 (.bool b2) rfl;have y1 := by_.cell 1 (.slice A2 qs.length c2) rfl
  have hqpos : 0 < qs.length := by
   rcases Nat.eq_zero_or_pos qs.length with h | h
   ·exfalso
    apply h0
    have hz0 := hi2.zero.1 (List.length_eq_zero_iff.1 h);unfold ival at hz0
    cases t <;> simp at hz0 <;> omega
   ·exact h
  have hqne : ((qs.length : Int) == 0) = false := by rw [beq_eq_false_iff_ne]; omega
  go_wp2_with fail
  refine (ref_divide rfl rfl hp hq hc1 hm1 hi1.nrm hi2.nrm hqpos (by omega) (by omega)).mono ?_;rintro e w5 ⟨A5, c5, us, A6, c6, rs6, rfl, hr5, hr6, hc5, hm5, hc6, hm6, huv, hrv, hun, hrn, hxt5⟩;have hul : us.length <= ps.length := nrm_len_le hp.1 hun (by rw [huv]; exact Nat.div_le_self _ _);have Huv := Lib.hid huv;clear huv hrv hr6 x0 x1 y0 y1;have x0 := (bx.ext hxt5).cell 0 (.bool b1) rfl;have x1 := (bx.ext hxt5).cell 1 (.slice A1 ps.length c1) rfl;have y0 := (by_.ext hxt5).cell 0 (.bool b2) rfl;have y1 := (by_.ext hxt5).cell 1 (.slice A2 qs.length c2) rfl
  go_wp2_with fail
  refine (ref_signed rfl hr5 hc5 hm5).mono ?_;rintro e w6 ⟨bq, Aq, cq, qq, rfl, hrq, hcq, hmq, hiq, hlq, hxt6⟩;have E6 := hxt5.trans hxt6
  go_upto_region 6 with (fail)
  refine at_world (fun V => Ext wc V /\ Box V w6.heap.size 28 #[.bool bq, .slice Aq qq.length cq] /\ Rd V Aq qq) ⟨E6.alloc _, Box.new w6 _ _, hrq.ext ((Ext.refl w6).alloc _)⟩ ?_;have hgq := E6.size;generalize w6.heap.size = gq at *;clear hrq E6 hxt5 hxt6 hr5 x0 x1 y0 y1;rintro V ⟨EV, xq, hrq⟩;have xa := bx.ext EV;have xb := by_.ext EV;have xz := bz.ext EV;have xu := bu.ext EV;have hpV := hp.ext EV;have hqV := hq.ext EV;have EW := extN.trans EV;clear bx by_ bz bu hp hq EV;have x0 := xa.cell 0 (.bool b1) rfl;have x1 := xa.cell 1 (.slice A1 ps.length c1) rfl;have y0 := xb.cell 0 (.bool b2) rfl;have y1 := xb.cell 1 (.slice A2 qs.length c2) rfl;have q0 := xq.cell 0 (.bool bq) rfl;have q1 := xq.cell 1 (.slice Aq qq.length cq) rfl;have hql : qq.length <= 9000 := by omega
  go_cut [10] (fun p X => ∃ gr b7 A7 c7 rr, p = .pointer (some ⟨gr, 0, none⟩) /\ V.heap.size <= gr /\ Ext V X /\ Box X gr 28 #[.bool b7, .slice A7 (List.length rr) c7] /\ Rd X A7 rr /\ rr.length <= c7 /\ c7 <= maxLen /\ IsInt (ival s xs - ival bq qq * ival t ys) b7 rr /\ rr.length <= 30000)
  case first =>
   have ET := Ext.refl V;have hsz5 : V.heap.size <= V.heap.size := Nat.le_refl _
   go_region_held3 (fun w' => w'.cell? ⟨w.heap.size, 0, none⟩ = some (.bool b1) /\ w'.cell? ⟨w.heap.size, 1, none⟩ = some (.slice A1 ps.length c1) /\ w'.cell? ⟨(w.heap.size + 1), 0, none⟩ = some (.bool b2) /\ w'.cell? ⟨(w.heap.size + 1), 1, none⟩ = some (.slice A2 qs.length c2) /\ w'.cell? ⟨gq, 0, none⟩ = some (.bool bq) /\ w'.cell? ⟨gq, 1, none⟩ = some (.slice Aq qq.length cq)) (first | exact ⟨(xa.ext ET).cell 0 _ rfl, (xa.ext ET).cell 1 _ rfl, (xb.ext ET).cell 0 _ rfl, (xb.ext ET).cell 1 _ rfl, (xq.ext ET).cell 0 _ rfl, (xq.ext ET).cell 1 _ rfl⟩ | exact ⟨(xa.ext ET.drew).cell 0 _ rfl, (xa.ext ET.drew).cell 1 _ rfl, (xb.ext ET.drew).cell 0 _ rfl, (xb.ext ET.drew).cell 1 _ rfl, (xq.ext ET.drew).cell 0 _ rfl, (xq.ext ET.drew).cell 1 _ rfl⟩ | exact ⟨(xa.ext (ET.alloc _)).cell 0 _ rfl, (xa.ext (ET.alloc _)).cell 1 _ rfl, (xb.ext (ET.alloc _)).cell 0 _ rfl, (xb.ext (ET.alloc _)).cell 1 _ rfl, (xq.ext (ET.alloc _)).cell 0 _ rfl, (xq.ext (ET.alloc _)).cell 1 _ rfl⟩ | exact ⟨(xa.ext (ET.drew.alloc _)).cell 0 _ rfl, (xa.ext (ET.drew.alloc _)).cell 1 _ rfl, (xb.ext (ET.drew.alloc _)).cell 0 _ rfl, (xb.ext (ET.drew.alloc _)).cell 1 _ rfl, (xq.ext (ET.drew.alloc _)).cell 0 _ rfl, (xq.ext (ET.drew.alloc _)).cell 1 _ rfl⟩ | exact ⟨(xa.ext ((ET.setCell (p := ⟨wk.heap.size, 0, none⟩) hsz _).setCell (p := ⟨wk.heap.size, 1, none⟩) hsz _)).cell 0 _ rfl, (xa.ext ((ET.setCell (p := ⟨wk.heap.size, 0, none⟩) hsz _).setCell (p := ⟨wk.heap.size, 1, none⟩) hsz _)).cell 1 _ rfl, (xb.ext ((ET.setCell (p := ⟨wk.heap.size, 0, none⟩) hsz _).setCell (p := ⟨wk.heap.size, 1, none⟩) hsz _)).cell 0 _ rfl, (xb.ext ((ET.setCell (p := ⟨wk.heap.size, 0, none⟩) hsz _).setCell (p := ⟨wk.heap.size, 1, none⟩) hsz _)).cell 1 _ rfl, (xq.ext ((ET.setCell (p := ⟨wk.heap.size, 0, none⟩) hsz _).setCell (p := ⟨wk.heap.size, 1, none⟩) hsz _)).cell 0 _ rfl, (xq.ext ((ET.setCell (p := ⟨wk.heap.size, 0, none⟩) hsz _).setCell (p := ⟨wk.heap.size, 1, none⟩) hsz _)).cell 1 _ rfl⟩ | exact ⟨(xa.ext ((ET.setCell (p := ⟨V.heap.size, 0, none⟩) hsz5 _).setCell (p := ⟨V.heap.size, 1, none⟩) hsz5 _)).cell 0 _ rfl, (xa.ext ((ET.setCell (p := ⟨V.heap.size, 0, none⟩) hsz5 _).setCell (p := ⟨V.heap.size, 1, none⟩) hsz5 _)).cell 1 _ rfl, (xb.ext ((ET.setCell (p := ⟨V.heap.size, 0, none⟩) hsz5 _).setCell (p := ⟨V.heap.size, 1, none⟩) hsz5 _)).cell 0 _ rfl, (xb.ext ((ET.setCell (p := ⟨V.heap.size, 0, none⟩) hsz5 _).setCell (p := ⟨V.heap.size, 1, none⟩) hsz5 _)).cell 1 _ rfl, (xq.ext ((ET.setCell (p := ⟨V.heap.size, 0, none⟩) hsz5 _).setCell (p := ⟨V.heap.size, 1, none⟩) hsz5 _)).cell 0 _ rfl, (xq.ext ((ET.setCell (p := ⟨V.heap.size, 0, none⟩) hsz5 _).setCell (p := ⟨V.heap.size, 1, none⟩) hsz5 _)).cell 1 _ rfl⟩)
    (first | (go_at_call 123; refine (ref_Mul rfl rfl (hrq.ext (by first | exact ET | exact ET.drew | exact ET.alloc _ | exact ET.drew.alloc _ | exact (ET.alloc _).drew)) (hqV.ext (by first | exact ET | exact ET.drew | exact ET.alloc _ | exact ET.drew.alloc _ | exact (ET.alloc _).drew)) hcq hmq hc2 hm2 (by omega) (by omega)).mono ?_; rintro e wk ⟨b4, A4, c4, ms, rfl, hr4, hc4, hm4, hi4, hl4, hxt⟩; replace ET := (by first | exact ET.trans hxt | exact ET.drew.trans hxt | exact (ET.alloc _).trans hxt | exact (ET.drew.alloc _).trans hxt : Ext V _); have hsz := ET.size; first | (have xnb : Box wk V.heap.size 28 #[Value.bool false, Value.slice none 0 0] := Box.ext (Box.new V 28 #[Value.bool false, Value.slice none 0 0]) hxt; have n0 := xnb.cell 0 (Value.bool false) rfl; have n1 := xnb.cell 1 (Value.slice none 0 0) rfl; have nf0 := xnb.frozen 0; have nf1 := xnb.frozen 1) | (have xnb : Box wk V.heap.size 28 #[Value.bool false, Value.slice none 0 0] := Box.ext (Box.new V.drew 28 #[Value.bool false, Value.slice none 0 0]) hxt; have n0 := xnb.cell 0 (Value.bool false) rfl; have n1 := xnb.cell 1 (Value.slice none 0 0) rfl; have nf0 := xnb.frozen 0; have nf1 := xnb.frozen 1) | skip) | (go_at_call 164; refine (ref_Sub rfl rfl (hpV.ext (by first | exact ET | exact ET.drew | exact ET.alloc _ | exact ET.drew.alloc _ | exact (ET.alloc _).drew)) (by first | exact hr4 | exact hr4.ext ((Ext.refl _).alloc _)) hc1 hm1 hc4 hm4 (by omega) (by omega)).mono ?_; rintro e wk2 ⟨b5, A5, c5, ns, rfl, hr5, hc5, hm5, hi5, hl5, hxt⟩; replace ET := (by first | exact ET.trans hxt | exact ET.drew.trans hxt | exact (ET.alloc _).trans hxt | exact (ET.drew.alloc _).trans hxt : Ext V _); first | (replace xnb := Box.ext xnb hxt; have n0 := xnb.cell 0 (Value.bool false) rfl; have n1 := xnb.cell 1 (Value.slice none 0 0) rfl; have nf0 := xnb.frozen 0; have nf1 := xnb.frozen 1) | (have xnb : Box wk2 wk.heap.size 28 #[Value.bool false, Value.slice none 0 0] := Box.ext (Box.new wk 28 #[Value.bool false, Value.slice none 0 0]) hxt; have n0 := xnb.cell 0 (Value.bool false) rfl; have n1 := xnb.cell 1 (Value.slice none 0 0) rfl; have nf0 := xnb.frozen 0; have nf1 := xnb.frozen 1) | skip))
   all_goals (go_wp2_with fail; go_meet; rw [hi4.eq, hi1.eq, hi2.eq] at hi5; first | exact ⟨_, b5, A5, c5, ns, rfl, ET.size, ET.alloc _, Box.new _ _ _, hr5.ext ((Ext.refl _).alloc _), hc5, hm5, hi5, by omega⟩ | exact ⟨_, b5, A5, c5, ns, rfl, ET.size, ET.drew.alloc _, Box.new _ _ _, hr5.ext ((Ext.refl _).drew.alloc _), hc5, hm5, hi5, by omega⟩ | exact ⟨wk.heap.size, b5, A5, c5, ns, rfl, hsz, ((ET.setCell (p := ⟨wk.heap.size, 0, none⟩) hsz _).setCell (p := ⟨wk.heap.size, 1, none⟩) hsz _), (xnb.setA _).setB _, (fin_pair ET hsz xnb hr5).1, hc5, hm5, hi5, by omega⟩ | exact ⟨V.heap.size, b5, A5, c5, ns, rfl, hsz5, ((ET.setCell (p := ⟨V.heap.size, 0, none⟩) hsz5 _).setCell (p := ⟨V.heap.size, 1, none⟩) hsz5 _), (xnb.setA _).setB _, (fin_pair ET hsz5 xnb hr5).1, hc5, hm5, hi5, by omega⟩)
  case rest =>
   clear x0 x1 y0 y1 q0 q1;obtain ⟨gr, b7, A7, c7, rr, rfl, hgr, EX, xr, hrr, hc7, hm7, hi7, hl7⟩ := hcut;have EWX := EW.trans EX;have xqX := xq.ext EX;have xbX := xb.ext EX;have xzX := xz.ext EX;have xuX := xu.ext EX;have hqqX := hrq.ext EX;have hqsX := hqV.ext EX;have hgqV := xq.lt;have hgrX := xr.lt;have hsz4 : w.heap.size + 4 <= gq := by omega
   have hgqr : gq < gr := by omega
   clear xq xb xz xu hrq hqV xa hpV EW EX extN;have hdm := dm_abs hi1 hi2 hqpos Huv.out hiq;obtain ⟨db, hfin⟩ := dm_fin hdm.1 hdm.2;have Hfin := Lib.hid hfin;clear hdm hfin;have R0 := xr.cell 0 (.bool b7) rfl;have R1 := xr.cell 1 (.slice A7 rr.length c7) rfl;have y0 := xbX.cell 0 (.bool b2) rfl;have y1 := xbX.cell 1 (.slice A2 qs.length c2) rfl
   go_wp2_with fail
   go_cut [46] (fun p X => p = .bool (negB (ival s xs - ival bq qq * ival t ys) (ival t ys)) /\ Ext wc X)
   case first =>
    obtain ⟨SR, SB, hs1, hs2, hs3⟩ := dm_signs db (r := ival s xs - ival bq qq * ival t ys);rw [<- hi7.eq] at hs1;rw [<- hi2.eq] at hs2
    rcases hs3 with ⟨rfl, rfl, hs3⟩ | ⟨rfl, rfl, hs3⟩ | ⟨rfl, rfl, hs3⟩ | ⟨rfl, rfl, hs3⟩ | ⟨rfl, rfl, hs3⟩ | ⟨rfl, rfl, hs3⟩
    all_goals
     have Hs1 := Lib.hid hs1;have Hs2 := Lib.hid hs2;have Hs3 := Lib.hid hs3;clear hs1 hs2 hs3;have ET := Ext.refl wc
     go_region_held3 (fun w' => w'.cell? ⟨gr, 0, none⟩ = some (.bool b7) /\ w'.cell? ⟨gr, 1, none⟩ = some (.slice A7 rr.length c7) /\ w'.cell? ⟨(w.heap.size + 1), 0, none⟩ = some (.bool b2) /\ w'.cell? ⟨(w.heap.size + 1), 1, none⟩ = some (.slice A2 qs.length c2)) (first | exact ⟨(xr.ext ET).cell 0 _ rfl, (xr.ext ET).cell 1 _ rfl, (xbX.ext ET).cell 0 _ rfl, (xbX.ext ET).cell 1 _ rfl⟩ | exact ⟨(xr.ext ET.drew).cell 0 _ rfl, (xr.ext ET.drew).cell 1 _ rfl, (xbX.ext ET.drew).cell 0 _ rfl, (xbX.ext ET.drew).cell 1 _ rfl⟩ | exact ⟨(xr.ext (ET.alloc _)).cell 0 _ rfl, (xr.ext (ET.alloc _)).cell 1 _ rfl, (xbX.ext (ET.alloc _)).cell 0 _ rfl, (xbX.ext (ET.alloc _)).cell 1 _ rfl⟩ | exact ⟨(xr.ext (ET.drew.alloc _)).cell 0 _ rfl, (xr.ext (ET.drew.alloc _)).cell 1 _ rfl, (xbX.ext (ET.drew.alloc _)).cell 0 _ rfl, (xbX.ext (ET.drew.alloc _)).cell 1 _ rfl⟩)
      (first | (go_at_call_of 54 A7; refine (ref_Sign rfl (hrr.ext (by first | exact ET | exact ET.drew | exact ET.drewN _)) hc7 hm7 (by omega)).mono ?_; rintro e wk ⟨rfl, hxt⟩; rw [Hs1.out]; replace ET := (by first | exact ET.trans hxt | exact ET.drew.trans hxt : Ext wc _)) | (go_at_call_of 54 A2; refine (ref_Sign rfl (hqsX.ext (by first | exact ET | exact ET.drew | exact ET.drewN _)) hc2 hm2 (by omega)).mono ?_; rintro e wk ⟨rfl, hxt⟩; rw [Hs2.out]; replace ET := (by first | exact ET.trans hxt | exact ET.drew.trans hxt : Ext wc _)))
     go_wp2_with fail
     go_meet
     exact ⟨by rw [Hs3.out]; rfl, by first | exact ET | exact ET.drew | exact ET.drewN _⟩
   case rest =>
    clear R0 R1 y0 y1;obtain ⟨rfl, EX⟩ := hcut;have EWX := EWX.trans EX;have xqX := xqX.ext EX;have xr := xr.ext EX;have xbX := xbX.ext EX;have xzX := xzX.ext EX;have xuX := xuX.ext EX;have hqqX := hqqX.ext EX;have hqsX := hqsX.ext EX;have hrrX := hrr.ext EX;have hqq2 : qq.length <= 30000 := by omega
    go_upto_if 46 with fail
    go_cut [] (fun X => ∃ b9 A9 c9 q9 b0 A0 c0 r9 Q R, Ext w X /\ Box X gq 28 #[.bool b9, .slice A9 (List.length q9) c9] /\ Box X gr 28 #[.bool b0, .slice A0 (List.length r9) c0] /\ Box X (w.heap.size + 1 + 1) 28 #[.bool false, .slice none 0 0] /\ Box X (w.heap.size + 1 + 1 + 1) 28 #[.bool false, .slice none 0 0] /\ Rd X A9 q9 /\ Rd X A0 r9 /\ q9.length <= c9 /\ c9 <= maxLen /\ r9.length <= c0 /\ c0 <= maxLen /\ IsInt Q b9 q9 /\ IsInt R b0 r9 /\ IsDM (ival s xs) (ival t ys) Q R /\ q9.length <= 60000 /\ r9.length <= 60000)
    case first =>
     cases hng : negB (ival s xs - ival bq qq * ival t ys) (ival t ys) with
     | false =>
      have Hdm := Lib.hid (Hfin.out.2 hng);clear hng
      go_wp2_with fail
      go_meet
      exact ⟨bq, Aq, cq, qq, b7, A7, c7, rr, _, _, EWX, xqX, xr, xzX, xuX, hqqX, hrrX, hcq, hmq, hc7, hm7, ⟨hiq.w32, hiq.nrm, hiq.sgn, rfl⟩, hi7, Hdm.out, by omega, by omega⟩
     | true =>
      have Hdm := Lib.hid (Hfin.out.1 hng);clear hng;have q0 := xqX.cell 0 (.bool bq) rfl;have q1 := xqX.cell 1 (.slice Aq qq.length cq) rfl
      go_upto_region 8 with fail
      go_cut [] (fun X => ∃ b9 A9 c9 q9, Ext w X /\ Box X gq 28 #[.bool b9, .slice A9 (List.length q9) c9] /\ Box X gr 28 #[.bool b7, .slice A7 rr.length c7] /\ Box X (w.heap.size + 1) 28 #[.bool b2, .slice A2 qs.length c2] /\ Box X (w.heap.size + 1 + 1) 28 #[.bool false, .slice none 0 0] /\ Box X (w.heap.size + 1 + 1 + 1) 28 #[.bool false, .slice none 0 0] /\ Rd X A9 q9 /\ Rd X A7 rr /\ Rd X A2 qs /\ q9.length <= c9 /\ c9 <= maxLen /\ IsInt (ival bq qq - 1) b9 q9 /\ q9.length <= 40000)
      case first =>
       go_region_with (first | (go_at_call 82; refine (ref_FromInt 1 (by omega) (by omega)).mono ?_; rintro e wk ⟨b4, A4, c4, ms, rfl, hr4, hc4, hm4, hi4, hl4, hxt⟩; have ET := (by first | exact hxt | exact (Ext.refl wc).drew.trans hxt : Ext wc wk); have qk0 := (xqX.ext ET).cell 0 (.bool bq) rfl; have qk1 := (xqX.ext ET).cell 1 (.slice Aq qq.length cq) rfl) | (go_at_call 164; refine (ref_Sub rfl rfl (hqqX.ext ET) hr4 hcq hmq hc4 hm4 (by omega) (by omega)).mono ?_; rintro e wk2 ⟨b5, A5, c5, ns, rfl, hr5, hc5, hm5, hi5, hl5, hxt2⟩; have ET2 := ET.trans hxt2; have xq2 := xqX.ext ET2; have qq0 := xq2.cell 0 (.bool bq) rfl; have qq1 := xq2.cell 1 (.slice Aq qq.length cq) rfl; have qf0 := xq2.frozen 0; have qf1 := xq2.frozen 1))
       all_goals (go_wp2_with fail; go_meet; rw [hi4.eq] at hi5; exact ⟨b5, A5, c5, ns, ((EWX.trans ET2).setCell (p := ⟨gq, 0, none⟩) (by show w.heap.size <= gq; omega) _).setCell (p := ⟨gq, 1, none⟩) (by show w.heap.size <= gq; omega) _, (xq2.setA _).setB _, ((xr.ext ET2).far (far_ne (by omega)) _).far (far_ne (by omega)) _, ((xbX.ext ET2).far (far_ne (by omega)) _).far (far_ne (by omega)) _, ((xzX.ext ET2).far (far_ne (by omega)) _).far (far_ne (by omega)) _, ((xuX.ext ET2).far (far_ne (by omega)) _).far (far_ne (by omega)) _, (fin_pair (w := w) (EWX.trans ET2) (by omega) xq2 hr5).1, ((hrrX.ext ET2).setBox xq2 NoWord.two 0 _).setBox (xq2.setA _) NoWord.two 1 _, ((hqsX.ext ET2).setBox xq2 NoWord.two 0 _).setBox (xq2.setA _) NoWord.two 1 _, hc5, hm5, hi5, by omega⟩)
      case rest =>
       clear EWX xqX xr xbX xzX xuX hqqX hqsX hrrX q0 q1;obtain ⟨b9, A9, c9, q9, EWX, xqX, xr, xbX, xzX, xuX, hq9, hrrX, hqsX, hc9, hm9, hi9, hl9⟩ := hcut;have R0 := xr.cell 0 (.bool b7) rfl;have R1 := xr.cell 1 (.slice A7 rr.length c7) rfl;have y0 := xbX.cell 0 (.bool b2) rfl;have y1 := xbX.cell 1 (.slice A2 qs.length c2) rfl
       go_wp2_with fail
       refine (ref_Add rfl rfl hrrX hqsX hc7 hm7 hc2 hm2 (by omega) (by omega)).mono ?_;rintro e wk ⟨b0, A0, c0, r9, rfl, hr0, hc0, hm0, hi0, hl0, hxt⟩;have xr2 := xr.ext hxt;have R0 := xr2.cell 0 (.bool b7) rfl;have R1 := xr2.cell 1 (.slice A7 rr.length c7) rfl;have F0 := xr2.frozen 0;have F1 := xr2.frozen 1
       go_wp2_with fail
       go_meet
       rw [hi7.eq, hi2.eq] at hi0;exact ⟨b9, A9, c9, q9, b0, A0, c0, r9, _, _, ((EWX.trans hxt).setCell (p := ⟨gr, 0, none⟩) (by show w.heap.size <= gr; omega) _).setCell (p := ⟨gr, 1, none⟩) (by show w.heap.size <= gr; omega) _, ((xqX.ext hxt).far (far_ne (by omega)) _).far (far_ne (by omega)) _, (xr2.setA _).setB _, ((xzX.ext hxt).far (far_ne (by omega)) _).far (far_ne (by omega)) _, ((xuX.ext hxt).far (far_ne (by omega)) _).far (far_ne (by omega)) _, ((hq9.ext hxt).setBox xr2 NoWord.two 0 _).setBox (xr2.setA _) NoWord.two 1 _, (fin_pair (w := w) (EWX.trans hxt) (by omega) xr2 hr0).1, hc9, hm9, hc0, hm0, hi9, hi0, Hdm.out, by omega, by omega⟩
    case rest =>
     clear EWX xqX xr xbX xzX xuX hqqX hqsX hrrX;obtain ⟨b9, A9, c9, q9, b0, A0, c0, r9, Q, R, EWX, xqX, xr, xzX, xuX, hq9, hr9, hc9, hm9, hc0, hm0, hi9, hi0, hdm, hl9, hl0⟩ := hcut;have q0 := xqX.cell 0 (.bool b9) rfl;have q1 := xqX.cell 1 (.slice A9 q9.length c9) rfl;have R0 := xr.cell 0 (.bool b0) rfl;have R1 := xr.cell 1 (.slice A0 r9.length c0) rfl;have z0 := xzX.cell 0 (.bool false) rfl;have z1 := xzX.cell 1 (.slice none 0 0) rfl;have f0 := xzX.frozen 0;have f1 := xzX.frozen 1;have u0 := xuX.cell 0 (.bool false) rfl;have u1 := xuX.cell 1 (.slice none 0 0) rfl;have g0 := xuX.frozen 0;have g1 := xuX.frozen 1;have Hdm := Lib.hid hdm;clear hdm
     go_upto_region 10 with fail
     go_region
     all_goals
      go_wp2_with fail
      obtain ⟨W', hW', r1, r2, r3, r4, r5, r6, r7⟩ := fin_two (b := b9) (A := A9) (n := q9.length) (c := c9) (b' := b0) (A' := A0) (n' := r9.length) (c' := c0) (by first | exact EWX | exact EWX.drew | exact EWX.drewN _) (show w.heap.size <= w.heap.size + 1 + 1 by omega) (show w.heap.size <= w.heap.size + 1 + 1 + 1 by omega) (by omega) (by first | exact xzX | exact xzX.ext ((Ext.refl _).drew) | exact xzX.ext ((Ext.refl _).drewN _)) (by first | exact xuX | exact xuX.ext ((Ext.refl _).drew) | exact xuX.ext ((Ext.refl _).drewN _)) (by first | exact hq9 | exact hq9.ext ((Ext.refl _).drew) | exact hq9.ext ((Ext.refl _).drewN _)) (by first | exact hr9 | exact hr9.ext ((Ext.refl _).drew) | exact hr9.ext ((Ext.refl _).drewN _)) _ _ _ _ rfl rfl rfl rfl;rw [<- hW'];exact bodyPost_ret (v := .tuple #[.agg #[.bool b9, .slice A9 q9.length c9], .agg #[.bool b0, .slice A0 r9.length c0], .int .i64 0]) (by simp [results, Tryz.results149, go_sem, r4, r5, r6, r7]) rfl ⟨b9, A9, c9, q9, b0, A0, c0, r9, Q, R, rfl, r1, r2, hc9, hm9, hc0, hm0, hi9, hi0, Hdm.out, hl9, hl0, by first | exact r3 | exact r3.drew | exact r3.drewN _⟩
end
end
section
open Go.RowKit
section
variable {w w' : World} {z y : Int} {L L' M : Nat} {s t : Bool} {A B : Option Addr} {n c m d : Nat}
theorem q_Neg (h : NI w z L s A n c) (hL : L <= 100000) : Calls Tryz.prog 120 #[.agg #[.bool s, .slice A n c]] w (RetNI (-z) L w) := by
 obtain ⟨xs, hn, hx, hc, hcm, hi, hl⟩ := h.out;refine (ref_Neg hn hx hc hcm (by omega)).mono fun e w' hr => ?_
 rw [hi.eq] at hr;exact hr.ni (by omega)
theorem q_Add (h : NI w z L s A n c) (k : NI w y M t B m d) (hL : L <= 50000) (hM : M <= 50000) : Calls Tryz.prog 122 #[.agg #[.bool s, .slice A n c], .agg #[.bool t, .slice B m d]] w (RetNI (z + y) (max L M + 1) w) := by
 obtain ⟨xs, hn, hx, hc, hcm, hi, hl⟩ := h.out;obtain ⟨ys, hm, hy, hd, hdm, hj, hk⟩ := k.out;refine (ref_Add hn hm hx hy hc hcm hd hdm (by omega) (by omega)).mono fun e w' hr => ?_
 rw [hi.eq, hj.eq] at hr;exact hr.ni (by omega)
theorem q_Mul (h : NI w z L s A n c) (k : NI w y M t B m d) (hL : L <= 50000) (hM : M <= 50000) : Calls Tryz.prog 123 #[.agg #[.bool s, .slice A n c], .agg #[.bool t, .slice B m d]] w (RetNI (z * y) (L + M) w) := by
 obtain ⟨xs, hn, hx, hc, hcm, hi, hl⟩ := h.out;obtain ⟨ys, hm, hy, hd, hdm, hj, hk⟩ := k.out;refine (ref_Mul hn hm hx hy hc hcm hd hdm (by omega) (by omega)).mono fun e w' hr => ?_
 rw [hi.eq, hj.eq] at hr;exact hr.ni (by omega)
theorem q_DivMod (h : NI w z L s A n c) (k : NI w y M t B m d) (hL : L <= 9000) (hM : M <= 9000) (h0 : y ≠ 0) : Calls Tryz.prog 149 #[.agg #[.bool s, .slice A n c], .agg #[.bool t, .slice B m d]] w (RetND z y 60000 M w) := by
 obtain ⟨xs, hn, hx, hc, hcm, hi, hl⟩ := h.out;obtain ⟨ys, hm, hy, hd, hdm, hj, hk⟩ := k.out;refine (ref_DivMod_nz hn hm hx hy hc hcm hd hdm (by omega) (by omega) (by rw [hj.abs]; omega)).mono ?_;rintro e w' ⟨b3, A3, c3, qs, b4, A4, c4, rs, q, r, rfl, hr3, hr4, hc3, hm3, hc4, hm4, hi3, hi4, hdm, hl3, hl4, hxt⟩;rw [hi.eq, hj.eq] at hdm;have hr : NI w' r 60000 b4 A4 rs.length c4 := ⟨rs, rfl, hr4, hc4, hm4, hi4, hl4⟩;exact ⟨b3, A3, qs.length, c3, b4, A4, rs.length, c4, q, r, rfl, ⟨qs, rfl, hr3, hc3, hm3, hi3, hl3⟩, hr.tight k (dm_q_le hdm h0).2.1, hdm, hxt⟩
end
end
section
open Go.RowKit
attribute [local go_sem ↓] Go.wp_at_zero Go.wp_at_succ
section
variable {w w' : World} {z y : Int} {q p : Rat} {L M : Nat} {s t s' t' : Bool} {A B A' B' : Option Addr} {n c m d n' c' m' d' : Nat}
theorem rat_add_one {q p : Rat} (h1 : (q.den : Int) = 1) (h2 : (p.den : Int) = 1) : ((q.num + p.num : Int) : Rat) = q + p := by
 have e1 : q.den = 1 := by omega
 have e2 : p.den = 1 := by omega
 rw [Rat.add_def', e1, e2];simp [Rat.mkRat_one]
theorem q_quo_dm (h : NI w z L s A n c) (k : NI w y M t B m d) (hL : L <= 9000) (hM : M <= 9000) (h0 : y ≠ 0) : Calls Tryz.prog 124 #[.agg #[.bool s, .slice A n c], .agg #[.bool t, .slice B m d]] w fun e w' => ∃ q r : Int, IsDM z y q r /\ RetNI q 60000 w e w' := by
 go_enter Tryz.func124, Tryz.ntmps124
 go_upto_region 1 with (fail)
 obtain ⟨W, hW, extW, bx, by_, bz, hz⟩ := box3 w 28 28 28 #[.bool s, .slice A n c] #[.bool t, .slice B m d] #[Value.bool false, Value.slice none 0 0];rw [<- hW];clear hW;have x0 := bx.cell 0 (.bool s) rfl;have x1 := bx.cell 1 (.slice A n c) rfl;have y2 := by_.cell 0 (.bool t) rfl;have y3 := by_.cell 1 (.slice B m d) rfl
 go_wp2_with fail
 refine (q_DivMod (h.ext extW) (k.ext extW) (by omega) (by omega) h0).mono ?_;rintro e wb ⟨s1, A1, n1, c1, s2, A2, n2, c2, q, r, rfl, hq, hr, hdm, hx1⟩;clear x0 x1 y2 y3
 go_upto_region 2 with (fail)
 refine at_world (fun V => Ext W V /\ Box V wb.heap.size 28 #[.bool s1, .slice A1 n1 c1] /\ NI V q 60000 s1 A1 n1 c1) ?_ ?_
 ·obtain ⟨e1, e2, e3⟩ := two_new wb 28 #[.bool s1, .slice A1 n1 c1] #[.bool s2, .slice A2 n2 c2]
  exact ⟨hx1.trans e1, e2, hq.ext e1⟩
 generalize wb.heap.size = g5;rintro V ⟨EV, b5, hqV⟩;have x0 := b5.cell 0 _ rfl;have x1 := b5.cell 1 _ rfl;have z0 := (bz.ext EV).cell 0 _ rfl;have z1 := (bz.ext EV).cell 1 _ rfl;have f0 := (bz.ext EV).frozen 0;have f1 := (bz.ext EV).frozen 1
 go_wp2_with fail
 obtain ⟨b1, b2, b3, b4⟩ := fin_dual (s := s1) (A := A1) (n := n1) (c := c1) (bz.ext EV);have r0 := b1.cell 0 (.bool s1) rfl;have r1 := b1.cell 1 (.slice A1 n1 c1) rfl;unfold set2 at r0 r1;refine bodyPost_ret (v := .agg #[.bool s1, .slice A1 n1 c1]) (by simp [results, Tryz.results124, go_sem, r0, r1]) rfl ⟨q, r, hdm, s1, A1, n1, c1, rfl, ?_, b3 _ (extW.trans EV) (by omega)⟩;exact b2 _ _ _ _ _ _ hqV
theorem q_quo (h : NI w z L s A n c) (k : NI w y M t B m d) (hL : L <= 9000) (hM : M <= 9000) (h0 : y ≠ 0) (hd : y ∣ z) : Calls Tryz.prog 124 #[.agg #[.bool s, .slice A n c], .agg #[.bool t, .slice B m d]] w (RetNI (z / y) L w) := by
 refine (q_quo_dm h k hL hM h0).mono ?_;rintro e w' ⟨q, r, hdm, s1, A1, n1, c1, rfl, hq, hx⟩;obtain ⟨_, hqe, hql⟩ := (dm_q_le hdm h0).2.2 hd;rw [hqe] at hq hql;exact ⟨s1, A1, n1, c1, rfl, hq.tight (h.ext hx) (by simpa using hql), hx⟩
theorem q_NegR (h : NR w q L s A n c t B m d) (hL : L <= 1000) : Calls Tryz.prog 78 #[.agg #[.bool s, .slice A n c, .bool t, .slice B m d]] w (RetNR (-q) L w) := by
 go_enter Tryz.func78, Tryz.ntmps78
 go_upto_region 1 with (fail)
 obtain ⟨W, hW, extW, bx, bz, hz⟩ := box2 w 30 30 #[.bool s, .slice A n c, .bool t, .slice B m d] #[Value.bool false, Value.slice none 0 0, Value.bool false, Value.slice none 0 0];rw [<- hW];clear hW;refine wpL.st 6 (fun hQ ES => ?_);refine wpL.u 0 3 hQ ES ?_
 try simp only [zP]
 refine wpL.u 3 6 hQ ES ?_
 try simp only [zP]
 refine wpL.t 1 4 ?v_2 hQ ?y_2 ES ?_
 case y_2 => intro w' hSw;have k00 := (bx.ext hSw).c4;go_simp;try rfl
 try simp only [zP]
 refine wpL.t 4 7 ?v_3 hQ ?y_3 ES ?_
 case y_3 => intro w' hSw;have k00 := (bx.ext hSw).c4;go_simp;try rfl
 try simp only [zP]
 refine wpL.cl (i := 2) rfl (fun K hK => ?_);go_simp
 (go_at_call 120; refine (q_Neg (h.num.ext (extW.trans ES)) (by omega)).mono ?_; rintro e wa ⟨s1, A1, n1, c1, rfl, h1, hx0⟩; have E0_1 := Ext.trans ES hx0)
 refine hK.out _ _ E0_1 ?_;clear hK K
 try simp only [zP]
 refine wpL.u 5 8 hQ E0_1 ?_
 try simp only [zP]
 have z0 := (bz.ext E0_1).cell 0 _ rfl;have z1 := (bz.ext E0_1).cell 1 _ rfl;have z2 := (bz.ext E0_1).cell 2 _ rfl;have z3 := (bz.ext E0_1).cell 3 _ rfl;have f0 := (bz.ext E0_1).frozen 0;have f1 := (bz.ext E0_1).frozen 1;have f2 := (bz.ext E0_1).frozen 2;have f3 := (bz.ext E0_1).frozen 3;refine wpL.tl (i := 6) rfl (fun K hK => ?_);go_simp;refine hK.out _ _ ?_;clear hK K
 try simp only [zP]
 refine wpL.done (by kernel_rfl) ?_ _;clear hQ
 go_wp2_with fail
 obtain ⟨b1, b2, b3, b4⟩ := fin_quad (s := s1) (A := A1) (n := n1) (c := c1) (t := t) (B := B) (m := m) (d := d) (bz.ext E0_1);have r0 := b1.cell 0 (.bool s1) rfl;have r1 := b1.cell 1 (.slice A1 n1 c1) rfl;have r2 := b1.cell 2 (.bool t) rfl;have r3 := b1.cell 3 (.slice B m d) rfl;unfold set4 at r0 r1 r2 r3;refine bodyPost_ret (v := .agg #[.bool s1, .slice A1 n1 c1, .bool t, .slice B m d]) (by simp [results, Tryz.results78, go_sem, r0, r1, r2, r3]) rfl ⟨s1, A1, n1, c1, t, B, m, d, rfl, ⟨?_, ?_⟩, b3 _ (extW.trans E0_1) (by omega)⟩
 ·exact b2 _ _ _ _ _ _ h1
 ·exact b2 _ _ _ _ _ _ (h.den.ext (extW.trans E0_1))
theorem rat_mul_one {q p : Rat} (h1 : (q.den : Int) = 1) (h2 : (p.den : Int) = 1) : (q * p).num = q.num * p.num /\ ((q * p).den : Int) = (q.den : Int) := by
 have e1 : q.den = 1 := by omega
 have e2 : p.den = 1 := by omega
 obtain ⟨a, b⟩ := rat_mul q p (g := 1) (h := 1) (by rw [e2]; simp) (by rw [e1]; simp);rw [a, b, e1, e2];simp
set_option maxRecDepth 100000 in
theorem q_MulR (h : NR w q L s A n c t B m d) (k : NR w p M s' A' n' c' t' B' m' d') (hL : L <= 1000) (hM : M <= 1000) : Calls Tryz.prog 85 #[.agg #[.bool s, .slice A n c, .bool t, .slice B m d], .agg #[.bool s', .slice A' n' c', .bool t', .slice B' m' d']] w (RetNR (q * p) (L + M) w) := by
 have hL1 := h.pos;have hM1 := k.pos
 go_enter Tryz.func85, Tryz.ntmps85
 go_upto_region 1 with (fail)
 obtain ⟨W, hW, extW, bx, by_, bz, hz⟩ := box3 w 30 30 30 #[.bool s, .slice A n c, .bool t, .slice B m d] #[.bool s', .slice A' n' c', .bool t', .slice B' m' d'] #[Value.bool false, Value.slice none 0 0, Value.bool false, Value.slice none 0 0];rw [<- hW];clear hW;replace h := h.ext extW;replace k := k.ext extW;have hz1 := h.num.zero;have hz2 := k.num.zero
 by_cases hq0 : q.num = 0
 ·have hn2 : ((n : Int) == 0) = true := by rw [beq_iff_eq]; have := hz1.2 hq0; omega
  have hqp : q * p = ((0 : Int) : Rat) := by rw [Rat.num_eq_zero.1 hq0, Rat.zero_mul]; rfl
  clear hz1 hz2 hq0;have x1 := bx.cell 1 (.slice A n c) rfl;have y1 := by_.cell 1 (.slice A' n' c') rfl
  go_wp2_with fail
  refine (q_FromIntR 0 (by omega) (by omega)).mono ?_;rintro e wb ⟨s1, A1, n1, c1', t1, B1, m1, d1, rfl, hr, hxb⟩;have z0 := (bz.ext hxb).cell 0 _ rfl;have z1 := (bz.ext hxb).cell 1 _ rfl;have z2 := (bz.ext hxb).cell 2 _ rfl;have z3 := (bz.ext hxb).cell 3 _ rfl;have f0 := (bz.ext hxb).frozen 0;have f1 := (bz.ext hxb).frozen 1;have f2 := (bz.ext hxb).frozen 2;have f3 := (bz.ext hxb).frozen 3
  go_wp2_with fail
  obtain ⟨b1, b2, b3, b4⟩ := fin_quad (s := s1) (A := A1) (n := n1) (c := c1') (t := t1) (B := B1) (m := m1) (d := d1) (bz.ext hxb);have r0 := b1.cell 0 (.bool s1) rfl;have r1 := b1.cell 1 (.slice A1 n1 c1') rfl;have r2 := b1.cell 2 (.bool t1) rfl;have r3 := b1.cell 3 (.slice B1 m1 d1) rfl;unfold set4 at r0 r1 r2 r3;refine bodyPost_ret (v := .agg #[.bool s1, .slice A1 n1 c1', .bool t1, .slice B1 m1 d1]) (by simp [results, Tryz.results85, go_sem, r0, r1, r2, r3]) rfl ⟨s1, A1, n1, c1', t1, B1, m1, d1, rfl, ⟨?_, ?_⟩, b3 _ (extW.trans hxb) (by omega)⟩
  ·rw [hqp]; exact (b2 _ _ _ _ _ _ hr.num).le (by omega)
  ·rw [hqp]; exact (b2 _ _ _ _ _ _ hr.den).le (by omega)
 ·have hn2 : ((n : Int) == 0) = false := by rw [beq_eq_false_iff_ne]; intro h0; exact hq0 (hz1.1 (by omega))
  by_cases hp0 : p.num = 0
  ·have hm2 : ((n' : Int) == 0) = true := by rw [beq_iff_eq]; have := hz2.2 hp0; omega
   have hqp : q * p = ((0 : Int) : Rat) := by rw [Rat.num_eq_zero.1 hp0, Rat.mul_zero]; rfl
   clear hz1 hz2 hq0 hp0;have x1 := bx.cell 1 (.slice A n c) rfl;have y1 := by_.cell 1 (.slice A' n' c') rfl
   go_wp2_with fail
   refine (q_FromIntR 0 (by omega) (by omega)).mono ?_;rintro e wb ⟨s1, A1, n1, c1', t1, B1, m1, d1, rfl, hr, hxb⟩;have z0 := (bz.ext hxb).cell 0 _ rfl;have z1 := (bz.ext hxb).cell 1 _ rfl;have z2 := (bz.ext hxb).cell 2 _ rfl;have z3 := (bz.ext hxb).cell 3 _ rfl;have f0 := (bz.ext hxb).frozen 0;have f1 := (bz.ext hxb).frozen 1;have f2 := (bz.ext hxb).frozen 2;have f3 := (bz.ext hxb).frozen 3
   go_wp2_with fail
   obtain ⟨b1, b2, b3, b4⟩ := fin_quad (s := s1) (A := A1) (n := n1) (c := c1') (t := t1) (B := B1) (m := m1) (d := d1) (bz.ext hxb);have r0 := b1.cell 0 (.bool s1) rfl;have r1 := b1.cell 1 (.slice A1 n1 c1') rfl;have r2 := b1.cell 2 (.bool t1) rfl;have r3 := b1.cell 3 (.slice B1 m1 d1) rfl;unfold set4 at r0 r1 r2 r3;refine bodyPost_ret (v := .agg #[.bool s1, .slice A1 n1 c1', .bool t1, .slice B1 m1 d1]) (by simp [results, Tryz.results85, go_sem, r0, r1, r2, r3]) rfl ⟨s1, A1, n1, c1', t1, B1, m1, d1, rfl, ⟨?_, ?_⟩, b3 _ (extW.trans hxb) (by omega)⟩
   ·rw [hqp]; exact (b2 _ _ _ _ _ _ hr.num).le (by omega)
   ·rw [hqp]; exact (b2 _ _ _ _ _ _ hr.den).le (by omega)
  ·have hm2 : ((n' : Int) == 0) = false := by rw [beq_eq_false_iff_ne]; intro h0; exact hp0 (hz2.1 (by omega))
   clear hz1 hz2 hq0 hp0;have x1 := bx.cell 1 (.slice A n c) rfl;have y1 := by_.cell 1 (.slice A' n' c') rfl
   go_upto_region 3 with (fail)
   clear x1 y1;have x0 := bx.cell 0 (.bool s) rfl;have x1 := bx.cell 1 (.slice A n c) rfl;have x2 := bx.cell 2 (.bool t) rfl;have x3 := bx.cell 3 (.slice B m d) rfl
   go_wp2_with fail
   refine (q_one h.den).mono ?_;rintro e wb ⟨rfl, hxb⟩;replace bx := bx.ext hxb;replace by_ := by_.ext hxb;replace bz := bz.ext hxb;replace h := h.ext hxb;replace k := k.ext hxb;replace extW := extW.trans hxb;clear hxb;clear x0 x1 x2 x3
   by_cases h1 : (q.den : Int) = 1
   case' neg =>
    rw [decide_eq_false h1]
    clear h1
   case' pos =>
    rw [decide_eq_true h1]
    have H1 := Lib.hid h1;clear h1;have y2 := by_.cell 2 (.bool t') rfl;have y3 := by_.cell 3 (.slice B' m' d') rfl
    go_wp2_with fail
    refine (q_one k.den).mono ?_;rintro e wb ⟨rfl, hxc⟩;replace bx := bx.ext hxc;replace by_ := by_.ext hxc;replace bz := bz.ext hxc;replace h := h.ext hxc;replace k := k.ext hxc;replace extW := extW.trans hxc;clear hxc y2 y3
    by_cases h2 : (p.den : Int) = 1
    ·rw [decide_eq_true h2]
     have H2 := Lib.hid h2;clear h2
     go_wp2_with fail
     refine wpL.st 8 (fun hQ ES => ?_);refine wpL.u 0 28 hQ ES ?_
     try simp only [zP]
     refine wpL.u 2 30 hQ ES ?_
     try simp only [zP]
     refine wpL.u 5 33 hQ ES ?_
     try simp only [zP]
     refine wpL.t 1 29 ?v_3 hQ ?y_3 ES ?_
     case y_3 => intro w' hSw;have k00 := (bx.ext hSw).c4;have k10 := (by_.ext hSw).c4;go_simp;try rfl
     try simp only [zP]
     refine wpL.t 3 31 ?v_4 hQ ?y_4 ES ?_
     case y_4 => intro w' hSw;have k00 := (bx.ext hSw).c4;have k10 := (by_.ext hSw).c4;go_simp;try rfl
     try simp only [zP]
     refine wpL.t 6 34 ?v_5 hQ ?y_5 ES ?_
     case y_5 => intro w' hSw;have k00 := (bx.ext hSw).c4;have k10 := (by_.ext hSw).c4;go_simp;try rfl
     try simp only [zP]
     refine wpL.cl (i := 4) rfl (fun K hK => ?_);go_simp
     (go_at_call 123; refine (q_Mul (h.num.ext ES) (k.num.ext ES) (by omega) (by omega)).mono ?_; rintro e wk1 ⟨s5, A5, n5, c5, rfl, h5, hx0⟩; have E0_4 := Ext.trans ES hx0)
     refine hK.out _ _ E0_4 ?_;clear hK K
     try simp only [zP]
     refine wpL.u 7 35 hQ E0_4 ?_
     try simp only [zP]
     have z0 := (bz.ext E0_4).cell 0 _ rfl;have z1 := (bz.ext E0_4).cell 1 _ rfl;have z2 := (bz.ext E0_4).cell 2 _ rfl;have z3 := (bz.ext E0_4).cell 3 _ rfl;have f0 := (bz.ext E0_4).frozen 0;have f1 := (bz.ext E0_4).frozen 1;have f2 := (bz.ext E0_4).frozen 2;have f3 := (bz.ext E0_4).frozen 3;refine wpL.tl (i := 8) rfl (fun K hK => ?_);go_simp;refine hK.out _ _ ?_;clear hK K
     try simp only [zP]
     refine wpL.done (by kernel_rfl) ?_ _;clear hQ
     go_wp2_with fail
     obtain ⟨e5, e6⟩ := rat_mul_one H1.out H2.out;obtain ⟨b1, b2, b3, b4⟩ := fin_quad (s := s5) (A := A5) (n := n5) (c := c5) (t := t) (B := B) (m := m) (d := d) (bz.ext E0_4);have r0 := b1.cell 0 (.bool s5) rfl;have r1 := b1.cell 1 (.slice A5 n5 c5) rfl;have r2 := b1.cell 2 (.bool t) rfl;have r3 := b1.cell 3 (.slice B m d) rfl;unfold set4 at r0 r1 r2 r3;refine bodyPost_ret (v := .agg #[.bool s5, .slice A5 n5 c5, .bool t, .slice B m d]) (by simp [results, Tryz.results85, go_sem, r0, r1, r2, r3]) rfl ⟨s5, A5, n5, c5, t, B, m, d, rfl, ⟨?_, ?_⟩, b3 _ (extW.trans E0_4) (by omega)⟩
     ·rw [e5]; exact b2 _ _ _ _ _ _ h5
     ·rw [e6]; exact (b2 _ _ _ _ _ _ (h.den.ext E0_4)).le (by omega)
    rw [decide_eq_false h2]
    clear h2
   all_goals
    go_wp2_with fail
    have ES0 := Ext.refl wb;refine wp_region_held_drew (S := Ext wb) (by kernel_rfl) ES0.drew (fun ES => ?_);clear ES0;refine Late.start2 (x := ⟨10, 5, 28, #[Value.bool false, Value.slice none 0 0]⟩) (y := ⟨11, 6, 28, #[Value.bool false, Value.slice none 0 0]⟩) (n := 12) ⟨_, rfl, rfl, rfl, fun a w => by go_simp⟩ ⟨_, rfl, rfl, rfl, fun a w => by go_simp⟩ (fun _ _ _ _ _ => ⟨fun h => h, fun h => h⟩) ES rfl (fun hAl hQ => ?_);refine Late.t 0 36 ?_ hQ ?_ ?_;rotate_left
    ·intro w' hSw;go_simp;try rfl
    try simp only [zP]
    refine Late.t 2 38 ?_ hQ ?_ ?_;rotate_left
    ·intro w' hSw;go_simp;try rfl
    try simp only [zP]
    refine Late.t 5 41 ?_ hQ ?_ ?_;rotate_left
    ·intro w' hSw;go_simp;try rfl
    try simp only [zP]
    refine Late.t 7 43 ?_ hQ ?_ ?_;rotate_left
    ·intro w' hSw;go_simp;try rfl
    try simp only [zP]
    refine Late.t 1 37 ?_ hQ ?_ ?_;rotate_left
    ·intro w' hSw;have k00 := (bx.ext hSw).c4;have k10 := (by_.ext hSw).c4;go_simp;try rfl
    try simp only [zP]
    refine Late.t 3 39 ?_ hQ ?_ ?_;rotate_left
    ·intro w' hSw;have k00 := (bx.ext hSw).c4;have k10 := (by_.ext hSw).c4;go_simp;try rfl
    try simp only [zP]
    refine Late.t 6 42 ?_ hQ ?_ ?_;rotate_left
    ·intro w' hSw;have k00 := (bx.ext hSw).c4;have k10 := (by_.ext hSw).c4;go_simp;try rfl
    try simp only [zP]
    refine Late.t 8 44 ?_ hQ ?_ ?_;rotate_left
    ·intro w' hSw;have k00 := (bx.ext hSw).c4;have k10 := (by_.ext hSw).c4;go_simp;try rfl
    try simp only [zP]
    refine Late.cl (i := 4) rfl hAl hQ (fun w4 e4 E4 K hK => ?_);go_simp
    (go_at_call 56; refine (q_GCD (h.num.ext E4) (k.den.ext E4) (by omega) (by omega)).mono ?_; rintro e wk1 ⟨s1, A1, n1, c1', rfl, h1, hx4⟩; rw [Int.natAbs_natCast] at h1)
    refine hK.out _ _ hx4 ?_;clear hK K
    try simp only [zP]
    refine Late.cl (i := 9) rfl hAl hQ (fun w9 e9 E9 K hK => ?_);go_simp
    (go_at_call 56; refine (q_GCD (k.num.ext E9) (h.den.ext E9) (by omega) (by omega)).mono ?_; rintro e wk2 ⟨s2, A2, n2, c2', rfl, h2, hx9⟩; rw [Int.natAbs_natCast] at h2)
    refine hK.out _ _ hx9 ?_;clear hK K
    try simp only [zP]
    refine Late.finish2 (hAl _ (by simp)) (hAl _ (by simp)) (by decide) (by decide) (by kernel_rfl) (by kernel_rfl) (by kernel_rfl) (fun wz g5 g6 ez Ez lg5 lg6 hne xb1 xb2 => ?_);clear hAl hQ ES;have p10 := xb1.cell 0 (Value.bool false) rfl;have p11 := xb1.cell 1 (Value.slice none 0 0) rfl;have f10 := xb1.frozen 0;have f11 := xb1.frozen 1;have e4 := fin_dual (s := s1) (A := A1) (n := n1) (c := c1') xb1
    try simp only [zP]
    refine wpAnyH_ready (rs := [12]) (by kernel_rfl) (by simp) (AllReadyH.cons rfl (fun K hK => ?_) AllReadyH.nil);go_simp;refine hK.out _ _ (e4.2.2.1 _ Ez lg5) (fun _ => ?_);clear hK K
    try simp only [zP]
    have e5 := e4.2.2.2 _ _ _ (Ne.symm hne) xb2;refine any_world (fun U => Ext wb U /\ Box U g5 28 #[.bool s1, .slice A1 n1 c1'] /\ Box U g6 28 #[Value.bool false, Value.slice none 0 0] /\ NI U ((q.num.natAbs.gcd p.den : Nat) : Int) (max L M) s1 A1 n1 c1' /\ NI U ((p.num.natAbs.gcd q.den : Nat) : Int) (max M L) s2 A2 n2 c2') ⟨e4.2.2.1 _ Ez lg5, e4.1, e5, e4.2.1 _ _ _ _ _ _ (h1.ext (e9.trans (hx9.trans ez))), e4.2.1 _ _ _ _ _ _ (h2.ext ez)⟩ ?_;clear e4 e5 p10 p11 f10 f11 xb1 xb2;rintro U ⟨EU, b8, xb2, h1, h2⟩;have p10 := xb2.cell 0 (Value.bool false) rfl;have p11 := xb2.cell 1 (Value.slice none 0 0) rfl;have f10 := xb2.frozen 0;have f11 := xb2.frozen 1;have e4 := fin_dual (s := s2) (A := A2) (n := n2) (c := c2') xb2;refine wpAnyH_ready (rs := [13]) (by kernel_rfl) (by simp) (AllReadyH.cons rfl (fun K hK => ?_) AllReadyH.nil);go_simp;refine hK.out _ _ (e4.2.2.1 _ EU lg6) (fun _ => ?_);clear hK K
    try simp only [zP]
    refine any_world (fun U2 => Ext wb U2 /\ Box U2 g5 28 #[.bool s1, .slice A1 n1 c1'] /\ Box U2 g6 28 #[.bool s2, .slice A2 n2 c2'] /\ NI U2 ((q.num.natAbs.gcd p.den : Nat) : Int) (max L M) s1 A1 n1 c1' /\ NI U2 ((p.num.natAbs.gcd q.den : Nat) : Int) (max M L) s2 A2 n2 c2') ⟨e4.2.2.1 _ EU lg6, e4.2.2.2 _ _ _ hne b8, e4.1, e4.2.1 _ _ _ _ _ _ h1, e4.2.1 _ _ _ _ _ _ h2⟩ ?_;clear e4 p10 p11 f10 f11 xb2 b8 h1 h2 lg5 lg6;rintro U2 ⟨EU2, b8, b9, h1, h2⟩;refine wpAnyH_done (by kernel_rfl) ?_ _;replace bx := bx.ext EU2;replace by_ := by_.ext EU2;replace bz := bz.ext EU2;replace h := h.ext EU2;replace k := k.ext EU2;replace extW := extW.trans EU2;clear EU EU2 Ez ez;obtain ⟨g, hge⟩ : ∃ g, q.num.natAbs.gcd p.den = g := ⟨_, rfl⟩;obtain ⟨hq, hhe⟩ : ∃ g, p.num.natAbs.gcd q.den = g := ⟨_, rfl⟩;rw [hge] at h1;rw [hhe] at h2;obtain ⟨q1, q2⟩ := rat_mul q p hge.symm hhe.symm;have Hq1 := Lib.hid q1;have Hq2 := Lib.hid q2;have hgq : g ∣ q.num.natAbs := by rw [<- hge]; exact Nat.gcd_dvd_left _ _
    have hgp : g ∣ p.den := by rw [<- hge]; exact Nat.gcd_dvd_right _ _
    have hhp : hq ∣ p.num.natAbs := by rw [<- hhe]; exact Nat.gcd_dvd_left _ _
    have hhq : hq ∣ q.den := by rw [<- hhe]; exact Nat.gcd_dvd_right _ _
    have hg0 : (g : Int) ≠ 0 := by
     intro h0;have : g = 0 := by omega
     rw [this] at hgp;exact p.den_nz (Nat.eq_zero_of_zero_dvd hgp)
    have hh0 : (hq : Int) ≠ 0 := by
     intro h0;have : hq = 0 := by omega
     rw [this] at hhq;exact q.den_nz (Nat.eq_zero_of_zero_dvd hhq)
    have Hg0 := Lib.hid hg0;have Hh0 := Lib.hid hh0;have Hgq := Lib.hid (Int.ofNat_dvd_left.2 hgq);have Hgp := Lib.hid (Int.ofNat_dvd.2 hgp);have Hhp := Lib.hid (Int.ofNat_dvd_left.2 hhp);have Hhq := Lib.hid (Int.ofNat_dvd.2 hhq);have hg := h1;have hh := h2;clear hge hhe q1 q2 hgq hgp hhp hhq hg0 hh0 h1 h2
    go_wp2_with fail
    refine wpL.st 19 (fun hQ ES => ?_);refine wpL.t 0 46 ?_ hQ ?_ ES ?_;rotate_left
    ·intro w' hSw;go_simp;try rfl
    try simp only [zP]
    refine wpL.t 2 48 ?_ hQ ?_ ES ?_;rotate_left
    ·intro w' hSw;have k00 := (bx.ext hSw).c4;have k10 := (by_.ext hSw).c4;have k20 := (b8.ext hSw).c2;have k30 := (b9.ext hSw).c2;go_simp;try rfl
    try simp only [zP]
    refine wpL.t 4 50 ?_ hQ ?_ ES ?_;rotate_left
    ·intro w' hSw;go_simp;try rfl
    try simp only [zP]
    refine wpL.t 6 52 ?_ hQ ?_ ES ?_;rotate_left
    ·intro w' hSw;have k00 := (bx.ext hSw).c4;have k10 := (by_.ext hSw).c4;have k20 := (b8.ext hSw).c2;have k30 := (b9.ext hSw).c2;go_simp;try rfl
    try simp only [zP]
    refine wpL.t 9 55 ?_ hQ ?_ ES ?_;rotate_left
    ·intro w' hSw;go_simp;try rfl
    try simp only [zP]
    refine wpL.t 11 57 ?_ hQ ?_ ES ?_;rotate_left
    ·intro w' hSw;have k00 := (bx.ext hSw).c4;have k10 := (by_.ext hSw).c4;have k20 := (b8.ext hSw).c2;have k30 := (b9.ext hSw).c2;go_simp;try rfl
    try simp only [zP]
    refine wpL.t 13 59 ?_ hQ ?_ ES ?_;rotate_left
    ·intro w' hSw;go_simp;try rfl
    try simp only [zP]
    refine wpL.t 15 61 ?_ hQ ?_ ES ?_;rotate_left
    ·intro w' hSw;have k00 := (bx.ext hSw).c4;have k10 := (by_.ext hSw).c4;have k20 := (b8.ext hSw).c2;have k30 := (b9.ext hSw).c2;go_simp;try rfl
    try simp only [zP]
    refine wpL.t 1 47 ?_ hQ ?_ ES ?_;rotate_left
    ·intro w' hSw;have k00 := (bx.ext hSw).c4;have k10 := (by_.ext hSw).c4;have k20 := (b8.ext hSw).c2;have k30 := (b9.ext hSw).c2;go_simp;try rfl
    try simp only [zP]
    refine wpL.t 5 51 ?_ hQ ?_ ES ?_;rotate_left
    ·intro w' hSw;have k00 := (bx.ext hSw).c4;have k10 := (by_.ext hSw).c4;have k20 := (b8.ext hSw).c2;have k30 := (b9.ext hSw).c2;go_simp;try rfl
    try simp only [zP]
    refine wpL.t 10 56 ?_ hQ ?_ ES ?_;rotate_left
    ·intro w' hSw;have k00 := (bx.ext hSw).c4;have k10 := (by_.ext hSw).c4;have k20 := (b8.ext hSw).c2;have k30 := (b9.ext hSw).c2;go_simp;try rfl
    try simp only [zP]
    refine wpL.t 14 60 ?_ hQ ?_ ES ?_;rotate_left
    ·intro w' hSw;have k00 := (bx.ext hSw).c4;have k10 := (by_.ext hSw).c4;have k20 := (b8.ext hSw).c2;have k30 := (b9.ext hSw).c2;go_simp;try rfl
    try simp only [zP]
    refine wpL.cl (i := 3) rfl (fun K hK => ?_);go_simp
    (go_at_call 124; refine (q_quo (h.num.ext ES) (hg.ext ES) (by omega) (by omega) Hg0.out Hgq.out).mono ?_; rintro e wk1 ⟨s3, A3, n3, c3, rfl, h3, hx0⟩; have E0_6 := Ext.trans ES hx0)
    refine hK.out _ _ E0_6 ?_;clear hK K
    try simp only [zP]
    refine wpL.cl (i := 7) rfl (fun K hK => ?_);go_simp
    (go_at_call 124; refine (q_quo (k.num.ext E0_6) (hh.ext E0_6) (by omega) (by omega) Hh0.out Hhp.out).mono ?_; rintro e wk2 ⟨s4, A4, n4, c4, rfl, h4, hx1⟩; have E1_6 := Ext.trans E0_6 hx1)
    refine hK.out _ _ E1_6 ?_;clear hK K
    try simp only [zP]
    refine wpL.cl (i := 8) rfl (fun K hK => ?_);go_simp
    (go_at_call 123; refine (q_Mul (h3.ext hx1) h4 (by omega) (by omega)).mono ?_; rintro e wk3 ⟨s5, A5, n5, c5, rfl, h5, hx2⟩; have E2_6 := Ext.trans E1_6 hx2)
    refine hK.out _ _ E2_6 ?_;clear hK K
    try simp only [zP]
    refine wpL.cl (i := 12) rfl (fun K hK => ?_);go_simp
    (go_at_call 124; refine (q_quo (h.den.ext E2_6) (hh.ext E2_6) (by omega) (by omega) Hh0.out Hhq.out).mono ?_; rintro e wk4 ⟨s6, A6, n6, c6, rfl, h6, hx3⟩; have E3_6 := Ext.trans E2_6 hx3)
    refine hK.out _ _ E3_6 ?_;clear hK K
    try simp only [zP]
    refine wpL.cl (i := 16) rfl (fun K hK => ?_);go_simp
    (go_at_call 124; refine (q_quo (k.den.ext E3_6) (hg.ext E3_6) (by omega) (by omega) Hg0.out Hgp.out).mono ?_; rintro e wk5 ⟨s7, A7, n7, c7, rfl, h7, hx4⟩; have E4_6 := Ext.trans E3_6 hx4)
    refine hK.out _ _ E4_6 ?_;clear hK K
    try simp only [zP]
    refine wpL.cl (i := 17) rfl (fun K hK => ?_);go_simp
    (go_at_call 123; refine (q_Mul (h6.ext hx4) h7 (by omega) (by omega)).mono ?_; rintro e wk6 ⟨s8, A8, n8, c8, rfl, h8, hx5⟩; have E5_6 := Ext.trans E4_6 hx5)
    refine hK.out _ _ E5_6 ?_;clear hK K
    try simp only [zP]
    refine wpL.t 18 64 ?_ hQ ?_ E5_6 ?_;rotate_left
    ·intro w' hSw;go_simp;try rfl
    try simp only [zP]
    have z0 := (bz.ext E5_6).cell 0 _ rfl;have z1 := (bz.ext E5_6).cell 1 _ rfl;have z2 := (bz.ext E5_6).cell 2 _ rfl;have z3 := (bz.ext E5_6).cell 3 _ rfl;have f0 := (bz.ext E5_6).frozen 0;have f1 := (bz.ext E5_6).frozen 1;have f2 := (bz.ext E5_6).frozen 2;have f3 := (bz.ext E5_6).frozen 3;refine wpL.tl (i := 19) rfl (fun K hK => ?_);go_simp;refine hK.out _ _ ?_;clear hK K
    try simp only [zP]
    refine wpL.done (by kernel_rfl) ?_ _;clear hQ
    go_wp2_with fail
    have hk1 : ((q.den : Int) / (hq : Int)) * ((p.den : Int) / (g : Int)) = ((q * p).den : Int) := by rw [Hq2.out]; simp
    rw [hk1] at h8;rw [<- Hq1.out] at h5;obtain ⟨b1, b2, b3, b4⟩ := fin_quad (s := s5) (A := A5) (n := n5) (c := c5) (t := s8) (B := A8) (m := n8) (d := c8) (bz.ext E5_6);have r0 := b1.cell 0 (.bool s5) rfl;have r1 := b1.cell 1 (.slice A5 n5 c5) rfl;have r2 := b1.cell 2 (.bool s8) rfl;have r3 := b1.cell 3 (.slice A8 n8 c8) rfl;unfold set4 at r0 r1 r2 r3;refine bodyPost_ret (v := .agg #[.bool s5, .slice A5 n5 c5, .bool s8, .slice A8 n8 c8]) (by simp [results, Tryz.results85, go_sem, r0, r1, r2, r3]) rfl ⟨s5, A5, n5, c5, s8, A8, n8, c8, rfl, ⟨?_, ?_⟩, b3 _ (extW.trans E5_6) (by omega)⟩
    ·exact b2 _ _ _ _ _ _ (h5.ext (hx3.trans (hx4.trans hx5)))
    ·exact b2 _ _ _ _ _ _ h8
end
end
end Go.Proofs.YtgagcochepnelaaGreatDoor
