/- For every interval and every number of bits the law IntervalSqrt returns true: Sqrt returns the specified interval or error, the arguments keep their values, and the examples of the chapter hold. Condition: the table math/bits.deBruijn64tab holds what its initialiser lays (tied by the given card). -/
import Derived.Test.YtoabhnofppledaaGreatDoorM0
import Derived.Test.YtoabhnofppledaaGreatDoorM1
import Derived.Test.YtoabhnofppledaaGreatDoorM2
import Derived.Test.YtoabhnofppledaaGreatDoorM3
import Derived.Test.YtoabhnofppledaaGreatDoorM4
import Derived.Test.YtoabhnofppledaaGreatDoorM5
import Derived.Test.YtoabhnofppledaaGreatDoorM6
import Derived.Test.YtoabhnofppledaaGreatDoorM7
import Derived.Test.YtoabhnofppledaaGreatDoorM8
import Derived.Test.YtoabhnofppledaaGreatDoorM9
import Derived.Test.YtoabhnofppledaaGreatDoorMf0
namespace Go.Proofs.YtoabhnofppledaaGreatDoor
open Go.RowKit
attribute [local go_sem ↓] Go.wp_at_zero Go.wp_at_succ
section
variable {w w' : World} {z y : Int} {L : Nat} {s t : Bool} {A B : Option Addr} {n c m d : Nat} {xs ys : List Nat}
theorem bits_bound {xs : List Nat} (hw : W32 xs) : val xs < 2 ^ bitsN (trimL xs) ∧ bitsN (trimL xs) ≤ 32 * xs.length := by
  have hl := trimL_len xs
  by_cases h0 : 0 < (trimL xs).length
  · have hw2 : W32 (trimL xs) := by rw [trimL_take]; exact fun x hx => hw x (List.mem_of_mem_take hx)
    obtain ⟨_, _, h3, h4⟩ := bitsN_spec hw2 (Nrm.trimL xs) h0
    rw [val_trimL] at h3
    exact ⟨h3, by omega⟩
  · have e : trimL xs = [] := List.eq_nil_of_length_eq_zero (by omega)
    have hv : val xs = 0 := by rw [← val_trimL, e]; rfl
    rw [e, hv]
    exact ⟨Nat.pow_pos (by decide), by unfold bitsN; rw [dif_neg (by simp)]; omega⟩
theorem q_NormN (h : NI w z L s A n c) (hL : L ≤ 10000) : Calls Tryz.prog 113 #[.agg #[.bool s, .slice A n c]] w (RetNI z L w) := by
  obtain ⟨xs, hn, hx, hc, hcm, hi, hl⟩ := h.out
  refine (ref_Norm hn hx hc hcm (by omega)).mono fun e w' hr => ?_
  rw [hi.eq] at hr
  exact hr.ni (by omega)
theorem cmpI_le {a b : Nat} (h : a ≤ b) : cmpI a b = -1 ∨ cmpI a b = 0 := by
  unfold cmpI
  by_cases h1 : a < b
  · rw [if_pos h1]; exact .inl rfl
  · rw [if_neg h1, if_neg (by omega)]; exact .inr rfl
theorem trimRd {w : World} {g : Nat} {zs : List Nat} (h : BlkN w g zs) (hw : W32 zs) : Rd w (some ⟨g, 0, none⟩) (trimL zs) := by
  rw [trimL_take]; exact (h.rd0 hw).take _
/-- the square root, rounded down. -/
def RetRoot (z : Int) (L : Nat) (w : World) (e : Ending) (w' : World) : Prop :=
  ∃ r : Int, 0 ≤ r ∧ r * r ≤ z ∧ z < (r + 1) * (r + 1) ∧ ∃ s' A' n' c', e = .returned (.tuple #[.agg #[.bool s', .slice A' n' c'], .int .i64 0]) ∧ NI w' r (L + 1) s' A' n' c' ∧ Ext w w'
set_option maxHeartbeats 16000000 in
set_option maxRecDepth 100000 in
theorem q_SqrtI (h : NI w z L s A n c) (hL : L ≤ 50) (hz : 0 ≤ z) : Calls Tryz.prog 74 #[.agg #[.bool s, .slice A n c]] w (RetRoot z L w) := by
  have HZ := Lib.hid hz
  clear hz
  go_enter Tryz.func74, Tryz.ntmps74
  go_upto_region 1 with (fail)
  obtain ⟨W, hW, extW, bx, bz, hzz⟩ := box2 w 24 24 #[.bool s, .slice A n c] #[Value.bool false, Value.slice none 0 0]
  rw [← hW]
  clear hW
  replace h := h.ext extW
  have x0 := bx.cell 0 (.bool s) rfl
  have x1 := bx.cell 1 (.slice A n c) rfl
  go_wp2_with fail
  refine (q_NormN h (by omega)).mono ?_
  rintro e wa ⟨s1, A1, n1, c1, rfl, h1, hxa⟩
  replace bx := bx.ext hxa
  replace bz := bz.ext hxa
  replace extW := extW.trans hxa
  clear h hxa x0 x1
  have z0 := bx.cell 0 _ rfl
  have z1 := bx.cell 1 _ rfl
  have f0 := bx.frozen 0
  have f1 := bx.frozen 1
  go_upto_region 2 with (fail)
  refine at_world (fun V => Ext w V ∧ Box V w.heap.size 24 #[.bool s1, .slice A1 n1 c1] ∧ Box V (w.heap.size + 1) 24 #[Value.bool false, Value.slice none 0 0] ∧ NI V z L s1 A1 n1 c1) ?_ ?_
  · have q1 := fin_dual (s := s1) (A := A1) (n := n1) (c := c1) bx
    exact ⟨q1.2.2.1 _ extW (by omega), q1.1, q1.2.2.2 _ _ _ (by omega) bz, q1.2.1 _ _ _ _ _ _ h1⟩
  clear extW bx bz h1 z0 z1 f0 f1
  rintro V ⟨extW, bx, bz, h1⟩
  have hs1 : s1 = false := by
    have := h1.neg
    have hz := HZ.out
    rw [this]
    exact decide_eq_false (by omega)
  subst hs1
  have x0 := bx.cell 0 (.bool false) rfl
  have x1 := bx.cell 1 (.slice A1 n1 c1) rfl
  obtain ⟨xs, k1, k2, k3, k4, k5, k6⟩ := h1.out
  go_wp2_with fail
  refine (ref_Bits k1 k2 k3 k4 (by omega)).mono ?_
  rintro e V2 ⟨rfl, hxb⟩
  obtain ⟨b1, b2⟩ := bits_bound k2.1
  generalize bitsN (trimL xs) = bt at b1 b2 ⊢
  obtain ⟨nn, hnn⟩ : ∃ nn, (bt + 1) / 2 = nn := ⟨_, rfl⟩
  have hni : ((bt : Int) + 1) / 2 = (nn : Int) := by omega
  have hbt : bt ≤ 1600 := by omega
  have ha : val xs < 2 ^ (nn + nn) := Nat.lt_of_lt_of_le b1 (Nat.pow_le_pow_right (by decide) (by omega))
  have hnn1 : nn ≤ 801 := by omega
  obtain ⟨K, hK⟩ : ∃ K, nn / 32 = K := ⟨_, rfl⟩
  have hq : (nn : Int) / 32 = (K : Int) := by omega
  have hK1 : nn ≤ 32 * K + 31 := by omega
  have hK2 : K ≤ 30 := by omega
  have HNI := Lib.hid hni
  have HA := Lib.hid ha
  subst k1
  have HI := Lib.hid k5
  have hxs : xs.length ≤ maxLen := by omega
  clear b1 b2 hnn hni ha hK k5
  go_upto_region 5 with (fail)
  rw [HNI.out]
  have hmk : ∀ W : World, (Instr.makeSlice 22 (.int .i64 ((K : Int) + 1)) (.int .i64 ((K : Int) + 1))).run Tryz.prog W = .ok (.slice (some ⟨W.heap.size, 0, none⟩) (K + 1) (K + 1)) (W.alloc (.cells (madeCells #[.int .u32 0] (K + 1)) 93)) := fun W => mk_words1 22 Tryz.underlying22 K (by omega) W
  go_upto_region 6 with (fail)
  refine at_world (fun U => Ext V2 U ∧ BlkN U V2.heap.size (List.replicate (K + 1) 0)) ⟨(Ext.refl V2).alloc _, BlkN.new V2 (K + 1)⟩ ?_
  replace bx := bx.ext hxb
  replace bz := bz.ext hxb
  replace k2 := k2.ext hxb
  replace extW := extW.trans hxb
  have hbl := bz.lt
  obtain ⟨g, hg⟩ : ∃ g, V2.heap.size = g := ⟨_, rfl⟩
  rw [hg]
  have hgV : V2.heap.size ≤ g := by omega
  have hg0 : w.heap.size + 1 < g := by omega
  rintro U ⟨EU, hblk⟩
  clear hxb h1 hmk x0 x1 hg hbl
  have hst := RtInv.start (K := K + 1) HA.out
  have HST := Lib.hid hst
  clear hst
  go_wp2_with fail
  go_loopw [6] (fun i wr => ∃ (k : Nat) (zs : List Nat), k ≤ nn ∧ i = .int .i64 ((k : Int) - 1) ∧ RtInv (val xs) (K + 1) k zs ∧ BlkN wr g zs ∧ Ext V2 wr) (fun i _ => (intOf i + 1).toNat)
  case atStart => exact ⟨nn, _, Nat.le_refl _, rfl, HST.out, hblk, EU⟩
  case round =>
    clear hblk EU
    obtain ⟨k, zs, hk, rfl, hinv, hblkr, hext⟩ := hrel
    rcases k with _ | i
    · have Hd := Lib.hid hinv.done
      have Hw := Lib.hid hinv.w
      have Hl := Lib.hid hinv.len
      rw [show (((0 : Nat) : Int) - 1) = -1 from rfl]
      clear hinv
      go_wp2_with fail
      refine (ref_signed (s := false) Hl.out (hblkr.rd0 Hw.out) (Nat.le_refl _) (by unfold maxLen; omega)).mono ?_
      intro e ws hri
      have hv0 : ival false zs = (val zs : Int) := rfl
      rw [hv0] at hri
      obtain ⟨s5, A5, n5, c5, rfl, h5, hxs5⟩ := hri.ni (L' := zs.length) (Nat.le_refl _)
      have hE := hext.trans hxs5
      have z0 := (bz.ext hE).cell 0 _ rfl
      have z1 := (bz.ext hE).cell 1 _ rfl
      have f0 := (bz.ext hE).frozen 0
      have f1 := (bz.ext hE).frozen 1
      go_wp2_with fail
      obtain ⟨b1, b2, b3, b4⟩ := fin_dual (s := s5) (A := A5) (n := n5) (c := c5) (bz.ext hE)
      have r0 := b1.cell 0 (.bool s5) rfl
      have r1 := b1.cell 1 (.slice A5 n5 c5) rfl
      unfold set2 at r0 r1
      have hzv : (val xs : Int) = z := HI.out.eq
      obtain ⟨d1, d2⟩ := Hd.out
      have d1' : ((val zs * val zs : Nat) : Int) ≤ z := by rw [← hzv]; omega
      have d2' : z < (((val zs + 1) * (val zs + 1) : Nat) : Int) := by rw [← hzv]; omega
      have hle : val zs ≤ val xs := by
        rcases Nat.eq_zero_or_pos (val zs) with h0 | h0
        · omega
        · exact Nat.le_trans (Nat.le_mul_of_pos_left _ h0) d1
      have hlt : ((val zs : Nat) : Int).natAbs < 4294967296 ^ L := by
        rw [Int.natAbs_natCast]
        have hx1 := val_lt k2.1
        have hx2 : 4294967296 ^ xs.length ≤ 4294967296 ^ L := Nat.pow_le_pow_right (by decide) k6
        omega
      refine bodyPost_ret (v := .tuple #[.agg #[.bool s5, .slice A5 n5 c5], .int .i64 0]) (by simp [results, Tryz.results74, go_sem, r0, r1]) rfl ⟨(val zs : Int), by omega, by rw [← Int.natCast_mul]; exact d1', by have := d2'; rwa [Int.natCast_mul, Int.natCast_add] at this, s5, A5, n5, c5, rfl, (b2 _ _ _ _ _ _ (h5.tight' hlt)).le (by omega), b3 _ (extW.trans hE) (by omega)⟩
    · rw [show (((i + 1 : Nat) : Int) - 1) = (i : Int) by omega]
      obtain ⟨j, hj⟩ : ∃ j, i / 32 = j := ⟨_, rfl⟩
      obtain ⟨b, hb⟩ : ∃ b, i % 32 = b := ⟨_, rfl⟩
      have hji : (i : Int) / 32 = (j : Int) := by omega
      have hbi : (i : Int) % 32 = (b : Int) := by omega
      have hzl : zs.length = K + 1 := hinv.len
      have hjz : j < zs.length := by omega
      have hjK : j < K + 1 := by omega
      have hb32 : b < 32 := by omega
      obtain ⟨y1, y2, y3, y4, y5, y6, y7⟩ := hinv.try_ (show i = 32 * j + b by omega) hb32 hjz
      have hc0 := hblkr.cell hjz
      have hf0 := hblkr.frozen j
      have hzj := hinv.w.get hjz
      have hp32 : (2 : Int) ^ b % 4294967296 = ((2 ^ b : Nat) : Int) := by
        have : 2 ^ b < 4294967296 := by omega
        have hP : (2 : Int) ^ b = ((2 ^ b : Nat) : Int) := by simp
        rw [hP]
        generalize (2 ^ b : Nat) = p at this ⊢
        omega
      have hor : bits .or .u32 (zs[j] : Int) ((2 : Int) ^ b % 4294967296) = ((zs[j] + 2 ^ b : Nat) : Int) := by
        rw [hp32, u32_or_nat _ _ hzj (by omega), y2]
      have hnot : bits .andNot .u32 ((zs[j] + 2 ^ b : Nat) : Int) ((2 : Int) ^ b % 4294967296) = ((zs[j] : Nat) : Int) := by
        rw [hp32, u32_andNot_nat _ _ y1 (by omega), y3]
      have Hzl := Lib.hid hzl
      have HOR := Lib.hid hor
      have HNOT := Lib.hid hnot
      have HVAL := Lib.hid y4
      obtain ⟨zs2, hzs2⟩ : ∃ zs2, zs.set j (zs[j] + 2 ^ b) = zs2 := ⟨_, rfl⟩
      have hz2 : zs2.length = K + 1 := by rw [← hzs2, List.length_set]; exact hzl
      have hrest : zs2.set j zs[j] = zs := by rw [← hzs2, List.set_set, List.set_getElem_self]
      have hc2 : ∀ h : j < zs2.length, zs2[j] = zs[j] + 2 ^ b := by intro h; subst hzs2; exact List.getElem_set_self _
      rw [hzs2] at y5 y7 HVAL
      have Hw2 := Lib.hid y5
      have Hz2 := Lib.hid hz2
      have HZS := Lib.hid hzs2
      have HRS := Lib.hid hrest
      have HC2 := Lib.hid hc2
      have H6 := Lib.hid y6
      have H7 := Lib.hid y7
      clear hj hb hzl hinv y1 y2 y3 y4 y5 y6 y7 hzj hp32 hor hnot hzs2 hz2 hrest hc2
      go_upto_region 9 with (fail)
      go_region
      refine at_exit (fun X => BlkN X g zs2 ∧ Ext V2 X) ⟨by rw [← HZS.out]; exact (hblkr.set j HOR.out).drewN 1, (hext.setCell hgV _).drew⟩ ?_
      clear hblkr hext hc0 hf0
      rintro X ⟨hbx, hext⟩
      have bxX := bx.ext hext
      have k2X := k2.ext hext
      go_upto_region 10 with (fail)
      by_cases hbig : val xs < val zs2 * val zs2
      · have HCMP := Lib.hid (show cmpI (val zs2 * val zs2) (val xs) = 1 by unfold cmpI; rw [if_neg (by omega), if_pos (by omega)])
        have HB := Lib.hid hbig
        clear hbig
        have ES0 := Ext.refl X
        refine wp_region_held_drew (S := Ext X) (by kernel_rfl) ES0.drew (fun ES => ?_)
        clear ES0
        refine Late.start0 (fun _ _ _ _ _ => ⟨fun h => h, fun h => h⟩) ES (fun hAl hQ => ?_)
        refine Late.take (i := 0) (d := some 39) (v := ?v0_29a) rfl rfl (by kernel_rfl) (by kernel_rfl) (by kernel_rfl) (by kernel_rfl) hQ (Or.inl ⟨by rfl, ?y0_29a⟩) ?r0_29a
        case y0_29a =>
          intro w' hSw
          have k00 := (bxX.ext hSw).c2
          go_simp
          try with_reducible rfl
        try simp only [Act.put]
        try simp only [List.setIfInBounds_toArray]
        try simp only [List.set_cons_succ]
        try simp only [List.set_cons_zero]
        refine Late.take (i := 2) (d := some 41) (v := ?v2_30a) rfl rfl (by kernel_rfl) (by kernel_rfl) (by kernel_rfl) (by kernel_rfl) hQ (Or.inl ⟨by rfl, ?y2_30a⟩) ?r2_30a
        case y2_30a =>
          intro w' hSw
          have k00 := (bxX.ext hSw).c2
          go_simp
          try with_reducible rfl
        try simp only [Act.put]
        try simp only [List.setIfInBounds_toArray]
        try simp only [List.set_cons_succ]
        try simp only [List.set_cons_zero]
        refine Late.take (i := 5) (d := some 44) (v := ?v5_31a) rfl rfl (by kernel_rfl) (by kernel_rfl) (by kernel_rfl) (by kernel_rfl) hQ (Or.inl ⟨by rfl, ?y5_31a⟩) ?r5_31a
        case y5_31a =>
          intro w' hSw
          have k00 := (bxX.ext hSw).c2
          go_simp
          try with_reducible rfl
        try simp only [Act.put]
        try simp only [List.setIfInBounds_toArray]
        try simp only [List.set_cons_succ]
        try simp only [List.set_cons_zero]
        refine Late.take (i := 6) (d := some 45) (v := ?v6_32a) rfl rfl (by kernel_rfl) (by kernel_rfl) (by kernel_rfl) (by kernel_rfl) hQ (Or.inl ⟨by rfl, ?y6_32a⟩) ?r6_32a
        case y6_32a =>
          intro w' hSw
          have k00 := (bxX.ext hSw).c2
          go_simp
          try with_reducible rfl
        try simp only [Act.put]
        try simp only [List.setIfInBounds_toArray]
        try simp only [List.set_cons_succ]
        try simp only [List.set_cons_zero]
        refine Late.call (i := 1) rfl (by kernel_rfl) hAl (by kernel_rfl) (by kernel_rfl) (by kernel_rfl) hQ (fun w1 e1 E1 K hK => ?_)
        go_simp
        (go_at_call 117; refine (ref_trimN Hz2.out ((hbx.ext E1).rd0 Hw2.out) (Nat.le_refl _) (by unfold maxLen; omega)).mono ?_; rintro e wk1 ⟨rfl, hw1⟩; subst hw1; have hx1 := Ext.refl w1)
        refine hK.out _ _ hx1 ?_
        clear hK K
        try simp only [Act.put]
        try simp only [List.setIfInBounds_toArray]
        try simp only [List.set_cons_succ]
        try simp only [List.set_cons_zero]
        refine Late.call (i := 3) rfl (by kernel_rfl) hAl (by kernel_rfl) (by kernel_rfl) (by kernel_rfl) hQ (fun w3 e3 E3 K hK => ?_)
        go_simp
        (go_at_call 117; refine (ref_trimN Hz2.out ((hbx.ext E3).rd0 Hw2.out) (Nat.le_refl _) (by unfold maxLen; omega)).mono ?_; rintro e wk3 ⟨rfl, hw3⟩; subst hw3; have hx3 := Ext.refl w3)
        refine hK.out _ _ hx3 ?_
        clear hK K
        try simp only [Act.put]
        try simp only [List.setIfInBounds_toArray]
        try simp only [List.set_cons_succ]
        try simp only [List.set_cons_zero]
        refine Late.call (i := 4) rfl (by kernel_rfl) hAl (by kernel_rfl) (by kernel_rfl) (by kernel_rfl) hQ (fun w4 e4 E4 K hK => ?_)
        go_simp
        (go_at_call 116; refine (ref_times1 (xs := trimL zs2) (ys := trimL zs2) rfl rfl (trimRd (hbx.ext E4) Hw2.out) (trimRd (hbx.ext E4) Hw2.out) (by have := trimL_len zs2; have := Hz2.out; omega)).mono ?_; rintro e wk4 ⟨A5, c5, us, rfl, ho5, hc5, hm5, ⟨hv5, hn5, hl5⟩, hx4⟩)
        refine hK.out _ _ hx4 ?_
        clear hK K
        try simp only [Act.put]
        try simp only [List.setIfInBounds_toArray]
        try simp only [List.set_cons_succ]
        try simp only [List.set_cons_zero]
        refine Late.call (i := 7) rfl (by kernel_rfl) hAl (by kernel_rfl) (by kernel_rfl) (by kernel_rfl) hQ (fun w7 e7 E7 K hK => ?_)
        go_simp
        (go_at_call 115; refine (ref_compare _ _ _ _ us xs _ (ho5.rd.ext e7) (k2X.ext E7) (by have := trimL_len zs2; have := Hz2.out; unfold maxLen; omega) hxs).mono ?_; rintro e wk7 ⟨rfl, hx7⟩; rw [cmpL_nrm ho5.1 k2X.1 hn5 HI.out.nrm, hv5, val_trimL, HCMP.out])
        refine hK.out _ _ hx7 ?_
        clear hK K
        try simp only [Act.put]
        try simp only [List.setIfInBounds_toArray]
        try simp only [List.set_cons_succ]
        try simp only [List.set_cons_zero]
        refine Late.take (i := 8) (d := some 47) (v := ?v8_33a) rfl rfl (by kernel_rfl) (by kernel_rfl) (by kernel_rfl) (by kernel_rfl) hQ (Or.inl ⟨by rfl, ?y8_33a⟩) ?r8_33a
        case y8_33a =>
          intro w' hSw
          have k00 := (bxX.ext hSw).c2
          go_simp
          try with_reducible rfl
        try simp only [Act.put]
        try simp only [List.setIfInBounds_toArray]
        try simp only [List.set_cons_succ]
        try simp only [List.set_cons_zero]
        refine Late.done0 (by kernel_rfl) (fun wz ez Ez => ?_)
        clear hAl hQ ES
        have hbz := hbx.ext Ez
        have hjz2 : j < zs2.length := by rw [Hz2.out]; exact hjK
        have hc0 := hbz.cell hjz2
        rw [HC2.out hjz2] at hc0
        have hf0 := hbz.frozen j
        go_upto_region 11 with (fail)
        go_region
        refine at_exit (fun Y => BlkN Y g zs ∧ Ext V2 Y) ⟨by have h := (hbz.set j HNOT.out).drewN 1; rw [HRS.out] at h; exact h, ((hext.trans Ez).setCell hgV _).drew⟩ ?_
        clear hbz hbx hext hc0 hf0 Ez ez
        rintro Y ⟨hbY, hext⟩
        go_wp2_with fail
        go_roundw
        case rel => exact ⟨i, zs, by omega, rfl, H6.out (by have h1 := HB.out; have h2 := HVAL.out; rw [h2] at h1; exact h1), hbY, hext⟩
        case measure => simp [intOf]
      · have HCMP0 := Lib.hid (show cmpI (val zs2 * val zs2) (val xs) = -1 ∨ cmpI (val zs2 * val zs2) (val xs) = 0 from cmpI_le (by omega))
        have HB := Lib.hid hbig
        clear hbig
        rcases HCMP0.out with hcm0 | hcm0
        · have HCMP := Lib.hid hcm0
          clear hcm0
          have ES0 := Ext.refl X
          refine wp_region_held_drew (S := Ext X) (by kernel_rfl) ES0.drew (fun ES => ?_)
          clear ES0
          refine Late.start0 (fun _ _ _ _ _ => ⟨fun h => h, fun h => h⟩) ES (fun hAl hQ => ?_)
          refine Late.take (i := 0) (d := some 39) (v := ?v0_29b) rfl rfl (by kernel_rfl) (by kernel_rfl) (by kernel_rfl) (by kernel_rfl) hQ (Or.inl ⟨by rfl, ?y0_29b⟩) ?r0_29b
          case y0_29b =>
            intro w' hSw
            have k00 := (bxX.ext hSw).c2
            go_simp
            try with_reducible rfl
          try simp only [Act.put]
          try simp only [List.setIfInBounds_toArray]
          try simp only [List.set_cons_succ]
          try simp only [List.set_cons_zero]
          refine Late.take (i := 2) (d := some 41) (v := ?v2_30b) rfl rfl (by kernel_rfl) (by kernel_rfl) (by kernel_rfl) (by kernel_rfl) hQ (Or.inl ⟨by rfl, ?y2_30b⟩) ?r2_30b
          case y2_30b =>
            intro w' hSw
            have k00 := (bxX.ext hSw).c2
            go_simp
            try with_reducible rfl
          try simp only [Act.put]
          try simp only [List.setIfInBounds_toArray]
          try simp only [List.set_cons_succ]
          try simp only [List.set_cons_zero]
          refine Late.take (i := 5) (d := some 44) (v := ?v5_31b) rfl rfl (by kernel_rfl) (by kernel_rfl) (by kernel_rfl) (by kernel_rfl) hQ (Or.inl ⟨by rfl, ?y5_31b⟩) ?r5_31b
          case y5_31b =>
            intro w' hSw
            have k00 := (bxX.ext hSw).c2
            go_simp
            try with_reducible rfl
          try simp only [Act.put]
          try simp only [List.setIfInBounds_toArray]
          try simp only [List.set_cons_succ]
          try simp only [List.set_cons_zero]
          refine Late.take (i := 6) (d := some 45) (v := ?v6_32b) rfl rfl (by kernel_rfl) (by kernel_rfl) (by kernel_rfl) (by kernel_rfl) hQ (Or.inl ⟨by rfl, ?y6_32b⟩) ?r6_32b
          case y6_32b =>
            intro w' hSw
            have k00 := (bxX.ext hSw).c2
            go_simp
            try with_reducible rfl
          try simp only [Act.put]
          try simp only [List.setIfInBounds_toArray]
          try simp only [List.set_cons_succ]
          try simp only [List.set_cons_zero]
          refine Late.call (i := 1) rfl (by kernel_rfl) hAl (by kernel_rfl) (by kernel_rfl) (by kernel_rfl) hQ (fun w1 e1 E1 K hK => ?_)
          go_simp
          (go_at_call 117; refine (ref_trimN Hz2.out ((hbx.ext E1).rd0 Hw2.out) (Nat.le_refl _) (by unfold maxLen; omega)).mono ?_; rintro e wk1 ⟨rfl, hw1⟩; subst hw1; have hx1 := Ext.refl w1)
          refine hK.out _ _ hx1 ?_
          clear hK K
          try simp only [Act.put]
          try simp only [List.setIfInBounds_toArray]
          try simp only [List.set_cons_succ]
          try simp only [List.set_cons_zero]
          refine Late.call (i := 3) rfl (by kernel_rfl) hAl (by kernel_rfl) (by kernel_rfl) (by kernel_rfl) hQ (fun w3 e3 E3 K hK => ?_)
          go_simp
          (go_at_call 117; refine (ref_trimN Hz2.out ((hbx.ext E3).rd0 Hw2.out) (Nat.le_refl _) (by unfold maxLen; omega)).mono ?_; rintro e wk3 ⟨rfl, hw3⟩; subst hw3; have hx3 := Ext.refl w3)
          refine hK.out _ _ hx3 ?_
          clear hK K
          try simp only [Act.put]
          try simp only [List.setIfInBounds_toArray]
          try simp only [List.set_cons_succ]
          try simp only [List.set_cons_zero]
          refine Late.call (i := 4) rfl (by kernel_rfl) hAl (by kernel_rfl) (by kernel_rfl) (by kernel_rfl) hQ (fun w4 e4 E4 K hK => ?_)
          go_simp
          (go_at_call 116; refine (ref_times1 (xs := trimL zs2) (ys := trimL zs2) rfl rfl (trimRd (hbx.ext E4) Hw2.out) (trimRd (hbx.ext E4) Hw2.out) (by have := trimL_len zs2; have := Hz2.out; omega)).mono ?_; rintro e wk4 ⟨A5, c5, us, rfl, ho5, hc5, hm5, ⟨hv5, hn5, hl5⟩, hx4⟩)
          refine hK.out _ _ hx4 ?_
          clear hK K
          try simp only [Act.put]
          try simp only [List.setIfInBounds_toArray]
          try simp only [List.set_cons_succ]
          try simp only [List.set_cons_zero]
          refine Late.call (i := 7) rfl (by kernel_rfl) hAl (by kernel_rfl) (by kernel_rfl) (by kernel_rfl) hQ (fun w7 e7 E7 K hK => ?_)
          go_simp
          (go_at_call 115; refine (ref_compare _ _ _ _ us xs _ (ho5.rd.ext e7) (k2X.ext E7) (by have := trimL_len zs2; have := Hz2.out; unfold maxLen; omega) hxs).mono ?_; rintro e wk7 ⟨rfl, hx7⟩; rw [cmpL_nrm ho5.1 k2X.1 hn5 HI.out.nrm, hv5, val_trimL, HCMP.out])
          refine hK.out _ _ hx7 ?_
          clear hK K
          try simp only [Act.put]
          try simp only [List.setIfInBounds_toArray]
          try simp only [List.set_cons_succ]
          try simp only [List.set_cons_zero]
          refine Late.take (i := 8) (d := some 47) (v := ?v8_33b) rfl rfl (by kernel_rfl) (by kernel_rfl) (by kernel_rfl) (by kernel_rfl) hQ (Or.inl ⟨by rfl, ?y8_33b⟩) ?r8_33b
          case y8_33b =>
            intro w' hSw
            have k00 := (bxX.ext hSw).c2
            go_simp
            try with_reducible rfl
          try simp only [Act.put]
          try simp only [List.setIfInBounds_toArray]
          try simp only [List.set_cons_succ]
          try simp only [List.set_cons_zero]
          refine Late.done0 (by kernel_rfl) (fun wz ez Ez => ?_)
          clear hAl hQ ES
          go_wp2_with fail
          go_roundw
          case rel => exact ⟨i, zs2, by omega, rfl, H7.out (by have h1 := HB.out; have h2 := HVAL.out; rw [h2] at h1; omega), hbx.ext Ez, hext.trans Ez⟩
          case measure => simp [intOf]
        · have HCMP := Lib.hid hcm0
          clear hcm0
          have ES0 := Ext.refl X
          refine wp_region_held_drew (S := Ext X) (by kernel_rfl) ES0.drew (fun ES => ?_)
          clear ES0
          refine Late.start0 (fun _ _ _ _ _ => ⟨fun h => h, fun h => h⟩) ES (fun hAl hQ => ?_)
          refine Late.take (i := 0) (d := some 39) (v := ?v0_29c) rfl rfl (by kernel_rfl) (by kernel_rfl) (by kernel_rfl) (by kernel_rfl) hQ (Or.inl ⟨by rfl, ?y0_29c⟩) ?r0_29c
          case y0_29c =>
            intro w' hSw
            have k00 := (bxX.ext hSw).c2
            go_simp
            try with_reducible rfl
          try simp only [Act.put]
          try simp only [List.setIfInBounds_toArray]
          try simp only [List.set_cons_succ]
          try simp only [List.set_cons_zero]
          refine Late.take (i := 2) (d := some 41) (v := ?v2_30c) rfl rfl (by kernel_rfl) (by kernel_rfl) (by kernel_rfl) (by kernel_rfl) hQ (Or.inl ⟨by rfl, ?y2_30c⟩) ?r2_30c
          case y2_30c =>
            intro w' hSw
            have k00 := (bxX.ext hSw).c2
            go_simp
            try with_reducible rfl
          try simp only [Act.put]
          try simp only [List.setIfInBounds_toArray]
          try simp only [List.set_cons_succ]
          try simp only [List.set_cons_zero]
          refine Late.take (i := 5) (d := some 44) (v := ?v5_31c) rfl rfl (by kernel_rfl) (by kernel_rfl) (by kernel_rfl) (by kernel_rfl) hQ (Or.inl ⟨by rfl, ?y5_31c⟩) ?r5_31c
          case y5_31c =>
            intro w' hSw
            have k00 := (bxX.ext hSw).c2
            go_simp
            try with_reducible rfl
          try simp only [Act.put]
          try simp only [List.setIfInBounds_toArray]
          try simp only [List.set_cons_succ]
          try simp only [List.set_cons_zero]
          refine Late.take (i := 6) (d := some 45) (v := ?v6_32c) rfl rfl (by kernel_rfl) (by kernel_rfl) (by kernel_rfl) (by kernel_rfl) hQ (Or.inl ⟨by rfl, ?y6_32c⟩) ?r6_32c
          case y6_32c =>
            intro w' hSw
            have k00 := (bxX.ext hSw).c2
            go_simp
            try with_reducible rfl
          try simp only [Act.put]
          try simp only [List.setIfInBounds_toArray]
          try simp only [List.set_cons_succ]
          try simp only [List.set_cons_zero]
          refine Late.call (i := 1) rfl (by kernel_rfl) hAl (by kernel_rfl) (by kernel_rfl) (by kernel_rfl) hQ (fun w1 e1 E1 K hK => ?_)
          go_simp
          (go_at_call 117; refine (ref_trimN Hz2.out ((hbx.ext E1).rd0 Hw2.out) (Nat.le_refl _) (by unfold maxLen; omega)).mono ?_; rintro e wk1 ⟨rfl, hw1⟩; subst hw1; have hx1 := Ext.refl w1)
          refine hK.out _ _ hx1 ?_
          clear hK K
          try simp only [Act.put]
          try simp only [List.setIfInBounds_toArray]
          try simp only [List.set_cons_succ]
          try simp only [List.set_cons_zero]
          refine Late.call (i := 3) rfl (by kernel_rfl) hAl (by kernel_rfl) (by kernel_rfl) (by kernel_rfl) hQ (fun w3 e3 E3 K hK => ?_)
          go_simp
          (go_at_call 117; refine (ref_trimN Hz2.out ((hbx.ext E3).rd0 Hw2.out) (Nat.le_refl _) (by unfold maxLen; omega)).mono ?_; rintro e wk3 ⟨rfl, hw3⟩; subst hw3; have hx3 := Ext.refl w3)
          refine hK.out _ _ hx3 ?_
          clear hK K
          try simp only [Act.put]
          try simp only [List.setIfInBounds_toArray]
          try simp only [List.set_cons_succ]
          try simp only [List.set_cons_zero]
          refine Late.call (i := 4) rfl (by kernel_rfl) hAl (by kernel_rfl) (by kernel_rfl) (by kernel_rfl) hQ (fun w4 e4 E4 K hK => ?_)
          go_simp
          (go_at_call 116; refine (ref_times1 (xs := trimL zs2) (ys := trimL zs2) rfl rfl (trimRd (hbx.ext E4) Hw2.out) (trimRd (hbx.ext E4) Hw2.out) (by have := trimL_len zs2; have := Hz2.out; omega)).mono ?_; rintro e wk4 ⟨A5, c5, us, rfl, ho5, hc5, hm5, ⟨hv5, hn5, hl5⟩, hx4⟩)
          refine hK.out _ _ hx4 ?_
          clear hK K
          try simp only [Act.put]
          try simp only [List.setIfInBounds_toArray]
          try simp only [List.set_cons_succ]
          try simp only [List.set_cons_zero]
          refine Late.call (i := 7) rfl (by kernel_rfl) hAl (by kernel_rfl) (by kernel_rfl) (by kernel_rfl) hQ (fun w7 e7 E7 K hK => ?_)
          go_simp
          (go_at_call 115; refine (ref_compare _ _ _ _ us xs _ (ho5.rd.ext e7) (k2X.ext E7) (by have := trimL_len zs2; have := Hz2.out; unfold maxLen; omega) hxs).mono ?_; rintro e wk7 ⟨rfl, hx7⟩; rw [cmpL_nrm ho5.1 k2X.1 hn5 HI.out.nrm, hv5, val_trimL, HCMP.out])
          refine hK.out _ _ hx7 ?_
          clear hK K
          try simp only [Act.put]
          try simp only [List.setIfInBounds_toArray]
          try simp only [List.set_cons_succ]
          try simp only [List.set_cons_zero]
          refine Late.take (i := 8) (d := some 47) (v := ?v8_33c) rfl rfl (by kernel_rfl) (by kernel_rfl) (by kernel_rfl) (by kernel_rfl) hQ (Or.inl ⟨by rfl, ?y8_33c⟩) ?r8_33c
          case y8_33c =>
            intro w' hSw
            have k00 := (bxX.ext hSw).c2
            go_simp
            try with_reducible rfl
          try simp only [Act.put]
          try simp only [List.setIfInBounds_toArray]
          try simp only [List.set_cons_succ]
          try simp only [List.set_cons_zero]
          refine Late.done0 (by kernel_rfl) (fun wz ez Ez => ?_)
          clear hAl hQ ES
          go_wp2_with fail
          go_roundw
          case rel => exact ⟨i, zs2, by omega, rfl, H7.out (by have h1 := HB.out; have h2 := HVAL.out; rw [h2] at h1; omega), hbx.ext Ez, hext.trans Ez⟩
          case measure => simp [intOf]
end
end Go.Proofs.YtoabhnofppledaaGreatDoor
namespace Go.Proofs.YtoabhnofppledaaGreatDoor
open Go.RowKit
attribute [local go_sem ↓] Go.wp_at_zero Go.wp_at_succ
section
variable {w w' : World} {q p lo hi lo' hi' x : Rat} {L M : Nat} {s t s' t' sx tx u v u' v' : Bool} {A B A' B' Ax Bx C D C' D' : Option Addr} {n c m d n' c' m' d' nx cx mx dx i j k l i' j' k' l' : Nat} {qs : List Rat} {z y : Int}
set_option maxHeartbeats 4000000 in
theorem q_SqrtV_bits {k : Int} (hk : k < 0 ∨ 4096 < k) : Calls Tryz.prog 30 #[.agg #[.bool s, .slice A n c, .bool t, .slice B m d, .bool s', .slice A' n' c', .bool t', .slice B' m' d'], .int .i64 k] w (RetEV 1 w) := by
  by_cases h0 : k < 0
  · have d0 : decide (k < 0) = true := decide_eq_true h0
    go_enter Tryz.func30, Tryz.ntmps30
    go_upto_region 1 with (fail)
    obtain ⟨W, hW, ext, bx, bz, hz⟩ := box2 w 28 28 #[.bool s, .slice A n c, .bool t, .slice B m d, .bool s', .slice A' n' c', .bool t', .slice B' m' d'] #[Value.bool false, Value.slice none 0 0, Value.bool false, Value.slice none 0 0, Value.bool false, Value.slice none 0 0, Value.bool false, Value.slice none 0 0]
    rw [← hW]
    clear hW hz
    have hx1 := Ext.refl W
    have z0 := (bz.ext hx1).cell 0 _ rfl
    have f0 := (bz.ext hx1).frozen 0
    have z1 := (bz.ext hx1).cell 1 _ rfl
    have f1 := (bz.ext hx1).frozen 1
    have z2 := (bz.ext hx1).cell 2 _ rfl
    have f2 := (bz.ext hx1).frozen 2
    have z3 := (bz.ext hx1).cell 3 _ rfl
    have f3 := (bz.ext hx1).frozen 3
    have z4 := (bz.ext hx1).cell 4 _ rfl
    have f4 := (bz.ext hx1).frozen 4
    have z5 := (bz.ext hx1).cell 5 _ rfl
    have f5 := (bz.ext hx1).frozen 5
    have z6 := (bz.ext hx1).cell 6 _ rfl
    have f6 := (bz.ext hx1).frozen 6
    have z7 := (bz.ext hx1).cell 7 _ rfl
    have f7 := (bz.ext hx1).frozen 7
    go_wp2_with fail
    obtain ⟨b1, b2, b3, b4⟩ := fin_oct (v0 := (.bool false)) (v1 := (.slice none 0 0)) (v2 := (.bool false)) (v3 := (.slice none 0 0)) (v4 := (.bool false)) (v5 := (.slice none 0 0)) (v6 := (.bool false)) (v7 := (.slice none 0 0)) (bz.ext hx1)
    have r0 := b1.cell 0 (.bool false) rfl
    have r1 := b1.cell 1 (.slice none 0 0) rfl
    have r2 := b1.cell 2 (.bool false) rfl
    have r3 := b1.cell 3 (.slice none 0 0) rfl
    have r4 := b1.cell 4 (.bool false) rfl
    have r5 := b1.cell 5 (.slice none 0 0) rfl
    have r6 := b1.cell 6 (.bool false) rfl
    have r7 := b1.cell 7 (.slice none 0 0) rfl
    unfold set8 at r0 r1 r2 r3 r4 r5 r6 r7
    refine bodyPost_ret (v := .tuple #[.agg #[.bool false, .slice none 0 0, .bool false, .slice none 0 0, .bool false, .slice none 0 0, .bool false, .slice none 0 0], .int .i64 1]) (by simp [results, Tryz.results30, go_sem, r0, r1, r2, r3, r4, r5, r6, r7]) rfl ⟨rfl, b3 _ (ext.trans hx1) (by omega)⟩
  · have d0 : decide (k < 0) = false := decide_eq_false h0
    have d1 : decide (4096 < k) = true := decide_eq_true (by omega)
    go_enter Tryz.func30, Tryz.ntmps30
    go_upto_region 1 with (fail)
    obtain ⟨W, hW, ext, bx, bz, hz⟩ := box2 w 28 28 #[.bool s, .slice A n c, .bool t, .slice B m d, .bool s', .slice A' n' c', .bool t', .slice B' m' d'] #[Value.bool false, Value.slice none 0 0, Value.bool false, Value.slice none 0 0, Value.bool false, Value.slice none 0 0, Value.bool false, Value.slice none 0 0]
    rw [← hW]
    clear hW hz
    have hx1 := Ext.refl W
    have z0 := (bz.ext hx1).cell 0 _ rfl
    have f0 := (bz.ext hx1).frozen 0
    have z1 := (bz.ext hx1).cell 1 _ rfl
    have f1 := (bz.ext hx1).frozen 1
    have z2 := (bz.ext hx1).cell 2 _ rfl
    have f2 := (bz.ext hx1).frozen 2
    have z3 := (bz.ext hx1).cell 3 _ rfl
    have f3 := (bz.ext hx1).frozen 3
    have z4 := (bz.ext hx1).cell 4 _ rfl
    have f4 := (bz.ext hx1).frozen 4
    have z5 := (bz.ext hx1).cell 5 _ rfl
    have f5 := (bz.ext hx1).frozen 5
    have z6 := (bz.ext hx1).cell 6 _ rfl
    have f6 := (bz.ext hx1).frozen 6
    have z7 := (bz.ext hx1).cell 7 _ rfl
    have f7 := (bz.ext hx1).frozen 7
    go_wp2_with fail
    obtain ⟨b1, b2, b3, b4⟩ := fin_oct (v0 := (.bool false)) (v1 := (.slice none 0 0)) (v2 := (.bool false)) (v3 := (.slice none 0 0)) (v4 := (.bool false)) (v5 := (.slice none 0 0)) (v6 := (.bool false)) (v7 := (.slice none 0 0)) (bz.ext hx1)
    have r0 := b1.cell 0 (.bool false) rfl
    have r1 := b1.cell 1 (.slice none 0 0) rfl
    have r2 := b1.cell 2 (.bool false) rfl
    have r3 := b1.cell 3 (.slice none 0 0) rfl
    have r4 := b1.cell 4 (.bool false) rfl
    have r5 := b1.cell 5 (.slice none 0 0) rfl
    have r6 := b1.cell 6 (.bool false) rfl
    have r7 := b1.cell 7 (.slice none 0 0) rfl
    unfold set8 at r0 r1 r2 r3 r4 r5 r6 r7
    refine bodyPost_ret (v := .tuple #[.agg #[.bool false, .slice none 0 0, .bool false, .slice none 0 0, .bool false, .slice none 0 0, .bool false, .slice none 0 0], .int .i64 1]) (by simp [results, Tryz.results30, go_sem, r0, r1, r2, r3, r4, r5, r6, r7]) rfl ⟨rfl, b3 _ (ext.trans hx1) (by omega)⟩
set_option maxHeartbeats 4000000 in
theorem q_SqrtV_neg {k : Int} (h : IV w lo hi L s A n c t B m d s' A' n' c' t' B' m' d') (hL : L ≤ 50) (h0 : 0 ≤ k) (h1 : k ≤ 4096) (hn : lo.num < 0) : Calls Tryz.prog 30 #[.agg #[.bool s, .slice A n c, .bool t, .slice B m d, .bool s', .slice A' n' c', .bool t', .slice B' m' d'], .int .i64 k] w (RetEV 7 w) := by
  have HS := Lib.hid (Int.sign_eq_neg_one_of_neg hn)
  clear hn
  have d0 : decide (k < 0) = false := decide_eq_false (by omega)
  have d1 : decide ((4096 : Int) < k) = false := decide_eq_false (by omega)
  go_enter Tryz.func30, Tryz.ntmps30
  go_upto_region 1 with (fail)
  obtain ⟨W, hW, ext, bx, bz, hz⟩ := box2 w 28 28 #[.bool s, .slice A n c, .bool t, .slice B m d, .bool s', .slice A' n' c', .bool t', .slice B' m' d'] #[Value.bool false, Value.slice none 0 0, Value.bool false, Value.slice none 0 0, Value.bool false, Value.slice none 0 0, Value.bool false, Value.slice none 0 0]
  rw [← hW]
  clear hW hz
  have k0 := bx.cell 0 (.bool s) rfl
  have k1 := bx.cell 1 (.slice A n c) rfl
  have k2 := bx.cell 2 (.bool t) rfl
  have k3 := bx.cell 3 (.slice B m d) rfl
  have k4 := bx.cell 4 (.bool s') rfl
  have k5 := bx.cell 5 (.slice A' n' c') rfl
  have k6 := bx.cell 6 (.bool t') rfl
  have k7 := bx.cell 7 (.slice B' m' d') rfl
  go_wp2_with fail
  refine (q_SignR (h.low.ext ext) (by omega)).mono ?_
  rintro e wb ⟨rfl, hxb⟩
  rw [HS.out]
  replace bx := bx.ext hxb
  replace bz := bz.ext hxb
  replace ext := ext.trans hxb
  clear hxb k0 k1 k2 k3 k4 k5 k6 k7 d0 d1
  have hx1 := Ext.refl wb
  have z0 := (bz.ext hx1).cell 0 _ rfl
  have f0 := (bz.ext hx1).frozen 0
  have z1 := (bz.ext hx1).cell 1 _ rfl
  have f1 := (bz.ext hx1).frozen 1
  have z2 := (bz.ext hx1).cell 2 _ rfl
  have f2 := (bz.ext hx1).frozen 2
  have z3 := (bz.ext hx1).cell 3 _ rfl
  have f3 := (bz.ext hx1).frozen 3
  have z4 := (bz.ext hx1).cell 4 _ rfl
  have f4 := (bz.ext hx1).frozen 4
  have z5 := (bz.ext hx1).cell 5 _ rfl
  have f5 := (bz.ext hx1).frozen 5
  have z6 := (bz.ext hx1).cell 6 _ rfl
  have f6 := (bz.ext hx1).frozen 6
  have z7 := (bz.ext hx1).cell 7 _ rfl
  have f7 := (bz.ext hx1).frozen 7
  go_wp2_with fail
  obtain ⟨b1, b2, b3, b4⟩ := fin_oct (v0 := (.bool false)) (v1 := (.slice none 0 0)) (v2 := (.bool false)) (v3 := (.slice none 0 0)) (v4 := (.bool false)) (v5 := (.slice none 0 0)) (v6 := (.bool false)) (v7 := (.slice none 0 0)) (bz.ext hx1)
  have r0 := b1.cell 0 (.bool false) rfl
  have r1 := b1.cell 1 (.slice none 0 0) rfl
  have r2 := b1.cell 2 (.bool false) rfl
  have r3 := b1.cell 3 (.slice none 0 0) rfl
  have r4 := b1.cell 4 (.bool false) rfl
  have r5 := b1.cell 5 (.slice none 0 0) rfl
  have r6 := b1.cell 6 (.bool false) rfl
  have r7 := b1.cell 7 (.slice none 0 0) rfl
  unfold set8 at r0 r1 r2 r3 r4 r5 r6 r7
  refine bodyPost_ret (v := .tuple #[.agg #[.bool false, .slice none 0 0, .bool false, .slice none 0 0, .bool false, .slice none 0 0, .bool false, .slice none 0 0], .int .i64 7]) (by simp [results, Tryz.results30, go_sem, r0, r1, r2, r3, r4, r5, r6, r7]) rfl ⟨rfl, b3 _ (ext.trans hx1) (by omega)⟩
set_option maxHeartbeats 16000000 in
set_option maxRecDepth 100000 in
theorem q_SqrtV {k : Nat} (h : IV w lo hi L s A n c t B m d s' A' n' c' t' B' m' d') (hle : lo ≤ hi) (hL : L ≤ 20) (hk : k ≤ 200) (hn : 0 ≤ lo.num) : Calls Tryz.prog 30 #[.agg #[.bool s, .slice A n c, .bool t, .slice B m d, .bool s', .slice A' n' c', .bool t', .slice B' m' d'], .int .i64 (k : Int)] w (RetRt lo hi k (L + 30) w) := by
  have HP := Lib.hid (show 0 ≤ lo.num ∧ 0 ≤ hi.num ∧ (0 : Int) ≤ 4 ^ k from ⟨hn, num_le hle hn, Int.le_of_lt (pow_pos4 k)⟩)
  have HU := Lib.hid (show (2 : Int) ^ k ≠ 0 from Int.ne_of_gt (pow_pos2 k))
  have Hk := Lib.hid hk
  obtain ⟨S, hS, dS⟩ : ∃ S, lo.num.sign = S ∧ decide (S < 0) = false := ⟨_, rfl, decide_eq_false (by
    intro h1
    rcases Int.lt_or_eq_of_le hn with h2 | h2
    · rw [Int.sign_eq_one_of_pos h2] at h1; omega
    · rw [← h2] at h1; simp at h1)⟩
  have HS := Lib.hid hS
  clear hS hn hle
  have d0 : decide ((k : Int) < 0) = false := decide_eq_false (by omega)
  have d1 : decide ((4096 : Int) < (k : Int)) = false := decide_eq_false (by omega)
  go_enter Tryz.func30, Tryz.ntmps30
  go_upto_region 1 with (fail)
  obtain ⟨W, hW, ext, bx, bz, hz⟩ := box2 w 28 28 #[.bool s, .slice A n c, .bool t, .slice B m d, .bool s', .slice A' n' c', .bool t', .slice B' m' d'] #[Value.bool false, Value.slice none 0 0, Value.bool false, Value.slice none 0 0, Value.bool false, Value.slice none 0 0, Value.bool false, Value.slice none 0 0]
  rw [← hW]
  clear hW hz
  have k0 := bx.cell 0 (.bool s) rfl
  have k1 := bx.cell 1 (.slice A n c) rfl
  have k2 := bx.cell 2 (.bool t) rfl
  have k3 := bx.cell 3 (.slice B m d) rfl
  have k4 := bx.cell 4 (.bool s') rfl
  have k5 := bx.cell 5 (.slice A' n' c') rfl
  have k6 := bx.cell 6 (.bool t') rfl
  have k7 := bx.cell 7 (.slice B' m' d') rfl
  go_wp2_with fail
  refine (q_SignR (h.low.ext ext) (by omega)).mono ?_
  rintro e wb ⟨rfl, hxb⟩
  rw [HS.out]
  replace bx := bx.ext hxb
  replace bz := bz.ext hxb
  replace ext := ext.trans hxb
  clear hxb k0 k1 k2 k3 k4 k5 k6 k7 d0 d1
  go_wp2_with fail
  refine (q_unit Hk.out).mono ?_
  rintro e w5 ⟨u, C, i, j, v, D, kU, l, rfl, hu, hx5⟩
  replace bx := bx.ext hx5
  replace bz := bz.ext hx5
  replace ext := ext.trans hx5
  clear hx5
  go_upto_region 6 with (fail)
  refine at_world (fun w5v => Ext w5 w5v ∧ Box w5v w5.heap.size 26 #[.bool u, .slice C i j, .bool v, .slice D kU l] ∧ NR w5v ((2 ^ k : Int) : Rat) 13 u C i j v D kU l) ⟨(Ext.refl w5).alloc _, Box.new w5 _ _, hu.ext ((Ext.refl w5).alloc _)⟩ ?_
  have lt_g6_bz := bz.lt
  generalize w5.heap.size = g6 at lt_g6_bz ⊢
  clear hu
  rintro w5v ⟨EV, b6, hu⟩
  replace bx := bx.ext EV
  replace bz := bz.ext EV
  replace ext := ext.trans EV
  clear EV
  have x0 := b6.cell 0 (.bool u) rfl
  have x1 := b6.cell 1 (.slice C i j) rfl
  have x2 := b6.cell 2 (.bool v) rfl
  have x3 := b6.cell 3 (.slice D kU l) rfl
  go_wp2_with fail
  refine (q_MulR hu hu (by omega) (by omega)).mono ?_
  rintro e w6 ⟨uW, CW, iW, jW, vW, DW, kW, lW, rfl, hw, hx6⟩
  rw [pow_sq] at hw
  clear x0 x1 x2 x3
  replace bx := bx.ext hx6
  replace bz := bz.ext hx6
  replace b6 := b6.ext hx6
  replace hu := hu.ext hx6
  replace ext := ext.trans hx6
  clear hx6
  go_upto_region 7 with (fail)
  refine at_world (fun w6v => Ext w6 w6v ∧ Box w6v w6.heap.size 26 #[.bool uW, .slice CW iW jW, .bool vW, .slice DW kW lW] ∧ NR w6v ((4 ^ k : Int) : Rat) 26 uW CW iW jW vW DW kW lW) ⟨(Ext.refl w6).alloc _, Box.new w6 _ _, hw.ext ((Ext.refl w6).alloc _)⟩ ?_
  have lt_g7_bz := bz.lt
  have lt_g7_b6 := b6.lt
  generalize w6.heap.size = g7 at lt_g7_bz lt_g7_b6 ⊢
  clear hw
  rintro w6v ⟨EV, b7, hw⟩
  replace bx := bx.ext EV
  replace bz := bz.ext EV
  replace b6 := b6.ext EV
  replace hu := hu.ext EV
  replace ext := ext.trans EV
  clear EV
  have k0 := bx.cell 0 (.bool s) rfl
  have k1 := bx.cell 1 (.slice A n c) rfl
  have k2 := bx.cell 2 (.bool t) rfl
  have k3 := bx.cell 3 (.slice B m d) rfl
  have k4 := bx.cell 4 (.bool s') rfl
  have k5 := bx.cell 5 (.slice A' n' c') rfl
  have k6 := bx.cell 6 (.bool t') rfl
  have k7 := bx.cell 7 (.slice B' m' d') rfl
  have x0 := b7.cell 0 (.bool uW) rfl
  have x1 := b7.cell 1 (.slice CW iW jW) rfl
  have x2 := b7.cell 2 (.bool vW) rfl
  have x3 := b7.cell 3 (.slice DW kW lW) rfl
  go_wp2_with fail
  refine (q_MulR (h.low.ext ext) hw (by omega) (by omega)).mono ?_
  rintro e w7 ⟨s1, A1, n1, c1, t1, B1, m1, d1, rfl, g1, hx7⟩
  clear x0 x1 x2 x3 k0 k1 k2 k3 k4 k5 k6 k7
  replace bx := bx.ext hx7
  replace bz := bz.ext hx7
  replace b6 := b6.ext hx7
  replace hu := hu.ext hx7
  replace b7 := b7.ext hx7
  replace hw := hw.ext hx7
  replace ext := ext.trans hx7
  clear hx7
  go_wp2_with fail
  refine (q_Floor g1 (by omega)).mono ?_
  rintro e w8 ⟨zA, rA, hdm, s3, A3, n3, c3, rfl, g2, hx8⟩
  have hf1 := IsFl.of_mul rfl hdm
  replace g2 := g2.tight g1.num (dm_natAbs (denI _) hdm)
  have HF1 := Lib.hid hf1
  have HZ1 := Lib.hid (hf1.nonneg HP.out.1 HP.out.2.2)
  clear hf1 hdm g1
  replace bx := bx.ext hx8
  replace bz := bz.ext hx8
  replace b6 := b6.ext hx8
  replace hu := hu.ext hx8
  replace b7 := b7.ext hx8
  replace hw := hw.ext hx8
  replace ext := ext.trans hx8
  clear hx8
  go_wp2_with fail
  refine (q_SqrtI g2 (by omega) HZ1.out).mono ?_
  rintro e w9 ⟨rA2, hr0, hr1, hr2, s4, A4, n4, c4, rfl, g3, hx9⟩
  have HR1 := Lib.hid (IsRl.of HF1.out hr0 hr1 hr2)
  clear hr0 hr1 hr2 g2 HF1 HZ1
  replace bx := bx.ext hx9
  replace bz := bz.ext hx9
  replace b6 := b6.ext hx9
  replace hu := hu.ext hx9
  replace b7 := b7.ext hx9
  replace hw := hw.ext hx9
  replace ext := ext.trans hx9
  clear hx9
  go_upto_region 8 with (fail)
  refine at_world (fun w9v => Ext w9 w9v ∧ Box w9v w9.heap.size 24 #[.bool s4, .slice A4 n4 c4] ∧ NI w9v rA2 (L + 26 + 1) s4 A4 n4 c4) ⟨(Ext.refl w9).alloc _, Box.new w9 _ _, g3.ext ((Ext.refl w9).alloc _)⟩ ?_
  have lt_g8_bz := bz.lt
  have lt_g8_b6 := b6.lt
  have lt_g8_b7 := b7.lt
  generalize w9.heap.size = g8 at lt_g8_bz lt_g8_b6 lt_g8_b7 ⊢
  clear g3
  rintro w9v ⟨EV, b8, g3⟩
  replace bx := bx.ext EV
  replace bz := bz.ext EV
  replace b6 := b6.ext EV
  replace hu := hu.ext EV
  replace b7 := b7.ext EV
  replace hw := hw.ext EV
  replace ext := ext.trans EV
  clear EV
  have k0 := bx.cell 0 (.bool s) rfl
  have k1 := bx.cell 1 (.slice A n c) rfl
  have k2 := bx.cell 2 (.bool t) rfl
  have k3 := bx.cell 3 (.slice B m d) rfl
  have k4 := bx.cell 4 (.bool s') rfl
  have k5 := bx.cell 5 (.slice A' n' c') rfl
  have k6 := bx.cell 6 (.bool t') rfl
  have k7 := bx.cell 7 (.slice B' m' d') rfl
  have x0 := b7.cell 0 (.bool uW) rfl
  have x1 := b7.cell 1 (.slice CW iW jW) rfl
  have x2 := b7.cell 2 (.bool vW) rfl
  have x3 := b7.cell 3 (.slice DW kW lW) rfl
  go_wp2_with fail
  refine (q_MulR (h.high.ext ext) hw (by omega) (by omega)).mono ?_
  rintro e w10 ⟨s6, A6, n6, c6, t6, B6, m6, d6, rfl, ht, hx10⟩
  clear x0 x1 x2 x3 k0 k1 k2 k3 k4 k5 k6 k7
  replace bx := bx.ext hx10
  replace bz := bz.ext hx10
  replace b6 := b6.ext hx10
  replace hu := hu.ext hx10
  replace b7 := b7.ext hx10
  replace hw := hw.ext hx10
  replace b8 := b8.ext hx10
  replace g3 := g3.ext hx10
  replace ext := ext.trans hx10
  clear hx10
  go_upto_region 9 with (fail)
  refine at_world (fun w10v => Ext w10 w10v ∧ Box w10v w10.heap.size 26 #[.bool s6, .slice A6 n6 c6, .bool t6, .slice B6 m6 d6] ∧ NR w10v (hi * ((4 ^ k : Int) : Rat)) (L + 26) s6 A6 n6 c6 t6 B6 m6 d6) ⟨(Ext.refl w10).alloc _, Box.new w10 _ _, ht.ext ((Ext.refl w10).alloc _)⟩ ?_
  have lt_g10_bz := bz.lt
  have lt_g10_b6 := b6.lt
  have lt_g10_b7 := b7.lt
  have lt_g10_b8 := b8.lt
  generalize w10.heap.size = g10 at lt_g10_bz lt_g10_b6 lt_g10_b7 lt_g10_b8 ⊢
  clear ht
  rintro w10v ⟨EV, b10, ht⟩
  replace bx := bx.ext EV
  replace bz := bz.ext EV
  replace b6 := b6.ext EV
  replace hu := hu.ext EV
  replace b7 := b7.ext EV
  replace hw := hw.ext EV
  replace b8 := b8.ext EV
  replace g3 := g3.ext EV
  replace ext := ext.trans EV
  clear EV
  have x0 := b10.cell 0 (.bool s6) rfl
  have x1 := b10.cell 1 (.slice A6 n6 c6) rfl
  have x2 := b10.cell 2 (.bool t6) rfl
  have x3 := b10.cell 3 (.slice B6 m6 d6) rfl
  go_wp2_with fail
  refine (q_Floor ht (by omega)).mono ?_
  rintro e w11 ⟨zB, rB, hdm, s7, A7, n7, c7, rfl, g5, hx11⟩
  have hf2 := IsFl.of_mul rfl hdm
  replace g5 := g5.tight ht.num (dm_natAbs (denI _) hdm)
  have HF2 := Lib.hid hf2
  have HZ2 := Lib.hid (hf2.nonneg HP.out.2.1 HP.out.2.2)
  clear hf2 hdm x0 x1 x2 x3
  replace bx := bx.ext hx11
  replace bz := bz.ext hx11
  replace b6 := b6.ext hx11
  replace hu := hu.ext hx11
  replace b7 := b7.ext hx11
  replace hw := hw.ext hx11
  replace b8 := b8.ext hx11
  replace g3 := g3.ext hx11
  replace b10 := b10.ext hx11
  replace ht := ht.ext hx11
  replace ext := ext.trans hx11
  clear hx11
  go_wp2_with fail
  refine (q_SqrtI g5 (by omega) HZ2.out).mono ?_
  rintro e w12 ⟨rH, hr0, hr1, hr2, s8, A8, n8, c8, rfl, g6', hx12⟩
  have HQ := Lib.hid (And.intro hr0 (And.intro hr1 hr2))
  clear hr0 hr1 hr2 g5 HZ2
  replace bx := bx.ext hx12
  replace bz := bz.ext hx12
  replace b6 := b6.ext hx12
  replace hu := hu.ext hx12
  replace b7 := b7.ext hx12
  replace hw := hw.ext hx12
  replace b8 := b8.ext hx12
  replace g3 := g3.ext hx12
  replace b10 := b10.ext hx12
  replace ht := ht.ext hx12
  replace ext := ext.trans hx12
  clear hx12
  go_upto_region 10 with (fail)
  refine at_world (fun w12v => Ext w12 w12v ∧ Box w12v w12.heap.size 24 #[.bool s8, .slice A8 n8 c8] ∧ NI w12v rH (L + 26 + 1) s8 A8 n8 c8) ⟨(Ext.refl w12).alloc _, Box.new w12 _ _, g6'.ext ((Ext.refl w12).alloc _)⟩ ?_
  have lt_g11_bz := bz.lt
  have lt_g11_b6 := b6.lt
  have lt_g11_b7 := b7.lt
  have lt_g11_b8 := b8.lt
  have lt_g11_b10 := b10.lt
  generalize w12.heap.size = g11 at lt_g11_bz lt_g11_b6 lt_g11_b7 lt_g11_b8 lt_g11_b10 ⊢
  clear g6'
  rintro w12v ⟨EV, b11, g6'⟩
  replace bx := bx.ext EV
  replace bz := bz.ext EV
  replace b6 := b6.ext EV
  replace hu := hu.ext EV
  replace b7 := b7.ext EV
  replace hw := hw.ext EV
  replace b8 := b8.ext EV
  replace g3 := g3.ext EV
  replace b10 := b10.ext EV
  replace ht := ht.ext EV
  replace ext := ext.trans EV
  clear EV
  clear dS
  by_cases hlt : mkQ (rH * rH) 1 < hi * ((4 ^ k : Int) : Rat)
  · obtain ⟨S2', hS2, d2⟩ : ∃ S, ratCmp (mkQ (rH * rH) 1) (hi * ((4 ^ k : Int) : Rat)) = S ∧ decide (S < 0) = true := ⟨_, rfl, decide_eq_true (ratCmp_lt.2 hlt)⟩
    have HC := Lib.hid hS2
    clear hS2
    rw [mkQ_one, lt_cross rfl] at hlt
    have HRB := Lib.hid (IsRh.ref_yes HF2.out HQ.out.1 HQ.out.2.2 hlt)
    clear hlt
    go_wp2_with fail
    have ES0 := Ext.refl w12v
    refine wp_region_held_drew (S := Ext w12v) (by kernel_rfl) ES0.drew (fun ES => ?_)
    clear ES0
    refine Late.start0 (fun _ _ _ _ _ => ⟨fun h => h, fun h => h⟩) ES (fun hAl hQ => ?_)
    refine Late.take (i := 0) (d := some 49) (v := ?v0_119) rfl rfl (by kernel_rfl) (by kernel_rfl) (by kernel_rfl) (by kernel_rfl) hQ (Or.inl ⟨by rfl, ?y0_119⟩) ?r0_119
    case y0_119 =>
      intro w' hSw
      have k00 := (b11.ext hSw).c2
      have k10 := (b10.ext hSw).c4
      go_simp
      try with_reducible rfl
    try simp only [Act.put]
    try simp only [List.setIfInBounds_toArray]
    try simp only [List.set_cons_succ]
    try simp only [List.set_cons_zero]
    refine Late.take (i := 1) (d := some 50) (v := ?v1_120) rfl rfl (by kernel_rfl) (by kernel_rfl) (by kernel_rfl) (by kernel_rfl) hQ (Or.inl ⟨by rfl, ?y1_120⟩) ?r1_120
    case y1_120 =>
      intro w' hSw
      have k00 := (b11.ext hSw).c2
      have k10 := (b10.ext hSw).c4
      go_simp
      try with_reducible rfl
    try simp only [Act.put]
    try simp only [List.setIfInBounds_toArray]
    try simp only [List.set_cons_succ]
    try simp only [List.set_cons_zero]
    refine Late.take (i := 5) (d := some 54) (v := ?v5_121) rfl rfl (by kernel_rfl) (by kernel_rfl) (by kernel_rfl) (by kernel_rfl) hQ (Or.inl ⟨by rfl, ?y5_121⟩) ?r5_121
    case y5_121 =>
      intro w' hSw
      have k00 := (b11.ext hSw).c2
      have k10 := (b10.ext hSw).c4
      go_simp
      try with_reducible rfl
    try simp only [Act.put]
    try simp only [List.setIfInBounds_toArray]
    try simp only [List.set_cons_succ]
    try simp only [List.set_cons_zero]
    refine Late.call (i := 2) rfl (by kernel_rfl) hAl (by kernel_rfl) (by kernel_rfl) (by kernel_rfl) hQ (fun w2 e2 E2 K hK => ?_)
    go_simp
    (go_at_call 77; refine (q_Mul (g6'.ext E2) (g6'.ext E2) (by omega) (by omega)).mono ?_; rintro e wk2 ⟨sm, Am, nm, cm, rfl, hm, hx2⟩)
    refine hK.out _ _ hx2 ?_
    clear hK K
    try simp only [Act.put]
    try simp only [List.setIfInBounds_toArray]
    try simp only [List.set_cons_succ]
    try simp only [List.set_cons_zero]
    refine Late.call (i := 3) rfl (by kernel_rfl) hAl (by kernel_rfl) (by kernel_rfl) (by kernel_rfl) hQ (fun w3 e3 E3 K hK => ?_)
    go_simp
    (replace hm := hm.ext e3; go_at_call 78; refine (q_FromInt 1 (by omega) (by omega)).mono ?_; rintro e wk3 ⟨so, Ao, no, co, rfl, ho, hx3⟩; replace hm := hm.ext hx3)
    refine hK.out _ _ hx3 ?_
    clear hK K
    try simp only [Act.put]
    try simp only [List.setIfInBounds_toArray]
    try simp only [List.set_cons_succ]
    try simp only [List.set_cons_zero]
    refine Late.call (i := 4) rfl (by kernel_rfl) hAl (by kernel_rfl) (by kernel_rfl) (by kernel_rfl) hQ (fun w4 e4 E4 K hK => ?_)
    go_simp
    (replace hm := hm.ext e4; replace ho := ho.ext e4; go_at_call 76; refine (q_Make_nz hm ho (by omega) (by omega) (by omega)).mono ?_; rintro e wk4 ⟨sk, Ak, nk, ck, tk, Bk, mk, dk, rfl, hM, hx4⟩; replace hm := hm.ext hx4; replace ho := ho.ext hx4)
    refine hK.out _ _ hx4 ?_
    clear hK K
    try simp only [Act.put]
    try simp only [List.setIfInBounds_toArray]
    try simp only [List.set_cons_succ]
    try simp only [List.set_cons_zero]
    refine Late.call (i := 6) rfl (by kernel_rfl) hAl (by kernel_rfl) (by kernel_rfl) (by kernel_rfl) hQ (fun w6 e6 E6 K hK => ?_)
    go_simp
    (replace hm := hm.ext e6; replace ho := ho.ext e6; replace hM := hM.ext e6; go_at_call 53; refine (q_CmpR hM (ht.ext E6) (by omega) (by omega)).mono ?_; rintro e wk6 ⟨rfl, hx6⟩; replace hm := hm.ext hx6; replace ho := ho.ext hx6; replace hM := hM.ext hx6; rw [HC.out])
    refine hK.out _ _ hx6 ?_
    clear hK K
    try simp only [Act.put]
    try simp only [List.setIfInBounds_toArray]
    try simp only [List.set_cons_succ]
    try simp only [List.set_cons_zero]
    refine Late.take (i := 7) (d := some 56) (v := ?v7_122) rfl rfl (by kernel_rfl) (by kernel_rfl) (by kernel_rfl) (by kernel_rfl) hQ (Or.inl ⟨by rfl, ?y7_122⟩) ?r7_122
    case y7_122 =>
      intro w' hSw
      have k00 := (b11.ext hSw).c2
      have k10 := (b10.ext hSw).c4
      go_simp
      try with_reducible rfl
    try simp only [Act.put]
    try simp only [List.setIfInBounds_toArray]
    try simp only [List.set_cons_succ]
    try simp only [List.set_cons_zero]
    refine Late.done0 (by kernel_rfl) (fun wz ez Ez => ?_)
    clear hAl hQ ES
    replace bx := bx.ext Ez
    replace bz := bz.ext Ez
    replace b6 := b6.ext Ez
    replace hu := hu.ext Ez
    replace b7 := b7.ext Ez
    replace hw := hw.ext Ez
    replace b8 := b8.ext Ez
    replace g3 := g3.ext Ez
    replace b10 := b10.ext Ez
    replace ht := ht.ext Ez
    replace b11 := b11.ext Ez
    replace g6' := g6'.ext Ez
    replace ext := ext.trans Ez
    clear Ez ez
    try rw [d2]
    clear d2
    go_upto_region 11 with (fail)
    refine wpL.start 3 (by kernel_rfl) (fun _ _ _ _ _ => ⟨fun h => h, fun h => h⟩) (fun hQ ES => ?_)
    refine wpL.take (i := 0) (d := some 57) (v := ?v0_118) rfl rfl (by kernel_rfl) (by kernel_rfl) (by kernel_rfl) (by kernel_rfl) hQ (Or.inl ⟨by rfl, ?y0_118⟩) ES ?r0_118
    case y0_118 =>
      intro w' hSw
      have k00 := (b11.ext hSw).c2
      go_simp
      try with_reducible rfl
    try simp only [Act.put]
    try simp only [List.setIfInBounds_toArray]
    try simp only [List.set_cons_succ]
    try simp only [List.set_cons_zero]
    refine wpL.call (i := 1) rfl (by kernel_rfl) (fun K hK => ?_)
    go_simp
    (go_at_call 78; refine (q_FromInt 1 (by omega) (by omega)).mono ?_; rintro e wp ⟨so, Ao, no, co, rfl, ho, hx0⟩; have E0_11 := Ext.trans ES hx0)
    refine hK.out _ _ E0_11 ?_
    clear hK K
    try simp only [Act.put]
    try simp only [List.setIfInBounds_toArray]
    try simp only [List.set_cons_succ]
    try simp only [List.set_cons_zero]
    refine wpL.call (i := 2) rfl (by kernel_rfl) (fun K hK => ?_)
    go_simp
    (go_at_call 79; refine (q_Add (g6'.ext E0_11) ho (by omega) (by omega)).mono ?_; rintro e wq ⟨s9, A9, n9, c9, rfl, g7', hx1⟩; have E1_11 := Ext.trans E0_11 hx1)
    refine hK.out _ _ E1_11 ?_
    clear hK K
    try simp only [Act.put]
    try simp only [List.setIfInBounds_toArray]
    try simp only [List.set_cons_succ]
    try simp only [List.set_cons_zero]
    have p10 := (b11.ext E1_11).cell 0 _ rfl
    have f10 := (b11.ext E1_11).frozen 0
    have p11 := (b11.ext E1_11).cell 1 _ rfl
    have f11 := (b11.ext E1_11).frozen 1
    refine wpL.tail (i := 3) rfl (by kernel_rfl) (by kernel_rfl) (fun K hK => ?_)
    go_simp
    refine hK.out _ _ ?_
    clear hK K
    try simp only [Act.put]
    try simp only [List.setIfInBounds_toArray]
    try simp only [List.set_cons_succ]
    try simp only [List.set_cons_zero]
    refine wpL.done (by kernel_rfl) ?_ _
    clear hQ
    go_wp2_with fail
    refine at_world (fun Y => Ext w Y ∧ Box Y (w.heap.size + 1) 28 #[Value.bool false, Value.slice none 0 0, Value.bool false, Value.slice none 0 0, Value.bool false, Value.slice none 0 0, Value.bool false, Value.slice none 0 0] ∧ Box Y g6 26 #[.bool u, .slice C i j, .bool v, .slice D kU l] ∧ Box Y g8 24 #[.bool s4, .slice A4 n4 c4] ∧ Box Y g11 24 #[.bool s9, .slice A9 n9 c9] ∧ NR Y ((2 ^ k : Int) : Rat) 13 u C i j v D kU l ∧ NI Y rA2 (L + 26 + 1) s4 A4 n4 c4 ∧ NI Y (rH + 1) (L + 30) s9 A9 n9 c9) ?_ ?_
    · have q1 := fin_dual (s := s9) (A := A9) (n := n9) (c := c9) (b11.ext E1_11)
      exact ⟨q1.2.2.1 _ (ext.trans E1_11) (by omega), q1.2.2.2 _ _ _ (by omega) (bz.ext E1_11), q1.2.2.2 _ _ _ (by omega) (b6.ext E1_11), q1.2.2.2 _ _ _ (by omega) (b8.ext E1_11), q1.1, ⟨q1.2.1 _ _ _ _ _ _ (hu.ext E1_11).num, q1.2.1 _ _ _ _ _ _ (hu.ext E1_11).den⟩, q1.2.1 _ _ _ _ _ _ (g3.ext E1_11), (q1.2.1 _ _ _ _ _ _ g7').le (by omega)⟩
    clear ext bx bz b6 b7 b8 b10 b11 hu hw g3 ht g6' g7' ho p10 p11 f10 f11
    rintro Y ⟨ext, bz, b6, b8, b11, hu, g3, g7'⟩
    go_upto_region 12 with (fail)
    refine wpL.start 9 (by kernel_rfl) (fun _ _ _ _ _ => ⟨fun h => h, fun h => h⟩) (fun hQ ES => ?_)
    refine wpL.take (i := 0) (d := some 60) (v := ?v0_123) rfl rfl (by kernel_rfl) (by kernel_rfl) (by kernel_rfl) (by kernel_rfl) hQ (Or.inl ⟨by rfl, ?y0_123⟩) ES ?r0_123
    case y0_123 =>
      intro w' hSw
      have k00 := (b8.ext hSw).c2
      have k10 := (b6.ext hSw).c4
      have k20 := (b11.ext hSw).c2
      go_simp
      try with_reducible rfl
    try simp only [Act.put]
    try simp only [List.setIfInBounds_toArray]
    try simp only [List.set_cons_succ]
    try simp only [List.set_cons_zero]
    refine wpL.take (i := 1) (d := some 61) (v := ?v1_124) rfl rfl (by kernel_rfl) (by kernel_rfl) (by kernel_rfl) (by kernel_rfl) hQ (Or.inl ⟨by rfl, ?y1_124⟩) ES ?r1_124
    case y1_124 =>
      intro w' hSw
      have k00 := (b8.ext hSw).c2
      have k10 := (b6.ext hSw).c4
      have k20 := (b11.ext hSw).c2
      go_simp
      try with_reducible rfl
    try simp only [Act.put]
    try simp only [List.setIfInBounds_toArray]
    try simp only [List.set_cons_succ]
    try simp only [List.set_cons_zero]
    refine wpL.take (i := 4) (d := some 64) (v := ?v4_125) rfl rfl (by kernel_rfl) (by kernel_rfl) (by kernel_rfl) (by kernel_rfl) hQ (Or.inl ⟨by rfl, ?y4_125⟩) ES ?r4_125
    case y4_125 =>
      intro w' hSw
      have k00 := (b8.ext hSw).c2
      have k10 := (b6.ext hSw).c4
      have k20 := (b11.ext hSw).c2
      go_simp
      try with_reducible rfl
    try simp only [Act.put]
    try simp only [List.setIfInBounds_toArray]
    try simp only [List.set_cons_succ]
    try simp only [List.set_cons_zero]
    refine wpL.take (i := 5) (d := some 65) (v := ?v5_126) rfl rfl (by kernel_rfl) (by kernel_rfl) (by kernel_rfl) (by kernel_rfl) hQ (Or.inl ⟨by rfl, ?y5_126⟩) ES ?r5_126
    case y5_126 =>
      intro w' hSw
      have k00 := (b8.ext hSw).c2
      have k10 := (b6.ext hSw).c4
      have k20 := (b11.ext hSw).c2
      go_simp
      try with_reducible rfl
    try simp only [Act.put]
    try simp only [List.setIfInBounds_toArray]
    try simp only [List.set_cons_succ]
    try simp only [List.set_cons_zero]
    refine wpL.take (i := 2) (d := some 62) (v := ?v2_127) rfl rfl (by kernel_rfl) (by kernel_rfl) (by kernel_rfl) (by kernel_rfl) hQ (Or.inl ⟨by rfl, ?y2_127⟩) ES ?r2_127
    case y2_127 =>
      intro w' hSw
      have k00 := (b8.ext hSw).c2
      have k10 := (b6.ext hSw).c4
      have k20 := (b11.ext hSw).c2
      go_simp
      try with_reducible rfl
    try simp only [Act.put]
    try simp only [List.setIfInBounds_toArray]
    try simp only [List.set_cons_succ]
    try simp only [List.set_cons_zero]
    refine wpL.take (i := 6) (d := some 66) (v := ?v6_128) rfl rfl (by kernel_rfl) (by kernel_rfl) (by kernel_rfl) (by kernel_rfl) hQ (Or.inl ⟨by rfl, ?y6_128⟩) ES ?r6_128
    case y6_128 =>
      intro w' hSw
      have k00 := (b8.ext hSw).c2
      have k10 := (b6.ext hSw).c4
      have k20 := (b11.ext hSw).c2
      go_simp
      try with_reducible rfl
    try simp only [Act.put]
    try simp only [List.setIfInBounds_toArray]
    try simp only [List.set_cons_succ]
    try simp only [List.set_cons_zero]
    refine wpL.call (i := 3) rfl (by kernel_rfl) (fun K hK => ?_)
    go_simp
    (go_at_call 76; refine (q_Make_nz (g3.ext ES) (hu.ext ES).of_int (by omega) (by omega) HU.out).mono ?_; rintro e wr ⟨s1, A1, n1, c1, t1, B1, m1, d1, rfl, y1, hx0⟩; have E0_12 := Ext.trans ES hx0)
    refine hK.out _ _ E0_12 ?_
    clear hK K
    try simp only [Act.put]
    try simp only [List.setIfInBounds_toArray]
    try simp only [List.set_cons_succ]
    try simp only [List.set_cons_zero]
    refine wpL.call (i := 7) rfl (by kernel_rfl) (fun K hK => ?_)
    go_simp
    (go_at_call 76; refine (q_Make_nz (g7'.ext E0_12) (hu.ext E0_12).of_int (by omega) (by omega) HU.out).mono ?_; rintro e ws ⟨s2, A2, n2, c2, t2, B2, m2, d2, rfl, y2, hx1⟩; replace y1 := y1.ext hx1; have E1_12 := Ext.trans E0_12 hx1)
    refine hK.out _ _ E1_12 ?_
    clear hK K
    try simp only [Act.put]
    try simp only [List.setIfInBounds_toArray]
    try simp only [List.set_cons_succ]
    try simp only [List.set_cons_zero]
    refine wpL.take (i := 8) (d := some 68) (v := ?v8_129) rfl rfl (by kernel_rfl) (by kernel_rfl) (by kernel_rfl) (by kernel_rfl) hQ (Or.inl ⟨by rfl, ?y8_129⟩) E1_12 ?r8_129
    case y8_129 =>
      intro w' hSw
      have k00 := (b8.ext hSw).c2
      have k10 := (b6.ext hSw).c4
      have k20 := (b11.ext hSw).c2
      go_simp
      try with_reducible rfl
    try simp only [Act.put]
    try simp only [List.setIfInBounds_toArray]
    try simp only [List.set_cons_succ]
    try simp only [List.set_cons_zero]
    have z0 := (bz.ext E1_12).cell 0 _ rfl
    have f0 := (bz.ext E1_12).frozen 0
    have z1 := (bz.ext E1_12).cell 1 _ rfl
    have f1 := (bz.ext E1_12).frozen 1
    have z2 := (bz.ext E1_12).cell 2 _ rfl
    have f2 := (bz.ext E1_12).frozen 2
    have z3 := (bz.ext E1_12).cell 3 _ rfl
    have f3 := (bz.ext E1_12).frozen 3
    have z4 := (bz.ext E1_12).cell 4 _ rfl
    have f4 := (bz.ext E1_12).frozen 4
    have z5 := (bz.ext E1_12).cell 5 _ rfl
    have f5 := (bz.ext E1_12).frozen 5
    have z6 := (bz.ext E1_12).cell 6 _ rfl
    have f6 := (bz.ext E1_12).frozen 6
    have z7 := (bz.ext E1_12).cell 7 _ rfl
    have f7 := (bz.ext E1_12).frozen 7
    refine wpL.tail (i := 9) rfl (by kernel_rfl) (by kernel_rfl) (fun K hK => ?_)
    go_simp
    refine hK.out _ _ ?_
    clear hK K
    try simp only [Act.put]
    try simp only [List.setIfInBounds_toArray]
    try simp only [List.set_cons_succ]
    try simp only [List.set_cons_zero]
    refine wpL.tail (i := 10) rfl (by kernel_rfl) (by kernel_rfl) (fun K hK => ?_)
    go_simp
    refine hK.out _ _ ?_
    clear hK K
    try simp only [Act.put]
    try simp only [List.setIfInBounds_toArray]
    try simp only [List.set_cons_succ]
    try simp only [List.set_cons_zero]
    refine wpL.done (by kernel_rfl) ?_ _
    clear hQ
    go_wp2_with fail
    obtain ⟨b1, b2, b3, b4⟩ := fin_oct (v0 := (.bool s1)) (v1 := (.slice A1 n1 c1)) (v2 := (.bool t1)) (v3 := (.slice B1 m1 d1)) (v4 := (.bool s2)) (v5 := (.slice A2 n2 c2)) (v6 := (.bool t2)) (v7 := (.slice B2 m2 d2)) (bz.ext E1_12)
    have r0 := b1.cell 0 (.bool s1) rfl
    have r1 := b1.cell 1 (.slice A1 n1 c1) rfl
    have r2 := b1.cell 2 (.bool t1) rfl
    have r3 := b1.cell 3 (.slice B1 m1 d1) rfl
    have r4 := b1.cell 4 (.bool s2) rfl
    have r5 := b1.cell 5 (.slice A2 n2 c2) rfl
    have r6 := b1.cell 6 (.bool t2) rfl
    have r7 := b1.cell 7 (.slice B2 m2 d2) rfl
    unfold set8 at r0 r1 r2 r3 r4 r5 r6 r7
    refine bodyPost_ret (v := .tuple #[.agg #[.bool s1, .slice A1 n1 c1, .bool t1, .slice B1 m1 d1, .bool s2, .slice A2 n2 c2, .bool t2, .slice B2 m2 d2], .int .i64 0]) (by simp [results, Tryz.results30, go_sem, r0, r1, r2, r3, r4, r5, r6, r7]) rfl ⟨rA2, rH + 1, HR1.out, HRB.out, s1, A1, n1, c1, t1, B1, m1, d1, s2, A2, n2, c2, t2, B2, m2, d2, rfl, ⟨⟨?_, ?_⟩, ⟨?_, ?_⟩⟩, b3 _ (ext.trans E1_12) (by omega)⟩
    · exact (b2 _ _ _ _ _ _ y1.num).le (by omega)
    · exact (b2 _ _ _ _ _ _ y1.den).le (by omega)
    · exact (b2 _ _ _ _ _ _ y2.num).le (by omega)
    · exact (b2 _ _ _ _ _ _ y2.den).le (by omega)
  · obtain ⟨S2', hS2, d2⟩ : ∃ S, ratCmp (mkQ (rH * rH) 1) (hi * ((4 ^ k : Int) : Rat)) = S ∧ decide (S < 0) = false := ⟨_, rfl, decide_eq_false (fun h1 => hlt (ratCmp_lt.1 h1))⟩
    have HC := Lib.hid hS2
    clear hS2
    rw [mkQ_one, lt_cross rfl] at hlt
    have HRB := Lib.hid (IsRh.ref_no HF2.out HQ.out.1 HQ.out.2.1 hlt)
    clear hlt
    go_wp2_with fail
    have ES0 := Ext.refl w12v
    refine wp_region_held_drew (S := Ext w12v) (by kernel_rfl) ES0.drew (fun ES => ?_)
    clear ES0
    refine Late.start0 (fun _ _ _ _ _ => ⟨fun h => h, fun h => h⟩) ES (fun hAl hQ => ?_)
    refine Late.take (i := 0) (d := some 49) (v := ?v0_130) rfl rfl (by kernel_rfl) (by kernel_rfl) (by kernel_rfl) (by kernel_rfl) hQ (Or.inl ⟨by rfl, ?y0_130⟩) ?r0_130
    case y0_130 =>
      intro w' hSw
      have k00 := (b11.ext hSw).c2
      have k10 := (b10.ext hSw).c4
      go_simp
      try with_reducible rfl
    try simp only [Act.put]
    try simp only [List.setIfInBounds_toArray]
    try simp only [List.set_cons_succ]
    try simp only [List.set_cons_zero]
    refine Late.take (i := 1) (d := some 50) (v := ?v1_131) rfl rfl (by kernel_rfl) (by kernel_rfl) (by kernel_rfl) (by kernel_rfl) hQ (Or.inl ⟨by rfl, ?y1_131⟩) ?r1_131
    case y1_131 =>
      intro w' hSw
      have k00 := (b11.ext hSw).c2
      have k10 := (b10.ext hSw).c4
      go_simp
      try with_reducible rfl
    try simp only [Act.put]
    try simp only [List.setIfInBounds_toArray]
    try simp only [List.set_cons_succ]
    try simp only [List.set_cons_zero]
    refine Late.take (i := 5) (d := some 54) (v := ?v5_132) rfl rfl (by kernel_rfl) (by kernel_rfl) (by kernel_rfl) (by kernel_rfl) hQ (Or.inl ⟨by rfl, ?y5_132⟩) ?r5_132
    case y5_132 =>
      intro w' hSw
      have k00 := (b11.ext hSw).c2
      have k10 := (b10.ext hSw).c4
      go_simp
      try with_reducible rfl
    try simp only [Act.put]
    try simp only [List.setIfInBounds_toArray]
    try simp only [List.set_cons_succ]
    try simp only [List.set_cons_zero]
    refine Late.call (i := 2) rfl (by kernel_rfl) hAl (by kernel_rfl) (by kernel_rfl) (by kernel_rfl) hQ (fun w2 e2 E2 K hK => ?_)
    go_simp
    (go_at_call 77; refine (q_Mul (g6'.ext E2) (g6'.ext E2) (by omega) (by omega)).mono ?_; rintro e wk2 ⟨sm, Am, nm, cm, rfl, hm, hx2⟩)
    refine hK.out _ _ hx2 ?_
    clear hK K
    try simp only [Act.put]
    try simp only [List.setIfInBounds_toArray]
    try simp only [List.set_cons_succ]
    try simp only [List.set_cons_zero]
    refine Late.call (i := 3) rfl (by kernel_rfl) hAl (by kernel_rfl) (by kernel_rfl) (by kernel_rfl) hQ (fun w3 e3 E3 K hK => ?_)
    go_simp
    (replace hm := hm.ext e3; go_at_call 78; refine (q_FromInt 1 (by omega) (by omega)).mono ?_; rintro e wk3 ⟨so, Ao, no, co, rfl, ho, hx3⟩; replace hm := hm.ext hx3)
    refine hK.out _ _ hx3 ?_
    clear hK K
    try simp only [Act.put]
    try simp only [List.setIfInBounds_toArray]
    try simp only [List.set_cons_succ]
    try simp only [List.set_cons_zero]
    refine Late.call (i := 4) rfl (by kernel_rfl) hAl (by kernel_rfl) (by kernel_rfl) (by kernel_rfl) hQ (fun w4 e4 E4 K hK => ?_)
    go_simp
    (replace hm := hm.ext e4; replace ho := ho.ext e4; go_at_call 76; refine (q_Make_nz hm ho (by omega) (by omega) (by omega)).mono ?_; rintro e wk4 ⟨sk, Ak, nk, ck, tk, Bk, mk, dk, rfl, hM, hx4⟩; replace hm := hm.ext hx4; replace ho := ho.ext hx4)
    refine hK.out _ _ hx4 ?_
    clear hK K
    try simp only [Act.put]
    try simp only [List.setIfInBounds_toArray]
    try simp only [List.set_cons_succ]
    try simp only [List.set_cons_zero]
    refine Late.call (i := 6) rfl (by kernel_rfl) hAl (by kernel_rfl) (by kernel_rfl) (by kernel_rfl) hQ (fun w6 e6 E6 K hK => ?_)
    go_simp
    (replace hm := hm.ext e6; replace ho := ho.ext e6; replace hM := hM.ext e6; go_at_call 53; refine (q_CmpR hM (ht.ext E6) (by omega) (by omega)).mono ?_; rintro e wk6 ⟨rfl, hx6⟩; replace hm := hm.ext hx6; replace ho := ho.ext hx6; replace hM := hM.ext hx6; rw [HC.out])
    refine hK.out _ _ hx6 ?_
    clear hK K
    try simp only [Act.put]
    try simp only [List.setIfInBounds_toArray]
    try simp only [List.set_cons_succ]
    try simp only [List.set_cons_zero]
    refine Late.take (i := 7) (d := some 56) (v := ?v7_133) rfl rfl (by kernel_rfl) (by kernel_rfl) (by kernel_rfl) (by kernel_rfl) hQ (Or.inl ⟨by rfl, ?y7_133⟩) ?r7_133
    case y7_133 =>
      intro w' hSw
      have k00 := (b11.ext hSw).c2
      have k10 := (b10.ext hSw).c4
      go_simp
      try with_reducible rfl
    try simp only [Act.put]
    try simp only [List.setIfInBounds_toArray]
    try simp only [List.set_cons_succ]
    try simp only [List.set_cons_zero]
    refine Late.done0 (by kernel_rfl) (fun wz ez Ez => ?_)
    clear hAl hQ ES
    replace bx := bx.ext Ez
    replace bz := bz.ext Ez
    replace b6 := b6.ext Ez
    replace hu := hu.ext Ez
    replace b7 := b7.ext Ez
    replace hw := hw.ext Ez
    replace b8 := b8.ext Ez
    replace g3 := g3.ext Ez
    replace b10 := b10.ext Ez
    replace ht := ht.ext Ez
    replace b11 := b11.ext Ez
    replace g6' := g6'.ext Ez
    replace ext := ext.trans Ez
    clear Ez ez
    try rw [d2]
    clear d2
    go_upto_region 12 with (fail)
    refine wpL.start 9 (by kernel_rfl) (fun _ _ _ _ _ => ⟨fun h => h, fun h => h⟩) (fun hQ ES => ?_)
    refine wpL.take (i := 0) (d := some 60) (v := ?v0_134) rfl rfl (by kernel_rfl) (by kernel_rfl) (by kernel_rfl) (by kernel_rfl) hQ (Or.inl ⟨by rfl, ?y0_134⟩) ES ?r0_134
    case y0_134 =>
      intro w' hSw
      have k00 := (b8.ext hSw).c2
      have k10 := (b6.ext hSw).c4
      have k20 := (b11.ext hSw).c2
      go_simp
      try with_reducible rfl
    try simp only [Act.put]
    try simp only [List.setIfInBounds_toArray]
    try simp only [List.set_cons_succ]
    try simp only [List.set_cons_zero]
    refine wpL.take (i := 1) (d := some 61) (v := ?v1_135) rfl rfl (by kernel_rfl) (by kernel_rfl) (by kernel_rfl) (by kernel_rfl) hQ (Or.inl ⟨by rfl, ?y1_135⟩) ES ?r1_135
    case y1_135 =>
      intro w' hSw
      have k00 := (b8.ext hSw).c2
      have k10 := (b6.ext hSw).c4
      have k20 := (b11.ext hSw).c2
      go_simp
      try with_reducible rfl
    try simp only [Act.put]
    try simp only [List.setIfInBounds_toArray]
    try simp only [List.set_cons_succ]
    try simp only [List.set_cons_zero]
    refine wpL.take (i := 4) (d := some 64) (v := ?v4_136) rfl rfl (by kernel_rfl) (by kernel_rfl) (by kernel_rfl) (by kernel_rfl) hQ (Or.inl ⟨by rfl, ?y4_136⟩) ES ?r4_136
    case y4_136 =>
      intro w' hSw
      have k00 := (b8.ext hSw).c2
      have k10 := (b6.ext hSw).c4
      have k20 := (b11.ext hSw).c2
      go_simp
      try with_reducible rfl
    try simp only [Act.put]
    try simp only [List.setIfInBounds_toArray]
    try simp only [List.set_cons_succ]
    try simp only [List.set_cons_zero]
    refine wpL.take (i := 5) (d := some 65) (v := ?v5_137) rfl rfl (by kernel_rfl) (by kernel_rfl) (by kernel_rfl) (by kernel_rfl) hQ (Or.inl ⟨by rfl, ?y5_137⟩) ES ?r5_137
    case y5_137 =>
      intro w' hSw
      have k00 := (b8.ext hSw).c2
      have k10 := (b6.ext hSw).c4
      have k20 := (b11.ext hSw).c2
      go_simp
      try with_reducible rfl
    try simp only [Act.put]
    try simp only [List.setIfInBounds_toArray]
    try simp only [List.set_cons_succ]
    try simp only [List.set_cons_zero]
    refine wpL.take (i := 2) (d := some 62) (v := ?v2_138) rfl rfl (by kernel_rfl) (by kernel_rfl) (by kernel_rfl) (by kernel_rfl) hQ (Or.inl ⟨by rfl, ?y2_138⟩) ES ?r2_138
    case y2_138 =>
      intro w' hSw
      have k00 := (b8.ext hSw).c2
      have k10 := (b6.ext hSw).c4
      have k20 := (b11.ext hSw).c2
      go_simp
      try with_reducible rfl
    try simp only [Act.put]
    try simp only [List.setIfInBounds_toArray]
    try simp only [List.set_cons_succ]
    try simp only [List.set_cons_zero]
    refine wpL.take (i := 6) (d := some 66) (v := ?v6_139) rfl rfl (by kernel_rfl) (by kernel_rfl) (by kernel_rfl) (by kernel_rfl) hQ (Or.inl ⟨by rfl, ?y6_139⟩) ES ?r6_139
    case y6_139 =>
      intro w' hSw
      have k00 := (b8.ext hSw).c2
      have k10 := (b6.ext hSw).c4
      have k20 := (b11.ext hSw).c2
      go_simp
      try with_reducible rfl
    try simp only [Act.put]
    try simp only [List.setIfInBounds_toArray]
    try simp only [List.set_cons_succ]
    try simp only [List.set_cons_zero]
    refine wpL.call (i := 3) rfl (by kernel_rfl) (fun K hK => ?_)
    go_simp
    (go_at_call 76; refine (q_Make_nz (g3.ext ES) (hu.ext ES).of_int (by omega) (by omega) HU.out).mono ?_; rintro e wr ⟨s1, A1, n1, c1, t1, B1, m1, d1, rfl, y1, hx0⟩; have E0_12 := Ext.trans ES hx0)
    refine hK.out _ _ E0_12 ?_
    clear hK K
    try simp only [Act.put]
    try simp only [List.setIfInBounds_toArray]
    try simp only [List.set_cons_succ]
    try simp only [List.set_cons_zero]
    refine wpL.call (i := 7) rfl (by kernel_rfl) (fun K hK => ?_)
    go_simp
    (go_at_call 76; refine (q_Make_nz (g6'.ext E0_12) (hu.ext E0_12).of_int (by omega) (by omega) HU.out).mono ?_; rintro e ws ⟨s2, A2, n2, c2, t2, B2, m2, d2, rfl, y2, hx1⟩; replace y1 := y1.ext hx1; have E1_12 := Ext.trans E0_12 hx1)
    refine hK.out _ _ E1_12 ?_
    clear hK K
    try simp only [Act.put]
    try simp only [List.setIfInBounds_toArray]
    try simp only [List.set_cons_succ]
    try simp only [List.set_cons_zero]
    refine wpL.take (i := 8) (d := some 68) (v := ?v8_140) rfl rfl (by kernel_rfl) (by kernel_rfl) (by kernel_rfl) (by kernel_rfl) hQ (Or.inl ⟨by rfl, ?y8_140⟩) E1_12 ?r8_140
    case y8_140 =>
      intro w' hSw
      have k00 := (b8.ext hSw).c2
      have k10 := (b6.ext hSw).c4
      have k20 := (b11.ext hSw).c2
      go_simp
      try with_reducible rfl
    try simp only [Act.put]
    try simp only [List.setIfInBounds_toArray]
    try simp only [List.set_cons_succ]
    try simp only [List.set_cons_zero]
    have z0 := (bz.ext E1_12).cell 0 _ rfl
    have f0 := (bz.ext E1_12).frozen 0
    have z1 := (bz.ext E1_12).cell 1 _ rfl
    have f1 := (bz.ext E1_12).frozen 1
    have z2 := (bz.ext E1_12).cell 2 _ rfl
    have f2 := (bz.ext E1_12).frozen 2
    have z3 := (bz.ext E1_12).cell 3 _ rfl
    have f3 := (bz.ext E1_12).frozen 3
    have z4 := (bz.ext E1_12).cell 4 _ rfl
    have f4 := (bz.ext E1_12).frozen 4
    have z5 := (bz.ext E1_12).cell 5 _ rfl
    have f5 := (bz.ext E1_12).frozen 5
    have z6 := (bz.ext E1_12).cell 6 _ rfl
    have f6 := (bz.ext E1_12).frozen 6
    have z7 := (bz.ext E1_12).cell 7 _ rfl
    have f7 := (bz.ext E1_12).frozen 7
    refine wpL.tail (i := 9) rfl (by kernel_rfl) (by kernel_rfl) (fun K hK => ?_)
    go_simp
    refine hK.out _ _ ?_
    clear hK K
    try simp only [Act.put]
    try simp only [List.setIfInBounds_toArray]
    try simp only [List.set_cons_succ]
    try simp only [List.set_cons_zero]
    refine wpL.tail (i := 10) rfl (by kernel_rfl) (by kernel_rfl) (fun K hK => ?_)
    go_simp
    refine hK.out _ _ ?_
    clear hK K
    try simp only [Act.put]
    try simp only [List.setIfInBounds_toArray]
    try simp only [List.set_cons_succ]
    try simp only [List.set_cons_zero]
    refine wpL.done (by kernel_rfl) ?_ _
    clear hQ
    go_wp2_with fail
    obtain ⟨b1, b2, b3, b4⟩ := fin_oct (v0 := (.bool s1)) (v1 := (.slice A1 n1 c1)) (v2 := (.bool t1)) (v3 := (.slice B1 m1 d1)) (v4 := (.bool s2)) (v5 := (.slice A2 n2 c2)) (v6 := (.bool t2)) (v7 := (.slice B2 m2 d2)) (bz.ext E1_12)
    have r0 := b1.cell 0 (.bool s1) rfl
    have r1 := b1.cell 1 (.slice A1 n1 c1) rfl
    have r2 := b1.cell 2 (.bool t1) rfl
    have r3 := b1.cell 3 (.slice B1 m1 d1) rfl
    have r4 := b1.cell 4 (.bool s2) rfl
    have r5 := b1.cell 5 (.slice A2 n2 c2) rfl
    have r6 := b1.cell 6 (.bool t2) rfl
    have r7 := b1.cell 7 (.slice B2 m2 d2) rfl
    unfold set8 at r0 r1 r2 r3 r4 r5 r6 r7
    refine bodyPost_ret (v := .tuple #[.agg #[.bool s1, .slice A1 n1 c1, .bool t1, .slice B1 m1 d1, .bool s2, .slice A2 n2 c2, .bool t2, .slice B2 m2 d2], .int .i64 0]) (by simp [results, Tryz.results30, go_sem, r0, r1, r2, r3, r4, r5, r6, r7]) rfl ⟨rA2, rH, HR1.out, HRB.out, s1, A1, n1, c1, t1, B1, m1, d1, s2, A2, n2, c2, t2, B2, m2, d2, rfl, ⟨⟨?_, ?_⟩, ⟨?_, ?_⟩⟩, b3 _ (ext.trans E1_12) (by omega)⟩
    · exact (b2 _ _ _ _ _ _ y1.num).le (by omega)
    · exact (b2 _ _ _ _ _ _ y1.den).le (by omega)
    · exact (b2 _ _ _ _ _ _ y2.num).le (by omega)
    · exact (b2 _ _ _ _ _ _ y2.den).le (by omega)
end
end Go.Proofs.YtoabhnofppledaaGreatDoor
namespace Go.Proofs.YtoabhnofppledaaGreatDoor
open Go.RowKit
attribute [local go_sem ↓] Go.wp_at_zero Go.wp_at_succ
set_option maxHeartbeats 4000000 in
theorem sqrt3_no0 {w : World} {sa1 ta1 sa2 ta2 : Bool} {Aa1 Ba1 Aa2 Ba2 : Option Addr} {na1 ca1 ma1 da1 na2 ca2 ma2 da2 : Nat} {xa1 ya1 xa2 ya2 : List Nat} {k : Int} (hA : Awake3) (hT : Tab w) (hr0 : RawV w Aa1 na1 ca1 xa1 Ba1 ma1 da1 ya1 Aa2 na2 ca2 xa2 Ba2 ma2 da2 ya2) (_ha : -9223372036854775808 ≤ k) (_hb : k < 9223372036854775808) (hf0 : (fewV na1 ma1 na2 ma2 sa1 xa1 ta1 ya1 sa2 xa2 ta2 ya2) = false) :
    Calls Tryz.prog 6 #[.agg #[.bool sa1, .slice Aa1 na1 ca1, .bool ta1, .slice Ba1 ma1 da1, .bool sa2, .slice Aa2 na2 ca2, .bool ta2, .slice Ba2 ma2 da2], .int .i64 k] w fun e w' => e = .returned (.bool true) ∧ Ext w w' := by
  have HF0 := Lib.hid hf0
  clear hf0
  have HA := Lib.hid hA
  clear hA
  go_enter Tryz.func6, Tryz.ntmps6
  go_upto_region 1 with (fail)
  obtain ⟨W0, hW, extW, bx, hzz⟩ := box1 w 28 #[.bool sa1, .slice Aa1 na1 ca1, .bool ta1, .slice Ba1 ma1 da1, .bool sa2, .slice Aa2 na2 ca2, .bool ta2, .slice Ba2 ma2 da2]
  rw [← hW]
  clear hW hzz
  go_wp2_with fail
  refine (HA.out _ (hT.ext extW)).mono ?_
  rintro e W ⟨rfl, hxt⟩
  replace bx := bx.ext hxt
  replace extW := extW.trans hxt
  clear hxt
  have k0 := bx.cell 0 (.bool sa1) rfl
  have k1 := bx.cell 1 (.slice Aa1 na1 ca1) rfl
  have k2 := bx.cell 2 (.bool ta1) rfl
  have k3 := bx.cell 3 (.slice Ba1 ma1 da1) rfl
  have k4 := bx.cell 4 (.bool sa2) rfl
  have k5 := bx.cell 5 (.slice Aa2 na2 ca2) rfl
  have k6 := bx.cell 6 (.bool ta2) rfl
  have k7 := bx.cell 7 (.slice Ba2 ma2 da2) rfl
  have hnb := Box.new W 28 #[.bool sa1, .slice Aa1 na1 ca1, .bool ta1, .slice Ba1 ma1 da1, .bool sa2, .slice Aa2 na2 ca2, .bool ta2, .slice Ba2 ma2 da2]
  have e1 := (Ext.refl W).alloc (.cells #[.bool sa1, .slice Aa1 na1 ca1, .bool ta1, .slice Ba1 ma1 da1, .bool sa2, .slice Aa2 na2 ca2, .bool ta2, .slice Ba2 ma2 da2] 28)
  go_wp2_with fail
  refine (fewI1 hnb (hr0.ext (extW.trans e1))).mono ?_
  rintro e W1 ⟨rfl, hxt⟩
  rw [HF0.out]
  have ES := e1.trans hxt
  clear hnb e1 hxt
  clear k0 k1 k2 k3 k4 k5 k6 k7
  replace bx := bx.ext ES
  replace extW := extW.trans ES
  clear ES
  go_wp2_with fail
  refine (HA.out _ (hT.ext extW)).mono ?_
  rintro e W9 ⟨rfl, hxt⟩
  go_wp2_with fail
  go_ret
  exact ⟨rfl, extW.trans hxt⟩
set_option maxHeartbeats 8000000 in
set_option maxRecDepth 100000 in
theorem sqrt3_err1f {w : World} {sa1 ta1 sa2 ta2 : Bool} {Aa1 Ba1 Aa2 Ba2 : Option Addr} {na1 ca1 ma1 da1 na2 ca2 ma2 da2 : Nat} {xa1 ya1 xa2 ya2 : List Nat} {k : Int} (hA : Awake3) (hT : Tab w) (hr0 : RawV w Aa1 na1 ca1 xa1 Ba1 ma1 da1 ya1 Aa2 na2 ca2 xa2 Ba2 ma2 da2 ya2) (hf0 : (fewV na1 ma1 na2 ma2 sa1 xa1 ta1 ya1 sa2 xa2 ta2 ya2) = true) (d1 : decide ((200 : Int) < k) = false)
    (hp : ∀ V, Ext w V → Calls Tryz.prog 29 #[.agg #[.bool sa1, .slice Aa1 na1 ca1, .bool ta1, .slice Ba1 ma1 da1, .bool sa2, .slice Aa2 na2 ca2, .bool ta2, .slice Ba2 ma2 da2], .int .i64 k] V (RetEV 1 V)) (hq : ∀ V, Ext w V → Calls Tryz.prog 30 #[.agg #[.bool sa1, .slice Aa1 na1 ca1, .bool ta1, .slice Ba1 ma1 da1, .bool sa2, .slice Aa2 na2 ca2, .bool ta2, .slice Ba2 ma2 da2], .int .i64 k] V (RetEV 1 V)) :
    Calls Tryz.prog 6 #[.agg #[.bool sa1, .slice Aa1 na1 ca1, .bool ta1, .slice Ba1 ma1 da1, .bool sa2, .slice Aa2 na2 ca2, .bool ta2, .slice Ba2 ma2 da2], .int .i64 k] w fun e w' => e = .returned (.bool true) ∧ Ext w w' := by
  have HF0 := Lib.hid hf0
  have HP := Lib.hid hp
  have HQ := Lib.hid hq
  clear hf0 hp hq
  have HA := Lib.hid hA
  clear hA
  go_enter Tryz.func6, Tryz.ntmps6
  go_upto_region 1 with (fail)
  obtain ⟨W0, hW, extW, bx, hzz⟩ := box1 w 28 #[.bool sa1, .slice Aa1 na1 ca1, .bool ta1, .slice Ba1 ma1 da1, .bool sa2, .slice Aa2 na2 ca2, .bool ta2, .slice Ba2 ma2 da2]
  rw [← hW]
  clear hW hzz
  go_wp2_with fail
  refine (HA.out _ (hT.ext extW)).mono ?_
  rintro e W ⟨rfl, hxt⟩
  replace bx := bx.ext hxt
  replace extW := extW.trans hxt
  clear hxt
  have k0 := bx.cell 0 (.bool sa1) rfl
  have k1 := bx.cell 1 (.slice Aa1 na1 ca1) rfl
  have k2 := bx.cell 2 (.bool ta1) rfl
  have k3 := bx.cell 3 (.slice Ba1 ma1 da1) rfl
  have k4 := bx.cell 4 (.bool sa2) rfl
  have k5 := bx.cell 5 (.slice Aa2 na2 ca2) rfl
  have k6 := bx.cell 6 (.bool ta2) rfl
  have k7 := bx.cell 7 (.slice Ba2 ma2 da2) rfl
  have hnb := Box.new W 28 #[.bool sa1, .slice Aa1 na1 ca1, .bool ta1, .slice Ba1 ma1 da1, .bool sa2, .slice Aa2 na2 ca2, .bool ta2, .slice Ba2 ma2 da2]
  have e1 := (Ext.refl W).alloc (.cells #[.bool sa1, .slice Aa1 na1 ca1, .bool ta1, .slice Ba1 ma1 da1, .bool sa2, .slice Aa2 na2 ca2, .bool ta2, .slice Ba2 ma2 da2] 28)
  go_wp2_with fail
  refine (fewI1 hnb (hr0.ext (extW.trans e1))).mono ?_
  rintro e W1 ⟨rfl, hxt⟩
  rw [HF0.out]
  have ES := e1.trans hxt
  clear hnb e1 hxt
  clear k0 k1 k2 k3 k4 k5 k6 k7
  replace bx := bx.ext ES
  replace extW := extW.trans ES
  clear ES
  have k0 := bx.cell 0 (.bool sa1) rfl
  have k1 := bx.cell 1 (.slice Aa1 na1 ca1) rfl
  have k2 := bx.cell 2 (.bool ta1) rfl
  have k3 := bx.cell 3 (.slice Ba1 ma1 da1) rfl
  have k4 := bx.cell 4 (.bool sa2) rfl
  have k5 := bx.cell 5 (.slice Aa2 na2 ca2) rfl
  have k6 := bx.cell 6 (.bool ta2) rfl
  have k7 := bx.cell 7 (.slice Ba2 ma2 da2) rfl
  go_wp2_with fail
  refine (HP.out _ extW).mono ?_
  rintro e Wa ⟨rfl, hxt⟩
  clear k0 k1 k2 k3 k4 k5 k6 k7
  replace bx := bx.ext hxt
  replace extW := extW.trans hxt
  clear hxt
  go_upto_region 4 with (fail)
  refine at_world (fun V => Ext Wa V ∧ Box V Wa.heap.size 28 #[.bool false, .slice none 0 0, .bool false, .slice none 0 0, .bool false, .slice none 0 0, .bool false, .slice none 0 0]) ⟨(Ext.refl Wa).alloc _, Box.new Wa _ _⟩ ?_
  generalize Wa.heap.size = g5
  rintro Wav ⟨EV, b5⟩
  replace bx := bx.ext EV
  replace extW := extW.trans EV
  clear EV
  have k0 := bx.cell 0 (.bool sa1) rfl
  have k1 := bx.cell 1 (.slice Aa1 na1 ca1) rfl
  have k2 := bx.cell 2 (.bool ta1) rfl
  have k3 := bx.cell 3 (.slice Ba1 ma1 da1) rfl
  have k4 := bx.cell 4 (.bool sa2) rfl
  have k5 := bx.cell 5 (.slice Aa2 na2 ca2) rfl
  have k6 := bx.cell 6 (.bool ta2) rfl
  have k7 := bx.cell 7 (.slice Ba2 ma2 da2) rfl
  go_wp2_with fail
  refine (HQ.out _ extW).mono ?_
  rintro e Wb ⟨rfl, hxt⟩
  clear k0 k1 k2 k3 k4 k5 k6 k7
  replace bx := bx.ext hxt
  replace b5 := b5.ext hxt
  replace extW := extW.trans hxt
  clear hxt
  go_upto_region 5 with (fail)
  refine at_world (fun V => Ext Wb V ∧ Box V Wb.heap.size 28 #[.bool false, .slice none 0 0, .bool false, .slice none 0 0, .bool false, .slice none 0 0, .bool false, .slice none 0 0]) ⟨(Ext.refl Wb).alloc _, Box.new Wb _ _⟩ ?_
  generalize Wb.heap.size = g7
  rintro Wbv ⟨EV, b7⟩
  replace bx := bx.ext EV
  replace b5 := b5.ext EV
  replace extW := extW.trans EV
  clear EV
  have z0 := b5.cell 0 (.bool false) rfl
  have z1 := b5.cell 1 (.slice none 0 0) rfl
  have z2 := b5.cell 2 (.bool false) rfl
  have z3 := b5.cell 3 (.slice none 0 0) rfl
  have z4 := b5.cell 4 (.bool false) rfl
  have z5 := b5.cell 5 (.slice none 0 0) rfl
  have z6 := b5.cell 6 (.bool false) rfl
  have z7 := b5.cell 7 (.slice none 0 0) rfl
  go_wp2_with fail
  refine (q_ZeroV).mono ?_
  rintro e Wc ⟨rfl, hxt⟩
  go_wp2_with fail
  go_ret
  exact ⟨rfl, extW.trans hxt⟩
set_option maxHeartbeats 8000000 in
set_option maxRecDepth 100000 in
theorem sqrt3_err1t {w : World} {sa1 ta1 sa2 ta2 : Bool} {Aa1 Ba1 Aa2 Ba2 : Option Addr} {na1 ca1 ma1 da1 na2 ca2 ma2 da2 : Nat} {xa1 ya1 xa2 ya2 : List Nat} {k : Int} (hA : Awake3) (hT : Tab w) (hr0 : RawV w Aa1 na1 ca1 xa1 Ba1 ma1 da1 ya1 Aa2 na2 ca2 xa2 Ba2 ma2 da2 ya2) (hf0 : (fewV na1 ma1 na2 ma2 sa1 xa1 ta1 ya1 sa2 xa2 ta2 ya2) = true) (d1 : decide ((200 : Int) < k) = true) (d2 : decide (k ≤ 4096) = false)
    (hp : ∀ V, Ext w V → Calls Tryz.prog 29 #[.agg #[.bool sa1, .slice Aa1 na1 ca1, .bool ta1, .slice Ba1 ma1 da1, .bool sa2, .slice Aa2 na2 ca2, .bool ta2, .slice Ba2 ma2 da2], .int .i64 k] V (RetEV 1 V)) (hq : ∀ V, Ext w V → Calls Tryz.prog 30 #[.agg #[.bool sa1, .slice Aa1 na1 ca1, .bool ta1, .slice Ba1 ma1 da1, .bool sa2, .slice Aa2 na2 ca2, .bool ta2, .slice Ba2 ma2 da2], .int .i64 k] V (RetEV 1 V)) :
    Calls Tryz.prog 6 #[.agg #[.bool sa1, .slice Aa1 na1 ca1, .bool ta1, .slice Ba1 ma1 da1, .bool sa2, .slice Aa2 na2 ca2, .bool ta2, .slice Ba2 ma2 da2], .int .i64 k] w fun e w' => e = .returned (.bool true) ∧ Ext w w' := by
  have HF0 := Lib.hid hf0
  have HP := Lib.hid hp
  have HQ := Lib.hid hq
  clear hf0 hp hq
  have HA := Lib.hid hA
  clear hA
  go_enter Tryz.func6, Tryz.ntmps6
  go_upto_region 1 with (fail)
  obtain ⟨W0, hW, extW, bx, hzz⟩ := box1 w 28 #[.bool sa1, .slice Aa1 na1 ca1, .bool ta1, .slice Ba1 ma1 da1, .bool sa2, .slice Aa2 na2 ca2, .bool ta2, .slice Ba2 ma2 da2]
  rw [← hW]
  clear hW hzz
  go_wp2_with fail
  refine (HA.out _ (hT.ext extW)).mono ?_
  rintro e W ⟨rfl, hxt⟩
  replace bx := bx.ext hxt
  replace extW := extW.trans hxt
  clear hxt
  have k0 := bx.cell 0 (.bool sa1) rfl
  have k1 := bx.cell 1 (.slice Aa1 na1 ca1) rfl
  have k2 := bx.cell 2 (.bool ta1) rfl
  have k3 := bx.cell 3 (.slice Ba1 ma1 da1) rfl
  have k4 := bx.cell 4 (.bool sa2) rfl
  have k5 := bx.cell 5 (.slice Aa2 na2 ca2) rfl
  have k6 := bx.cell 6 (.bool ta2) rfl
  have k7 := bx.cell 7 (.slice Ba2 ma2 da2) rfl
  have hnb := Box.new W 28 #[.bool sa1, .slice Aa1 na1 ca1, .bool ta1, .slice Ba1 ma1 da1, .bool sa2, .slice Aa2 na2 ca2, .bool ta2, .slice Ba2 ma2 da2]
  have e1 := (Ext.refl W).alloc (.cells #[.bool sa1, .slice Aa1 na1 ca1, .bool ta1, .slice Ba1 ma1 da1, .bool sa2, .slice Aa2 na2 ca2, .bool ta2, .slice Ba2 ma2 da2] 28)
  go_wp2_with fail
  refine (fewI1 hnb (hr0.ext (extW.trans e1))).mono ?_
  rintro e W1 ⟨rfl, hxt⟩
  rw [HF0.out]
  have ES := e1.trans hxt
  clear hnb e1 hxt
  clear k0 k1 k2 k3 k4 k5 k6 k7
  replace bx := bx.ext ES
  replace extW := extW.trans ES
  clear ES
  have k0 := bx.cell 0 (.bool sa1) rfl
  have k1 := bx.cell 1 (.slice Aa1 na1 ca1) rfl
  have k2 := bx.cell 2 (.bool ta1) rfl
  have k3 := bx.cell 3 (.slice Ba1 ma1 da1) rfl
  have k4 := bx.cell 4 (.bool sa2) rfl
  have k5 := bx.cell 5 (.slice Aa2 na2 ca2) rfl
  have k6 := bx.cell 6 (.bool ta2) rfl
  have k7 := bx.cell 7 (.slice Ba2 ma2 da2) rfl
  go_wp2_with fail
  refine (HP.out _ extW).mono ?_
  rintro e Wa ⟨rfl, hxt⟩
  clear k0 k1 k2 k3 k4 k5 k6 k7
  replace bx := bx.ext hxt
  replace extW := extW.trans hxt
  clear hxt
  go_upto_region 4 with (fail)
  refine at_world (fun V => Ext Wa V ∧ Box V Wa.heap.size 28 #[.bool false, .slice none 0 0, .bool false, .slice none 0 0, .bool false, .slice none 0 0, .bool false, .slice none 0 0]) ⟨(Ext.refl Wa).alloc _, Box.new Wa _ _⟩ ?_
  generalize Wa.heap.size = g5
  rintro Wav ⟨EV, b5⟩
  replace bx := bx.ext EV
  replace extW := extW.trans EV
  clear EV
  have k0 := bx.cell 0 (.bool sa1) rfl
  have k1 := bx.cell 1 (.slice Aa1 na1 ca1) rfl
  have k2 := bx.cell 2 (.bool ta1) rfl
  have k3 := bx.cell 3 (.slice Ba1 ma1 da1) rfl
  have k4 := bx.cell 4 (.bool sa2) rfl
  have k5 := bx.cell 5 (.slice Aa2 na2 ca2) rfl
  have k6 := bx.cell 6 (.bool ta2) rfl
  have k7 := bx.cell 7 (.slice Ba2 ma2 da2) rfl
  go_wp2_with fail
  refine (HQ.out _ extW).mono ?_
  rintro e Wb ⟨rfl, hxt⟩
  clear k0 k1 k2 k3 k4 k5 k6 k7
  replace bx := bx.ext hxt
  replace b5 := b5.ext hxt
  replace extW := extW.trans hxt
  clear hxt
  go_upto_region 5 with (fail)
  refine at_world (fun V => Ext Wb V ∧ Box V Wb.heap.size 28 #[.bool false, .slice none 0 0, .bool false, .slice none 0 0, .bool false, .slice none 0 0, .bool false, .slice none 0 0]) ⟨(Ext.refl Wb).alloc _, Box.new Wb _ _⟩ ?_
  generalize Wb.heap.size = g7
  rintro Wbv ⟨EV, b7⟩
  replace bx := bx.ext EV
  replace b5 := b5.ext EV
  replace extW := extW.trans EV
  clear EV
  have z0 := b5.cell 0 (.bool false) rfl
  have z1 := b5.cell 1 (.slice none 0 0) rfl
  have z2 := b5.cell 2 (.bool false) rfl
  have z3 := b5.cell 3 (.slice none 0 0) rfl
  have z4 := b5.cell 4 (.bool false) rfl
  have z5 := b5.cell 5 (.slice none 0 0) rfl
  have z6 := b5.cell 6 (.bool false) rfl
  have z7 := b5.cell 7 (.slice none 0 0) rfl
  go_wp2_with fail
  refine (q_ZeroV).mono ?_
  rintro e Wc ⟨rfl, hxt⟩
  go_wp2_with fail
  go_ret
  exact ⟨rfl, extW.trans hxt⟩
set_option maxHeartbeats 8000000 in
set_option maxRecDepth 100000 in
theorem sqrt3_err7f {w : World} {sa1 ta1 sa2 ta2 : Bool} {Aa1 Ba1 Aa2 Ba2 : Option Addr} {na1 ca1 ma1 da1 na2 ca2 ma2 da2 : Nat} {xa1 ya1 xa2 ya2 : List Nat} {k : Int} (hA : Awake3) (hT : Tab w) (hr0 : RawV w Aa1 na1 ca1 xa1 Ba1 ma1 da1 ya1 Aa2 na2 ca2 xa2 Ba2 ma2 da2 ya2) (hf0 : (fewV na1 ma1 na2 ma2 sa1 xa1 ta1 ya1 sa2 xa2 ta2 ya2) = true) (d1 : decide ((200 : Int) < k) = false)
    (hp : ∀ V, Ext w V → Calls Tryz.prog 29 #[.agg #[.bool sa1, .slice Aa1 na1 ca1, .bool ta1, .slice Ba1 ma1 da1, .bool sa2, .slice Aa2 na2 ca2, .bool ta2, .slice Ba2 ma2 da2], .int .i64 k] V (RetEV 7 V)) (hq : ∀ V, Ext w V → Calls Tryz.prog 30 #[.agg #[.bool sa1, .slice Aa1 na1 ca1, .bool ta1, .slice Ba1 ma1 da1, .bool sa2, .slice Aa2 na2 ca2, .bool ta2, .slice Ba2 ma2 da2], .int .i64 k] V (RetEV 7 V)) :
    Calls Tryz.prog 6 #[.agg #[.bool sa1, .slice Aa1 na1 ca1, .bool ta1, .slice Ba1 ma1 da1, .bool sa2, .slice Aa2 na2 ca2, .bool ta2, .slice Ba2 ma2 da2], .int .i64 k] w fun e w' => e = .returned (.bool true) ∧ Ext w w' := by
  have HF0 := Lib.hid hf0
  have HP := Lib.hid hp
  have HQ := Lib.hid hq
  clear hf0 hp hq
  have HA := Lib.hid hA
  clear hA
  go_enter Tryz.func6, Tryz.ntmps6
  go_upto_region 1 with (fail)
  obtain ⟨W0, hW, extW, bx, hzz⟩ := box1 w 28 #[.bool sa1, .slice Aa1 na1 ca1, .bool ta1, .slice Ba1 ma1 da1, .bool sa2, .slice Aa2 na2 ca2, .bool ta2, .slice Ba2 ma2 da2]
  rw [← hW]
  clear hW hzz
  go_wp2_with fail
  refine (HA.out _ (hT.ext extW)).mono ?_
  rintro e W ⟨rfl, hxt⟩
  replace bx := bx.ext hxt
  replace extW := extW.trans hxt
  clear hxt
  have k0 := bx.cell 0 (.bool sa1) rfl
  have k1 := bx.cell 1 (.slice Aa1 na1 ca1) rfl
  have k2 := bx.cell 2 (.bool ta1) rfl
  have k3 := bx.cell 3 (.slice Ba1 ma1 da1) rfl
  have k4 := bx.cell 4 (.bool sa2) rfl
  have k5 := bx.cell 5 (.slice Aa2 na2 ca2) rfl
  have k6 := bx.cell 6 (.bool ta2) rfl
  have k7 := bx.cell 7 (.slice Ba2 ma2 da2) rfl
  have hnb := Box.new W 28 #[.bool sa1, .slice Aa1 na1 ca1, .bool ta1, .slice Ba1 ma1 da1, .bool sa2, .slice Aa2 na2 ca2, .bool ta2, .slice Ba2 ma2 da2]
  have e1 := (Ext.refl W).alloc (.cells #[.bool sa1, .slice Aa1 na1 ca1, .bool ta1, .slice Ba1 ma1 da1, .bool sa2, .slice Aa2 na2 ca2, .bool ta2, .slice Ba2 ma2 da2] 28)
  go_wp2_with fail
  refine (fewI1 hnb (hr0.ext (extW.trans e1))).mono ?_
  rintro e W1 ⟨rfl, hxt⟩
  rw [HF0.out]
  have ES := e1.trans hxt
  clear hnb e1 hxt
  clear k0 k1 k2 k3 k4 k5 k6 k7
  replace bx := bx.ext ES
  replace extW := extW.trans ES
  clear ES
  have k0 := bx.cell 0 (.bool sa1) rfl
  have k1 := bx.cell 1 (.slice Aa1 na1 ca1) rfl
  have k2 := bx.cell 2 (.bool ta1) rfl
  have k3 := bx.cell 3 (.slice Ba1 ma1 da1) rfl
  have k4 := bx.cell 4 (.bool sa2) rfl
  have k5 := bx.cell 5 (.slice Aa2 na2 ca2) rfl
  have k6 := bx.cell 6 (.bool ta2) rfl
  have k7 := bx.cell 7 (.slice Ba2 ma2 da2) rfl
  go_wp2_with fail
  refine (HP.out _ extW).mono ?_
  rintro e Wa ⟨rfl, hxt⟩
  clear k0 k1 k2 k3 k4 k5 k6 k7
  replace bx := bx.ext hxt
  replace extW := extW.trans hxt
  clear hxt
  go_upto_region 4 with (fail)
  refine at_world (fun V => Ext Wa V ∧ Box V Wa.heap.size 28 #[.bool false, .slice none 0 0, .bool false, .slice none 0 0, .bool false, .slice none 0 0, .bool false, .slice none 0 0]) ⟨(Ext.refl Wa).alloc _, Box.new Wa _ _⟩ ?_
  generalize Wa.heap.size = g5
  rintro Wav ⟨EV, b5⟩
  replace bx := bx.ext EV
  replace extW := extW.trans EV
  clear EV
  have k0 := bx.cell 0 (.bool sa1) rfl
  have k1 := bx.cell 1 (.slice Aa1 na1 ca1) rfl
  have k2 := bx.cell 2 (.bool ta1) rfl
  have k3 := bx.cell 3 (.slice Ba1 ma1 da1) rfl
  have k4 := bx.cell 4 (.bool sa2) rfl
  have k5 := bx.cell 5 (.slice Aa2 na2 ca2) rfl
  have k6 := bx.cell 6 (.bool ta2) rfl
  have k7 := bx.cell 7 (.slice Ba2 ma2 da2) rfl
  go_wp2_with fail
  refine (HQ.out _ extW).mono ?_
  rintro e Wb ⟨rfl, hxt⟩
  clear k0 k1 k2 k3 k4 k5 k6 k7
  replace bx := bx.ext hxt
  replace b5 := b5.ext hxt
  replace extW := extW.trans hxt
  clear hxt
  go_upto_region 5 with (fail)
  refine at_world (fun V => Ext Wb V ∧ Box V Wb.heap.size 28 #[.bool false, .slice none 0 0, .bool false, .slice none 0 0, .bool false, .slice none 0 0, .bool false, .slice none 0 0]) ⟨(Ext.refl Wb).alloc _, Box.new Wb _ _⟩ ?_
  generalize Wb.heap.size = g7
  rintro Wbv ⟨EV, b7⟩
  replace bx := bx.ext EV
  replace b5 := b5.ext EV
  replace extW := extW.trans EV
  clear EV
  have z0 := b5.cell 0 (.bool false) rfl
  have z1 := b5.cell 1 (.slice none 0 0) rfl
  have z2 := b5.cell 2 (.bool false) rfl
  have z3 := b5.cell 3 (.slice none 0 0) rfl
  have z4 := b5.cell 4 (.bool false) rfl
  have z5 := b5.cell 5 (.slice none 0 0) rfl
  have z6 := b5.cell 6 (.bool false) rfl
  have z7 := b5.cell 7 (.slice none 0 0) rfl
  go_wp2_with fail
  refine (q_ZeroV).mono ?_
  rintro e Wc ⟨rfl, hxt⟩
  go_wp2_with fail
  go_ret
  exact ⟨rfl, extW.trans hxt⟩
set_option maxHeartbeats 4000000 in
theorem sqrt3_mid {w : World} {sa1 ta1 sa2 ta2 : Bool} {Aa1 Ba1 Aa2 Ba2 : Option Addr} {na1 ca1 ma1 da1 na2 ca2 ma2 da2 : Nat} {xa1 ya1 xa2 ya2 : List Nat} {k : Int} (hA : Awake3) (hT : Tab w) (hr0 : RawV w Aa1 na1 ca1 xa1 Ba1 ma1 da1 ya1 Aa2 na2 ca2 xa2 Ba2 ma2 da2 ya2) (hf0 : (fewV na1 ma1 na2 ma2 sa1 xa1 ta1 ya1 sa2 xa2 ta2 ya2) = true) (d1 : decide ((200 : Int) < k) = true) (d2 : decide (k ≤ 4096) = true) :
    Calls Tryz.prog 6 #[.agg #[.bool sa1, .slice Aa1 na1 ca1, .bool ta1, .slice Ba1 ma1 da1, .bool sa2, .slice Aa2 na2 ca2, .bool ta2, .slice Ba2 ma2 da2], .int .i64 k] w fun e w' => e = .returned (.bool true) ∧ Ext w w' := by
  have HF0 := Lib.hid hf0
  clear hf0
  have HA := Lib.hid hA
  clear hA
  go_enter Tryz.func6, Tryz.ntmps6
  go_upto_region 1 with (fail)
  obtain ⟨W0, hW, extW, bx, hzz⟩ := box1 w 28 #[.bool sa1, .slice Aa1 na1 ca1, .bool ta1, .slice Ba1 ma1 da1, .bool sa2, .slice Aa2 na2 ca2, .bool ta2, .slice Ba2 ma2 da2]
  rw [← hW]
  clear hW hzz
  go_wp2_with fail
  refine (HA.out _ (hT.ext extW)).mono ?_
  rintro e W ⟨rfl, hxt⟩
  replace bx := bx.ext hxt
  replace extW := extW.trans hxt
  clear hxt
  have k0 := bx.cell 0 (.bool sa1) rfl
  have k1 := bx.cell 1 (.slice Aa1 na1 ca1) rfl
  have k2 := bx.cell 2 (.bool ta1) rfl
  have k3 := bx.cell 3 (.slice Ba1 ma1 da1) rfl
  have k4 := bx.cell 4 (.bool sa2) rfl
  have k5 := bx.cell 5 (.slice Aa2 na2 ca2) rfl
  have k6 := bx.cell 6 (.bool ta2) rfl
  have k7 := bx.cell 7 (.slice Ba2 ma2 da2) rfl
  have hnb := Box.new W 28 #[.bool sa1, .slice Aa1 na1 ca1, .bool ta1, .slice Ba1 ma1 da1, .bool sa2, .slice Aa2 na2 ca2, .bool ta2, .slice Ba2 ma2 da2]
  have e1 := (Ext.refl W).alloc (.cells #[.bool sa1, .slice Aa1 na1 ca1, .bool ta1, .slice Ba1 ma1 da1, .bool sa2, .slice Aa2 na2 ca2, .bool ta2, .slice Ba2 ma2 da2] 28)
  go_wp2_with fail
  refine (fewI1 hnb (hr0.ext (extW.trans e1))).mono ?_
  rintro e W1 ⟨rfl, hxt⟩
  rw [HF0.out]
  have ES := e1.trans hxt
  clear hnb e1 hxt
  clear k0 k1 k2 k3 k4 k5 k6 k7
  replace bx := bx.ext ES
  replace extW := extW.trans ES
  clear ES
  go_wp2_with fail
  refine (HA.out _ (hT.ext extW)).mono ?_
  rintro e W9 ⟨rfl, hxt⟩
  go_wp2_with fail
  go_ret
  exact ⟨rfl, extW.trans hxt⟩
set_option maxHeartbeats 8000000 in
set_option maxRecDepth 100000 in
theorem sqrt3_main {w : World} {sa1 ta1 sa2 ta2 : Bool} {Aa1 Ba1 Aa2 Ba2 : Option Addr} {na1 ca1 ma1 da1 na2 ca2 ma2 da2 : Nat} {xa1 ya1 xa2 ya2 : List Nat} {j : Nat} {lo0 hi0 : Rat} (hA : Awake3) (hT : Tab w) (hr0 : RawV w Aa1 na1 ca1 xa1 Ba1 ma1 da1 ya1 Aa2 na2 ca2 xa2 Ba2 ma2 da2 ya2) (hf0 : (fewV na1 ma1 na2 ma2 sa1 xa1 ta1 ya1 sa2 xa2 ta2 ya2) = true) (h0 : IV w lo0 hi0 10 sa1 Aa1 na1 ca1 ta1 Ba1 ma1 da1 sa2 Aa2 na2 ca2 ta2 Ba2 ma2 da2) (le0 : lo0 ≤ hi0) (hj : j ≤ 200) (hn : 0 ≤ lo0.num) :
    Calls Tryz.prog 6 #[.agg #[.bool sa1, .slice Aa1 na1 ca1, .bool ta1, .slice Ba1 ma1 da1, .bool sa2, .slice Aa2 na2 ca2, .bool ta2, .slice Ba2 ma2 da2], .int .i64 (j : Int)] w fun e w' => e = .returned (.bool true) ∧ Ext w w' := by
  have d1 : decide ((200 : Int) < (j : Int)) = false := decide_eq_false (by omega)
  have HF0 := Lib.hid hf0
  have HN := Lib.hid (And.intro le0 (And.intro hj hn))
  clear hf0 le0 hn
  have HA := Lib.hid hA
  clear hA
  go_enter Tryz.func6, Tryz.ntmps6
  go_upto_region 1 with (fail)
  obtain ⟨W0, hW, extW, bx, hzz⟩ := box1 w 28 #[.bool sa1, .slice Aa1 na1 ca1, .bool ta1, .slice Ba1 ma1 da1, .bool sa2, .slice Aa2 na2 ca2, .bool ta2, .slice Ba2 ma2 da2]
  rw [← hW]
  clear hW hzz
  go_wp2_with fail
  refine (HA.out _ (hT.ext extW)).mono ?_
  rintro e W ⟨rfl, hxt⟩
  replace bx := bx.ext hxt
  replace extW := extW.trans hxt
  clear hxt
  have k0 := bx.cell 0 (.bool sa1) rfl
  have k1 := bx.cell 1 (.slice Aa1 na1 ca1) rfl
  have k2 := bx.cell 2 (.bool ta1) rfl
  have k3 := bx.cell 3 (.slice Ba1 ma1 da1) rfl
  have k4 := bx.cell 4 (.bool sa2) rfl
  have k5 := bx.cell 5 (.slice Aa2 na2 ca2) rfl
  have k6 := bx.cell 6 (.bool ta2) rfl
  have k7 := bx.cell 7 (.slice Ba2 ma2 da2) rfl
  have hnb := Box.new W 28 #[.bool sa1, .slice Aa1 na1 ca1, .bool ta1, .slice Ba1 ma1 da1, .bool sa2, .slice Aa2 na2 ca2, .bool ta2, .slice Ba2 ma2 da2]
  have e1 := (Ext.refl W).alloc (.cells #[.bool sa1, .slice Aa1 na1 ca1, .bool ta1, .slice Ba1 ma1 da1, .bool sa2, .slice Aa2 na2 ca2, .bool ta2, .slice Ba2 ma2 da2] 28)
  go_wp2_with fail
  refine (fewI1 hnb (hr0.ext (extW.trans e1))).mono ?_
  rintro e W1 ⟨rfl, hxt⟩
  rw [HF0.out]
  have ES := e1.trans hxt
  clear hnb e1 hxt
  clear k0 k1 k2 k3 k4 k5 k6 k7
  replace bx := bx.ext ES
  replace extW := extW.trans ES
  clear ES
  have k0 := bx.cell 0 (.bool sa1) rfl
  have k1 := bx.cell 1 (.slice Aa1 na1 ca1) rfl
  have k2 := bx.cell 2 (.bool ta1) rfl
  have k3 := bx.cell 3 (.slice Ba1 ma1 da1) rfl
  have k4 := bx.cell 4 (.bool sa2) rfl
  have k5 := bx.cell 5 (.slice Aa2 na2 ca2) rfl
  have k6 := bx.cell 6 (.bool ta2) rfl
  have k7 := bx.cell 7 (.slice Ba2 ma2 da2) rfl
  go_wp2_with fail
  refine (p_SqrtV (k := j) (h0.ext extW) HN.out.1 (by omega) HN.out.2.1 HN.out.2.2 (hT.ext extW)).mono ?_
  rintro e Wa ⟨rA, rB, hg1, hg2, s1_, A1_, n1_, c1_, t1_, B1_, m1_, d1_, s1', A1', n1', c1', t1', B1', m1', d1', rfl, y1, hxt⟩
  have HG := Lib.hid (And.intro hg1 hg2)
  clear hg1 hg2
  clear k0 k1 k2 k3 k4 k5 k6 k7
  replace bx := bx.ext hxt
  replace extW := extW.trans hxt
  clear hxt
  go_upto_region 4 with (fail)
  refine at_world (fun V => Ext Wa V ∧ Box V Wa.heap.size 28 #[.bool s1_, .slice A1_ n1_ c1_, .bool t1_, .slice B1_ m1_ d1_, .bool s1', .slice A1' n1' c1', .bool t1', .slice B1' m1' d1'] ∧ IV V (mkQ rA (2 ^ j)) (mkQ rB (2 ^ j)) (10 + 17) s1_ A1_ n1_ c1_ t1_ B1_ m1_ d1_ s1' A1' n1' c1' t1' B1' m1' d1') ⟨(Ext.refl Wa).alloc _, Box.new Wa _ _, y1.ext ((Ext.refl Wa).alloc _)⟩ ?_
  generalize Wa.heap.size = g5
  clear y1
  rintro Wav ⟨EV, b5, y1⟩
  replace bx := bx.ext EV
  replace extW := extW.trans EV
  clear EV
  have k0 := bx.cell 0 (.bool sa1) rfl
  have k1 := bx.cell 1 (.slice Aa1 na1 ca1) rfl
  have k2 := bx.cell 2 (.bool ta1) rfl
  have k3 := bx.cell 3 (.slice Ba1 ma1 da1) rfl
  have k4 := bx.cell 4 (.bool sa2) rfl
  have k5 := bx.cell 5 (.slice Aa2 na2 ca2) rfl
  have k6 := bx.cell 6 (.bool ta2) rfl
  have k7 := bx.cell 7 (.slice Ba2 ma2 da2) rfl
  go_wp2_with fail
  refine (q_SqrtV (k := j) (h0.ext extW) HN.out.1 (by omega) HN.out.2.1 HN.out.2.2).mono ?_
  rintro e Wb ⟨rC, rD, hg1, hg2, s2_, A2_, n2_, c2_, t2_, B2_, m2_, d2_, s2', A2', n2', c2', t2', B2', m2', d2', rfl, y2, hxt⟩
  obtain rfl := HG.out.1.unique hg1
  obtain rfl := HG.out.2.unique hg2
  clear hg1 hg2
  clear k0 k1 k2 k3 k4 k5 k6 k7
  replace bx := bx.ext hxt
  replace b5 := b5.ext hxt
  replace y1 := y1.ext hxt
  replace extW := extW.trans hxt
  clear hxt
  go_upto_region 5 with (fail)
  refine at_world (fun V => Ext Wb V ∧ Box V Wb.heap.size 28 #[.bool s2_, .slice A2_ n2_ c2_, .bool t2_, .slice B2_ m2_ d2_, .bool s2', .slice A2' n2' c2', .bool t2', .slice B2' m2' d2'] ∧ IV V (mkQ rA (2 ^ j)) (mkQ rB (2 ^ j)) (10 + 30) s2_ A2_ n2_ c2_ t2_ B2_ m2_ d2_ s2' A2' n2' c2' t2' B2' m2' d2') ⟨(Ext.refl Wb).alloc _, Box.new Wb _ _, y2.ext ((Ext.refl Wb).alloc _)⟩ ?_
  generalize Wb.heap.size = g7
  clear y2
  rintro Wbv ⟨EV, b7, y2⟩
  replace bx := bx.ext EV
  replace b5 := b5.ext EV
  replace y1 := y1.ext EV
  replace extW := extW.trans EV
  clear EV
  have z0 := b5.cell 0 (.bool s1_) rfl
  have z1 := b5.cell 1 (.slice A1_ n1_ c1_) rfl
  have z2 := b5.cell 2 (.bool t1_) rfl
  have z3 := b5.cell 3 (.slice B1_ m1_ d1_) rfl
  have z4 := b5.cell 4 (.bool s1') rfl
  have z5 := b5.cell 5 (.slice A1' n1' c1') rfl
  have z6 := b5.cell 6 (.bool t1') rfl
  have z7 := b5.cell 7 (.slice B1' m1' d1') rfl
  have x0 := b7.cell 0 (.bool s2_) rfl
  have x1 := b7.cell 1 (.slice A2_ n2_ c2_) rfl
  have x2 := b7.cell 2 (.bool t2_) rfl
  have x3 := b7.cell 3 (.slice B2_ m2_ d2_) rfl
  have x4 := b7.cell 4 (.bool s2') rfl
  have x5 := b7.cell 5 (.slice A2' n2' c2') rfl
  have x6 := b7.cell 6 (.bool t2') rfl
  have x7 := b7.cell 7 (.slice B2' m2' d2') rfl
  go_wp2_with fail
  refine (q_SameV y1 y2).mono ?_
  rintro e Wc ⟨rfl, hxt⟩
  go_wp2_with fail
  go_ret
  exact ⟨rfl, extW.trans hxt⟩
theorem sqrt3_any {w : World} {sa1 ta1 sa2 ta2 : Bool} {Aa1 Ba1 Aa2 Ba2 : Option Addr} {na1 ca1 ma1 da1 na2 ca2 ma2 da2 : Nat} {xa1 ya1 xa2 ya2 : List Nat} {k : Int} (hA : Awake3) (hT : Tab w) (hr0 : RawV w Aa1 na1 ca1 xa1 Ba1 ma1 da1 ya1 Aa2 na2 ca2 xa2 Ba2 ma2 da2 ya2) (ha : -9223372036854775808 ≤ k) (hb : k < 9223372036854775808) :
    Calls Tryz.prog 6 #[.agg #[.bool sa1, .slice Aa1 na1 ca1, .bool ta1, .slice Ba1 ma1 da1, .bool sa2, .slice Aa2 na2 ca2, .bool ta2, .slice Ba2 ma2 da2], .int .i64 k] w fun e w' => e = .returned (.bool true) ∧ Ext w w' := by
  cases hf0 : (fewV na1 ma1 na2 ma2 sa1 xa1 ta1 ya1 sa2 xa2 ta2 ya2) with
  | false => exact sqrt3_no0 hA hT hr0 ha hb hf0
  | true =>
  have hf' := hf0
  obtain ⟨h0, le0⟩ := few_iv hr0.1 hr0.2.1 hr0.2.2.1 hr0.2.2.2 hf'
  generalize rawQ sa1 xa1 ta1 ya1 = lo0 at h0 le0
  generalize rawQ sa2 xa2 ta2 ya2 = hi0 at h0 le0
  clear hf'
  by_cases hlo : k < 0
  · exact sqrt3_err1f hA hT hr0 hf0 (decide_eq_false (by omega)) (fun V _ => p_SqrtV_bits (.inl hlo)) (fun V _ => q_SqrtV_bits (.inl hlo))
  by_cases hhi : 4096 < k
  · exact sqrt3_err1t hA hT hr0 hf0 (decide_eq_true (by omega)) (decide_eq_false (by omega)) (fun V _ => p_SqrtV_bits (.inr hhi)) (fun V _ => q_SqrtV_bits (.inr hhi))
  by_cases hm : 200 < k
  · exact sqrt3_mid hA hT hr0 hf0 (decide_eq_true hm) (decide_eq_true (by omega))
  by_cases hn : lo0.num < 0
  · exact sqrt3_err7f hA hT hr0 hf0 (decide_eq_false hm) (fun V hV => p_SqrtV_neg (h0.ext hV) (by omega) (by omega) (by omega) hn) (fun V hV => q_SqrtV_neg (h0.ext hV) (by omega) (by omega) (by omega) hn)
  obtain ⟨j, rfl⟩ := Int.eq_ofNat_of_zero_le (show 0 ≤ k by omega)
  exact sqrt3_main hA hT hr0 hf0 h0 le0 (by omega) (by omega)
end Go.Proofs.YtoabhnofppledaaGreatDoor
namespace Go.Proofs.YtoabhnofppledaaGreatDoor
open Go.ChangeShapes Go.WideShapes Go.ChangeAt Go.RowKit Go.Joins
set_option maxRecDepth 100000
theorem sqrt3_lifted (os : Os) (started : os.Started) (H : Type) (enc : TypeId × Value → H) :
    ReturnsInHanded {} Tryz.checked os 6 .any (fun w args => (Rows.intervalSqrtSpec.pre enc Tryz.prog Tryz.f6 [] false w args ∧ laidMetH Tryz.prog laidI w) ∧ sizedMet enc Tryz.prog Tryz.f6 (OpenSpec.ofChange Rows.intervalSqrtSpec) false w args)
      (Rows.intervalSqrtSpec.post enc Tryz.prog Tryz.f6 false true false false) := by
  refine returnsInHanded_of_change_and (C := Tryz.checked) (X := fun w _ => laidMetH Tryz.prog laidI w) (fun _ _ _ hh h => h.of_heap hh) Tryz.own started (by kernel_rfl) Tryz.func6
    (ChangeSpec.witness_shaped (enc := enc) (C := Tryz.checked) (os := os) (X := fun w _ => laidMetH Tryz.prog laidI w) false (World.doorLaid Tryz.prog 400 os) #[Value.agg #[.bool false, .slice none 0 0, .bool false, .slice none 0 0, .bool false, .slice none 0 0, .bool false, .slice none 0 0], .int .i64 0] 8 rfl (World.shaped_of_RefB (by kernel_rfl) (by kernel_rfl)) (by kernel_rfl) (by kernel_rfl) (by kernel_rfl) (doorI_met os _)) ?_
  intro W base args ds gs before hval0 hW _ _ hL _
  have hval : ∀ (j : Nat) t v, Tryz.f6.params[j]? = some t → args[j]? = some v → Value.okWide Tryz.prog W .any base t v := hval0
  have hW' := hW
  have hlt : ∀ p ∈ before, p.block < W.heap.size := fun p hp => hW.lt p hp
  obtain ⟨p, q, hA0, hV, rfl, _, _⟩ := hW
  have hA : DataW.TrodAll enc Tryz.prog W 0 (fun _ => true) true Tryz.f6.params.toList args.toList ds p := hA0
  rw [Tryz.params6] at hA hval
  obtain ⟨v0, v1, d0, d1, p0, p1, rfl, rfl, rfl, h0, h1⟩ := trodAll_two hA
  obtain ⟨rfl, rfl⟩ := trodVars_none hV
  simp only [List.append_nil] at hW' hlt
  obtain ⟨sa1, Aa1, na1, ca1, ta1, Ba1, ma1, da1, sa2, Aa2, na2, ca2, ta2, Ba2, ma2, da2, xa1, ya1, xa2, ya2, rfl, hr0⟩ := open_iv (hval 0 28 v0 rfl rfl) h0
  obtain ⟨k1, rfl, _, _, hwf1⟩ := open_int Tryz.underlying3 (hval 1 3 v1 rfl rfl) h1
  simp [Lit.wf, IntKind.min, IntKind.max, IntKind.bits, IntKind.signed] at hwf1
  clear hA0 hval0
  have hT := tab_of_laidH hL
  refine (sqrt3_any awake3 hT hr0 (by omega) (by omega)).mono fun e W' ⟨he, hext⟩ => ?_
  subst he
  have hb : Below W.heap.size W W' := hext
  have g0 := Below.trod Tryz.laidOut (by kernel_rfl) (of_decide_eq_true (by kernel_rfl)) h0 hb (fun p hp => hlt p (List.mem_append.2 (.inl hp)))
  have g1 := Below.trod Tryz.laidOut (by kernel_rfl) (of_decide_eq_true (by kernel_rfl)) h1 hb (fun p hp => hlt p (List.mem_append.2 (.inr hp)))
  exact ⟨_, rfl, _, _, _, [], (p0 ++ p1), [], hW', trodAll_mk1 (shut_bool Tryz.underlying4 true), trodAll_mk2 g0 g1, rfl, Below.frame hb _, fun h => by cases h⟩
theorem sqrt3_row_holds : Rows.IntervalSqrtSaid :=
  OpenClaim.holds_of_wide 6 Tryz.f6 rfl rfl rfl rfl rfl rfl rfl ⟨rfl, rfl, rfl, rfl, rfl⟩ rfl rfl rfl rfl rfl (by kernel_rfl) Tryz.func6 (by kernel_rfl)
    (of_decide_eq_true (by kernel_rfl)) (by unfold Func.isWrapper; first | (rw [if_neg (of_decide_eq_false (by kernel_rfl))]; exact ⟨rfl, rfl⟩) | (rw [if_pos (by decide +kernel)]; kernel_rfl))
    (fun os started H enc _ => sqrt3_lifted os started H enc)
theorem sqrt3_holds : Rows.IntervalSqrtCardSaid :=
  Claim7.holds_tied_plain_at .later [] [.data] true Rows.intervalSqrtCard.stood.harness false
    sqrt3_row_holds (fun _ h => by cases h) (by kernel_rfl) (fun _ h => by cases h) intervalSqrt_row_tie rfl ⟨rfl, rfl⟩ (by kernel_rfl) rfl
    (fun f fn hf hfn => by
      obtain rfl : f = 6 := Option.some.inj ((show Tryz.prog.funcNamed "setsquare/setsquarelaw03.IntervalSqrt" = some 6 by kernel_rfl).symm.trans hf) |>.symm
      obtain rfl : fn = Tryz.f6 := (Option.some.inj (Tryz.func6.symm.trans hfn)).symm
      exact ⟨by kernel_rfl, fun j t ht => by
        rw [Tryz.params6] at ht
        have hm : t ∈ [28, 3] := by simpa using Array.mem_of_getElem? ht
        have hall : ([28, 3].all fun u => !Tryz.prog.wantsStandIn u) = true := by kernel_rfl
        exact (show Tryz.prog.wantsStandIn t = false by simpa using List.all_eq_true.1 hall t hm)⟩)
    (by kernel_rfl)
end Go.Proofs.YtoabhnofppledaaGreatDoor
