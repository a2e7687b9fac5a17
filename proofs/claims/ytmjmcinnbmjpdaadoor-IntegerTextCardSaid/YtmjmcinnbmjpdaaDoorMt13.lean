/- Walks and laws, part 13. -/
import Derived.Test.YtmjmcinnbmjpdaaDoorMt4
import Derived.Test.YtmjmcinnbmjpdaaDoorMt9
import Derived.Test.YtmjmcinnbmjpdaaDoorMt12
namespace Go.Proofs.YtmjmcinnbmjpdaaDoor
open Go.RowKit
attribute [local go_sem ↓] Go.wp_at_zero Go.wp_at_succ
theorem kar_step {z zt : List Nat} {k n cy m : Nat} (hz : z.length = n) (hk : k ≤ n) (h : val zt + 4294967296 ^ (n - k) * cy = val (z.drop k) + m) (hf : val z + 4294967296 ^ k * m < 4294967296 ^ n) :
    val (z.take k ++ zt) = val z + 4294967296 ^ k * m := by
  have e1 := val_split z k (by omega)
  have e2 : val (z.take k ++ zt) = val (z.take k) + 4294967296 ^ k * val zt := by rw [val_append, List.length_take, Nat.min_eq_left (by omega)]
  have e3 : (4294967296 : Nat) ^ n = 4294967296 ^ k * 4294967296 ^ (n - k) := by rw [← Nat.pow_add]; congr 1; omega
  rw [e3] at hf
  rw [e2, e1]
  rw [e1] at hf
  generalize 4294967296 ^ k = p at *
  generalize 4294967296 ^ (n - k) = q at *
  have h4 : p * val zt + p * q * cy = p * val (z.drop k) + p * m := by rw [Nat.mul_assoc, ← Nat.mul_add, h, Nat.mul_add]
  cases cy with
  | zero => rw [Nat.mul_zero, Nat.add_zero] at h4; omega
  | succ cy =>
    rw [Nat.mul_add, Nat.mul_one] at h4
    omega
theorem kar_mid {a0 a1 b0 b1 m1 m : Nat} (h1 : m1 + a0 * b0 = (a0 + a1) * (b0 + b1)) (h2 : m + a1 * b1 = m1) : m = a0 * b1 + a1 * b0 := by
  have : (a0 + a1) * (b0 + b1) = a0 * b0 + a0 * b1 + (a1 * b0 + a1 * b1) := by rw [Nat.add_mul, Nat.mul_add, Nat.mul_add]
  omega
theorem kar_all {a0 a1 b0 b1 p : Nat} : (a0 + p * a1) * (b0 + p * b1) = a0 * b0 + p * (a0 * b1 + a1 * b0) + p * p * (a1 * b1) := by grind
theorem kar_low {a0 a1 b0 b1 : Nat} : a0 * b0 ≤ (a0 + a1) * (b0 + b1) := Nat.mul_le_mul (Nat.le_add_right _ _) (Nat.le_add_right _ _)
theorem kar_high {a0 a1 b0 b1 m1 : Nat} (h1 : m1 + a0 * b0 = (a0 + a1) * (b0 + b1)) : a1 * b1 ≤ m1 := by
  have : (a0 + a1) * (b0 + b1) = a0 * b0 + a0 * b1 + (a1 * b0 + a1 * b1) := by rw [Nat.add_mul, Nat.mul_add, Nat.mul_add]
  omega
theorem kar_lt1 {a b c m p q : Nat} (_hp : 0 < p) (h : a + (b + p * m + c) < p * q) : m < q := by
  refine Nat.lt_of_not_le fun hle => ?_
  have := Nat.mul_le_mul_left p hle
  omega
theorem kar_lt2 {a b m p q : Nat} (_hp : 0 < p) (h : a + (b + p * m) < p * q) : m < q := by
  refine Nat.lt_of_not_le fun hle => ?_
  have := Nat.mul_le_mul_left p hle
  omega
theorem Nrm.len_le {xs : List Nat} {k : Nat} (h : Nrm xs) (hv : val xs < 4294967296 ^ k) : xs.length ≤ k := by
  rcases Nat.lt_or_ge k xs.length with hlt | hge
  · have h1 := h.ge (by intro h0; rw [h0] at hlt; simp at hlt)
    have h2 : (4294967296 : Nat) ^ k ≤ 4294967296 ^ (xs.length - 1) := Nat.pow_le_pow_right (by omega) (by omega)
    omega
  · exact hge
theorem Rd.some {w : World} {A : Option Addr} {xs : List Nat} (h : Rd w A xs) (hn : 0 < xs.length) : ∃ b off, A = .some ⟨b, off, none⟩ := by
  obtain ⟨b, off, hA, _, _⟩ := h.2 (by intro h0; rw [h0] at hn; simp at hn)
  exact ⟨b, off, hA⟩
section
variable {A B : Option Addr} {c d n m : Nat} {xs ys : List Nat} {w : World}
set_option maxRecDepth 100000 in
set_option maxHeartbeats 4000000 in
theorem int_addHalves {g N cz : Nat} {zs0 : List Nat} (hblk0 : BlkN w g zs0) (hN : zs0.length = N) (hw : W32 zs0) (hx : Rd w A xs) (hm : xs.length = n) (hap : Apart A xs g) (hy : Rd w B ys) (hp : ys.length = n) (hbp : Apart B ys g)
    (h2 : 2 ≤ n) (h100 : n ≤ 100) (hl : n + n ≤ N) (hN2 : N ≤ 100000) (hpx : 0 < val xs) (hpy : 0 < val ys) (hf : val zs0 + val xs * val ys < 4294967296 ^ N) (hc : n ≤ c) (hcm : c ≤ maxLen) (hd : n ≤ d) (hdm : d ≤ maxLen) (hcz : N ≤ cz) (hczm : cz ≤ maxLen) :
    Calls Tryd.prog 98 #[.slice (some ⟨g, 0, none⟩) N cz, .slice A n c, .slice B n d] w (Turned w g [] N [] fun zs => val zs = val zs0 + val xs * val ys) := by
  obtain ⟨ba, oa, rfl⟩ := hx.some (by omega)
  obtain ⟨bb, ob, rfl⟩ := hy.some (by omega)
  obtain ⟨h, hh⟩ : ∃ h, h = (n + 1) / 2 := ⟨_, rfl⟩
  have Hh := Lib.hid (show ((n : Int) + 1) / 2 = (h : Int) by omega)
  have hh1 : h < n := by omega
  have hh2 : n ≤ 2 * h := by omega
  have hh3 : 2 * h ≤ n + 1 := by omega
  have Hm := Lib.hid hm
  have Hp := Lib.hid hp
  have HN := Lib.hid hN
  have Hf := Lib.hid hf
  clear hm hp hN hf hh
  unfold maxLen at hcm hdm hczm
  have ra0 := hx.take h
  have ra1 := hx.drop h
  have rb0 := hy.take h
  have rb1 := hy.drop h
  have k1 : (h : Int) ≤ (n : Int) := by omega
  have k2 : (h : Int) ≤ (c : Int) := by omega
  have k3 : (h : Int) ≤ (d : Int) := by omega
  have k4 : (n : Int) ≤ (c : Int) := by omega
  have k5 : (n : Int) ≤ (d : Int) := by omega
  have k6 : ¬ c = h := by omega
  have k7 : ¬ d = h := by omega
  go_enter Tryd.func98, Tryd.ntmps98
  go_upto_region 1 with (fail)
  rw [Hh.out]
  have ES0 := Ext.refl w
  refine wp_region_held_drew (S := Ext w) (by kernel_rfl) ES0.drew (fun ES => ?_)
  clear ES0
  refine Late.start0 (fun _ _ _ _ _ => ⟨fun h => h, fun h => h⟩) ES (fun hAl hQ => ?_)
  refine Late.take (i := 0) (d := some 18) (v := ?v0_1) rfl rfl (by kernel_rfl) (by kernel_rfl) (by kernel_rfl) (by kernel_rfl) hQ (Or.inl ⟨by rfl, ?y0_1⟩) ?r0_1
  case y0_1 =>
    intro w' hSw
    go_simp
    try with_reducible rfl
  try simp only [Act.put]
  try simp only [List.setIfInBounds_toArray]
  try simp only [List.set_cons_succ]
  try simp only [List.set_cons_zero]
  refine Late.take (i := 1) (d := some 19) (v := ?v1_2) rfl rfl (by kernel_rfl) (by kernel_rfl) (by kernel_rfl) (by kernel_rfl) hQ (Or.inl ⟨by rfl, ?y1_2⟩) ?r1_2
  case y1_2 =>
    intro w' hSw
    go_simp
    try with_reducible rfl
  try simp only [Act.put]
  try simp only [List.setIfInBounds_toArray]
  try simp only [List.set_cons_succ]
  try simp only [List.set_cons_zero]
  refine Late.take (i := 2) (d := some 20) (v := ?v2_3) rfl rfl (by kernel_rfl) (by kernel_rfl) (by kernel_rfl) (by kernel_rfl) hQ (Or.inl ⟨by rfl, ?y2_3⟩) ?r2_3
  case y2_3 =>
    intro w' hSw
    go_simp
    try with_reducible rfl
  try simp only [Act.put]
  try simp only [List.setIfInBounds_toArray]
  try simp only [List.set_cons_succ]
  try simp only [List.set_cons_zero]
  refine Late.take (i := 4) (d := some 22) (v := ?v4_4) rfl rfl (by kernel_rfl) (by kernel_rfl) (by kernel_rfl) (by kernel_rfl) hQ (Or.inl ⟨by rfl, ?y4_4⟩) ?r4_4
  case y4_4 =>
    intro w' hSw
    go_simp
    try with_reducible rfl
  try simp only [Act.put]
  try simp only [List.setIfInBounds_toArray]
  try simp only [List.set_cons_succ]
  try simp only [List.set_cons_zero]
  refine Late.take (i := 5) (d := some 23) (v := ?v5_5) rfl rfl (by kernel_rfl) (by kernel_rfl) (by kernel_rfl) (by kernel_rfl) hQ (Or.inl ⟨by rfl, ?y5_5⟩) ?r5_5
  case y5_5 =>
    intro w' hSw
    go_simp
    try with_reducible rfl
  try simp only [Act.put]
  try simp only [List.setIfInBounds_toArray]
  try simp only [List.set_cons_succ]
  try simp only [List.set_cons_zero]
  refine Late.take (i := 6) (d := some 24) (v := ?v6_6) rfl rfl (by kernel_rfl) (by kernel_rfl) (by kernel_rfl) (by kernel_rfl) hQ (Or.inl ⟨by rfl, ?y6_6⟩) ?r6_6
  case y6_6 =>
    intro w' hSw
    go_simp
    try with_reducible rfl
  try simp only [Act.put]
  try simp only [List.setIfInBounds_toArray]
  try simp only [List.set_cons_succ]
  try simp only [List.set_cons_zero]
  refine Late.take (i := 8) (d := some 26) (v := ?v8_7) rfl rfl (by kernel_rfl) (by kernel_rfl) (by kernel_rfl) (by kernel_rfl) hQ (Or.inl ⟨by rfl, ?y8_7⟩) ?r8_7
  case y8_7 =>
    intro w' hSw
    go_simp
    try with_reducible rfl
  try simp only [Act.put]
  try simp only [List.setIfInBounds_toArray]
  try simp only [List.set_cons_succ]
  try simp only [List.set_cons_zero]
  refine Late.take (i := 9) (d := some 27) (v := ?v9_8) rfl rfl (by kernel_rfl) (by kernel_rfl) (by kernel_rfl) (by kernel_rfl) hQ (Or.inl ⟨by rfl, ?y9_8⟩) ?r9_8
  case y9_8 =>
    intro w' hSw
    go_simp
    try with_reducible rfl
  try simp only [Act.put]
  try simp only [List.setIfInBounds_toArray]
  try simp only [List.set_cons_succ]
  try simp only [List.set_cons_zero]
  refine Late.take (i := 10) (d := some 28) (v := ?v10_9) rfl rfl (by kernel_rfl) (by kernel_rfl) (by kernel_rfl) (by kernel_rfl) hQ (Or.inl ⟨by rfl, ?y10_9⟩) ?r10_9
  case y10_9 =>
    intro w' hSw
    go_simp
    try with_reducible rfl
  try simp only [Act.put]
  try simp only [List.setIfInBounds_toArray]
  try simp only [List.set_cons_succ]
  try simp only [List.set_cons_zero]
  refine Late.take (i := 12) (d := some 30) (v := ?v12_10) rfl rfl (by kernel_rfl) (by kernel_rfl) (by kernel_rfl) (by kernel_rfl) hQ (Or.inl ⟨by rfl, ?y12_10⟩) ?r12_10
  case y12_10 =>
    intro w' hSw
    go_simp
    try with_reducible rfl
  try simp only [Act.put]
  try simp only [List.setIfInBounds_toArray]
  try simp only [List.set_cons_succ]
  try simp only [List.set_cons_zero]
  refine Late.take (i := 13) (d := some 31) (v := ?v13_11) rfl rfl (by kernel_rfl) (by kernel_rfl) (by kernel_rfl) (by kernel_rfl) hQ (Or.inl ⟨by rfl, ?y13_11⟩) ?r13_11
  case y13_11 =>
    intro w' hSw
    go_simp
    try with_reducible rfl
  try simp only [Act.put]
  try simp only [List.setIfInBounds_toArray]
  try simp only [List.set_cons_succ]
  try simp only [List.set_cons_zero]
  refine Late.take (i := 14) (d := some 32) (v := ?v14_12) rfl rfl (by kernel_rfl) (by kernel_rfl) (by kernel_rfl) (by kernel_rfl) hQ (Or.inl ⟨by rfl, ?y14_12⟩) ?r14_12
  case y14_12 =>
    intro w' hSw
    go_simp
    try with_reducible rfl
  try simp only [Act.put]
  try simp only [List.setIfInBounds_toArray]
  try simp only [List.set_cons_succ]
  try simp only [List.set_cons_zero]
  refine Late.call (i := 3) rfl (by kernel_rfl) hAl (by kernel_rfl) (by kernel_rfl) (by kernel_rfl) hQ (fun w3 e3 E3 K hK => ?_)
  go_simp
  (go_at_call 26; refine (int_trimN (xs := xs.take h) (by have := Hm.out; have := Hp.out; simp; omega) (ra0.ext E3) (by omega) (by unfold maxLen; omega)).mono ?_; rintro e v3 ⟨rfl, rfl⟩)
  refine hK.out _ _ (Ext.refl _) ?_
  clear hK K
  try simp only [Act.put]
  try simp only [List.setIfInBounds_toArray]
  try simp only [List.set_cons_succ]
  try simp only [List.set_cons_zero]
  refine Late.call (i := 7) rfl (by kernel_rfl) hAl (by kernel_rfl) (by kernel_rfl) (by kernel_rfl) hQ (fun w7 e7 E7 K hK => ?_)
  go_simp
  (go_at_call 26; refine (int_trimN (xs := xs.drop h) (by have := Hm.out; have := Hp.out; simp; omega) (ra1.ext E7) (by omega) (by unfold maxLen; omega)).mono ?_; rintro e v7 ⟨rfl, rfl⟩)
  refine hK.out _ _ (Ext.refl _) ?_
  clear hK K
  try simp only [Act.put]
  try simp only [List.setIfInBounds_toArray]
  try simp only [List.set_cons_succ]
  try simp only [List.set_cons_zero]
  refine Late.call (i := 11) rfl (by kernel_rfl) hAl (by kernel_rfl) (by kernel_rfl) (by kernel_rfl) hQ (fun w11 e11 E11 K hK => ?_)
  go_simp
  (go_at_call 26; refine (int_trimN (xs := ys.take h) (by have := Hm.out; have := Hp.out; simp; omega) (rb0.ext E11) (by omega) (by unfold maxLen; omega)).mono ?_; rintro e v11 ⟨rfl, rfl⟩)
  refine hK.out _ _ (Ext.refl _) ?_
  clear hK K
  try simp only [Act.put]
  try simp only [List.setIfInBounds_toArray]
  try simp only [List.set_cons_succ]
  try simp only [List.set_cons_zero]
  refine Late.call (i := 15) rfl (by kernel_rfl) hAl (by kernel_rfl) (by kernel_rfl) (by kernel_rfl) hQ (fun w15 e15 E15 K hK => ?_)
  go_simp
  (go_at_call 26; refine (int_trimN (xs := ys.drop h) (by have := Hm.out; have := Hp.out; simp; omega) (rb1.ext E15) (by omega) (by unfold maxLen; omega)).mono ?_; rintro e v15 ⟨rfl, rfl⟩)
  refine hK.out _ _ (Ext.refl _) ?_
  clear hK K
  try simp only [Act.put]
  try simp only [List.setIfInBounds_toArray]
  try simp only [List.set_cons_succ]
  try simp only [List.set_cons_zero]
  refine Late.take (i := 16) (d := some 7) (v := ?v16_13) rfl rfl (by kernel_rfl) (by kernel_rfl) (by kernel_rfl) (by kernel_rfl) hQ (Or.inl ⟨by rfl, ?y16_13⟩) ?r16_13
  case y16_13 =>
    intro w' hSw
    go_simp
    try with_reducible rfl
  try simp only [Act.put]
  try simp only [List.setIfInBounds_toArray]
  try simp only [List.set_cons_succ]
  try simp only [List.set_cons_zero]
  refine Late.take (i := 17) (d := some 8) (v := ?v17_14) rfl rfl (by kernel_rfl) (by kernel_rfl) (by kernel_rfl) (by kernel_rfl) hQ (Or.inl ⟨by rfl, ?y17_14⟩) ?r17_14
  case y17_14 =>
    intro w' hSw
    go_simp
    try with_reducible rfl
  try simp only [Act.put]
  try simp only [List.setIfInBounds_toArray]
  try simp only [List.set_cons_succ]
  try simp only [List.set_cons_zero]
  refine Late.take (i := 18) (d := some 9) (v := ?v18_15) rfl rfl (by kernel_rfl) (by kernel_rfl) (by kernel_rfl) (by kernel_rfl) hQ (Or.inl ⟨by rfl, ?y18_15⟩) ?r18_15
  case y18_15 =>
    intro w' hSw
    go_simp
    try with_reducible rfl
  try simp only [Act.put]
  try simp only [List.setIfInBounds_toArray]
  try simp only [List.set_cons_succ]
  try simp only [List.set_cons_zero]
  refine Late.take (i := 19) (d := some 10) (v := ?v19_16) rfl rfl (by kernel_rfl) (by kernel_rfl) (by kernel_rfl) (by kernel_rfl) hQ (Or.inl ⟨by rfl, ?y19_16⟩) ?r19_16
  case y19_16 =>
    intro w' hSw
    go_simp
    try with_reducible rfl
  try simp only [Act.put]
  try simp only [List.setIfInBounds_toArray]
  try simp only [List.set_cons_succ]
  try simp only [List.set_cons_zero]
  refine Late.done0 (by kernel_rfl) (fun wz ez Ez => ?_)
  clear hAl hQ ES
  have ta0 := trimL_len (xs.take h)
  have ta1 := trimL_len (xs.drop h)
  have tb0 := trimL_len (ys.take h)
  have tb1 := trimL_len (ys.drop h)
  rw [List.length_take] at ta0 tb0
  rw [List.length_drop] at ta1 tb1
  rw [Hm.out] at ta0 ta1
  rw [Hp.out] at tb0 tb1
  have qa0 : Rd w (some ⟨ba, oa, none⟩) (trimL (xs.take h)) := by rw [trimL_take]; exact ra0.take _
  have qa1 : Rd w (some ⟨ba, oa + h, none⟩) (trimL (xs.drop h)) := by rw [trimL_take]; exact ra1.take _
  have qb0 : Rd w (some ⟨bb, ob, none⟩) (trimL (ys.take h)) := by rw [trimL_take]; exact rb0.take _
  have qb1 : Rd w (some ⟨bb, ob + h, none⟩) (trimL (ys.drop h)) := by rw [trimL_take]; exact rb1.take _
  generalize hta0 : trimL (xs.take h) = l0 at *
  generalize hta1 : trimL (xs.drop h) = l1 at *
  generalize htb0 : trimL (ys.take h) = m0 at *
  generalize htb1 : trimL (ys.drop h) = m1 at *
  have va0 : val l0 = val (xs.take h) := by rw [← hta0, val_trimL]
  have va1 : val l1 = val (xs.drop h) := by rw [← hta1, val_trimL]
  have vb0 : val m0 = val (ys.take h) := by rw [← htb0, val_trimL]
  have vb1 : val m1 = val (ys.drop h) := by rw [← htb1, val_trimL]
  have Va0 := Lib.hid va0
  have Va1 := Lib.hid va1
  have Vb0 := Lib.hid vb0
  have Vb1 := Lib.hid vb1
  clear hta0 hta1 htb0 htb1 va0 va1 vb0 vb1 ra0 ra1 rb0 rb1
  go_wp2_with fail
  refine (int_multiply_s rfl rfl (qa0.ext Ez) (qb0.ext Ez) (by omega) (by omega)).mono ?_
  rintro e u1 ⟨A1, c1, lo, rfl, hr1, hc1, hm1, ⟨hv1, hn1, hl1⟩, hx1⟩
  have Hv1 := Lib.hid hv1
  clear hv1
  have F1 := Ez.trans hx1
  go_wp2_with fail
  refine (int_multiply_s rfl rfl (qa1.ext F1) (qb1.ext F1) (by omega) (by omega)).mono ?_
  rintro e u2 ⟨A2, c2, hi, rfl, hr2, hc2, hm2, ⟨hv2, hn2, hl2⟩, hx2⟩
  have Hv2 := Lib.hid hv2
  clear hv2
  have F2 := F1.trans hx2
  go_wp2_with fail
  refine (int_add rfl rfl (qa0.ext F2) (qa1.ext F2) (by omega) (by omega)).mono ?_
  rintro e u3 ⟨A3, c3, sa, rfl, hr3, hc3, hm3, ⟨hv3, hn3, hl3⟩, hx3⟩
  have Hv3 := Lib.hid hv3
  clear hv3
  have F3 := F2.trans hx3
  go_wp2_with fail
  refine (int_add rfl rfl (qb0.ext F3) (qb1.ext F3) (by omega) (by omega)).mono ?_
  rintro e u4 ⟨A4, c4, sb, rfl, hr4, hc4, hm4, ⟨hv4, hn4, hl4⟩, hx4⟩
  have Hv4 := Lib.hid hv4
  clear hv4
  have F4 := F3.trans hx4
  go_wp2_with fail
  refine (int_multiply_s rfl rfl (hr3.rd.ext hx4) hr4.rd (by omega) (by omega)).mono ?_
  rintro e u5 ⟨A5, c5, mi, rfl, hr5, hc5, hm5, ⟨hv5, hn5, hl5⟩, hx5⟩
  have F5 := F4.trans hx5
  have sx := val_split xs h (by have := Hm.out; omega)
  have sy := val_split ys h (by have := Hp.out; omega)
  rw [Hv3.out, Hv4.out, Va0.out, Va1.out, Vb0.out, Vb1.out] at hv5
  have hlo := Hv1.out
  have hhi := Hv2.out
  rw [Va0.out, Vb0.out] at hlo
  rw [Va1.out, Vb1.out] at hhi
  have hmul : val xs * val ys = val (xs.take h) * val (ys.take h) + 4294967296 ^ h * (val (xs.take h) * val (ys.drop h) + val (xs.drop h) * val (ys.take h)) + 4294967296 ^ h * 4294967296 ^ h * (val (xs.drop h) * val (ys.drop h)) := by
    rw [sx, sy]; exact kar_all
  have hmi0 : mi ≠ [] := by
    rintro rfl
    have h0 : (val (xs.take h) + val (xs.drop h)) * (val (ys.take h) + val (ys.drop h)) = 0 := by rw [← hv5]; rfl
    rcases Nat.mul_eq_zero.1 h0 with h0 | h0
    · rw [show val (xs.take h) = 0 by omega, show val (xs.drop h) = 0 by omega] at sx
      simp at sx
      omega
    · rw [show val (ys.take h) = 0 by omega, show val (ys.drop h) = 0 by omega] at sy
      simp at sy
      omega
  obtain ⟨wmi, hh5⟩ := hr5
  rcases hh5 with h0 | ⟨g5, rfl, hg5, hb5⟩
  · exact absurd h0 hmi0
  have hlml : val lo ≤ val mi := by rw [hv5, hlo]; exact kar_low
  have hlen1 : lo.length ≤ mi.length := by
    refine Nat.le_of_not_lt fun hlt => ?_
    have := val_lt_of_len wmi hn1 hlt
    omega
  have Hvm := Lib.hid hv5
  have Hlo := Lib.hid hlo
  have Hhi := Lib.hid hhi
  have Hmul := Lib.hid hmul
  have Hlml := Lib.hid hlml
  clear hv5 hlo hhi hmul hlml sx sy hmi0
  have z1 := hr1.rd.ext (((hx2.trans hx3).trans hx4).trans hx5)
  have z2 := hr2.rd.ext ((hx3.trans hx4).trans hx5)
  have hu5 : u1.heap.size ≤ u4.heap.size := ((hx2.trans hx3).trans hx4).size
  have hu6 : u2.heap.size ≤ u4.heap.size := (hx3.trans hx4).size
  have ap1 : Apart A1 lo g5 := (hr1.rd.ext ((hx2.trans hx3).trans hx4)).apart hg5
  have ap2 : Apart A2 hi g5 := (hr2.rd.ext (hx3.trans hx4)).apart hg5
  have hgw : w.heap.size ≤ g5 := Nat.le_trans F4.size hg5
  go_wp2_with fail
  refine (int_subtractFrom (pre := []) (zs0 := mi) (post := []) _ _ lo _ (by simpa using hb5) rfl rfl wmi z1 rfl ap1 hlen1 Hlml.out (by omega)).mono ?_
  rintro e u6 ⟨mj, rfl, hlj, wmj, hbj, hvj, hmj⟩
  simp only [List.nil_append, List.append_nil] at hbj
  rw [Hvm.out, Hlo.out] at hvj
  have hhl : val hi ≤ val mj := by rw [Hhi.out]; exact kar_high hvj
  have hlen2 : hi.length ≤ mi.length := by
    refine Nat.le_of_not_lt fun hlt => ?_
    have h1 := val_lt_of_len wmi hn2 hlt
    have h2 := Hvm.out
    omega
  have Hvj := Lib.hid hvj
  have Hhl := Lib.hid hhl
  have Hlj := Lib.hid hlj
  clear hvj hhl hlj
  have hlt : g < w.heap.size := hblk0.lt
  have hne : g ≠ g5 := by omega
  go_wp2_with fail
  refine (int_subtractFrom (pre := []) (zs0 := mj) (post := []) _ _ hi _ (by simpa using hbj) rfl Hlj.out wmj (z2.mod hmj ap2) rfl ap2 hlen2 Hhl.out (by omega)).mono ?_
  rintro e u7 ⟨mk, rfl, hlk, wmk, hbk, hvk, hmk⟩
  simp only [List.nil_append, List.append_nil] at hbk
  rw [Hhi.out] at hvk
  have hvk2 := kar_mid Hvj.out hvk
  have Hvk := Lib.hid hvk2
  have Hlk := Lib.hid hlk
  clear hvk hvk2 hlk
  have y1 := (z1.mod hmj ap1).mod hmk ap1
  have y2 := (z2.mod hmj ap2).mod hmk ap2
  have bz := ((hblk0.ext F5).mod hmj hne).mod hmk hne
  have ag1 : Apart A1 lo g := fun hn a ha => by
    obtain ⟨_, hl | ⟨gl, hA, hgl, _⟩⟩ := hr1
    · exact absurd hl hn
    · have hs := Ez.size
      rw [ha] at hA; injection hA with hA; subst hA; show gl ≠ g; omega
  have ag2 : Apart A2 hi g := fun hn a ha => by
    obtain ⟨_, hl | ⟨gl, hA, hgl, _⟩⟩ := hr2
    · exact absurd hl hn
    · have hs := F1.size
      rw [ha] at hA; injection hA with hA; subst hA; show gl ≠ g; omega
  have hfm := Hf.out
  rw [Hmul.out] at hfm
  have hp1 : 0 < 4294967296 ^ h := Nat.pow_pos (by omega)
  go_wp2_with fail
  refine (int_addTo (pre := []) (zs0 := zs0) (post := []) _ _ lo _ (by simpa using bz) rfl HN.out hw y1 rfl ag1 (by omega) (by omega)).mono ?_
  rintro e u8 ⟨t1, rfl, hlt1, wt1, hbt1, ⟨cy1, _, hvt1⟩, hmt1⟩
  simp only [List.nil_append, List.append_nil] at hbt1
  rw [Hlo.out] at hvt1
  have hvt : val t1 = val zs0 + val (xs.take h) * val (ys.take h) := by
    have := kar_step (z := zs0) (zt := t1) (k := 0) (n := N) (cy := cy1) (m := val (xs.take h) * val (ys.take h)) HN.out (by omega) (by simpa using hvt1) (by rw [Nat.pow_zero, Nat.one_mul]; omega)
    simpa using this
  have e1 : (4294967296 : Nat) ^ N = 4294967296 ^ h * 4294967296 ^ (N - h) := by rw [← Nat.pow_add]; congr 1; omega
  have e2 : (4294967296 : Nat) ^ N = 4294967296 ^ h * 4294967296 ^ h * 4294967296 ^ (N - 2 * h) := by rw [← Nat.pow_add, ← Nat.pow_add]; congr 1; omega
  have e3 : (4294967296 : Nat) ^ (2 * h) = 4294967296 ^ h * 4294967296 ^ h := by rw [← Nat.pow_add]; congr 1; omega
  have hmid : val mk < 4294967296 ^ (N - h) := by
    rw [Hvk.out]
    rw [e1] at hfm
    exact kar_lt1 hp1 hfm
  have hhig : val hi < 4294967296 ^ (N - 2 * h) := by
    rw [Hhi.out]
    rw [e2] at hfm
    exact kar_lt2 (Nat.mul_pos hp1 hp1) hfm
  have htk := Nrm.len_le (Nrm.trimL mk) (by rw [val_trimL]; exact hmid)
  have hhk := Nrm.len_le hn2 hhig
  have hstep1 : val zs0 + val (xs.take h) * val (ys.take h) + 4294967296 ^ h * (val (xs.take h) * val (ys.drop h) + val (xs.drop h) * val (ys.take h)) < 4294967296 ^ N := by omega
  have Hst1 := Lib.hid hstep1
  have Hvt := Lib.hid hvt
  have Hlt1 := Lib.hid hlt1
  have E3 := Lib.hid e3
  have Hfm := Lib.hid hfm
  clear e1 e2 e3 hvt hvt1 hlt1 hmid hhig hstep1 hfm hp1
  have bk1 : BlkN u8 g5 mk := hbk.mod hmt1 (by omega)
  have rk1 : Rd u8 (some ⟨g5, 0, none⟩) (trimL mk) := by rw [trimL_take]; exact (bk1.rd0 wmk).take _
  have y3 := y2.mod hmt1 ag2
  have hb8 : BlkN u8 g (t1.take h ++ t1.drop h ++ []) := by simpa using hbt1
  have l1 : (h : Int) ≤ (N : Int) := by omega
  have l2 : (N : Int) ≤ (cz : Int) := by omega
  have l3 : (h : Int) ≤ (cz : Int) := by omega
  have l4 : ¬ cz = h := by omega
  have apk : Apart (some ⟨g5, 0, none⟩) (trimL mk) g := fun _ a ha => by injection ha with ha; subst ha; show g5 ≠ g; omega
  clear k1 k2 k3 k4 k5 k6 k7 hx hy hap hbp ta0 ta1 tb0 tb1 qa0 qa1 qb0 qb1 hr1 hr2 hr3 hr4 hx1 hx2 hx3 hx4 hx5
  go_upto_region 7 with (fail)
  go_region_held3 (fun _ => True) (trivial)
    (first | (go_at_call 26; refine (int_trimN (xs := mk) (by have := Hlk.out; have := Hlj.out; omega) ((bk1.rd0 wmk).ext (Ext.refl _).drew) hc5 hm5).mono ?_; rintro e u8' ⟨rfl, rfl⟩) | (go_at_call 58; refine (int_addTo (n := N - h) (pre := t1.take h) (zs0 := t1.drop h) (post := []) _ _ (trimL mk) _ (hb8.ext (Ext.refl _).drew) (by have := Hlt1.out; simp; omega) (by have := Hlt1.out; simp; omega) (wt1.drop h) (rk1.ext (Ext.refl _).drew) rfl apk (by omega) (by omega)).mono ?_; rintro e u9 ⟨t2, rfl, hlt2, wt2, hbt2, ⟨cy2, _, hvt2⟩, hmt2⟩))
  simp only [List.append_nil] at hbt2
  rw [val_trimL, Hvk.out] at hvt2
  have hv2 := kar_step (z := t1) (zt := t2) (k := h) (n := N) (cy := cy2) Hlt1.out (by omega) hvt2 (by rw [Hvt.out]; exact Hst1.out)
  have hl2z : (t1.take h ++ t2).length = N := by have := Hlt1.out; rw [List.length_append, List.length_take, hlt2]; omega
  have hw2z := (wt1.take h).append wt2
  generalize hz2 : t1.take h ++ t2 = z2 at hbt2 hv2 hl2z hw2z
  rw [Hvt.out] at hv2
  have Hv2z := Lib.hid hv2
  have Hl2z := Lib.hid hl2z
  clear hz2 hv2 hl2z hvt2 hlt2 wt2 wt1 hb8 bk1 rk1
  have y4 := y3.mod ((Mod.refl u8 g).drew.trans hmt2) ag2
  have hb9 : BlkN u9 g (z2.take (2 * h) ++ z2.drop (2 * h) ++ []) := by simpa using hbt2
  have m1 : (2 : Int) * (h : Int) ≤ (N : Int) := by omega
  have m2 : (0 : Int) ≤ 2 * (h : Int) := by omega
  have m3 : (2 : Int) * (h : Int) ≤ (cz : Int) := by omega
  have m4 : ¬ cz = 2 * h := by omega
  have m5 : ((2 : Int) * (h : Int)).toNat = 2 * h := by omega
  have Hm5 := Lib.hid m5
  go_wp2_with (go_at_call 58; refine (int_addTo (n := N - 2 * h) (pre := z2.take (2 * h)) (zs0 := z2.drop (2 * h)) (post := []) _ _ hi _ hb9 (by have := Hl2z.out; simp; omega) (by have := Hl2z.out; simp; omega) (hw2z.drop _) y4 rfl ag2 (by omega) (by omega)).mono ?_; rintro e u10 ⟨t3, rfl, hlt3, wt3, hbt3, ⟨cy3, _, hvt3⟩, hmt3⟩)
  go_end0
  have hfm := Hfm.out
  rw [Hhi.out] at hvt3
  have hv3 := kar_step (z := z2) (zt := t3) (k := 2 * h) (n := N) (cy := cy3) Hl2z.out (by omega) hvt3 (by rw [Hv2z.out, E3.out]; omega)
  rw [Hv2z.out, E3.out] at hv3
  refine ⟨z2.take (2 * h) ++ t3, rfl, by have := Hl2z.out; rw [List.length_append, List.length_take, hlt3]; omega, (hw2z.take _).append wt3, by simpa using hbt3, by show val _ = _; rw [hv3, Hmul.out]; omega, ?_⟩
  exact ((((Mod.ext (Mod.ext F5 hmj hgw) hmk hgw).mod g).trans hmt1).trans ((Mod.refl u8 g).drew.trans hmt2)).trans hmt3
set_option maxHeartbeats 1000000 in
theorem int_addProduct_k {g N cz : Nat} {zs0 : List Nat} (hblk0 : BlkN w g zs0) (hN : zs0.length = N) (hw : W32 zs0) (hx : Rd w A xs) (hm : xs.length = n) (hap : Apart A xs g) (hy : Rd w B ys) (hp : ys.length = n) (hbp : Apart B ys g)
    (h2 : 64 ≤ n) (h100 : n ≤ 100) (hl : n + n ≤ N) (hN2 : N ≤ 100000) (hpx : 0 < val xs) (hpy : 0 < val ys) (hf : val zs0 + val xs * val ys < 4294967296 ^ N) (hc : n ≤ c) (hcm : c ≤ maxLen) (hd : n ≤ d) (hdm : d ≤ maxLen) (hcz : N ≤ cz) (hczm : cz ≤ maxLen) :
    Calls Tryd.prog 82 #[.slice (some ⟨g, 0, none⟩) N cz, .slice A n c, .slice B n d] w (Turned w g [] N [] fun zs => val zs = val zs0 + val xs * val ys) := by
  have ht1 : decide ((n : Int) < 64) = false := decide_eq_false (by omega)
  have HK := Lib.hid (int_addHalves hblk0 hN hw hx hm hap hy hp hbp (by omega) h100 hl hN2 hpx hpy hf hc hcm hd hdm hcz hczm)
  clear hm hp hN hf hblk0
  go_enter Tryd.func82, Tryd.ntmps82
  go_wp2_with fail
  refine HK.out.mono ?_
  rintro e u ⟨zs, rfl, h1, h2, h3, h4, h5⟩
  have H1 := Lib.hid h1
  have H4 := Lib.hid h4
  clear h1 h4
  go_wp2_with fail
  go_end0
  exact ⟨zs, rfl, H1.out, h2, h3, H4.out, h5⟩
set_option maxHeartbeats 1000000 in
theorem int_multiply_k (hn : xs.length = n) (hm : ys.length = n) (hx : Rd w A xs) (hy : Rd w B ys) (h64 : 64 ≤ n) (h1 : n ≤ 100) (hpx : 0 < val xs) (hpy : 0 < val ys) (hc : n ≤ c) (hcm : c ≤ maxLen) (hd : n ≤ d) (hdm : d ≤ maxLen) :
    Calls Tryd.prog 61 #[.slice A n c, .slice B n d] w (RetN (fun zs => val zs = val xs * val ys ∧ Nrm zs ∧ zs.length ≤ xs.length + ys.length) w) := by
  have hmk := mk_wordsA 48 Tryd.underlying48 n n (by omega)
  have hf : 0 + val xs * val ys < 4294967296 ^ (n + n) := by
    rw [Nat.zero_add]
    have := prod_lt hx.1 hy.1
    rwa [hn, hm] at this
  have Hf := Lib.hid hf
  have Hn := Lib.hid hn
  have Hm := Lib.hid hm
  clear hf hn hm
  go_enter Tryd.func61, Tryd.ntmps61
  go_wp2_with fail
  refine (int_addProduct_k (zs0 := List.replicate (n + n) 0) (by simpa using BlkN.new w (n + n)) (by simp) (W32.replicate _) (hx.ext ((Ext.refl w).alloc _)) Hn.out (hx.apart (Nat.le_refl _)) (hy.ext ((Ext.refl w).alloc _)) Hm.out (hy.apart (Nat.le_refl _)) h64 h1 (Nat.le_refl _) (by omega) hpx hpy (by rw [val_replicate]; exact Hf.out) hc hcm hd hdm (Nat.le_refl _) (by unfold maxLen; omega)).mono ?_
  rintro e w2 ⟨zs, rfl, hzl, hzw, hzb, hzv, hmod⟩
  have hext := hmod.ext ((Ext.refl w).alloc _) (Nat.le_refl _)
  simp only [List.nil_append, List.append_nil] at hzb
  have Hzl := Lib.hid hzl
  have Hzv := Lib.hid hzv
  clear hzl hzv hmod
  go_wp2_with fail
  refine (int_trimN (xs := zs) Hzl.out (hzb.rd0 hzw) (Nat.le_refl _) (by unfold maxLen; omega)).mono ?_
  rintro e w3 ⟨rfl, rfl⟩
  go_wp2_with fail
  go_ret
  have hlen := trimL_len zs
  have hz := Hzl.out
  have hn := Hn.out
  have hm := Hm.out
  refine ⟨_, _, trimL zs, rfl, ?_, by omega, by unfold maxLen; omega, ⟨by rw [val_trimL, Hzv.out, val_replicate, Nat.zero_add], Nrm.trimL _, by omega⟩, hext⟩
  rw [trimL_take]
  exact (Own.of_blk hzb hzw (Nat.le_refl _)).take _
end
end Go.Proofs.YtmjmcinnbmjpdaaDoor
