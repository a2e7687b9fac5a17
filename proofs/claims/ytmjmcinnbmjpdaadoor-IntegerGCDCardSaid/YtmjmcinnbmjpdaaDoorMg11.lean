/- Walks and laws, part 11. -/
import Derived.Test.YtmjmcinnbmjpdaaDoorMg5
import Derived.Test.YtmjmcinnbmjpdaaDoorMg9
import Derived.Test.YtmjmcinnbmjpdaaDoorMg10
namespace Go.Proofs.YtmjmcinnbmjpdaaDoor
open Go.RowKit
/-- the first two words and the third one, shifted. -/
theorem win_val {ys : List Nat} {r : Nat} (hw : W32 ys) (hr : r < 32) (hl : 2 < ys.length) (hv : val ys / 2 ^ r < 18446744073709551616) :
    val (ys.take 2) / 2 ^ r + 2 ^ (64 - r) * ys[2] = val ys / 2 ^ r ∧ val (ys.take 2) / 2 ^ r < 2 ^ (64 - r) ∧ ys[2] < 2 ^ r := by
  have e1 := val_split ys 2 (by omega)
  have e2 := val_split (ys.drop 2) 1 (by rw [List.length_drop]; omega)
  have e3 : (ys.drop 2).take 1 = [ys[2]] := by
    rw [List.drop_eq_getElem_cons (by omega)]; rfl
  rw [e3, val_one] at e2
  have hl2 := val_lt (hw.take 2)
  rw [List.length_take, Nat.min_eq_left (by omega)] at hl2
  have h64 : (4294967296 : Nat) ^ 2 = 2 ^ r * 2 ^ (64 - r) := by
    rw [← Nat.pow_add, show r + (64 - r) = 64 by omega]
  have hp : 0 < 2 ^ r := Nat.pow_pos (by omega)
  rw [h64] at e1 hl2
  generalize val (List.drop 1 (List.drop 2 ys)) = t at *
  generalize val (List.drop 2 ys) = h at *
  generalize val (List.take 2 ys) = l at *
  have e4 : val ys / 2 ^ r = l / 2 ^ r + 2 ^ (64 - r) * h := by
    rw [e1, Nat.mul_assoc, Nat.add_mul_div_left _ _ hp]
  have hll : l / 2 ^ r < 2 ^ (64 - r) := Nat.div_lt_of_lt_mul hl2
  have hh : h < 2 ^ r := by
    refine Nat.lt_of_not_le fun hle => ?_
    have h1 : 2 ^ (64 - r) * 2 ^ r ≤ 2 ^ (64 - r) * h := Nat.mul_le_mul_left _ hle
    have h2 : 2 ^ (64 - r) * 2 ^ r = 18446744073709551616 := by rw [← Nat.pow_add, show 64 - r + r = 64 by omega]
    rw [e4] at hv
    rw [h2] at h1
    generalize 2 ^ (64 - r) * h = H at *
    generalize l / 2 ^ r = H2 at *
    omega
  have hr2 : 2 ^ r ≤ 2 ^ 31 := Nat.pow_le_pow_right (by omega) (by omega)
  have ht : t = 0 := by
    refine Nat.eq_zero_of_not_pos fun h0 => ?_
    have : (4294967296 : Nat) ^ 1 * 1 ≤ 4294967296 ^ 1 * t := Nat.mul_le_mul_left _ h0
    have h31 : (2 : Nat) ^ 31 = 2147483648 := by decide
    omega
  subst ht
  rw [Nat.mul_zero, Nat.add_zero] at e2
  subst e2
  exact ⟨e4.symm, hll, hh⟩
theorem or64_cast {V y r : Nat} (hx : V / 2 ^ r < 2 ^ (64 - r)) (hy : 2 ^ (64 - r) * y < 18446744073709551616) (hV : V < 18446744073709551616) : bits .or .u64 ((V : Int) / 2 ^ r) (IntKind.u64.wrap ((y : Int) * 2 ^ (64 - r))) = ((V / 2 ^ r + 2 ^ (64 - r) * y : Nat) : Int) := by
  have e0 : (V : Int) / 2 ^ r = ((V / 2 ^ r : Nat) : Int) := by simp
  have e1 : (y : Int) * 2 ^ (64 - r) = ((2 ^ (64 - r) * y : Nat) : Int) := by
    rw [Nat.mul_comm, Int.natCast_mul, Int.natCast_pow]
    rfl
  rw [e0, e1, IntWalk.u64_in _ (by omega), u64_or_nat _ _ (Nat.lt_of_le_of_lt (Nat.div_le_self _ _) hV) hy, or_parts hx]
section
variable {A : Option Addr} {c n : Nat} {xs : List Nat} {w : World}
set_option maxRecDepth 100000 in
set_option maxHeartbeats 4000000 in
theorem int_window {k : Nat} (hn : xs.length = n) (hx : Rd w A xs) (hc : n ≤ c) (hcm : c ≤ maxLen) (hk : k ≤ 100000) (h1 : n ≤ 10000) (hv : val xs / 2 ^ k < 18446744073709551616) :
    Calls Tryd.prog 73 #[.slice A n c, .int .i64 (k : Int)] w fun e w' => e = .returned (.int .u64 ((val xs / 2 ^ k : Nat) : Int)) ∧ w = w' := by
  by_cases hge : n ≤ k / 32
  · have hz : val xs / 2 ^ k = 0 := by
      have h1 := val_lt hx.1
      rw [hn] at h1
      rw [pow_split k, ← Nat.div_div_eq_div_mul, Nat.div_eq_of_lt (Nat.lt_of_lt_of_le h1 (Nat.pow_le_pow_right (by omega) hge)), Nat.zero_div]
    rw [hz]
    have m4 : min ((k : Int) / 32) (n : Int) = (n : Int) := by omega
    have m5 : (n : Int) ≤ (k : Int) / 32 := by omega
    have hsv : ((0 : Nat) : Int) / 2 ^ (k % 32) = 0 := by simp
    unfold maxLen at hcm
    clear hz hv
    have hA : (∃ b off, A = some ⟨b, off, none⟩) ∨ n = 0 := by
      by_cases h0 : n = 0
      · exact .inr h0
      · exact .inl (hx.some (by omega))
    rcases hA with ⟨b, off, rfl⟩ | h0
    · clear hx hn
      by_cases hcn : c = n
      · subst hcn
        go_enter Tryd.func73, Tryd.ntmps73
        go_wp2_with fail
        all_goals
          refine (int_toUint (xs := []) (by simp <;> omega) (Rd.nil _ _) (by omega)).mono ?_
          rintro e w1 ⟨rfl, rfl⟩
          rw [show val [] = 0 by rfl]
          go_wp2_with fail
          go_ret
          exact ⟨rfl, rfl⟩
      · have hcn' : ¬ c = n := hcn
        go_enter Tryd.func73, Tryd.ntmps73
        go_wp2_with fail
        all_goals
          refine (int_toUint (xs := []) (by simp <;> omega) (Rd.nil _ _) (by omega)).mono ?_
          rintro e w1 ⟨rfl, rfl⟩
          rw [show val [] = 0 by rfl]
          go_wp2_with fail
          go_ret
          exact ⟨rfl, rfl⟩
    · subst h0
      clear hx hn
      cases A with
      | none =>
        go_enter Tryd.func73, Tryd.ntmps73
        go_wp2_with fail
        all_goals
          refine (int_toUint (xs := []) (by simp <;> omega) (Rd.nil _ _) (by omega)).mono ?_
          rintro e w1 ⟨rfl, rfl⟩
          rw [show val [] = 0 by rfl]
          go_wp2_with fail
          go_ret
          exact ⟨rfl, rfl⟩
      | some ad =>
        go_enter Tryd.func73, Tryd.ntmps73
        go_wp2_with fail
        all_goals
          refine (int_toUint (xs := []) (by simp <;> omega) (Rd.nil _ _) (by omega)).mono ?_
          rintro e w1 ⟨rfl, rfl⟩
          rw [show val [] = 0 by rfl]
          go_wp2_with fail
          go_ret
          exact ⟨rfl, rfl⟩
  · obtain ⟨b, off, rfl⟩ := hx.some (by omega)
    have hd := hx.drop (k / 32)
    have hlen : (xs.drop (k / 32)).length = n - k / 32 := by rw [List.length_drop, hn]
    have hspec : val xs / 2 ^ k = val (xs.drop (k / 32)) / 2 ^ (k % 32) := by rw [val_drop hx.1, pow_split k, Nat.div_div_eq_div_mul]
    have hr : k % 32 < 32 := Nat.mod_lt _ (by omega)
    rw [hspec] at hv ⊢
    have m1 : (k : Int) / 32 ≤ (n : Int) := by omega
    have m2 : k / 32 ≤ n := by omega
    have m3 : ¬ c = k / 32 := by omega
    have m4 : min ((k : Int) / 32) (n : Int) = (k : Int) / 32 := by omega
    unfold maxLen at hcm
    generalize hys : xs.drop (k / 32) = ys at *
    have Hlen := Lib.hid hlen
    have Hv := Lib.hid hv
    have hl0 : 1 ≤ n - k / 32 := by omega
    clear hx hn hspec hv hlen
    by_cases h2 : n - k / 32 ≤ 2
    · have m5 : min (2 : Int) ((n - k / 32 : Nat) : Int) = ((n - k / 32 : Nat) : Int) := by omega
      have hval : val (ys.take 2) = val ys := by rw [List.take_of_length_le (by have := Hlen.out; omega)]
      have t1 : decide ((2 : Int) < ((n - k / 32 : Nat) : Int)) = false := decide_eq_false (by omega)
      have Hval := Lib.hid hval
      clear hval
      have hl2 := val_lt hd.1
      have hl3 : (val ys : Int) ≤ 18446744073709551615 := by
        have h1 : (4294967296 : Nat) ^ ys.length ≤ 4294967296 ^ 2 := Nat.pow_le_pow_right (by omega) (by have := Hlen.out; omega)
        rw [show (4294967296 : Nat) ^ 2 = 18446744073709551616 by decide] at h1
        omega
      have ht2 := hd
      have hsv : (val ys : Int) / 2 ^ (k % 32) = ((val ys / 2 ^ (k % 32) : Nat) : Int) := by simp
      have HS := Lib.hid hsv
      clear hsv hl2
      generalize hVV : val ys = V at *
      have HVV := Lib.hid hVV
      clear hVV m5
      go_enter Tryd.func73, Tryd.ntmps73
      go_wp2_with fail
      all_goals
        refine (int_toUint (xs := ys) (by have := Hlen.out; omega) ht2 (by omega)).mono ?_
        rintro e w1 ⟨rfl, rfl⟩
        rw [HVV.out]
        go_wp2_with fail
        rw [HS.out]
        go_ret
        exact ⟨rfl, rfl⟩
    · have hy3 : 2 < ys.length := by have := Hlen.out; omega
      have hw := win_val hd.1 hr hy3 Hv.out
      obtain ⟨h3, h4, h5⟩ := hw
      obtain ⟨b', off', he, hb', hc2⟩ := hd.at_ (i := 2) (by have := Hlen.out; omega)
      injection he with he
      injection he with he1 he2
      subst he1
      subst he2
      have hw2 := hd.1.get (k := 2) (by have := Hlen.out; omega)
      have hl2 := val_lt (hd.1.take 2)
      rw [List.length_take, Nat.min_eq_left (by have := Hlen.out; omega)] at hl2
      have hr64 : 2 ^ (64 - k % 32) * ys[2] < 18446744073709551616 := by have h := Hv.out; rw [← h3] at h; exact Nat.lt_of_le_of_lt (Nat.le_add_left _ _) h
      have hor := or64_cast (V := val (ys.take 2)) (y := ys[2]) (r := k % 32) h4 hr64 (by rw [show (4294967296 : Nat) ^ 2 = 18446744073709551616 by decide] at hl2; exact hl2)
      rw [h3] at hor
      generalize ys[2] = y2 at *
      have ht2 := hd.take 2
      have Hor := Lib.hid hor
      have H3 := Lib.hid h3
      have hl2' : (val (ys.take 2) : Int) ≤ 18446744073709551615 := by rw [show (4294967296 : Nat) ^ 2 = 18446744073709551616 by decide] at hl2; omega
      have hlt2 : (ys.take 2).length ≤ 2 := by rw [List.length_take]; omega
      have hlt3 : 2 ≤ (ys.take 2).length := by rw [List.length_take]; have := Hlen.out; omega
      clear hor h3 h4 h5 hl2 hr64
      generalize hVV : val (ys.take 2) = V at *
      have HVV := Lib.hid hVV
      clear hVV
      have m6 : (2 : Int) < ((n - k / 32 : Nat) : Int) := by omega
      have t1 : decide ((2 : Int) < ((n - k / 32 : Nat) : Int)) = true := decide_eq_true m6
      have hsh : ((64 : Int) - (k : Int) % 32).toNat = 64 - k % 32 := by omega
      have hsh2 : (0 : Int) ≤ 64 - (k : Int) % 32 := by omega
      go_enter Tryd.func73, Tryd.ntmps73
      go_wp2_with fail
      refine (int_toUint (xs := ys.take 2) (by omega) ht2 (by omega)).mono ?_
      rintro e w1 ⟨rfl, rfl⟩
      rw [HVV.out]
      go_wp2_with fail
      rw [Hor.out]
      go_ret
      exact ⟨rfl, rfl⟩
end
end Go.Proofs.YtmjmcinnbmjpdaaDoor
namespace Go.Proofs.YtmjmcinnbmjpdaaDoor
open Go.RowKit
attribute [local go_sem ↓] Go.wp_at_zero Go.wp_at_succ
/-- the rounds of combine. -/
structure CInv (xs ys : List Nat) (x y : Int) (k : Nat) (zs : List Nat) (cy : Int) : Prop where
  w32 : W32 zs
  lo : -2147483648 ≤ cy
  hi : cy ≤ 2147483648
  eq : (val (zs.take k) : Int) + (4294967296 : Int) ^ k * cy = x * (val (xs.take k) : Int) + y * (val (ys.take k) : Int)
theorem comb_bound {x y : Int} {a b : Nat} (ha : a < 4294967296) (hb : b < 4294967296) (hs : (x ≤ 0 ∧ 0 ≤ y) ∨ (0 ≤ x ∧ y ≤ 0)) (hx1 : -2147483647 ≤ x) (hx2 : x ≤ 2147483647) (hy1 : -2147483647 ≤ y) (hy2 : y ≤ 2147483647) :
    -9223372030412324865 ≤ x * (a : Int) ∧ x * (a : Int) ≤ 9223372030412324865 ∧ -9223372030412324865 ≤ y * (b : Int) ∧ y * (b : Int) ≤ 9223372030412324865 ∧ -9223372030412324865 ≤ x * (a : Int) + y * (b : Int) ∧ x * (a : Int) + y * (b : Int) ≤ 9223372030412324865 := by
  have key : ∀ (v : Int) (c : Nat), c < 4294967296 → 0 ≤ v → v ≤ 2147483647 → 0 ≤ v * (c : Int) ∧ v * (c : Int) ≤ 9223372030412324865 := by
    intro v c hc h0 h1
    have h2 := Int.mul_le_mul h1 (show (c : Int) ≤ 4294967295 by omega) (by omega) (by omega)
    exact ⟨Int.mul_nonneg h0 (by omega), by omega⟩
  rcases hs with ⟨h1, h2⟩ | ⟨h1, h2⟩
  · have k1 := key (-x) a ha (by omega) (by omega)
    have k2 := key y b hb h2 hy2
    rw [Int.neg_mul] at k1
    omega
  · have k1 := key x a ha h1 hx2
    have k2 := key (-y) b hb (by omega) (by omega)
    rw [Int.neg_mul] at k2
    omega
theorem pow_cast (k : Nat) : ((4294967296 ^ k : Nat) : Int) = (4294967296 : Int) ^ k := by rw [Int.natCast_pow]; rfl
theorem CInv.step {xs ys zs : List Nat} {x y : Int} {k : Nat} {cy : Int} (h : CInv xs ys x y k zs cy) (hx : k < xs.length) (hy : k < ys.length) (hz : k < zs.length) {s : Int} (hs : s = cy + (x * (xs[k] : Int) + y * (ys[k] : Int)))
    (hb1 : -9223372036854775808 ≤ s) (hb2 : s ≤ 9223372036854775807) : CInv xs ys x y (k + 1) (zs.set k (s % 4294967296).toNat) (s / 4294967296) := by
  have hm := Int.emod_nonneg s (show (4294967296 : Int) ≠ 0 by decide)
  have hm2 := Int.emod_lt_of_pos s (show (0 : Int) < 4294967296 by decide)
  have hdm := Int.mul_ediv_add_emod s 4294967296
  refine ⟨h.w32.set k (by omega), by omega, by omega, ?_⟩
  have e := h.eq
  rw [val_take_set _ hz, val_take_succ xs k hx, val_take_succ ys k hy]
  have ec : (((s % 4294967296).toNat : Nat) : Int) = s % 4294967296 := Int.toNat_of_nonneg hm
  rw [Int.natCast_add, Int.natCast_mul, Int.natCast_add, Int.natCast_mul, Int.natCast_add, Int.natCast_mul, pow_cast, ec, Int.pow_succ]
  generalize (4294967296 : Int) ^ k = p at *
  generalize s % 4294967296 = m at *
  generalize s / 4294967296 = q at *
  have h1 : p * s = p * (4294967296 * q + m) := by rw [hdm]
  grind
theorem CInv.done {xs ys zs : List Nat} {x y : Int} {n : Nat} {cy : Int} (h : CInv xs ys x y n zs cy) (hx : xs.length = n) (hy : ys.length = n) (hz : zs.length = n) {R : Nat} (hR : x * (val xs : Int) + y * (val ys : Int) = (R : Int)) (hl : R < 4294967296 ^ n) : val zs = R := by
  have e := h.eq
  rw [List.take_of_length_le (by omega), List.take_of_length_le (by omega), List.take_of_length_le (by omega), hR] at e
  have h1 := val_lt h.w32
  rw [hz] at h1
  have h2 : ((4294967296 ^ n : Nat) : Int) = (4294967296 : Int) ^ n := pow_cast n
  rw [← h2] at e
  generalize 4294967296 ^ n = p at *
  have hp : (0 : Int) < (p : Int) := by omega
  have hc : cy = 0 := by
    rcases Int.lt_trichotomy cy 0 with h | h | h
    · have := Int.mul_le_mul_of_nonneg_left (show cy ≤ -1 by omega) (show (0 : Int) ≤ (p : Int) by omega)
      omega
    · exact h
    · have := Int.mul_le_mul_of_nonneg_left (show 1 ≤ cy by omega) (show (0 : Int) ≤ (p : Int) by omega)
      omega
  subst hc
  omega
section
variable {A B : Option Addr} {c d n : Nat} {xs ys : List Nat} {w : World}
set_option maxRecDepth 100000 in
set_option maxHeartbeats 4000000 in
theorem int_combine {g cz : Nat} {zs0 : List Nat} {x y : Int} {R : Nat} (hblk0 : BlkN w g zs0) (hn : zs0.length = n) (hw : W32 zs0) (hx : Rd w A xs) (hm : xs.length = n) (hap : Apart A xs g) (hy : Rd w B ys) (hp : ys.length = n) (hbp : Apart B ys g)
    (hs : (x ≤ 0 ∧ 0 ≤ y) ∨ (0 ≤ x ∧ y ≤ 0)) (hx1 : -2147483647 ≤ x) (hx2 : x ≤ 2147483647) (hy1 : -2147483647 ≤ y) (hy2 : y ≤ 2147483647) (hR : x * (val xs : Int) + y * (val ys : Int) = (R : Int)) (hl : R < 4294967296 ^ n) (h1 : n ≤ 100000) (hc : n ≤ c) (hcm : c ≤ maxLen) (hd : n ≤ d) (_hdm : d ≤ maxLen) (hcz : n ≤ cz) (hczm : cz ≤ maxLen) :
    Calls Tryd.prog 75 #[.slice (some ⟨g, 0, none⟩) n cz, .slice A n c, .slice B n d, .int .i64 x, .int .i64 y] w fun e w' => ∃ zs, e = .returned (.slice (some ⟨g, 0, none⟩) (trimL zs).length cz) ∧ zs.length = n ∧ W32 zs ∧ BlkN w' g zs ∧ val zs = R ∧ Mod w w' g := by
  have Hczm := Lib.hid hczm
  unfold maxLen at hczm hcm
  have Hn := Lib.hid hn
  have Hm := Lib.hid hm
  have Hp := Lib.hid hp
  have HR := Lib.hid hR
  have HL := Lib.hid hl
  clear hn hm hp hR hl
  go_enter Tryd.func75, Tryd.ntmps75
  go_wp2
  go_loopw [11, 15] (fun cr i wr => ∃ (k : Nat) (zs : List Nat) (cy : Int), k ≤ n ∧ i = .int .i64 (k : Int) ∧ cr = .int .i64 cy ∧ CInv xs ys x y k zs cy ∧ zs.length = n ∧ BlkN wr g zs ∧ Mod w wr g) (fun _ i _ => n - (intOf i).toNat)
  case atStart => exact ⟨0, zs0, 0, Nat.zero_le _, rfl, rfl, ⟨hw, by omega, by omega, by simp [val]⟩, Hn.out, hblk0, Mod.refl _ _⟩
  case round =>
    obtain ⟨k, zs, cy, hk, rfl, rfl, hinv, hzl, hblk, hmod⟩ := hrel
    have c1 := hinv.lo
    have c2 := hinv.hi
    have HI := Lib.hid hinv
    have Hzl := Lib.hid hzl
    clear hinv hzl
    by_cases hlt : k < n
    · have lx : k < xs.length := by have := Hm.out; omega
      have ly : k < ys.length := by have := Hp.out; omega
      have lz : k < zs.length := by have := Hzl.out; omega
      obtain ⟨ba, oa, rfl, _, ca⟩ := (hx.mod hmod hap).at_ lx
      obtain ⟨bb, ob, rfl, _, cb⟩ := (hy.mod hmod hbp).at_ ly
      have wa := hx.1.get lx
      have wb := hy.1.get ly
      have cz0 := hblk.cell lz
      have fz := hblk.frozen k
      obtain ⟨p1, p2, q1, q2, s1, s2⟩ := comb_bound wa wb hs hx1 hx2 hy1 hy2
      have hst := HI.out.step lx ly lz (s := cy + (x * (xs[k] : Int) + y * (ys[k] : Int))) rfl (by omega) (by omega)
      have wz := HI.out.w32.get lz
      generalize xs[k] = a at *
      generalize ys[k] = b at *
      generalize zs[k] = z at *
      have E1 : IntKind.i64.wrap (x * (a : Int)) = x * (a : Int) := IntWalk.i64_in _ (by omega)
      have E2 : IntKind.i64.wrap (y * (b : Int)) = y * (b : Int) := IntWalk.i64_in _ (by omega)
      have E3 : IntKind.i64.wrap (x * (a : Int) + y * (b : Int)) = x * (a : Int) + y * (b : Int) := IntWalk.i64_in _ (by omega)
      have E4 : IntKind.i64.wrap (cy + (x * (a : Int) + y * (b : Int))) = cy + (x * (a : Int) + y * (b : Int)) := IntWalk.i64_in _ (by omega)
      have HS := Lib.hid hst
      clear hst
      have i1 : (k : Int) < (n : Int) := by omega
      go_upto_region 5 with (fail)
      go_quiet (fail)
      clear E1 E2 E3 E4
      generalize cy + (x * (a : Int) + y * (b : Int)) = S at *
      have hsv : S % 4294967296 = ((S % 4294967296).toNat : Int) := (Int.toNat_of_nonneg (Int.emod_nonneg S (by decide))).symm
      have HSV := Lib.hid hsv
      clear hsv
      go_wp2_with fail
      go_roundw
      case rel => exact ⟨k + 1, zs.set k (S % 4294967296).toNat, S / 4294967296, by omega, by go_num, rfl, HS.out, by rw [List.length_set]; exact Hzl.out, (hblk.drewN nq).set k HSV.out, (hmod.drewN nq).setCell _ _⟩
      case measure => simp [intOf]; omega
    · obtain rfl : k = n := by omega
      have hv := HI.out.done Hm.out Hp.out Hzl.out HR.out HL.out
      have HV := Lib.hid hv
      have wz := HI.out.w32
      clear hv
      go_wp2_with fail
      refine (int_trimN (xs := zs) Hzl.out (hblk.rd0 wz) hcz Hczm.out).mono ?_
      rintro e w3 ⟨rfl, rfl⟩
      go_wp2_with fail
      go_ret
      exact ⟨zs, rfl, Hzl.out, wz, hblk, HV.out, hmod⟩
end
end Go.Proofs.YtmjmcinnbmjpdaaDoor
namespace Go.Proofs.YtmjmcinnbmjpdaaDoor

/-! a multiple is subtracted in place -/
structure SmInv (zs0 ys : List Nat) (q k : Nat) (zs : List Nat) (cy : Nat) : Prop where
  len : zs.length = zs0.length
  w32 : W32 zs
  hcy : cy < 4294967296
  rest : zs.drop k = zs0.drop k
  eq : val (zs.take k) + val (ys.take k) * q = val (zs0.take k) + 4294967296 ^ k * cy
theorem SmInv.start {zs0 ys : List Nat} {q : Nat} (h : W32 zs0) : SmInv zs0 ys q 0 zs0 0 := ⟨rfl, h, by omega, rfl, by simp [val]⟩
theorem SmInv.at_ {zs0 ys zs : List Nat} {q k cy : Nat} (h : SmInv zs0 ys q k zs cy) (hk : k < zs.length) : zs[k] = zs0.getD k 0 := by
  have := congrArg (fun l : List Nat => l.getD 0 0) h.rest
  simp only [List.getD, List.getElem?_drop, Nat.add_zero] at this
  rw [List.getElem?_eq_getElem hk] at this
  simpa [List.getD] using this
theorem sm_step_eq {p cy y q z d b a c e s lo hi : Nat} (h : a + c * q = e + p * cy) (hs : s = cy + y * q) (hp : p * lo + p * 4294967296 * hi = p * s) (he : d + lo = z + 4294967296 * b) :
    a + p * d + (c + p * y) * q = e + p * z + p * 4294967296 * (hi + b) := by
  subst hs
  have e1 := congrArg (fun n => p * n) he
  simp only [Nat.mul_add, ← Nat.mul_assoc] at e1 hp
  rw [Nat.add_mul, Nat.mul_add (p * 4294967296)]
  omega
theorem SmInv.step {zs0 ys zs : List Nat} {q k cy d b : Nat} (h : SmInv zs0 ys q k zs cy) (hy : W32 ys) (hq : q < 4294967296) (hk : k < zs.length) (hky : k < ys.length) {s : Nat} (hs : s = cy + ys[k] * q) (hd : d < 4294967296) (_hb : b ≤ 1)
    (he : d + s % 4294967296 = zs[k] + 4294967296 * b) : SmInv zs0 ys q (k + 1) (zs.set k d) (s / 4294967296 + b) := by
  have h2 := mul_word (hy.get hky) hq
  have h3 := h.hcy
  refine ⟨by simpa using h.len, h.w32.set _ hd, ?_, ?_, ?_⟩
  · generalize ys[k] * q = t at *
    omega
  · rw [drop_set_succ, ← List.drop_drop, h.rest, List.drop_drop]
  · rw [val_take_set _ hk, val_take_getD zs0, val_take_getD ys, ← h.at_ hk, getD_at hky, Nat.pow_succ]
    have hp := pow_carry k s
    rw [Nat.pow_succ] at hp
    exact sm_step_eq h.eq hs hp he
theorem SmInv.done {zs0 ys zs : List Nat} {q cy d b : Nat} (h : SmInv zs0 ys q ys.length zs cy) (hl : zs0.length = ys.length + 1) (he : d + cy = zs0.getD ys.length 0 + 4294967296 * b) :
    val (zs.set ys.length d) + val ys * q = val zs0 + 4294967296 ^ (ys.length + 1) * b := by
  have hk : ys.length < zs.length := by have := h.len; omega
  have e := h.eq
  rw [List.take_of_length_le (l := ys) (Nat.le_refl _)] at e
  have e1 := val_take_set (zs := zs) (k := ys.length) d hk
  rw [List.take_of_length_le (by simp; have := h.len; omega)] at e1
  have e2 := val_take_getD zs0 ys.length
  rw [List.take_of_length_le (by omega)] at e2
  have e3 := congrArg (fun n => 4294967296 ^ ys.length * n) he
  simp only [Nat.mul_add] at e3
  rw [e1, e2, Nat.pow_succ, Nat.mul_assoc]
  omega

/-! the estimate of a word: v1 and v2 are the two first words of the divisor, top the two first words of the part, u2 the third; E is the unit of the words that follow. -/
structure Est (E v1 v2 u2 top D P : Nat) : Prop where
  d1 : E * (v2 + 4294967296 * v1) ≤ D
  d2 : D < E * (v2 + 4294967296 * v1) + E
  p1 : E * (u2 + 4294967296 * top) ≤ P
  p2 : P < E * (u2 + 4294967296 * top) + E
  hv2 : v2 < 4294967296
  hu2 : u2 < 4294967296
  hv : 2147483648 ≤ v1
  hv1 : v1 < 4294967296
  lt : P < 4294967296 * D
section
variable {E v1 v2 u2 top D P q r : Nat}
theorem Est.first (h : Est E v1 v2 u2 top D P) : P < (top / v1 + 1) * D := by
  have hq : top + 1 ≤ (top / v1 + 1) * v1 := by
    have := Nat.div_add_mod top v1
    have h2 := Nat.mod_lt top (show 0 < v1 by have := h.hv; omega)
    rw [Nat.add_mul, Nat.mul_comm (top / v1)]
    omega
  have h1 : E * (u2 + 4294967296 * top) + E ≤ E * (4294967296 * ((top / v1 + 1) * v1)) := by
    have : u2 + 4294967296 * top + 1 ≤ 4294967296 * ((top / v1 + 1) * v1) := by have := h.hu2; omega
    have := Nat.mul_le_mul_left E this
    rwa [Nat.mul_add, Nat.mul_one] at this
  have h2 : E * (4294967296 * ((top / v1 + 1) * v1)) ≤ (top / v1 + 1) * D := by
    have e : E * (4294967296 * ((top / v1 + 1) * v1)) = (top / v1 + 1) * (E * (4294967296 * v1)) := by
      rw [← Nat.mul_assoc 4294967296, Nat.mul_comm 4294967296, Nat.mul_assoc, Nat.mul_left_comm]
    rw [e]
    refine Nat.mul_le_mul_left _ (Nat.le_trans ?_ h.d1)
    exact Nat.mul_le_mul_left _ (by omega)
  have := h.p2
  omega
theorem Est.big (h : Est E v1 v2 u2 top D P) (hq : 4294967296 ≤ q) : P < (q - 1 + 1) * D := by
  rw [show q - 1 + 1 = q by omega]
  have := Nat.mul_le_mul_right D hq
  have := h.lt
  omega
theorem Est.over (h : Est E v1 v2 u2 top D P) (hr : q * v1 + r = top) (hg : r * 4294967296 + u2 < q * v2) : P < (q - 1 + 1) * D := by
  have hq0 : 0 < q := by
    rcases Nat.eq_zero_or_pos q with rfl | h
    · rw [Nat.zero_mul] at hg; omega
    · exact h
  rw [show q - 1 + 1 = q by omega]
  have h1 : E * (u2 + 4294967296 * top) + E ≤ E * (q * v2 + 4294967296 * (q * v1)) := by
    have : u2 + 4294967296 * top + 1 ≤ q * v2 + 4294967296 * (q * v1) := by rw [← hr]; omega
    have := Nat.mul_le_mul_left E this
    rwa [Nat.mul_add, Nat.mul_one] at this
  have h2 : E * (q * v2 + 4294967296 * (q * v1)) ≤ q * D := by
    have e : E * (q * v2 + 4294967296 * (q * v1)) = q * (E * (v2 + 4294967296 * v1)) := by
      rw [Nat.mul_left_comm 4294967296, ← Nat.mul_add, Nat.mul_left_comm]
    rw [e]
    exact Nat.mul_le_mul_left _ h.d1
  have := h.p2
  omega
theorem Est.last (h : Est E v1 v2 u2 top D P) (hr : q * v1 + r = top) (hq : q < 4294967296) (hg : q * v2 ≤ r * 4294967296 + u2) : q * D ≤ P + D := by
  have h1 : q * D ≤ q * (E * (v2 + 4294967296 * v1)) + q * E := by
    rw [← Nat.mul_add]
    exact Nat.mul_le_mul_left _ (Nat.le_of_lt h.d2)
  have h2 : q * (E * (v2 + 4294967296 * v1)) ≤ E * (u2 + 4294967296 * top) := by
    have e : q * (E * (v2 + 4294967296 * v1)) = E * (q * v2 + 4294967296 * (q * v1)) := by
      rw [Nat.mul_left_comm 4294967296, ← Nat.mul_add, Nat.mul_left_comm]
    rw [e]
    exact Nat.mul_le_mul_left _ (by rw [← hr]; omega)
  have h3 : q * E ≤ D := by
    have : q * E ≤ E * (v2 + 4294967296 * v1) := by
      rw [Nat.mul_comm]
      exact Nat.mul_le_mul_left _ (by have := h.hv; omega)
    have := h.d1
    omega
  have := h.p1
  omega
/-- the first word bounds the estimate once the remainder has grown out of a word. -/
theorem Est.out (h : Est E v1 v2 u2 top D P) (hr : q * v1 + r = top) (hg : 4294967296 ≤ r) : q < 4294967296 ∧ q * v2 ≤ r * 4294967296 + u2 := by
  have hE : 0 < E := by
    rcases Nat.eq_zero_or_pos E with h0 | h0
    · have := h.d2; rw [h0] at this; have := h.d1; rw [h0] at this; omega
    · exact h0
  have h1 : E * (u2 + 4294967296 * top) < E * (4294967296 * (v2 + 4294967296 * v1 + 1)) := by
    refine Nat.lt_of_le_of_lt h.p1 (Nat.lt_of_lt_of_le h.lt ?_)
    rw [Nat.mul_left_comm]
    refine Nat.mul_le_mul_left _ ?_
    rw [Nat.mul_add, Nat.mul_one]
    exact Nat.le_of_lt h.d2
  have h2 := Nat.lt_of_mul_lt_mul_left h1
  have hv2 := h.hv2
  have hv := h.hv
  have hq : q < 4294967296 := by
    rcases Nat.lt_or_ge q 4294967296 with hl | hl
    · exact hl
    · have := Nat.mul_le_mul_right v1 hl
      omega
  refine ⟨hq, ?_⟩
  have h3 : q * v2 ≤ 4294967296 * 4294967296 := Nat.mul_le_mul (by omega) (by omega)
  omega
end
/-- the numbers of a part and of a divisor are as the estimate takes them. -/
theorem Est.of {ps ds : List Nat} {n : Nat} (hp : W32 ps) (hd : W32 ds) (hpl : ps.length = n + 2 + 1) (hdl : ds.length = n + 2) (hv : 2147483648 ≤ ds[n + 1]) (hlt : val ps < 4294967296 * val ds) :
    Est (4294967296 ^ n) ds[n + 1] ds[n] ps[n] (ps[n + 1] + 4294967296 * ps[n + 2]) (val ds) (val ps) := by
  have d1 := val_take_succ ds n (by omega)
  have d2 := val_take_succ ds (n + 1) (by omega)
  rw [List.take_of_length_le (by omega)] at d2
  have p1 := val_take_succ ps n (by omega)
  have p2 := val_take_succ ps (n + 1) (by omega)
  have p3 := val_take_succ ps (n + 2) (by omega)
  rw [List.take_of_length_le (by omega)] at p3
  have ld := val_lt (hd.take n)
  have lp := val_lt (hp.take n)
  rw [List.length_take, Nat.min_eq_left (by omega)] at ld lp
  have hv2 := hd.get (k := n) (by omega)
  have hv1 := hd.get (k := n + 1) (by omega)
  have hu2 := hp.get (k := n) (by omega)
  have e1 : val ds = val (ds.take n) + 4294967296 ^ n * (ds[n] + 4294967296 * ds[n + 1]) := by
    rw [d2, d1, Nat.mul_add, Nat.pow_succ, Nat.mul_assoc]; omega
  have e2 : val ps = val (ps.take n) + 4294967296 ^ n * (ps[n] + 4294967296 * (ps[n + 1] + 4294967296 * ps[n + 2])) := by
    rw [p3, p2, p1]
    simp only [Nat.pow_succ]
    generalize 4294967296 ^ n = p
    grind
  exact ⟨by omega, by omega, by omega, by omega, hv2, hu2, hv, hv1, hlt⟩

theorem Est.ofn {ps ds : List Nat} {n : Nat} (hp : W32 ps) (hd : W32 ds) (h2 : 2 ≤ n) (hpl : ps.length = n + 1) (hdl : ds.length = n) (hv : 2147483648 ≤ ds[n - 1]) (hlt : val ps < 4294967296 * val ds) :
    Est (4294967296 ^ (n - 2)) ds[n - 1] ds[n - 2] ps[n - 2] (ps[n] * 4294967296 + ps[n - 1]) (val ds) (val ps) := by
  obtain ⟨k, rfl⟩ : ∃ k, n = k + 2 := ⟨n - 2, by omega⟩
  have h := Est.of hp hd hpl hdl hv hlt
  have e : ps[k + 2] * 4294967296 + ps[k + 1] = ps[k + 1] + 4294967296 * ps[k + 2] := by omega
  rw [← e] at h
  exact h

/-! the rounds of the division -/
structure LInv (D N L K i : Nat) (R Q : List Nat) : Prop where
  rl : R.length = L
  rw : W32 R
  ql : Q.length = K
  qw : W32 Q
  lt : val (R.drop i) < D
  eq : val R + 4294967296 ^ i * val (Q.drop i) * D = N
theorem val_drop_succ (xs : List Nat) (i : Nat) (h : i < xs.length) : val (xs.drop i) = xs[i] + 4294967296 * val (xs.drop (i + 1)) := by
  rw [List.drop_eq_getElem_cons h]; rfl
theorem LInv.part {D N L K i n : Nat} {R Q : List Nat} (h : LInv D N L K (i + 1) R Q) (hi : i < K) (hL : n + K = L) (hD : D < 4294967296 ^ n) :
    val (R.drop (i + n + 1)) = 0 ∧ val ((R.drop i).take (n + 1)) = val (R.drop i) ∧ val ((R.drop i).take (n + 1)) < 4294967296 * D := by
  have hr := h.rl
  have e1 := val_drop_succ R i (by omega)
  have hx := h.rw.get (k := i) (by omega)
  have hlt := h.lt
  have h1 : val (R.drop i) < 4294967296 * D := by omega
  have e2 := val_split (R.drop i) (n + 1) (by rw [List.length_drop]; omega)
  rw [List.drop_drop, ← Nat.add_assoc, Nat.pow_succ] at e2
  have h0 : val (R.drop (i + n + 1)) = 0 := by
    rcases Nat.eq_zero_or_pos (val (R.drop (i + n + 1))) with h0 | h0
    · exact h0
    · have : 4294967296 ^ (n + 1) * 1 ≤ 4294967296 ^ (n + 1) * val (R.drop (i + n + 1)) := Nat.mul_le_mul_left _ h0
      rw [Nat.pow_succ] at this
      omega
  rw [h0, Nat.mul_zero] at e2
  exact ⟨h0, by omega, by omega⟩
theorem LInv.step {D N L K i n w : Nat} {R Q ps : List Nat} (h : LInv D N L K (i + 1) R Q) (hi : i < K) (hL : n + K = L) (hD : D < 4294967296 ^ n) (hps : ps.length = n + 1) (hpw : W32 ps) (hw : w < 4294967296)
    (hlt : val ps < D) (he : val ps + w * D = val ((R.drop i).take (n + 1))) : LInv D N L K i (R.take i ++ ps ++ R.drop (i + n + 1)) (Q.set i w) := by
  obtain ⟨h0, h1, _⟩ := h.part hi hL hD
  have hr := h.rl
  have hq := h.ql
  have htl : (R.take i).length = i := by rw [List.length_take]; omega
  have hd : val ((R.take i ++ ps ++ R.drop (i + n + 1)).drop i) = val ps := by
    rw [List.append_assoc, List.drop_append_of_le_length (by omega), List.drop_of_length_le (by omega), List.nil_append, val_append, h0, Nat.mul_zero, Nat.add_zero]
  refine ⟨?_, ((h.rw.take _).append hpw).append (h.rw.drop _), by simpa using hq, h.qw.set _ hw, by rw [hd]; exact hlt, ?_⟩
  · simp only [List.length_append, htl, hps, List.length_drop, hr]; omega
  · have e := h.eq
    have eR := val_split R i (by omega)
    have e2 : val (R.take i ++ ps ++ R.drop (i + n + 1)) = val (R.take i) + 4294967296 ^ i * val ps := by
      rw [val_append, h0, Nat.mul_zero, Nat.add_zero, val_append, htl]
    have e3 : val ((Q.set i w).drop i) = w + 4294967296 * val (Q.drop (i + 1)) := by
      rw [val_drop_succ _ i (by simp; omega), drop_set_succ]
      simp
    rw [e2, e3, ← e, eR, ← h1, ← he, Nat.pow_succ]
    generalize 4294967296 ^ i = p
    generalize val (Q.drop (i + 1)) = t
    rw [Nat.mul_add p w, Nat.add_mul, Nat.mul_add p (val ps), ← Nat.mul_assoc p w D, ← Nat.mul_assoc p 4294967296 t]
    omega
theorem LInv.start {a b s la lb : Nat} {R : List Nat} {Q : List Nat} (hR : R.length = la + 1) (hRw : W32 R) (hQ : Q = List.replicate (la - lb + 1) 0) (hv : val R = a * 2 ^ s) (hab : lb ≤ la) (h1 : 0 < lb) (ha : a < 4294967296 ^ la) (hb : 4294967296 ^ (lb - 1) ≤ b) :
    LInv (b * 2 ^ s) (a * 2 ^ s) (la + 1) (la - lb + 1) (la - lb + 1) R Q := by
  subst hQ
  refine ⟨hR, hRw, by simp, W32.replicate _, ?_, ?_⟩
  · rw [val_drop hRw, hv]
    refine Nat.div_lt_of_lt_mul ?_
    rw [← Nat.mul_assoc]
    refine Nat.mul_lt_mul_of_pos_right ?_ (Nat.two_pow_pos s)
    refine Nat.lt_of_lt_of_le ha ?_
    have e : 4294967296 ^ la = 4294967296 ^ (la - lb + 1) * 4294967296 ^ (lb - 1) := by rw [← Nat.pow_add]; congr 1; omega
    rw [e]
    exact Nat.mul_le_mul_left _ hb
  · rw [List.drop_of_length_le (by simp), hv]
    simp [val]
theorem LInv.done {a b s L K : Nat} {R Q : List Nat} (h : LInv (b * 2 ^ s) (a * 2 ^ s) L K 0 R Q) : val Q = a / b ∧ val R / 2 ^ s = a % b := by
  have hp := Nat.two_pow_pos s
  have e := h.eq
  have hl := h.lt
  rw [List.drop_zero] at e hl
  rw [Nat.pow_zero, Nat.one_mul] at e
  have hb : 0 < b * 2 ^ s := by omega
  have e1 : val Q = a * 2 ^ s / (b * 2 ^ s) := by
    rw [← e, Nat.add_mul_div_right _ _ hb, Nat.div_eq_of_lt hl, Nat.zero_add]
  have e2 : val R = a * 2 ^ s % (b * 2 ^ s) := by
    rw [← e, Nat.add_mul_mod_self_right, Nat.mod_eq_of_lt hl]
  refine ⟨by rw [e1, Nat.mul_div_mul_right _ _ hp], ?_⟩
  rw [e2, Nat.mul_mod_mul_right, Nat.mul_div_cancel _ hp]
/-- a subtraction that did not pass 0. -/
theorem sub_fit {P D w p1 : Nat} (h1 : P < (w + 1) * D) (h2 : p1 + D * w = P) : p1 < D ∧ p1 + w * D = P := by
  rw [Nat.add_mul, Nat.one_mul] at h1
  rw [Nat.mul_comm D] at h2
  omega
/-- a subtraction that passed 0 is made good by one addition. -/
theorem sub_back {P D w p1 p2 M c : Nat} (h1 : P < w * D) (h2 : w * D ≤ P + D) (h3 : p1 + D * w = P + M) (h4 : p2 + M * c = p1 + D) (hc : c ≤ 1) (h5 : p2 < M) : 0 < w ∧ p2 < D ∧ p2 + (w - 1) * D = P := by
  have hw : 0 < w := by
    rcases Nat.eq_zero_or_pos w with rfl | h
    · rw [Nat.zero_mul] at h1; omega
    · exact h
  obtain ⟨v, rfl⟩ : ∃ v, w = v + 1 := ⟨w - 1, by omega⟩
  rw [Nat.mul_comm D] at h3
  rw [Nat.add_mul, Nat.one_mul] at h1 h2 h3
  rw [Nat.add_sub_cancel]
  generalize v * D = T at *
  obtain rfl | rfl : c = 0 ∨ c = 1 := by omega
  · rw [Nat.mul_zero] at h4; omega
  · rw [Nat.mul_one] at h4; omega

/-! division by a word -/
structure DwInv (xs zs : List Nat) (v i r : Nat) : Prop where
  len : zs.length = xs.length
  w32 : W32 zs
  lt : r < v
  eq : val (xs.drop i) = val (zs.drop i) * v + r
theorem DwInv.start {xs zs : List Nat} {v : Nat} (hl : zs.length = xs.length) (hw : W32 zs) (hv : 0 < v) : DwInv xs zs v xs.length 0 := by
  refine ⟨hl, hw, hv, ?_⟩
  rw [List.drop_of_length_le (Nat.le_refl _), List.drop_of_length_le (by omega)]
  simp [val]
theorem dw_lt {v r x : Nat} (hr : r < v) (hx : x < 4294967296) : (r * 4294967296 + x) / v < 4294967296 := by
  rw [Nat.div_lt_iff_lt_mul (by omega)]
  have : (r + 1) * 4294967296 ≤ v * 4294967296 := Nat.mul_le_mul_right _ hr
  rw [Nat.mul_comm 4294967296]
  omega
theorem DwInv.step {xs zs : List Nat} {v i r : Nat} (h : DwInv xs zs v (i + 1) r) (hx : W32 xs) (hi : i < xs.length) :
    DwInv xs (zs.set i ((r * 4294967296 + xs[i]) / v)) v i ((r * 4294967296 + xs[i]) % v) := by
  have hl := h.len
  have hlt := h.lt
  have hq := dw_lt hlt (hx.get hi)
  refine ⟨by simpa using hl, h.w32.set _ hq, Nat.mod_lt _ (by omega), ?_⟩
  rw [val_drop_succ xs i hi, val_drop_succ _ i (by simp; omega), drop_set_succ, h.eq]
  simp only [List.getElem_set_self]
  have e := Nat.div_add_mod (r * 4294967296 + xs[i]) v
  rw [Nat.mul_comm v] at e
  rw [Nat.add_mul, Nat.mul_assoc]
  omega
theorem DwInv.done {xs zs : List Nat} {v r : Nat} (h : DwInv xs zs v 0 r) : val zs = val xs / v ∧ r = val xs % v := by
  have e := h.eq
  have hl := h.lt
  rw [List.drop_zero, List.drop_zero] at e
  rw [e, Nat.mul_comm, Nat.mul_add_div (by omega), Nat.div_eq_of_lt hl, Nat.mul_add_mod, Nat.mod_eq_of_lt hl]
  exact ⟨rfl, rfl⟩
end Go.Proofs.YtmjmcinnbmjpdaaDoor
