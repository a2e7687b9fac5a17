/- Walks and laws, part 12. -/
import Derived.Test.YtmjmcinnbmjpdaaDoorMg5
import Derived.Test.YtmjmcinnbmjpdaaDoorMg6
import Derived.Test.YtmjmcinnbmjpdaaDoorMg7
import Derived.Test.YtmjmcinnbmjpdaaDoorMg10
import Derived.Test.YtmjmcinnbmjpdaaDoorMg11
import Derived.Lib.ItoaNum
namespace Go.Proofs.YtmjmcinnbmjpdaaDoor
open Go.RowKit
theorem high_or {a b : Nat} (ha : a < 4294967296) (hb : b < 4294967296) : bits .or .u64 ((b : Int) * 4294967296) (a : Int) = ((b * 4294967296 + a : Nat) : Int) := by
  have e : (b : Int) * 4294967296 = ((b * 4294967296 : Nat) : Int) := by rw [Int.natCast_mul]; rfl
  rw [e]
  rw [u64_or_nat (b * 4294967296) a (by omega) (by omega)]
  have := Nat.two_pow_add_eq_or_of_lt (i := 32) (show a < 2 ^ 32 by omega) b
  rw [Nat.mul_comm b]
  exact congrArg Int.ofNat this.symm
theorem wrap_u64_nat {a : Nat} (h : a < 18446744073709551616) : IntKind.u64.wrap (a : Int) = (a : Int) := by rw [IntKind.wrap_u64]; omega
theorem est_dec {q r v T : Nat} (h : q * v + r = T) (hq : 1 ≤ q) : (q - 1) * v + (r + v) = T := by
  obtain ⟨p, rfl⟩ : ∃ p, q = p + 1 := ⟨q - 1, by omega⟩
  rw [Nat.succ_mul] at h
  rw [Nat.add_sub_cancel]
  omega
theorem est_ret {q : Nat} {X : Int} (h : q < 4294967296) (hX : X = (q : Int)) : Ending.returned (.int .u32 (X % 4294967296)) = .returned (.int .u32 (q : Int)) := by
  subst hX
  rw [show ((q : Nat) : Int) % 4294967296 = (q : Int) by omega]
theorem est_ret2 {q : Nat} {X : Int} (hX : X = (q : Int)) : Ending.returned (.int .u32 X) = .returned (.int .u32 (q : Int)) := by rw [hX]
section
variable {A B : Option Addr} {c d n m : Nat} {xs ys : List Nat} {w : World} {s t : Bool}
set_option maxHeartbeats 1000000 in
theorem int_divideByWord {g cz v : Nat} {zs0 : List Nat} (hblk0 : BlkN w g zs0) (hn : zs0.length = n) (hw : W32 zs0) (hv0 : 0 < v) (hv : v < 4294967296) (h1 : n ≤ 1000000) :
    Calls Tryd.prog 56 #[.slice (some ⟨g, 0, none⟩) n cz, .int .u32 (v : Int)] w fun e w' => ∃ zs, e = .returned (.int .u32 ((val zs0 % v : Nat) : Int)) ∧ zs.length = n ∧ W32 zs ∧ BlkN w' g zs ∧ val zs = val zs0 / v ∧ Mod w w' g := by
  subst hn
  have hz0 : ((v : Int) == 0) = false := by rw [beq_eq_false_iff_ne]; omega
  have hp1 : (1 : Int) ≤ (v : Int) := by omega
  go_enter Tryd.func56, Tryd.ntmps56
  go_wp2
  go_loopw [5, 6] (fun r i wr => ∃ (k p : Nat) (zs : List Nat), k ≤ zs0.length ∧ i = .int .i64 ((k : Int) - 1) ∧ r = .int .u64 (p : Int) ∧ DwInv zs0 zs v k p ∧ zs.take k = zs0.take k ∧ BlkN wr g zs ∧ Mod w wr g) (fun _ i _ => (intOf i + 1).toNat)
  case atStart => exact ⟨zs0.length, 0, zs0, by omega, rfl, rfl, DwInv.start rfl hw hv0, rfl, hblk0, Mod.refl _ _⟩
  case round =>
    obtain ⟨k, p, zs, hk, rfl, rfl, hinv, htk, hblk, hmod⟩ := hrel
    have hpv := hinv.lt
    have hzl := hinv.len
    rcases k with _ | j
    · have Hd := Lib.hid hinv.done
      rw [show (((0 : Nat) : Int) - 1) = -1 from rfl]
      have hp32 : p < 4294967296 := by omega
      go_wp2
      go_ret
      exact ⟨zs, by rw [Hd.out.2]; rfl, hzl, hinv.w32, hblk, Hd.out.1, hmod⟩
    · rw [show (((j + 1 : Nat) : Int) - 1) = (j : Int) by omega]
      have hc := hblk.cell (i := j) (by omega)
      have hzj : zs[j]'(by omega) = zs0[j]'(by omega) := by
        have := congrArg (fun l : List Nat => l[j]?) htk
        simpa [List.getElem?_take, List.getElem?_eq_getElem, show j < zs.length by omega, show j < zs0.length by omega] using this
      rw [hzj] at hc
      have hst := hinv.step hw (by omega)
      have htk2 : (zs.set j ((p * 4294967296 + zs0[j]'(by omega)) / v)).take j = zs0.take j := by
        rw [take_set_self]
        have := congrArg (fun l : List Nat => l.take j) htk
        simpa [List.take_take] using this
      have hx := hw.get (k := j) (by omega)
      have hq := dw_lt hpv hx
      have hor := high_or (b := p) hx (by omega)
      have hnl : p * 4294967296 + zs0[j]'(by omega) < 18446744073709551616 := by omega
      generalize zs0[j]'(by omega) = X at *
      generalize p * 4294967296 + X = NV at *
      have hr := Nat.mod_lt NV hv0
      have hq' : (NV : Int).tdiv (v : Int) = ((NV / v : Nat) : Int) := rfl
      have hr' : (NV : Int).tmod (v : Int) = ((NV % v : Nat) : Int) := rfl
      generalize NV / v = U at *
      generalize NV % v = V at *
      have hwu := wrap_u64_nat (a := U) (by omega)
      have hwv := wrap_u64_nat (a := V) (by omega)
      have hfz := hblk.frozen j
      have Hst := Lib.hid hst
      have Htk := Lib.hid htk2
      clear hst htk2 htk hzj hinv
      go_wp2
      go_roundw
      case rel => exact ⟨j, V, _, by omega, rfl, rfl, Hst.out, Htk.out, hblk.set j rfl, hmod.setCell _ _⟩
      case measure => simp [intOf]
set_option maxHeartbeats 2000000 in
theorem int_estimate {ps ds : List Nat} (hpl : ps.length = n + 1) (hdl : ds.length = n) (h2 : 2 ≤ n) (hp : Rd w A ps) (hd : Rd w B ds) (hv : 2147483648 ≤ ds[n - 1]'(by omega)) (hlt : val ps < 4294967296 * val ds) (h1 : n ≤ 100000) :
    Calls Tryd.prog 79 #[.slice A (n + 1) c, .slice B n d] w fun e w' => ∃ q : Nat, e = .returned (.int .u32 (q : Int)) ∧ q < 4294967296 ∧ val ps < (q + 1) * val ds ∧ q * val ds ≤ val ps + val ds ∧ Ext w w' := by
  have hE := Est.ofn hp.1 hd.1 h2 hpl hdl hv hlt
  obtain ⟨b1, o1, rfl, hb1, c0⟩ := hp.at_ (i := n) (by omega)
  obtain ⟨b1', o1', he, _, c1⟩ := hp.at_ (i := n - 1) (by omega)
  injection he with he
  injection he with he1 he2
  subst he1; subst he2
  obtain ⟨b1', o1', he, _, c2⟩ := hp.at_ (i := n - 2) (by omega)
  injection he with he
  injection he with he1 he2
  subst he1; subst he2
  obtain ⟨b2, o2, rfl, hb2, d1⟩ := hd.at_ (i := n - 1) (by omega)
  obtain ⟨b2', o2', he, _, d2⟩ := hd.at_ (i := n - 2) (by omega)
  injection he with he
  injection he with he1 he2
  subst he1; subst he2
  have hu0 := hp.1.get (k := n) (by omega)
  have hu1 := hp.1.get (k := n - 1) (by omega)
  have hu2 := hp.1.get (k := n - 2) (by omega)
  have hv1 := hd.1.get (k := n - 1) (by omega)
  have hv2 := hd.1.get (k := n - 2) (by omega)
  have hor := high_or hu1 hu0
  have hnl : ps[n]'(by omega) * 4294967296 + ps[n - 1]'(by omega) < 18446744073709551616 := by omega
  generalize ps[n]'(by omega) = U0 at *
  generalize ps[n - 1]'(by omega) = U1 at *
  generalize ps[n - 2]'(by omega) = U2 at *
  generalize ds[n - 1]'(by omega) = V1 at *
  generalize ds[n - 2]'(by omega) = V2 at *
  generalize U0 * 4294967296 + U1 = T at *
  have hz0 : ((V1 : Int) == 0) = false := by rw [beq_eq_false_iff_ne]; omega
  have hp1 : (1 : Int) ≤ (V1 : Int) := by omega
  have hfirst := hE.first
  have hdm : T / V1 * V1 + T % V1 = T := by rw [Nat.mul_comm]; exact Nat.div_add_mod T V1
  have hr := Nat.mod_lt T (show 0 < V1 by omega)
  have hq' : (T : Int).tdiv (V1 : Int) = ((T / V1 : Nat) : Int) := rfl
  have hr' : (T : Int).tmod (V1 : Int) = ((T % V1 : Nat) : Int) := rfl
  generalize T / V1 = Q at *
  generalize T % V1 = R at *
  generalize val ps = P at *
  generalize val ds = D at *
  have hQ : Q < 18446744073709551616 := by
    have : Q * 1 ≤ Q * V1 := Nat.mul_le_mul_left _ (by omega)
    omega
  have hwu := wrap_u64_nat hQ
  have hwv := wrap_u64_nat (a := R) (by omega)
  have Hpl := Lib.hid hpl
  have Hdl := Lib.hid hdl
  have Hfirst := Lib.hid hfirst
  have Hdm := Lib.hid hdm
  have HE := Lib.hid hE
  clear hpl hdl hfirst hdm hE hlt
  go_enter Tryd.func79, Tryd.ntmps79
  go_wp2
  go_quiet (fail)
  go_wp2
  go_quiet (fail)
  go_wp2
  go_quiet (fail)
  go_wp2
  go_loopw [9, 10] (fun x y wr => ∃ (q r : Nat), x = .int .u64 (q : Int) ∧ y = .int .u64 (r : Int) ∧ P < (q + 1) * D ∧ q * V1 + r = T ∧ r < 4294967296 ∧ Ext w wr) (fun _ y _ => 4294967296 - (intOf y).toNat)
  case atStart => exact ⟨Q, R, rfl, rfl, Hfirst.out, Hdm.out, by omega, by first | exact (Ext.refl w).drewN _ | exact ((Ext.refl w).drewN _).drewN _ | exact (((Ext.refl w).drewN _).drewN _).drewN _⟩
  case round =>
    obtain ⟨q, r, rfl, rfl, hP, hT, hr32, hext⟩ := hrel
    have cu := hext.cellv c2
    have hql : q ≤ T := by
      have : q * 1 ≤ q * V1 := Nat.mul_le_mul_left _ (by omega)
      omega
    by_cases hbig : 4294967296 ≤ q
    · have d1 : decide ((4294967296 : Int) ≤ (q : Int)) = true := decide_eq_true (by omega)
      have HP' := Lib.hid (HE.out.big hbig)
      have hq0 : 1 ≤ (q : Int) := by omega
      have HT' := Lib.hid (est_dec hT (by omega))
      clear hP hT
      by_cases hout : 4294967296 ≤ r + V1
      · have d2 : decide ((4294967296 : Int) ≤ (r : Int) + (V1 : Int)) = true := decide_eq_true (by omega)
        have Hout := Lib.hid (HE.out.out HT'.out hout)
        go_wp2
        go_ret
        exact ⟨q - 1, by first | exact est_ret Hout.out.1 (by omega) | exact est_ret2 (by omega), Hout.out.1, HP'.out, HE.out.last HT'.out Hout.out.1 Hout.out.2, hext⟩
      · have d2 : decide ((4294967296 : Int) ≤ (r : Int) + (V1 : Int)) = false := decide_eq_false (by omega)
        go_wp2
        go_roundw
        case rel => exact ⟨q - 1, r + V1, congrArg (Value.int .u64) (by omega), congrArg (Value.int .u64) (by omega), HP'.out, HT'.out, by omega, hext⟩
        case measure => simp [intOf]; omega
    · have d1 : decide ((4294967296 : Int) ≤ (q : Int)) = false := decide_eq_false (by omega)
      have hor2 := high_or (b := r) hu2 hr32
      have hM : (q : Int) * (V2 : Int) = ((q * V2 : Nat) : Int) := (Int.natCast_mul q V2).symm
      have hMl := mul_word (x := q) (w := V2) (by omega) hv2
      have hover : r * 4294967296 + U2 < q * V2 → P < (q - 1 + 1) * D := fun h => HE.out.over hT h
      have hlast : q * V2 ≤ r * 4294967296 + U2 → q * D ≤ P + D := fun h => HE.out.last hT (by omega) h
      have hq00 : q = 0 → q * V2 = 0 := fun h => by rw [h, Nat.zero_mul]
      have hN2l : r * 4294967296 + U2 < 18446744073709551616 := by omega
      generalize q * V2 = M at *
      generalize r * 4294967296 + U2 = N2 at *
      have Hlast := Lib.hid hlast
      have hwm := wrap_u64_nat (a := M) (by omega)
      by_cases hgt : N2 < M
      · have HP' := Lib.hid (hover hgt)
        have d3 : decide ((N2 : Int) < (M : Int)) = true := decide_eq_true (by omega)
        clear hover hlast
        have hq0 : 1 ≤ (q : Int) := by omega
        have HT' := Lib.hid (est_dec hT (by omega))
        clear hP hT
        by_cases hout : 4294967296 ≤ r + V1
        · have d2 : decide ((4294967296 : Int) ≤ (r : Int) + (V1 : Int)) = true := decide_eq_true (by omega)
          have Hout := Lib.hid (HE.out.out HT'.out hout)
          go_wp2
          go_ret
          exact ⟨q - 1, by first | exact est_ret Hout.out.1 (by omega) | exact est_ret2 (by omega), Hout.out.1, HP'.out, HE.out.last HT'.out Hout.out.1 Hout.out.2, hext⟩
        · have d2 : decide ((4294967296 : Int) ≤ (r : Int) + (V1 : Int)) = false := decide_eq_false (by omega)
          go_wp2
          go_roundw
          case rel => exact ⟨q - 1, r + V1, congrArg (Value.int .u64) (by omega), congrArg (Value.int .u64) (by omega), HP'.out, HT'.out, by omega, hext⟩
          case measure => simp [intOf]; omega
      · have d3 : decide ((N2 : Int) < (M : Int)) = false := decide_eq_false (by omega)
        have HP := Lib.hid hP
        clear hover hlast hP hT
        go_wp2
        go_ret
        exact ⟨q, by first | exact est_ret (by omega) rfl | exact est_ret2 rfl, by omega, HP.out, Hlast.out (by omega), hext⟩
end
end Go.Proofs.YtmjmcinnbmjpdaaDoor
namespace Go.Proofs.YtmjmcinnbmjpdaaDoor
open Go.RowKit
theorem sm_low {z s : Nat} {S : Int} (hS : S = s) (hz : z < 4294967296) (h : ¬ s % 4294967296 ≤ z) : IntKind.u64.wrap ((z : Int) - S % 4294967296) % 4294967296 = ((z + 4294967296 - s % 4294967296 : Nat) : Int) := by
  subst hS; rw [IntKind.wrap_u64]; omega
theorem sm_top {z s : Nat} {S : Int} (hS : S = s) (hz : z < 4294967296) (h : ¬ s % 4294967296 ≤ z) : IntKind.u64.wrap ((z : Int) - S % 4294967296) / 9223372036854775808 = 1 := by
  subst hS; rw [IntKind.wrap_u64]; omega
theorem sm_low0 {z s : Nat} {S : Int} (hS : S = s) (hz : z < 4294967296) (h : s % 4294967296 ≤ z) : IntKind.u64.wrap ((z : Int) - S % 4294967296) % 4294967296 = ((z - s % 4294967296 : Nat) : Int) := by
  subst hS; rw [IntKind.wrap_u64]; omega
theorem sm_car0 {z s : Nat} {S : Int} (hS : S = s) (hz : z < 4294967296) (h : s % 4294967296 ≤ z) (hs : s ≤ 18446744069414584320) : IntKind.u64.wrap (S / 4294967296 + IntKind.u64.wrap ((z : Int) - S % 4294967296) / 9223372036854775808) = ((s / 4294967296 + 0 : Nat) : Int) := by
  subst hS; rw [IntKind.wrap_u64, IntKind.wrap_u64]; omega
theorem sm_car1 {z s : Nat} {S : Int} (hS : S = s) (hz : z < 4294967296) (h : ¬ s % 4294967296 ≤ z) (hs : s ≤ 18446744069414584320) : IntKind.u64.wrap (S / 4294967296 + IntKind.u64.wrap ((z : Int) - S % 4294967296) / 9223372036854775808) = ((s / 4294967296 + 1 : Nat) : Int) := by
  rw [sm_top hS hz h]; subst hS; rw [IntKind.wrap_u64]; omega
theorem sm_end_low {z c : Nat} (hz : z < 4294967296) (hc : c < 4294967296) (h : ¬ c ≤ z) : IntKind.u64.wrap ((z : Int) - (c : Int)) % 4294967296 = ((z + 4294967296 - c : Nat) : Int) := by
  rw [IntKind.wrap_u64]; omega
theorem sm_end_top {z c : Nat} (hz : z < 4294967296) (hc : c < 4294967296) (h : ¬ c ≤ z) : IntKind.u64.wrap ((z : Int) - (c : Int)) / 9223372036854775808 = 1 := by
  rw [IntKind.wrap_u64]; omega
section
variable {A B : Option Addr} {c d m : Nat} {xs ys : List Nat} {w : World}
set_option maxHeartbeats 2000000 in
theorem int_subtractMultiple {g off n cz : Nat} {pre zs0 post : List Nat} {q : Nat} (hblk0 : BlkN w g (pre ++ zs0 ++ post)) (hoff : pre.length = off) (hn : zs0.length = n) (hw : W32 zs0) (hy : Rd w B ys) (hm : ys.length = m) (hap : Apart B ys g)
    (hl : m + 1 = n) (hq : q < 4294967296) (h1 : n ≤ 1000000) (hcz : n ≤ cz) (_hczm : cz ≤ maxLen) :
    Calls Tryd.prog 80 #[.slice (some ⟨g, off, none⟩) n cz, .slice B m d, .int .u32 (q : Int)] w fun e w' => ∃ (zs : List Nat) (b : Nat), e = .returned (.bool (decide (b = 1))) ∧ b ≤ 1 ∧ zs.length = n ∧ W32 zs ∧ BlkN w' g (pre ++ zs ++ post) ∧ val zs + val ys * q = val zs0 + 4294967296 ^ n * b ∧ Mod w w' g := by
  have Hoff := Lib.hid hoff
  have Hn := Lib.hid hn
  have Hm := Lib.hid hm
  clear hoff hn hm
  have hmcz : m ≤ cz := by omega
  go_enter Tryd.func80, Tryd.ntmps80
  go_wp2
  go_loopw [7, 19] (fun cr i wr => ∃ (k : Nat) (zs : List Nat) (cy : Nat), k ≤ m ∧ i = .int .i64 (k : Int) ∧ cr = .int .u64 (cy : Int) ∧ SmInv zs0 ys q k zs cy ∧ BlkN wr g (pre ++ zs ++ post) ∧ Mod w wr g) (fun _ i _ => m - (intOf i).toNat)
  case atStart => exact ⟨0, zs0, 0, by omega, rfl, rfl, SmInv.start hw, hblk0, Mod.refl _ _⟩
  case round =>
    obtain ⟨k, zs, cy, hk, rfl, rfl, hinv, hblk, hmod⟩ := hrel
    have hcy := hinv.hcy
    have hzl : n ≤ zs.length := by rw [hinv.len, Hn.out]; omega
    have hzl2 : zs.length ≤ n := by rw [hinv.len, Hn.out]; omega
    have hyl : m ≤ ys.length := by rw [Hm.out]; omega
    have hyl2 : ys.length ≤ m := by rw [Hm.out]; omega
    by_cases hlt : k < m
    · obtain ⟨b, off', rfl, hb, hc1⟩ := (hy.mod hmod hap).at_ (i := k) (by omega)
      have hyk := hy.1.get (k := k) (by omega)
      obtain ⟨b2, off2, he, hb2, hc2⟩ := (hblk.mid hinv.w32 Hoff.out).at_ (i := k) (by omega)
      injection he with he
      injection he with he1 he2
      subst he1; subst he2
      have hzk := hinv.w32.get (k := k) (by omega)
      have hfz := hblk.frozen (off + k)
      have hmi := (mul_word_int hyk hq).1
      have hmj := (mul_word_int hyk hq).2
      have hS : (cy : Int) + ((ys[k]'(by omega) : Nat) : Int) * (q : Int) = ((cy + ys[k]'(by omega) * q : Nat) : Int) := by rw [Int.natCast_add, Int.natCast_mul]
      have hsl : cy + ys[k]'(by omega) * q ≤ 18446744069414584320 := by
        have := mul_word hyk hq
        omega
      have hst : ∀ (dd bb : Nat), dd < 4294967296 → bb ≤ 1 → dd + (cy + ys[k]'(by omega) * q) % 4294967296 = zs[k]'(by omega) + 4294967296 * bb → SmInv zs0 ys q (k + 1) (zs.set k dd) ((cy + ys[k]'(by omega) * q) / 4294967296 + bb) := fun dd bb h1 h2 h3 => hinv.step hy.1 hq (by omega) (by omega) rfl h1 h2 h3
      generalize cy + ys[k]'(by omega) * q = S at hS hsl hst
      by_cases hbor : S % 4294967296 ≤ zs[k]'(by omega)
      · have HS := Lib.hid (And.intro hS (And.intro hsl hbor))
        clear hS hsl hbor
        go_wp2
        go_roundw
        case rel =>
          obtain ⟨hS, hsl, hbor⟩ := HS.out
          exact ⟨k + 1, zs.set k (zs[k]'(by omega) - S % 4294967296), _, by omega, by go_num, congrArg _ (sm_car0 hS hzk hbor hsl), hst _ 0 (by omega) (by omega) (by omega), hblk.setMid Hoff.out (by omega) (sm_low0 hS hzk hbor), hmod.setCell _ _⟩
        case measure => simp [intOf]; omega
      · have HS := Lib.hid (And.intro hS (And.intro hsl hbor))
        clear hS hsl hbor
        go_wp2
        go_roundw
        case rel =>
          obtain ⟨hS, hsl, hbor⟩ := HS.out
          exact ⟨k + 1, zs.set k (zs[k]'(by omega) + 4294967296 - S % 4294967296), _, by omega, by go_num, congrArg _ (sm_car1 hS hzk hbor hsl), hst _ 1 (by omega) (by omega) (by omega), hblk.setMid Hoff.out (by omega) (sm_low hS hzk hbor), hmod.setCell _ _⟩
        case measure => simp [intOf]; omega
    · have hk' : k = m := by omega
      subst hk'
      obtain ⟨b2, off2, he, hb2, hc2⟩ := (hblk.mid hinv.w32 Hoff.out).at_ (i := k) (by omega)
      injection he with he
      injection he with he1 he2
      subst he1; subst he2
      have hzk := hinv.w32.get (k := k) (by omega)
      have hfz := hblk.frozen (off + k)
      have hat := hinv.at_ (k := k) (by omega)
      obtain rfl : ys.length = k := Hm.out
      have hdn : ∀ dd bb : Nat, dd + cy = zs[ys.length]'(by omega) + 4294967296 * bb → val (zs.set ys.length dd) + val ys * q = val zs0 + 4294967296 ^ (ys.length + 1) * bb := fun dd bb h => hinv.done (by rw [Hn.out]; omega) (by rw [← hat]; exact h)
      have Hdn := Lib.hid hdn
      have Hw := Lib.hid hinv.w32
      clear hdn hat hinv
      generalize hZ : zs[ys.length]'(by omega) = Z at *
      clear hZ
      by_cases hbor : cy ≤ Z
      · have e0 : (((Z : Int) - (cy : Int)) / 9223372036854775808 == 1) = false := by rw [beq_eq_false_iff_ne]; omega
        have hb := hblk.setMid Hoff.out (i := ys.length) (by omega) (v := (Z : Int) - (cy : Int)) (n := Z - cy) (by omega)
        rw [List.append_assoc] at hb
        go_wp2
        go_ret
        exact ⟨zs.set ys.length (Z - cy), 0, rfl, by omega, by simp; omega, Hw.out.set _ (by omega), hb, by rw [← hl]; exact Hdn.out _ 0 (by omega), hmod.setCell _ _⟩
      · have e1 := sm_end_top hzk hcy hbor
        have e2 := sm_end_low hzk hcy hbor
        have hb := hblk.setMid Hoff.out (i := ys.length) (by omega) (v := ((Z + 4294967296 - cy : Nat) : Int)) (n := Z + 4294967296 - cy) rfl
        rw [List.append_assoc] at hb
        go_wp2
        go_ret
        exact ⟨zs.set ys.length (Z + 4294967296 - cy), 1, rfl, by omega, by simp; omega, Hw.out.set _ (by omega), hb, by rw [← hl]; exact Hdn.out _ 1 (by omega), hmod.setCell _ _⟩
end
end Go.Proofs.YtmjmcinnbmjpdaaDoor
namespace Go.Proofs.YtmjmcinnbmjpdaaDoor
open Go.RowKit
theorem bitLen_bounds {x : Nat} (h : x < 4294967296) (h0 : x ≠ 0) : 1 ≤ Lib.bitLen x ∧ Lib.bitLen x ≤ 32 ∧ 2 ^ (Lib.bitLen x - 1) ≤ x ∧ x < 2 ^ Lib.bitLen x := by
  obtain ⟨a, b, c⟩ := Lib.bitLenAux_bounds 64 x (by omega) h0
  exact ⟨a, Lib.bitLen_le x 32 (by omega) (by omega), b, c⟩
/-- the shift that lays the first digit of a word at its top. -/
theorem shift_top {x : Nat} (h : x < 4294967296) (h0 : x ≠ 0) : 2147483648 ≤ x * 2 ^ (32 - Lib.bitLen x) ∧ (x + 1) * 2 ^ (32 - Lib.bitLen x) ≤ 4294967296 ∧ Lib.bitLen x ≤ 32 ∧ 1 ≤ Lib.bitLen x := by
  obtain ⟨a, b, c, d⟩ := bitLen_bounds h h0
  refine ⟨?_, ?_, b, a⟩
  · have e : (2147483648 : Nat) = 2 ^ (Lib.bitLen x - 1) * 2 ^ (32 - Lib.bitLen x) := by
      rw [← Nat.pow_add, show Lib.bitLen x - 1 + (32 - Lib.bitLen x) = 31 by omega]
    rw [e]
    exact Nat.mul_le_mul_right _ c
  · have e : (4294967296 : Nat) = 2 ^ Lib.bitLen x * 2 ^ (32 - Lib.bitLen x) := by
      rw [← Nat.pow_add, show Lib.bitLen x + (32 - Lib.bitLen x) = 32 by omega]
    rw [e]
    exact Nat.mul_le_mul_right _ d
theorem div_norm {ys zs : List Nat} {m p : Nat} (hy : W32 ys) (hm : ys.length = m) (h0 : 0 < m) (h1 : 2147483648 ≤ ys[m - 1]'(by omega) * p) (h2 : (ys[m - 1]'(by omega) + 1) * p ≤ 4294967296) (hz : W32 zs) (hn : Nrm zs) (hv : val zs = val ys * p) :
    zs.length = m ∧ val zs < 4294967296 ^ m ∧ ∀ h : m - 1 < zs.length, 2147483648 ≤ zs[m - 1] := by
  obtain ⟨k, rfl⟩ : ∃ k, m = k + 1 := ⟨m - 1, by omega⟩
  simp only [Nat.add_sub_cancel] at h1 h2 ⊢
  have e := val_take_succ ys k (by omega)
  rw [List.take_of_length_le (by omega)] at e
  have hl := val_lt (hy.take k)
  rw [List.length_take, Nat.min_eq_left (by omega)] at hl
  generalize ys[k]'(by omega) = Y at *
  have lo : 4294967296 ^ k * 2147483648 ≤ val zs := by
    have a : 4294967296 ^ k * 2147483648 ≤ 4294967296 ^ k * (Y * p) := Nat.mul_le_mul_left _ h1
    rw [hv, e, Nat.add_mul, Nat.mul_assoc]
    omega
  have hi : val zs < 4294967296 ^ (k + 1) := by
    have hp : 0 < p := by
      rcases Nat.eq_zero_or_pos p with rfl | h
      · rw [Nat.mul_zero] at h1; omega
      · exact h
    have a : val ys < 4294967296 ^ k * (Y + 1) := by rw [e, Nat.mul_add]; omega
    have b : val ys * p < 4294967296 ^ k * (Y + 1) * p := Nat.mul_lt_mul_of_pos_right a hp
    have c : 4294967296 ^ k * ((Y + 1) * p) ≤ 4294967296 ^ k * 4294967296 := Nat.mul_le_mul_left _ h2
    rw [Nat.mul_assoc] at b
    rw [hv, Nat.pow_succ]
    omega
  have hpk : 0 < 4294967296 ^ k := Nat.pow_pos (by omega)
  have l1 : zs.length ≤ k + 1 := by
    rcases Nat.lt_or_ge (k + 1) zs.length with h | h
    · have g := hn.ge (by rintro rfl; simp at h)
      have : 4294967296 ^ (k + 1) ≤ 4294967296 ^ (zs.length - 1) := Nat.pow_le_pow_right (by omega) (by omega)
      omega
    · exact h
  have l2 : k + 1 ≤ zs.length := by
    rcases Nat.lt_or_ge zs.length (k + 1) with h | h
    · have g := val_lt hz
      have : 4294967296 ^ zs.length ≤ 4294967296 ^ k := Nat.pow_le_pow_right (by omega) (by omega)
      omega
    · exact h
  refine ⟨by omega, hi, fun h => ?_⟩
  have e3 := val_take_succ zs k h
  rw [List.take_of_length_le (by omega)] at e3
  have hl3 := val_lt (hz.take k)
  rw [List.length_take, Nat.min_eq_left (by omega)] at hl3
  rcases Nat.lt_or_ge zs[k] 2147483648 with h5 | h5
  · have a : 4294967296 ^ k * (zs[k] + 1) ≤ 4294967296 ^ k * 2147483648 := Nat.mul_le_mul_left _ h5
    rw [Nat.mul_add, Nat.mul_one] at a
    omega
  · exact h5
section
variable {A B : Option Addr} {c d n m : Nat} {xs ys : List Nat} {w : World} {s t : Bool}
set_option maxRecDepth 100000 in
set_option maxHeartbeats 8000000 in
theorem int_divideLong (hn : xs.length = n) (hm : ys.length = m) (hx : Rd w A xs) (hy : Rd w B ys) (hny : Nrm ys) (h2 : 2 ≤ m) (hmn : m ≤ n) (h1 : n ≤ 9000) :
    Calls Tryd.prog 57 #[.slice A n c, .slice B m d] w (Ret2 (fun qs rs => val qs = val xs / val ys ∧ val rs = val xs % val ys ∧ Nrm qs ∧ Nrm rs) w) := by
  have hl0 : ys[m - 1]'(by omega) ≠ 0 := by
    subst hm
    exact hny.last (by omega)
  obtain ⟨b1, o1, rfl, hb1, cy⟩ := hy.at_ (i := m - 1) (by omega)
  have hY := hy.1.get (k := m - 1) (by omega)
  obtain ⟨s1, s2, s3, s4⟩ := shift_top hY hl0
  have hnorm : ∀ zs, W32 zs → Nrm zs → val zs = val ys * 2 ^ (32 - Lib.bitLen (ys[m - 1]'(by omega))) → zs.length = m ∧ val zs < 4294967296 ^ m ∧ ∀ h : m - 1 < zs.length, 2147483648 ≤ zs[m - 1] := fun zs a b e => div_norm hy.1 hm (by omega) s1 s2 a b e
  have hlz : ∀ W : World, Calls Tryd.prog 77 #[.int .u32 ((ys[m - 1]'(by omega) : Nat) : Int)] W fun e w' => e = .returned (.int .i64 ((32 - Lib.bitLen (ys[m - 1]'(by omega)) : Nat) : Int)) ∧ W = w' := fun W => by
    refine (lz32 _ W (by omega) (by omega)).mono ?_
    rintro e w' ⟨rfl, h⟩
    exact ⟨ret_int (by simp only [Int.toNat_natCast]; omega), h⟩
  clear s1 s2
  generalize ys[m - 1]'(by omega) = Y at *
  have hS32 : 32 - Lib.bitLen Y < 32 := by omega
  generalize 32 - Lib.bitLen Y = S at *
  have Hnorm := Lib.hid hnorm
  have Hlz := Lib.hid hlz
  have Hn := Lib.hid hn
  have Hm := Lib.hid hm
  have Hb := Lib.hid (show 4294967296 ^ (m - 1) ≤ val ys by
    have := hny.ge (by rintro rfl; simp at hm; omega)
    rwa [hm] at this)
  have Ha := Lib.hid (show val xs < 4294967296 ^ n by have := val_lt hx.1; rwa [hn] at this)
  clear hnorm hlz s3 s4 hl0 hn hm
  have hmk1 : ∀ W : World, (Instr.makeSlice 48 (.int .i64 ((n : Int) + 1)) (.int .i64 ((n : Int) + 1))).run Tryd.prog W = .ok (.slice (some ⟨W.heap.size, 0, none⟩) (n + 1) (n + 1)) (W.alloc (.cells (madeCells #[.int .u32 0] (n + 1)) 43)) := fun W => by
    have h := mk_words 48 Tryd.underlying48 (n + 1) (by omega) W
    rwa [show ((n + 1 : Nat) : Int) = (n : Int) + 1 by omega] at h
  have hmk2 : ∀ W : World, (Instr.makeSlice 48 (.int .i64 ((n : Int) - (m : Int) + 1)) (.int .i64 ((n : Int) - (m : Int) + 1))).run Tryd.prog W = .ok (.slice (some ⟨W.heap.size, 0, none⟩) (n - m + 1) (n - m + 1)) (W.alloc (.cells (madeCells #[.int .u32 0] (n - m + 1)) 43)) := fun W => by
    have h := mk_words 48 Tryd.underlying48 (n - m + 1) (by omega) W
    rwa [show ((n - m + 1 : Nat) : Int) = (n : Int) - (m : Int) + 1 by omega] at h
  go_enter Tryd.func57, Tryd.ntmps57
  go_wp2_with (go_at_call 77; refine (Hlz.out _).mono ?_; rintro e w1 ⟨rfl, rfl⟩)
  refine (int_shiftLeft (k := S) Hm.out hy (by omega) (by omega)).mono ?_
  rintro e w2 ⟨A2, c2, ds, rfl, ho2, hc2, hm2, ⟨hv2, hn2, hl2⟩, hext2⟩
  obtain ⟨hdl, hdu, hdt⟩ := Hnorm.out ds ho2.rd.1 hn2 hv2
  rw [hdl]
  have Hdl := Lib.hid hdl
  have Hdu := Lib.hid hdu
  have Hdt := Lib.hid hdt
  have Hv2 := Lib.hid hv2
  clear hdl hdu hdt hv2 hl2 hn2 Hnorm Hlz
  go_wp2_with fail
  have hb0 := BlkN.new w2 (n + 1)
  refine (int_shiftInto (pre := []) (zs0 := List.replicate (xs.length + 1) 0) (post := []) (by rw [Hn.out]; simpa using hb0) rfl rfl (hx.ext (hext2.alloc _)) Hn.out (hx.apart hext2.size) (by omega) hS32 (by omega) (by omega) (by unfold maxLen; omega)).mono ?_
  rintro e w3 ⟨R0, rfl, hRl, hRw, hRb, hRv, hmod3⟩
  rw [List.nil_append, List.append_nil] at hRb
  have hext3 : Ext w2 w3 := hmod3.ext ((Ext.refl w2).alloc _) (Nat.le_refl _)
  have hd3 := ho2.rd.ext hext3
  have hap := ho2.rd.apart (Nat.le_refl _)
  have hL0 := LInv.start (a := val xs) (b := val ys) (s := S) (la := n) (lb := m) hRl hRw rfl hRv hmn (by omega) Ha.out Hb.out
  rw [← Hv2.out] at hL0
  have HL0 := Lib.hid hL0
  clear hL0 hRv hmod3 hRl hb0
  have hg12 := hRb.lt
  have hQb := BlkN.new w3 (n - m + 1)
  have hR4 := hRb.ext ((Ext.refl w3).alloc (.cells (madeCells #[.int .u32 0] (n - m + 1)) 43))
  have hd4 := hd3.ext ((Ext.refl w3).alloc (.cells (madeCells #[.int .u32 0] (n - m + 1)) 43))
  have ext4 := (hext2.trans hext3).alloc (.cells (madeCells #[.int .u32 0] (n - m + 1)) 43)
  have hap3 := hd3.apart (Nat.le_refl _)
  clear hRb hd3
  go_wp2_with fail
  go_loopw [10] (fun i wr => ∃ (k : Nat) (R Q : List Nat), k ≤ n - m + 1 ∧ i = .int .i64 ((k : Int) - 1) ∧ LInv (val ds) (val xs * 2 ^ S) (n + 1) (n - m + 1) k R Q ∧ BlkN wr w2.heap.size R ∧ BlkN wr w3.heap.size Q ∧ Rd wr A2 ds ∧ Ext w wr) (fun i _ => (intOf i + 1).toNat)
  case atStart => exact ⟨n - m + 1, R0, _, Nat.le_refl _, congrArg (Value.int .i64) (by omega), HL0.out, hR4, hQb, hd4, ext4⟩
  case round =>
    clear hR4 hQb hd4 ext4
    obtain ⟨k, R, Q, hk, rfl, hinv, hRb, hQb, hdr, hext⟩ := hrel
    have hrl := hinv.rl
    have hql := hinv.ql
    rcases k with _ | j
    · rw [show (((0 : Nat) : Int) - 1) = -1 from rfl]
      have Hinv := Lib.hid hinv
      have Hrl := Lib.hid hrl
      have Hql := Lib.hid hql
      clear hinv hrl hql
      go_wp2_with fail
      refine (int_trimN Hql.out (hQb.rd0 Hinv.out.qw) (Nat.le_refl _) (by unfold maxLen; omega)).mono ?_
      rintro e w4 ⟨rfl, rfl⟩
      go_wp2_with fail
      refine (int_trimN Hrl.out (hRb.rd0 Hinv.out.rw) (Nat.le_refl _) (by unfold maxLen; omega)).mono ?_
      rintro e w4 ⟨rfl, rfl⟩
      have hrl2 := trimL_len R
      rw [Hrl.out] at hrl2
      have hrt : Rd wr (some ⟨w2.heap.size, 0, none⟩) (trimL R) := by rw [trimL_take]; exact (hRb.rd0 Hinv.out.rw).take _
      go_wp2_with fail
      refine (int_shiftRight (k := S) rfl hrt hrl2 (by unfold maxLen; omega) (by omega) (by omega)).mono ?_
      rintro e w5 ⟨A5, c5, rs, rfl, ho5, hc5, hm5, ⟨hv5, hn5, hl5⟩, hext5⟩
      have Hv5 := Lib.hid hv5
      clear hv5
      go_wp2_with fail
      go_ret2
      have hi := Hinv.out
      rw [Hv2.out] at hi
      obtain ⟨d1, d2⟩ := hi.done
      have hql2 := trimL_len Q
      rw [Hql.out] at hql2
      refine ⟨_, _, trimL Q, A5, c5, rs, rfl, ?_, ho5.mono hext.size, hql2, by unfold maxLen; omega, hc5, hm5, ⟨by rw [val_trimL]; exact d1, by rw [Hv5.out, val_trimL]; exact d2, Nrm.trimL _, hn5⟩, hext.trans hext5⟩
      rw [trimL_take]
      exact (Own.of_blk (hQb.ext hext5) hi.qw (Nat.le_trans hext2.size (Nat.le_of_lt hg12))).take _
    · rw [show (((j + 1 : Nat) : Int) - 1) = (j : Int) by omega]
      have hj1 : j + m + 1 ≤ n + 1 := by omega
      have hj2 : j < n - m + 1 := by omega
      obtain ⟨p0, p1, p2⟩ := hinv.part hj2 (by omega) Hdu.out
      have hpd : Rd wr (some ⟨w2.heap.size, j, none⟩) ((R.drop j).take (m + 1)) := hRb.rd hinv.rw (by omega)
      have hpl : ((R.drop j).take (m + 1)).length = m + 1 := by rw [List.length_take, List.length_drop]; omega
      have hpw : W32 ((R.drop j).take (m + 1)) := (hinv.rw.drop _).take _
      have hRs : R = R.take j ++ (R.drop j).take (m + 1) ++ R.drop (j + m + 1) := by
        rw [List.append_assoc, show j + m + 1 = j + (m + 1) by omega, ← List.drop_drop, List.take_append_drop, List.take_append_drop]
      have htl : (R.take j).length = j := by rw [List.length_take]; omega
      have hst : ∀ (ps : List Nat) (u : Nat), ps.length = m + 1 → W32 ps → u < 4294967296 → val ps < val ds → val ps + u * val ds = val ((R.drop j).take (m + 1)) → LInv (val ds) (val xs * 2 ^ S) (n + 1) (n - m + 1) j (R.take j ++ ps ++ R.drop (j + m + 1)) (Q.set j u) := fun ps u a1 a2 a3 a4 a5 => hinv.step hj2 (by omega) Hdu.out a1 a2 a3 a4 a5
      rw [hRs] at hRb
      have Hst := Lib.hid hst
      have Hqw := Lib.hid hinv.qw
      clear hst hinv hRs p0 p1 hrl
      generalize R.take j = pre at *
      generalize (R.drop j).take (m + 1) = part at *
      generalize R.drop (j + m + 1) = post at *
      have Htl := Lib.hid htl
      have Hpl := Lib.hid hpl
      have Hql := Lib.hid hql
      have Hp2 := Lib.hid p2
      have hcc1 : m + 1 ≤ n + 1 - j := by omega
      have hcc2 : n + 1 - j ≤ 10000 := by omega
      clear htl hpl p2 hql
      go_wp2_with fail
      rw [show j + m + 1 - j = m + 1 by omega]
      refine (int_estimate Hpl.out Hdl.out h2 hpd hdr (Hdt.out _) Hp2.out (by omega)).mono ?_
      rintro e w4 ⟨q, rfl, hq32, hq1, hq2, hxt4⟩
      have Hq1 := Lib.hid hq1
      have Hq2 := Lib.hid hq2
      clear hq1 hq2
      go_wp2_with fail
      refine (int_subtractMultiple (hRb.ext hxt4) Htl.out Hpl.out hpw (hdr.ext hxt4) Hdl.out hap rfl hq32 (by omega) hcc1 (by unfold maxLen; omega)).mono ?_
      rintro e w5 ⟨ps, bb, rfl, hb1, hpsl, hpsw, hpsb, hpsv, hmod5⟩
      have hdr5 := (hdr.ext hxt4).mod hmod5 hap
      have hQ5 := (hQb.ext hxt4).mod hmod5 (Nat.ne_of_gt hg12)
      have ext5 := hmod5.ext (hext.trans hxt4) hext2.size
      have Hpsv := Lib.hid hpsv
      have Hpsl := Lib.hid hpsl
      clear hpsv hpsl hpd hRb hdr hQb hmod5
      rcases (show bb = 0 ∨ bb = 1 by omega) with rfl | rfl
      · have hcq := hQ5.cell (i := j) (by rw [Hql.out]; exact hj2)
        have hfq := hQ5.frozen j
        go_wp2_with fail
        go_roundw
        case rel =>
          obtain ⟨f1, f2⟩ := sub_fit Hq1.out (by have := Hpsv.out; rw [Nat.mul_zero, Nat.add_zero] at this; exact this)
          exact ⟨j, _, _, by omega, rfl, Hst.out ps q Hpsl.out hpsw hq32 f1 f2, hpsb.mod ((Mod.refl w5 w3.heap.size).setCell j _) (Nat.ne_of_lt hg12), hQ5.set j rfl, hdr5.mod ((Mod.refl w5 w3.heap.size).setCell j _) hap3, ext5.setCell (Nat.le_trans hext2.size (Nat.le_of_lt hg12)) _⟩
        case measure => simp [intOf]
      · have hpslt : val ps < 4294967296 ^ (m + 1) := by
          have := val_lt hpsw
          rwa [Hpsl.out] at this
        have h3 := Hpsv.out
        rw [Nat.mul_one] at h3
        have hPq : val part < q * val ds := by rw [Nat.mul_comm]; omega
        have hq0 : 0 < q := by
          rcases Nat.eq_zero_or_pos q with rfl | h
          · rw [Nat.zero_mul] at hPq; omega
          · exact h
        have HPq := Lib.hid hPq
        have H3 := Lib.hid h3
        clear hPq h3 hpslt
        have hq01 : (1 : Int) ≤ (q : Int) := by omega
        go_wp2_with fail
        refine (int_addTo _ _ _ _ hpsb Htl.out Hpsl.out hpsw hdr5 Hdl.out hap (by omega) (by omega)).mono ?_
        rintro e w6 ⟨zs, rfl, hzl, hzw, hzb, ⟨cy2, hcy, hcv⟩, hmod6⟩
        have Hf := Lib.hid (sub_back HPq.out Hq2.out H3.out hcv hcy (by have := val_lt hzw; rwa [hzl] at this))
        have hdr6 := hdr5.mod hmod6 hap
        have hQ6 := hQ5.mod hmod6 (Nat.ne_of_gt hg12)
        have ext6 := hmod6.ext ext5 hext2.size
        have Hzl := Lib.hid hzl
        clear hcv hzl hpsb hdr5 hQ5 hmod6
        have hcq := hQ6.cell (i := j) (by rw [Hql.out]; exact hj2)
        have hfq := hQ6.frozen j
        go_wp2_with fail
        go_roundw
        case rel =>
          obtain ⟨f0, f1, f2⟩ := Hf.out
          exact ⟨j, _, _, by omega, rfl, Hst.out zs (q - 1) Hzl.out hzw (by omega) f1 f2, hzb.mod ((Mod.refl w6 w3.heap.size).setCell j _) (Nat.ne_of_lt hg12), hQ6.set j (by omega), hdr6.mod ((Mod.refl w6 w3.heap.size).setCell j _) hap3, ext6.setCell (Nat.le_trans hext2.size (Nat.le_of_lt hg12)) _⟩
        case measure => simp [intOf]
end
end Go.Proofs.YtmjmcinnbmjpdaaDoor
