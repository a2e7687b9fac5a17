/- Walks: division by a word; the estimate of a word of a quotient. -/
import Derived.Test.YtmjmcinnbmjpdaaWi
import Derived.Test.YtmjmcinnbmjpdaaNum4
namespace Go.Proofs.Ytmjmcinnbmjpdaa
open Go.RowKit
theorem high_or {a b : Nat} (ha : a < 4294967296) (hb : b < 4294967296) : bits .or .u64 ((b : Int) * 4294967296) (a : Int) = ((b * 4294967296 + a : Nat) : Int) := by
  have e : (b : Int) * 4294967296 = ((b * 4294967296 : Nat) : Int) := by rw [Int.natCast_mul]; rfl
  rw [e]
  rw [u64_or_nat (b * 4294967296) a (by omega) (by omega)]
  have := Nat.two_pow_add_eq_or_of_lt (i := 32) (show a < 2 ^ 32 by omega) b
  rw [Nat.mul_comm b]
  exact congrArg Int.ofNat this.symm
theorem wrap_u64_nat {a : Nat} (h : a < 18446744073709551616) : IntKind.u64.wrap (a : Int) = (a : Int) := by rw [IntKind.wrap_u64]; omega
theorem est_dec {q r v T : Nat} (h : q * v + r = T) (hq : 1 ≤ q) : (q - 1) * v + (r + v) = T := by
  obtain ⟨p, rfl⟩ : ∃ p, q = p + 1 := ⟨q - 1, by omega⟩
  rw [Nat.succ_mul] at h
  rw [Nat.add_sub_cancel]
  omega
theorem est_ret {q : Nat} {X : Int} (h : q < 4294967296) (hX : X = (q : Int)) : Ending.returned (.int .u32 (X % 4294967296)) = .returned (.int .u32 (q : Int)) := by
  subst hX
  rw [show ((q : Nat) : Int) % 4294967296 = (q : Int) by omega]
theorem est_ret2 {q : Nat} {X : Int} (hX : X = (q : Int)) : Ending.returned (.int .u32 X) = .returned (.int .u32 (q : Int)) := by rw [hX]
section
variable {A B : Option Addr} {c d n m : Nat} {xs ys : List Nat} {w : World} {s t : Bool}
set_option maxHeartbeats 1000000 in
theorem int_divideByWord {g cz v : Nat} {zs0 : List Nat} (hblk0 : BlkN w g zs0) (hn : zs0.length = n) (hw : W32 zs0) (hv0 : 0 < v) (hv : v < 4294967296) (h1 : n ≤ 1000000) :
    Calls Try.prog 79 #[.slice (some ⟨g, 0, none⟩) n cz, .int .u32 (v : Int)] w fun e w' => ∃ zs, e = .returned (.int .u32 ((val zs0 % v : Nat) : Int)) ∧ zs.length = n ∧ W32 zs ∧ BlkN w' g zs ∧ val zs = val zs0 / v ∧ Mod w w' g := by
  subst hn
  have hz0 : ((v : Int) == 0) = false := by rw [beq_eq_false_iff_ne]; omega
  have hp1 : (1 : Int) ≤ (v : Int) := by omega
  go_enter Try.func79, Try.ntmps79
  go_wp2
  go_loopw [5, 6] (fun r i wr => ∃ (k p : Nat) (zs : List Nat), k ≤ zs0.length ∧ i = .int .i64 ((k : Int) - 1) ∧ r = .int .u64 (p : Int) ∧ DwInv zs0 zs v k p ∧ zs.take k = zs0.take k ∧ BlkN wr g zs ∧ Mod w wr g) (fun _ i _ => (intOf i + 1).toNat)
  case atStart => exact ⟨zs0.length, 0, zs0, by omega, rfl, rfl, DwInv.start rfl hw hv0, rfl, hblk0, Mod.refl _ _⟩
  case round =>
    obtain ⟨k, p, zs, hk, rfl, rfl, hinv, htk, hblk, hmod⟩ := hrel
    have hpv := hinv.lt
    have hzl := hinv.len
    rcases k with _ | j
    · have Hd := Lib.hid hinv.done
      rw [show (((0 : Nat) : Int) - 1) = -1 from rfl]
      have hp32 : p < 4294967296 := by omega
      go_wp2
      go_ret
      exact ⟨zs, by rw [Hd.out.2]; rfl, hzl, hinv.w32, hblk, Hd.out.1, hmod⟩
    · rw [show (((j + 1 : Nat) : Int) - 1) = (j : Int) by omega]
      have hc := hblk.cell (i := j) (by omega)
      have hzj : zs[j]'(by omega) = zs0[j]'(by omega) := by
        have := congrArg (fun l : List Nat => l[j]?) htk
        simpa [List.getElem?_take, List.getElem?_eq_getElem, show j < zs.length by omega, show j < zs0.length by omega] using this
      rw [hzj] at hc
      have hst := hinv.step hw (by omega)
      have htk2 : (zs.set j ((p * 4294967296 + zs0[j]'(by omega)) / v)).take j = zs0.take j := by
        rw [take_set_self]
        have := congrArg (fun l : List Nat => l.take j) htk
        simpa [List.take_take] using this
      have hx := hw.get (k := j) (by omega)
      have hq := dw_lt hpv hx
      have hor := high_or (b := p) hx (by omega)
      have hnl : p * 4294967296 + zs0[j]'(by omega) < 18446744073709551616 := by omega
      generalize zs0[j]'(by omega) = X at *
      generalize p * 4294967296 + X = NV at *
      have hr := Nat.mod_lt NV hv0
      have hq' : (NV : Int).tdiv (v : Int) = ((NV / v : Nat) : Int) := rfl
      have hr' : (NV : Int).tmod (v : Int) = ((NV % v : Nat) : Int) := rfl
      generalize NV / v = U at *
      generalize NV % v = V at *
      have hwu := wrap_u64_nat (a := U) (by omega)
      have hwv := wrap_u64_nat (a := V) (by omega)
      have hfz := hblk.frozen j
      have Hst := Lib.hid hst
      have Htk := Lib.hid htk2
      clear hst htk2 htk hzj hinv
      go_wp2
      go_roundw
      case rel => exact ⟨j, V, _, by omega, rfl, rfl, Hst.out, Htk.out, hblk.set j rfl, hmod.setCell _ _⟩
      case measure => simp [intOf]
set_option maxHeartbeats 2000000 in
theorem int_estimate {ps ds : List Nat} (hpl : ps.length = n + 1) (hdl : ds.length = n) (h2 : 2 ≤ n) (hp : Rd w A ps) (hd : Rd w B ds) (hv : 2147483648 ≤ ds[n - 1]'(by omega)) (hlt : val ps < 4294967296 * val ds) (h1 : n ≤ 100000) :
    Calls Try.prog 96 #[.slice A (n + 1) c, .slice B n d] w fun e w' => ∃ q : Nat, e = .returned (.int .u32 (q : Int)) ∧ q < 4294967296 ∧ val ps < (q + 1) * val ds ∧ q * val ds ≤ val ps + val ds ∧ Ext w w' := by
  have hE := Est.ofn hp.1 hd.1 h2 hpl hdl hv hlt
  obtain ⟨b1, o1, rfl, hb1, c0⟩ := hp.at_ (i := n) (by omega)
  obtain ⟨b1', o1', he, _, c1⟩ := hp.at_ (i := n - 1) (by omega)
  injection he with he
  injection he with he1 he2
  subst he1; subst he2
  obtain ⟨b1', o1', he, _, c2⟩ := hp.at_ (i := n - 2) (by omega)
  injection he with he
  injection he with he1 he2
  subst he1; subst he2
  obtain ⟨b2, o2, rfl, hb2, d1⟩ := hd.at_ (i := n - 1) (by omega)
  obtain ⟨b2', o2', he, _, d2⟩ := hd.at_ (i := n - 2) (by omega)
  injection he with he
  injection he with he1 he2
  subst he1; subst he2
  have hu0 := hp.1.get (k := n) (by omega)
  have hu1 := hp.1.get (k := n - 1) (by omega)
  have hu2 := hp.1.get (k := n - 2) (by omega)
  have hv1 := hd.1.get (k := n - 1) (by omega)
  have hv2 := hd.1.get (k := n - 2) (by omega)
  have hor := high_or hu1 hu0
  have hnl : ps[n]'(by omega) * 4294967296 + ps[n - 1]'(by omega) < 18446744073709551616 := by omega
  generalize ps[n]'(by omega) = U0 at *
  generalize ps[n - 1]'(by omega) = U1 at *
  generalize ps[n - 2]'(by omega) = U2 at *
  generalize ds[n - 1]'(by omega) = V1 at *
  generalize ds[n - 2]'(by omega) = V2 at *
  generalize U0 * 4294967296 + U1 = T at *
  have hz0 : ((V1 : Int) == 0) = false := by rw [beq_eq_false_iff_ne]; omega
  have hp1 : (1 : Int) ≤ (V1 : Int) := by omega
  have hfirst := hE.first
  have hdm : T / V1 * V1 + T % V1 = T := by rw [Nat.mul_comm]; exact Nat.div_add_mod T V1
  have hr := Nat.mod_lt T (show 0 < V1 by omega)
  have hq' : (T : Int).tdiv (V1 : Int) = ((T / V1 : Nat) : Int) := rfl
  have hr' : (T : Int).tmod (V1 : Int) = ((T % V1 : Nat) : Int) := rfl
  generalize T / V1 = Q at *
  generalize T % V1 = R at *
  generalize val ps = P at *
  generalize val ds = D at *
  have hQ : Q < 18446744073709551616 := by
    have : Q * 1 ≤ Q * V1 := Nat.mul_le_mul_left _ (by omega)
    omega
  have hwu := wrap_u64_nat hQ
  have hwv := wrap_u64_nat (a := R) (by omega)
  have Hpl := Lib.hid hpl
  have Hdl := Lib.hid hdl
  have Hfirst := Lib.hid hfirst
  have Hdm := Lib.hid hdm
  have HE := Lib.hid hE
  clear hpl hdl hfirst hdm hE hlt
  go_enter Try.func96, Try.ntmps96
  go_wp2
  go_quiet (fail)
  go_wp2
  go_quiet (fail)
  go_wp2
  go_quiet (fail)
  go_wp2
  go_loopw [9, 10] (fun x y wr => ∃ (q r : Nat), x = .int .u64 (q : Int) ∧ y = .int .u64 (r : Int) ∧ P < (q + 1) * D ∧ q * V1 + r = T ∧ r < 4294967296 ∧ Ext w wr) (fun _ y _ => 4294967296 - (intOf y).toNat)
  case atStart => exact ⟨Q, R, rfl, rfl, Hfirst.out, Hdm.out, by omega, by first | exact (Ext.refl w).drewN _ | exact ((Ext.refl w).drewN _).drewN _ | exact (((Ext.refl w).drewN _).drewN _).drewN _⟩
  case round =>
    obtain ⟨q, r, rfl, rfl, hP, hT, hr32, hext⟩ := hrel
    have cu := hext.cellv c2
    have hql : q ≤ T := by
      have : q * 1 ≤ q * V1 := Nat.mul_le_mul_left _ (by omega)
      omega
    by_cases hbig : 4294967296 ≤ q
    · have d1 : decide ((4294967296 : Int) ≤ (q : Int)) = true := decide_eq_true (by omega)
      have HP' := Lib.hid (HE.out.big hbig)
      have hq0 : 1 ≤ (q : Int) := by omega
      have HT' := Lib.hid (est_dec hT (by omega))
      clear hP hT
      by_cases hout : 4294967296 ≤ r + V1
      · have d2 : decide ((4294967296 : Int) ≤ (r : Int) + (V1 : Int)) = true := decide_eq_true (by omega)
        have Hout := Lib.hid (HE.out.out HT'.out hout)
        go_wp2
        go_ret
        exact ⟨q - 1, by first | exact est_ret Hout.out.1 (by omega) | exact est_ret2 (by omega), Hout.out.1, HP'.out, HE.out.last HT'.out Hout.out.1 Hout.out.2, hext⟩
      · have d2 : decide ((4294967296 : Int) ≤ (r : Int) + (V1 : Int)) = false := decide_eq_false (by omega)
        go_wp2
        go_roundw
        case rel => exact ⟨q - 1, r + V1, congrArg (Value.int .u64) (by omega), congrArg (Value.int .u64) (by omega), HP'.out, HT'.out, by omega, hext⟩
        case measure => simp [intOf]; omega
    · have d1 : decide ((4294967296 : Int) ≤ (q : Int)) = false := decide_eq_false (by omega)
      have hor2 := high_or (b := r) hu2 hr32
      have hM : (q : Int) * (V2 : Int) = ((q * V2 : Nat) : Int) := (Int.natCast_mul q V2).symm
      have hMl := mul_word (x := q) (w := V2) (by omega) hv2
      have hover : r * 4294967296 + U2 < q * V2 → P < (q - 1 + 1) * D := fun h => HE.out.over hT h
      have hlast : q * V2 ≤ r * 4294967296 + U2 → q * D ≤ P + D := fun h => HE.out.last hT (by omega) h
      have hq00 : q = 0 → q * V2 = 0 := fun h => by rw [h, Nat.zero_mul]
      have hN2l : r * 4294967296 + U2 < 18446744073709551616 := by omega
      generalize q * V2 = M at *
      generalize r * 4294967296 + U2 = N2 at *
      have Hlast := Lib.hid hlast
      have hwm := wrap_u64_nat (a := M) (by omega)
      by_cases hgt : N2 < M
      · have HP' := Lib.hid (hover hgt)
        have d3 : decide ((N2 : Int) < (M : Int)) = true := decide_eq_true (by omega)
        clear hover hlast
        have hq0 : 1 ≤ (q : Int) := by omega
        have HT' := Lib.hid (est_dec hT (by omega))
        clear hP hT
        by_cases hout : 4294967296 ≤ r + V1
        · have d2 : decide ((4294967296 : Int) ≤ (r : Int) + (V1 : Int)) = true := decide_eq_true (by omega)
          have Hout := Lib.hid (HE.out.out HT'.out hout)
          go_wp2
          go_ret
          exact ⟨q - 1, by first | exact est_ret Hout.out.1 (by omega) | exact est_ret2 (by omega), Hout.out.1, HP'.out, HE.out.last HT'.out Hout.out.1 Hout.out.2, hext⟩
        · have d2 : decide ((4294967296 : Int) ≤ (r : Int) + (V1 : Int)) = false := decide_eq_false (by omega)
          go_wp2
          go_roundw
          case rel => exact ⟨q - 1, r + V1, congrArg (Value.int .u64) (by omega), congrArg (Value.int .u64) (by omega), HP'.out, HT'.out, by omega, hext⟩
          case measure => simp [intOf]; omega
      · have d3 : decide ((N2 : Int) < (M : Int)) = false := decide_eq_false (by omega)
        have HP := Lib.hid hP
        clear hover hlast hP hT
        go_wp2
        go_ret
        exact ⟨q, by first | exact est_ret (by omega) rfl | exact est_ret2 rfl, by omega, HP.out, Hlast.out (by omega), hext⟩
end
end Go.Proofs.Ytmjmcinnbmjpdaa
