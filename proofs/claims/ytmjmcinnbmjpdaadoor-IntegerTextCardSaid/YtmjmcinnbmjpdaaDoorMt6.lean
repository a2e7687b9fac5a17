/- Walks and laws, part 6. -/
import Derived.Test.YtmjmcinnbmjpdaaDoorMt4
import Derived.Test.YtmjmcinnbmjpdaaDoorMt5
import Derived.Deep.DeepCutAuto
namespace Go.Proofs.YtmjmcinnbmjpdaaDoor
open Go.RowKit
theorem high_or {a b : Nat} (ha : a < 4294967296) (hb : b < 4294967296) : bits .or .u64 ((b : Int) * 4294967296) (a : Int) = ((b * 4294967296 + a : Nat) : Int) := by
  have e : (b : Int) * 4294967296 = ((b * 4294967296 : Nat) : Int) := by rw [Int.natCast_mul]; rfl
  rw [e]
  rw [u64_or_nat (b * 4294967296) a (by omega) (by omega)]
  have := Nat.two_pow_add_eq_or_of_lt (i := 32) (show a < 2 ^ 32 by omega) b
  rw [Nat.mul_comm b]
  exact congrArg Int.ofNat this.symm
theorem wrap_u64_nat {a : Nat} (h : a < 18446744073709551616) : IntKind.u64.wrap (a : Int) = (a : Int) := by rw [IntKind.wrap_u64]; omega
theorem est_dec {q r v T : Nat} (h : q * v + r = T) (hq : 1 ≤ q) : (q - 1) * v + (r + v) = T := by
  obtain ⟨p, rfl⟩ : ∃ p, q = p + 1 := ⟨q - 1, by omega⟩
  rw [Nat.succ_mul] at h
  rw [Nat.add_sub_cancel]
  omega
theorem est_ret {q : Nat} {X : Int} (h : q < 4294967296) (hX : X = (q : Int)) : Ending.returned (.int .u32 (X % 4294967296)) = .returned (.int .u32 (q : Int)) := by
  subst hX
  rw [show ((q : Nat) : Int) % 4294967296 = (q : Int) by omega]
theorem est_ret2 {q : Nat} {X : Int} (hX : X = (q : Int)) : Ending.returned (.int .u32 X) = .returned (.int .u32 (q : Int)) := by rw [hX]
section
variable {A B : Option Addr} {c d n m : Nat} {xs ys : List Nat} {w : World} {s t : Bool}
set_option maxHeartbeats 1000000 in
theorem int_divideByWord {g cz v : Nat} {zs0 : List Nat} (hblk0 : BlkN w g zs0) (hn : zs0.length = n) (hw : W32 zs0) (hv0 : 0 < v) (hv : v < 4294967296) (h1 : n ≤ 1000000) :
    Calls Tryd.prog 56 #[.slice (some ⟨g, 0, none⟩) n cz, .int .u32 (v : Int)] w fun e w' => ∃ zs, e = .returned (.int .u32 ((val zs0 % v : Nat) : Int)) ∧ zs.length = n ∧ W32 zs ∧ BlkN w' g zs ∧ val zs = val zs0 / v ∧ Mod w w' g := by
  subst hn
  have hz0 : ((v : Int) == 0) = false := by rw [beq_eq_false_iff_ne]; omega
  have hp1 : (1 : Int) ≤ (v : Int) := by omega
  go_enter Tryd.func56, Tryd.ntmps56
  go_wp2
  go_loopw [5, 6] (fun r i wr => ∃ (k p : Nat) (zs : List Nat), k ≤ zs0.length ∧ i = .int .i64 ((k : Int) - 1) ∧ r = .int .u64 (p : Int) ∧ DwInv zs0 zs v k p ∧ zs.take k = zs0.take k ∧ BlkN wr g zs ∧ Mod w wr g) (fun _ i _ => (intOf i + 1).toNat)
  case atStart => exact ⟨zs0.length, 0, zs0, by omega, rfl, rfl, DwInv.start rfl hw hv0, rfl, hblk0, Mod.refl _ _⟩
  case round =>
    obtain ⟨k, p, zs, hk, rfl, rfl, hinv, htk, hblk, hmod⟩ := hrel
    have hpv := hinv.lt
    have hzl := hinv.len
    rcases k with _ | j
    · have Hd := Lib.hid hinv.done
      rw [show (((0 : Nat) : Int) - 1) = -1 from rfl]
      have hp32 : p < 4294967296 := by omega
      go_wp2
      go_ret
      exact ⟨zs, by rw [Hd.out.2]; rfl, hzl, hinv.w32, hblk, Hd.out.1, hmod⟩
    · rw [show (((j + 1 : Nat) : Int) - 1) = (j : Int) by omega]
      have hc := hblk.cell (i := j) (by omega)
      have hzj : zs[j]'(by omega) = zs0[j]'(by omega) := by
        have := congrArg (fun l : List Nat => l[j]?) htk
        simpa [List.getElem?_take, List.getElem?_eq_getElem, show j < zs.length by omega, show j < zs0.length by omega] using this
      rw [hzj] at hc
      have hst := hinv.step hw (by omega)
      have htk2 : (zs.set j ((p * 4294967296 + zs0[j]'(by omega)) / v)).take j = zs0.take j := by
        rw [take_set_self]
        have := congrArg (fun l : List Nat => l.take j) htk
        simpa [List.take_take] using this
      have hx := hw.get (k := j) (by omega)
      have hq := dw_lt hpv hx
      have hor := high_or (b := p) hx (by omega)
      have hnl : p * 4294967296 + zs0[j]'(by omega) < 18446744073709551616 := by omega
      generalize zs0[j]'(by omega) = X at *
      generalize p * 4294967296 + X = NV at *
      have hr := Nat.mod_lt NV hv0
      have hq' : (NV : Int).tdiv (v : Int) = ((NV / v : Nat) : Int) := rfl
      have hr' : (NV : Int).tmod (v : Int) = ((NV % v : Nat) : Int) := rfl
      generalize NV / v = U at *
      generalize NV % v = V at *
      have hwu := wrap_u64_nat (a := U) (by omega)
      have hwv := wrap_u64_nat (a := V) (by omega)
      have hfz := hblk.frozen j
      have Hst := Lib.hid hst
      have Htk := Lib.hid htk2
      clear hst htk2 htk hzj hinv
      go_wp2
      go_roundw
      case rel => exact ⟨j, V, _, by omega, rfl, rfl, Hst.out, Htk.out, hblk.set j rfl, hmod.setCell _ _⟩
      case measure => simp [intOf]
set_option maxHeartbeats 2000000 in
theorem int_estimate {ps ds : List Nat} (hpl : ps.length = n + 1) (hdl : ds.length = n) (h2 : 2 ≤ n) (hp : Rd w A ps) (hd : Rd w B ds) (hv : 2147483648 ≤ ds[n - 1]'(by omega)) (hlt : val ps < 4294967296 * val ds) (h1 : n ≤ 100000) :
    Calls Tryd.prog 79 #[.slice A (n + 1) c, .slice B n d] w fun e w' => ∃ q : Nat, e = .returned (.int .u32 (q : Int)) ∧ q < 4294967296 ∧ val ps < (q + 1) * val ds ∧ q * val ds ≤ val ps + val ds ∧ Ext w w' := by
  have hE := Est.ofn hp.1 hd.1 h2 hpl hdl hv hlt
  obtain ⟨b1, o1, rfl, hb1, c0⟩ := hp.at_ (i := n) (by omega)
  obtain ⟨b1', o1', he, _, c1⟩ := hp.at_ (i := n - 1) (by omega)
  injection he with he
  injection he with he1 he2
  subst he1; subst he2
  obtain ⟨b1', o1', he, _, c2⟩ := hp.at_ (i := n - 2) (by omega)
  injection he with he
  injection he with he1 he2
  subst he1; subst he2
  obtain ⟨b2, o2, rfl, hb2, d1⟩ := hd.at_ (i := n - 1) (by omega)
  obtain ⟨b2', o2', he, _, d2⟩ := hd.at_ (i := n - 2) (by omega)
  injection he with he
  injection he with he1 he2
  subst he1; subst he2
  have hu0 := hp.1.get (k := n) (by omega)
  have hu1 := hp.1.get (k := n - 1) (by omega)
  have hu2 := hp.1.get (k := n - 2) (by omega)
  have hv1 := hd.1.get (k := n - 1) (by omega)
  have hv2 := hd.1.get (k := n - 2) (by omega)
  have hor := high_or hu1 hu0
  have hnl : ps[n]'(by omega) * 4294967296 + ps[n - 1]'(by omega) < 18446744073709551616 := by omega
  generalize ps[n]'(by omega) = U0 at *
  generalize ps[n - 1]'(by omega) = U1 at *
  generalize ps[n - 2]'(by omega) = U2 at *
  generalize ds[n - 1]'(by omega) = V1 at *
  generalize ds[n - 2]'(by omega) = V2 at *
  generalize U0 * 4294967296 + U1 = T at *
  have hz0 : ((V1 : Int) == 0) = false := by rw [beq_eq_false_iff_ne]; omega
  have hp1 : (1 : Int) ≤ (V1 : Int) := by omega
  have hfirst := hE.first
  have hdm : T / V1 * V1 + T % V1 = T := by rw [Nat.mul_comm]; exact Nat.div_add_mod T V1
  have hr := Nat.mod_lt T (show 0 < V1 by omega)
  have hq' : (T : Int).tdiv (V1 : Int) = ((T / V1 : Nat) : Int) := rfl
  have hr' : (T : Int).tmod (V1 : Int) = ((T % V1 : Nat) : Int) := rfl
  generalize T / V1 = Q at *
  generalize T % V1 = R at *
  generalize val ps = P at *
  generalize val ds = D at *
  have hQ : Q < 18446744073709551616 := by
    have : Q * 1 ≤ Q * V1 := Nat.mul_le_mul_left _ (by omega)
    omega
  have hwu := wrap_u64_nat hQ
  have hwv := wrap_u64_nat (a := R) (by omega)
  have Hpl := Lib.hid hpl
  have Hdl := Lib.hid hdl
  have Hfirst := Lib.hid hfirst
  have Hdm := Lib.hid hdm
  have HE := Lib.hid hE
  clear hpl hdl hfirst hdm hE hlt
  go_enter Tryd.func79, Tryd.ntmps79
  go_wp2
  go_quiet (fail)
  go_wp2
  go_quiet (fail)
  go_wp2
  go_quiet (fail)
  go_wp2
  go_loopw [9, 10] (fun x y wr => ∃ (q r : Nat), x = .int .u64 (q : Int) ∧ y = .int .u64 (r : Int) ∧ P < (q + 1) * D ∧ q * V1 + r = T ∧ r < 4294967296 ∧ Ext w wr) (fun _ y _ => 4294967296 - (intOf y).toNat)
  case atStart => exact ⟨Q, R, rfl, rfl, Hfirst.out, Hdm.out, by omega, by first | exact (Ext.refl w).drewN _ | exact ((Ext.refl w).drewN _).drewN _ | exact (((Ext.refl w).drewN _).drewN _).drewN _⟩
  case round =>
    obtain ⟨q, r, rfl, rfl, hP, hT, hr32, hext⟩ := hrel
    have cu := hext.cellv c2
    have hql : q ≤ T := by
      have : q * 1 ≤ q * V1 := Nat.mul_le_mul_left _ (by omega)
      omega
    by_cases hbig : 4294967296 ≤ q
    · have d1 : decide ((4294967296 : Int) ≤ (q : Int)) = true := decide_eq_true (by omega)
      have HP' := Lib.hid (HE.out.big hbig)
      have hq0 : 1 ≤ (q : Int) := by omega
      have HT' := Lib.hid (est_dec hT (by omega))
      clear hP hT
      by_cases hout : 4294967296 ≤ r + V1
      · have d2 : decide ((4294967296 : Int) ≤ (r : Int) + (V1 : Int)) = true := decide_eq_true (by omega)
        have Hout := Lib.hid (HE.out.out HT'.out hout)
        go_wp2
        go_ret
        exact ⟨q - 1, by first | exact est_ret Hout.out.1 (by omega) | exact est_ret2 (by omega), Hout.out.1, HP'.out, HE.out.last HT'.out Hout.out.1 Hout.out.2, hext⟩
      · have d2 : decide ((4294967296 : Int) ≤ (r : Int) + (V1 : Int)) = false := decide_eq_false (by omega)
        go_wp2
        go_roundw
        case rel => exact ⟨q - 1, r + V1, congrArg (Value.int .u64) (by omega), congrArg (Value.int .u64) (by omega), HP'.out, HT'.out, by omega, hext⟩
        case measure => simp [intOf]; omega
    · have d1 : decide ((4294967296 : Int) ≤ (q : Int)) = false := decide_eq_false (by omega)
      have hor2 := high_or (b := r) hu2 hr32
      have hM : (q : Int) * (V2 : Int) = ((q * V2 : Nat) : Int) := (Int.natCast_mul q V2).symm
      have hMl := mul_word (x := q) (w := V2) (by omega) hv2
      have hover : r * 4294967296 + U2 < q * V2 → P < (q - 1 + 1) * D := fun h => HE.out.over hT h
      have hlast : q * V2 ≤ r * 4294967296 + U2 → q * D ≤ P + D := fun h => HE.out.last hT (by omega) h
      have hq00 : q = 0 → q * V2 = 0 := fun h => by rw [h, Nat.zero_mul]
      have hN2l : r * 4294967296 + U2 < 18446744073709551616 := by omega
      generalize q * V2 = M at *
      generalize r * 4294967296 + U2 = N2 at *
      have Hlast := Lib.hid hlast
      have hwm := wrap_u64_nat (a := M) (by omega)
      by_cases hgt : N2 < M
      · have HP' := Lib.hid (hover hgt)
        have d3 : decide ((N2 : Int) < (M : Int)) = true := decide_eq_true (by omega)
        clear hover hlast
        have hq0 : 1 ≤ (q : Int) := by omega
        have HT' := Lib.hid (est_dec hT (by omega))
        clear hP hT
        by_cases hout : 4294967296 ≤ r + V1
        · have d2 : decide ((4294967296 : Int) ≤ (r : Int) + (V1 : Int)) = true := decide_eq_true (by omega)
          have Hout := Lib.hid (HE.out.out HT'.out hout)
          go_wp2
          go_ret
          exact ⟨q - 1, by first | exact est_ret Hout.out.1 (by omega) | exact est_ret2 (by omega), Hout.out.1, HP'.out, HE.out.last HT'.out Hout.out.1 Hout.out.2, hext⟩
        · have d2 : decide ((4294967296 : Int) ≤ (r : Int) + (V1 : Int)) = false := decide_eq_false (by omega)
          go_wp2
          go_roundw
          case rel => exact ⟨q - 1, r + V1, congrArg (Value.int .u64) (by omega), congrArg (Value.int .u64) (by omega), HP'.out, HT'.out, by omega, hext⟩
          case measure => simp [intOf]; omega
      · have d3 : decide ((N2 : Int) < (M : Int)) = false := decide_eq_false (by omega)
        have HP := Lib.hid hP
        clear hover hlast hP hT
        go_wp2
        go_ret
        exact ⟨q, by first | exact est_ret (by omega) rfl | exact est_ret2 rfl, by omega, HP.out, Hlast.out (by omega), hext⟩
end
end Go.Proofs.YtmjmcinnbmjpdaaDoor
namespace Go.Proofs.YtmjmcinnbmjpdaaDoor
open Go.RowKit
attribute [local go_sem ↓] Go.wp_at_zero Go.wp_at_succ
theorem ival_not (b : Bool) (xs : List Nat) : ival (!b) xs = -(ival b xs) := by cases b <;> simp [ival]
theorem IsInt.zero {z : Int} {b : Bool} {ys : List Nat} (h : IsInt z b ys) : ys = [] ↔ z = 0 := by
  have hz := h.nrm.zero
  have e := h.eq
  unfold ival at e
  constructor
  · intro h0
    have := hz.2 h0
    cases b <;> simp at e <;> omega
  · intro h0
    refine hz.1 ?_
    cases b <;> simp at e <;> omega
theorem IsInt.neg {z : Int} {b : Bool} {ys : List Nat} (h : IsInt z b ys) : b = decide (z < 0) := by
  have hz := h.nrm.zero
  have e := h.eq
  unfold ival at e
  cases b with
  | false => simp at e; rw [eq_comm, decide_eq_false_iff_not]; omega
  | true =>
    have : ys ≠ [] := fun h0 => by have := h.sgn h0; cases this
    have : val ys ≠ 0 := fun h0 => this (hz.1 h0)
    simp at e; rw [eq_comm, decide_eq_true_iff]; omega
theorem ival_sign (s : Bool) (xs : List Nat) : (ival s xs).sign = if trimL xs = [] then 0 else if s = true then -1 else 1 := by
  have hz := (Nrm.trimL xs).zero
  rw [val_trimL] at hz
  by_cases h : trimL xs = []
  · have := hz.2 h
    rw [if_pos h]
    unfold ival
    cases s <;> simp [this]
  · have : val xs ≠ 0 := fun h0 => h (hz.1 h0)
    rw [if_neg h]
    unfold ival
    cases s
    · simp; omega
    · simp; omega
section
variable {A B : Option Addr} {c d n m : Nat} {xs ys : List Nat} {w : World} {s t : Bool}
set_option maxHeartbeats 1000000 in
theorem ref_Norm (hn : xs.length = n) (hx : Rd w A xs) (hc : n ≤ c) (hcm : c ≤ maxLen) (_h1 : n ≤ 100000) :
    Calls Tryd.prog 18 #[.agg #[.bool s, .slice A n c]] w (RetI (ival s xs) xs.length w) := by
  have Hn := Lib.hid hn
  clear hn
  have lx := trimL_len xs
  have hxt : Rd w A (trimL xs) := by rw [trimL_take]; exact hx.take _
  go_enter Tryd.func18, Tryd.ntmps18
  go_upto_region 1 with (fail)
  obtain ⟨W, hW, extW, bx, bz, hz⟩ := box2 w 24 24 #[.bool s, .slice A n c] #[.bool false, .slice none 0 0]
  rw [← hW]
  clear hW
  have x0 := bx.cell 0 (.bool s) rfl
  have x1 := bx.cell 1 (.slice A n c) rfl
  go_wp2_with (go_at_call 22; refine (ref_signed Hn.out (hx.ext extW) hc hcm).mono ?_; rintro e w3 ⟨b3, A3, c3, rs, rfl, hr3, hc3, hm3, hi3, hl3, hext3⟩; have ext3 := hext3; have bz3 := bz.ext ext3; have z0 := bz3.cell 0 (.bool false) rfl; have z1 := bz3.cell 1 (.slice none 0 0) rfl; have f0 := bz3.frozen 0; have f1 := bz3.frozen 1)
  go_wp2_with fail
  obtain ⟨r1, r2, r3, r4⟩ := fin_pair (b := b3) (n := rs.length) (c := c3) (extW.trans ext3) (by omega) bz3 hr3
  exact bodyPost_ret (v := .agg #[.bool b3, .slice A3 rs.length c3]) (by simp [results, Tryd.results18, go_sem, r3, r4]) rfl ⟨b3, A3, c3, rs, rfl, r1, hc3, hm3, hi3, by omega, r2⟩

set_option maxHeartbeats 1000000 in
theorem int_Sign (hn : xs.length = n) (hx : Rd w A xs) (hc : n ≤ c) (hcm : c ≤ maxLen) (_h1 : n ≤ 100000) :
    Calls Tryd.prog 41 #[.agg #[.bool s, .slice A n c]] w fun e w' => e = .returned (.int .i64 (ival s xs).sign) ∧ Ext w w' := by
  have Hn := Lib.hid hn
  clear hn
  have lx := trimL_len xs
  have hxt : Rd w A (trimL xs) := by rw [trimL_take]; exact hx.take _
  have hsg := Lib.hid (ival_sign s xs)
  by_cases h0 : trimL xs = []
  · have hl : (trimL xs).length = 0 := by rw [h0]; rfl
    have ht : (((trimL xs).length : Int) == 0) = true := by rw [beq_iff_eq]; omega
    have H0 := Lib.hid h0
    clear h0 hl
    go_enter Tryd.func41, Tryd.ntmps41
    go_upto_region 1 with (fail)
    obtain ⟨W, hW, extW, bx, hz⟩ := box1 w 24 #[.bool s, .slice A n c]
    rw [← hW]
    clear hW
    have x0 := bx.cell 0 (.bool s) rfl
    have x1 := bx.cell 1 (.slice A n c) rfl
    go_wp2_with (go_at_call 26; refine (int_trimN Hn.out (hx.ext extW) hc hcm).mono ?_; rintro e w1 ⟨rfl, rfl⟩)
    go_ret
    exact ⟨ret_int (by rw [hsg.out, if_pos H0.out]), extW⟩
  · have hl : (trimL xs).length ≠ 0 := fun h => h0 (List.eq_nil_of_length_eq_zero h)
    have ht : (((trimL xs).length : Int) == 0) = false := by rw [beq_eq_false_iff_ne]; omega
    have H0 := Lib.hid h0
    clear h0 hl
    cases s
    all_goals
      go_enter Tryd.func41, Tryd.ntmps41
      go_upto_region 1 with (fail)
      obtain ⟨W, hW, extW, bx, hz⟩ := box1 w 24 #[.bool _, .slice A n c]
      rw [← hW]
      clear hW
      have x0 := bx.cell 0 (.bool _) rfl
      have x1 := bx.cell 1 (.slice A n c) rfl
      go_wp2_with (go_at_call 26; refine (int_trimN Hn.out (hx.ext extW) hc hcm).mono ?_; rintro e w1 ⟨rfl, rfl⟩)
      go_ret
      exact ⟨ret_int (by rw [hsg.out, if_neg H0.out]; rfl), extW⟩

end
end Go.Proofs.YtmjmcinnbmjpdaaDoor
namespace Go.Proofs.YtmjmcinnbmjpdaaDoor
open Go.RowKit
attribute [local go_sem ↓] Go.wp_at_zero Go.wp_at_succ
theorem at_world {P : Program} {c : Code} {Q : Exit → Act → World → Prop} {a : Act} {w : World} (C : World → Prop) (h : C w) (k : ∀ W, C W → Code.wp P c Q a W) : Code.wp P c Q a w := k w h
theorem at_then {K : Act → World → Prop} {Q : Exit → Act → World → Prop} {e : Exit} {a : Act} {w : World} (C : World → Prop) (h : C w) (k : ∀ W, C W → Exit.then K Q e a W) : Exit.then K Q e a w := k w h
theorem IsInt.nn {z : Int} {ys : List Nat} (h : IsInt z false ys) : 0 ≤ z := by have := h.eq; unfold ival at this; simp at this; omega
theorem IsInt.np {z : Int} {ys : List Nat} (h : IsInt z true ys) : z < 0 := by
  have := h.neg
  have := of_decide_eq_true this.symm
  exact this
theorem IsInt.sgn0 {z : Int} {b : Bool} (h : IsInt z b []) : z.sign = 0 := by
  have := h.zero.1 rfl
  rw [this]; rfl
theorem IsInt.sgn1 {z : Int} {x : Nat} {xs : List Nat} (h : IsInt z false (x :: xs)) : z.sign = 1 := by
  have h0 : z ≠ 0 := fun h0 => by have := h.zero.2 h0; cases this
  have := h.nn
  exact Int.sign_eq_one_of_pos (by omega)
theorem IsInt.sgn2 {z : Int} {x : Nat} {xs : List Nat} (h : IsInt z true (x :: xs)) : z.sign = -1 := Int.sign_eq_neg_one_of_neg h.np
/-- behind 'a, b = Norm(a), Norm(b)': both boxes hold normal forms. -/
def TwoN (w _W : World) (x y : Int) (lx ly : Nat) (R : World → Prop) (wx : World) : Prop :=
  ∃ b3 A3 c3 rs b4 A4 c4 qs, Ext w wx ∧ Box wx w.heap.size 24 #[.bool b3, .slice A3 (List.length rs) c3] ∧ Box wx (w.heap.size + 1) 24 #[.bool b4, .slice A4 (List.length qs) c4] ∧ R wx ∧ Rd wx A3 rs ∧ Rd wx A4 qs ∧
    rs.length ≤ c3 ∧ c3 ≤ maxLen ∧ qs.length ≤ c4 ∧ c4 ≤ maxLen ∧ IsInt x b3 rs ∧ IsInt y b4 qs ∧ rs.length ≤ lx ∧ qs.length ≤ ly
theorem TwoN.mk' {w W w4 : World} {x y : Int} {lx ly : Nat} {R : World → Prop} {s t b3 b4 : Bool} {A A3 B A4 : Option Addr} {n c m d c3 c4 : Nat} {rs qs : List Nat} (extW : Ext w W) (e4 : Ext W w4)
    (bx : Box W w.heap.size 24 #[.bool s, .slice A n c]) (by_ : Box W (w.heap.size + 1) 24 #[.bool t, .slice B m d]) (hr3 : Rd w4 A3 rs) (hr4 : Rd w4 A4 qs)
    (h1 : rs.length ≤ c3) (h2 : c3 ≤ maxLen) (h3 : qs.length ≤ c4) (h4 : c4 ≤ maxLen) (hi3 : IsInt x b3 rs) (hi4 : IsInt y b4 qs) (h5 : rs.length ≤ lx) (h6 : qs.length ≤ ly)
    (hR : ∀ u v p q, R ((((w4.setCell ⟨w.heap.size, 0, none⟩ u).setCell ⟨w.heap.size, 1, none⟩ v).setCell ⟨w.heap.size + 1, 0, none⟩ p).setCell ⟨w.heap.size + 1, 1, none⟩ q)) :
    TwoN w W x y lx ly R ((((w4.setCell ⟨w.heap.size, 0, none⟩ (.bool b3)).setCell ⟨w.heap.size, 1, none⟩ (.slice A3 rs.length c3)).setCell ⟨w.heap.size + 1, 0, none⟩ (.bool b4)).setCell ⟨w.heap.size + 1, 1, none⟩ (.slice A4 qs.length c4)) := by
  have k1 := bx.ext e4
  have k2 := by_.ext e4
  obtain ⟨r1, r2, _, _⟩ := fin_pair (b := b3) (n := rs.length) (c := c3) (extW.trans e4) (Nat.le_refl _) k1 hr3
  have q1 := (hr4.setBox k1 NoWord.two 0 (.bool b3)).setBox (k1.setA (.bool b3)) NoWord.two 1 (.slice A3 rs.length c3)
  have j1 := (k1.setA (.bool b3)).setB (.slice A3 rs.length c3)
  have j2 := ((k2.far (p := ⟨w.heap.size, 0, none⟩) (by simp) (.bool b3)).far (p := ⟨w.heap.size, 1, none⟩) (by simp) (.slice A3 rs.length c3))
  have j20 := j2.setA (.bool b4)
  have j3 := j20.setB (.slice A4 qs.length c4)
  have j4 := ((j1.far (p := ⟨w.heap.size + 1, 0, none⟩) (by simp) (.bool b4)).far (p := ⟨w.heap.size + 1, 1, none⟩) (by simp) (.slice A4 qs.length c4))
  have hE := (r2.setCell (p := ⟨w.heap.size + 1, 0, none⟩) (Nat.le_succ _) (.bool b4)).setCell (p := ⟨w.heap.size + 1, 1, none⟩) (Nat.le_succ _) (.slice A4 qs.length c4)
  have r3 := (r1.setBox j2 NoWord.two 0 (.bool b4)).setBox j20 NoWord.two 1 (.slice A4 qs.length c4)
  have q3 := (q1.setBox j2 NoWord.two 0 (.bool b4)).setBox j20 NoWord.two 1 (.slice A4 qs.length c4)
  have hRR := hR (.bool b3) (.slice A3 rs.length c3) (.bool b4) (.slice A4 qs.length c4)
  exact ⟨b3, A3, c3, rs, b4, A4, c4, qs, hE, j4, j3, hRR, r3, q3, h1, h2, h3, h4, hi3, hi4, h5, h6⟩
theorem far_ne {g h i : Nat} (hne : g ≠ h) : g ≠ (⟨h, i, none⟩ : Addr).block := hne
theorem cmpI_of_lt {a b : Nat} (h : a < b) : cmpI a b = -1 := by simp [cmpI, h]
theorem cmpI_of_eq {a b : Nat} (h : a = b) : cmpI a b = 0 := by rw [h]; exact cmpI_self b
theorem cmpI_of_gt {a b : Nat} (h : b < a) : cmpI a b = 1 := by simp [cmpI, h, Nat.lt_asymm h]
theorem len_le {xs ys : List Nat} (hy : W32 ys) (nx : Nrm xs) (h : val xs ≤ val ys) : xs.length ≤ ys.length := by
  rcases Nat.lt_or_ge ys.length xs.length with hl | hl
  · have := val_lt_of_len hy nx hl; omega
  · exact hl
theorem isint_val {z : Int} {b : Bool} {ys : List Nat} (h : IsInt z b ys) : (val ys : Int) = if b then -z else z := by
  have := h.eq
  unfold ival at this
  cases b <;> simp at this ⊢ <;> omega
section
variable {A B : Option Addr} {c d n m : Nat} {xs ys : List Nat} {w : World} {s t : Bool}
set_option maxHeartbeats 1000000 in
theorem ref_Sign (hn : xs.length = n) (hx : Rd w A xs) (hc : n ≤ c) (hcm : c ≤ maxLen) (h1 : n ≤ 100000) :
    Calls Tryd.prog 12 #[.agg #[.bool s, .slice A n c]] w fun e w' => e = .returned (.int .i64 (ival s xs).sign) ∧ Ext w w' := by
  go_enter Tryd.func12, Tryd.ntmps12
  go_upto_region 1 with (fail)
  obtain ⟨W, hW, extW, bx, hz⟩ := box1 w 24 #[.bool s, .slice A n c]
  rw [← hW]
  clear hW
  have x0 := bx.cell 0 (.bool s) rfl
  have x1 := bx.cell 1 (.slice A n c) rfl
  have hf0 := bx.frozen 0
  have hf1 := bx.frozen 1
  go_wp2_with fail
  refine (ref_Norm hn (hx.ext extW) hc hcm h1).mono ?_
  rintro e w3 ⟨b3, A3, c3, rs, rfl, hr3, hc3, hm3, hi3, hl3, hext3⟩
  have bx3 := bx.ext hext3
  have z0 := bx3.cell 0 (.bool s) rfl
  have z1 := bx3.cell 1 (.slice A n c) rfl
  have f0 := bx3.frozen 0
  have f1 := bx3.frozen 1
  have hfin := fin_pair (b := b3) (n := rs.length) (c := c3) (extW.trans hext3) (Nat.le_refl _) bx3 hr3
  have Hfin := Lib.hid hfin
  clear hfin bx bx3 x0 x1 hf0 hf1 hn
  cases rs with
  | nil =>
    go_wp2_with fail
    go_ret
    exact ⟨ret_int hi3.sgn0.symm, Hfin.out.2.1⟩
  | cons r rs' =>
    cases b3 with
    | false =>
      go_wp2_with fail
      go_ret
      exact ⟨ret_int hi3.sgn1.symm, Hfin.out.2.1⟩
    | true =>
      go_wp2_with fail
      go_ret
      exact ⟨ret_int hi3.sgn2.symm, Hfin.out.2.1⟩

end
end Go.Proofs.YtmjmcinnbmjpdaaDoor
