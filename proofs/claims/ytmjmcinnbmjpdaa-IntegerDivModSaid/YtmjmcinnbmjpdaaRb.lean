/- Walks: the reference's word of a quotient. -/
import Derived.Test.YtmjmcinnbmjpdaaRa
import Derived.Test.YtmjmcinnbmjpdaaWf
namespace Go.Proofs.Ytmjmcinnbmjpdaa
open Go.RowKit
theorem digit_first {E v1 top D P : Nat} (h1 : E * v1 ≤ D) (hv : 0 < v1) (h2 : P < E * top + E) : P < (top / v1 + 1) * D := by
  have hq : top + 1 ≤ (top / v1 + 1) * v1 := by
    have := Nat.div_add_mod top v1
    have h2 := Nat.mod_lt top hv
    rw [Nat.add_mul, Nat.mul_comm (top / v1)]
    omega
  have a := Nat.mul_le_mul_left E hq
  rw [Nat.mul_add, Nat.mul_one, Nat.mul_left_comm] at a
  have b := Nat.mul_le_mul_left (top / v1 + 1) h1
  omega
theorem digit_of {ps ds : List Nat} {n : Nat} (hp : W32 ps) (h0 : 0 < n) (hpl : ps.length = n + 1) (hdl : ds.length = n) :
    4294967296 ^ (n - 1) * ds[n - 1]'(by omega) ≤ val ds ∧ val ps < 4294967296 ^ (n - 1) * (ps[n]'(by omega) * 4294967296 + ps[n - 1]'(by omega)) + 4294967296 ^ (n - 1) := by
  obtain ⟨k, rfl⟩ : ∃ k, n = k + 1 := ⟨n - 1, by omega⟩
  simp only [Nat.add_sub_cancel]
  have d1 := val_take_succ ds k (by omega)
  rw [List.take_of_length_le (by omega)] at d1
  have p1 := val_take_succ ps k (by omega)
  have p2 := val_take_succ ps (k + 1) (by omega)
  rw [List.take_of_length_le (by omega)] at p2
  have lp := val_lt (hp.take k)
  rw [List.length_take, Nat.min_eq_left (by omega)] at lp
  refine ⟨by omega, ?_⟩
  rw [p2, p1, Nat.pow_succ, Nat.mul_add, Nat.mul_assoc, Nat.mul_comm 4294967296]
  omega
section
variable {A B : Option Addr} {c d n m : Nat} {xs ys : List Nat} {w : World} {s t : Bool}
set_option maxHeartbeats 4000000 in
theorem ref_digit {ps ds : List Nat} (hpl : ps.length = n + 1) (hdl : ds.length = n) (h0 : 0 < n) (hp : Rd w A ps) (hd : Rd w B ds) (hdn : Nrm ds) (hlt : val ps < 4294967296 * val ds) (hcp : n + 1 ≤ c) (hcm : c ≤ maxLen) (h1 : n ≤ 10000) :
    Calls Try.prog 83 #[.slice A (n + 1) c, .slice B n d] w fun e w' => ∃ (q : Nat) (A' : Option Addr) (c' : Nat) (us : List Nat), e = .returned (.tuple #[.int .u32 (q : Int), .slice A' us.length c']) ∧ Own w' w.heap.size A' us ∧ us.length ≤ c' ∧ c' ≤ maxLen ∧ q < 4294967296 ∧ val us = q * val ds ∧ Nrm us ∧ q * val ds ≤ val ps ∧ val ps < (q + 1) * val ds ∧ Ext w w' := by
  have hdf := digit_of hp.1 h0 hpl hdl
  have hv0 : ds[n - 1]'(by omega) ≠ 0 := by
    subst hdl
    exact hdn.last h0
  obtain ⟨b1, o1, rfl, hb1, c0⟩ := hp.at_ (i := n) (by omega)
  obtain ⟨b1', o1', he, _, c1⟩ := hp.at_ (i := n - 1) (by omega)
  injection he with he
  injection he with he1 he2
  subst he1; subst he2
  obtain ⟨b2, o2, rfl, hb2, d1⟩ := hd.at_ (i := n - 1) (by omega)
  have hu0 := hp.1.get (k := n) (by omega)
  have hu1 := hp.1.get (k := n - 1) (by omega)
  have hv1 := hd.1.get (k := n - 1) (by omega)
  have hor := high_or hu1 hu0
  have hnl : ps[n]'(by omega) * 4294967296 + ps[n - 1]'(by omega) < 18446744073709551616 := by omega
  generalize ps[n]'(by omega) = U0 at *
  generalize ps[n - 1]'(by omega) = U1 at *
  generalize ds[n - 1]'(by omega) = V1 at *
  generalize U0 * 4294967296 + U1 = T at *
  have hz0 : ((V1 : Int) == 0) = false := by rw [beq_eq_false_iff_ne]; omega
  have hp1 : (1 : Int) ≤ (V1 : Int) := by omega
  have hdf1 := digit_first hdf.1 (by omega) hdf.2
  have hq' : (T : Int).tdiv (V1 : Int) = ((T / V1 : Nat) : Int) := rfl
  have hQT : T / V1 ≤ T := Nat.div_le_self _ _
  generalize T / V1 = Q at *
  have hwu := wrap_u64_nat (a := Q) (by omega)
  have Hpl := Lib.hid hpl
  have Hdl := Lib.hid hdl
  have Hlt := Lib.hid hlt
  have Hdf1 := Lib.hid hdf1
  clear hpl hdl hlt hdf1
  by_cases hbig : 4294967295 < Q
  · have d3 : decide ((4294967295 : Int) < (Q : Int)) = true := decide_eq_true (by omega)
    have hfirst := Hlt.out
    have Hfirst := Lib.hid hfirst
    clear hfirst hdf
    go_enter Try.func83, Try.ntmps83
    go_wp2
    go_quiet (fail)
    have hnb := fun W : World => BlkN.lit W [4294967295] #[.int .u32 ((4294967295 : Nat) : Int)] rfl
    have hw1 : W32 [4294967295] := W32.one (by omega)
    go_wp2_with fail
    refine (ref_times1 (m := 1) (xs := ds) (ys := [4294967295]) Hdl.out rfl (hd.ext (((Ext.refl w).drewN _).alloc _)) ((hnb _).rd0 hw1) (by omega)).mono ?_
    rintro e w1 ⟨A1, c1, pp, rfl, ho1, hc1, hm1, ⟨hv1', hn1, hl1⟩, hxt1⟩
    rw [val_one, Nat.mul_comm] at hv1'
    have Hv1 := Lib.hid hv1'
    have ext1 := ((((Ext.refl w).drewN _).alloc _).trans hxt1 : Ext w _)
    have hl1' : pp.length ≤ n + 1 := by rw [Hdl.out] at hl1; exact hl1
    clear hv1' hl1 hnb hw1
    go_wp2_with fail
    go_loopw [7, 8] (fun a b wr => ∃ (q : Nat) (A2 : Option Addr) (c2 : Nat) (us : List Nat), a = .int .u64 (q : Int) ∧ b = .slice A2 us.length c2 ∧ val us = q * val ds ∧ Nrm us ∧ Own wr w.heap.size A2 us ∧ us.length ≤ c2 ∧ c2 ≤ maxLen ∧ us.length ≤ n + 1 ∧ val ps < (q + 1) * val ds ∧ q < 4294967296 ∧ Ext w wr) (fun a _ _ => (intOf a).toNat)
    case atStart => exact ⟨4294967295, A1, c1, pp, rfl, rfl, Hv1.out, hn1, ho1.mono (by first | exact (((Ext.refl w).drewN _).alloc _).size | simp), hc1, hm1, hl1', Hfirst.out, (by omega), ext1⟩
    case round =>
      clear ho1 hc1 hm1 hn1 hl1' ext1 hxt1
      obtain ⟨q, A2, c2, us, rfl, rfl, huv, hun, hou, hc2, hm2, hul, hP, hq32, hext⟩ := hrel
      have Huv := Lib.hid huv
      have HP := Lib.hid hP
      clear huv hP
      go_wp2_with fail
      refine (ref_trimN Hpl.out (hp.ext hext) hcp hcm).mono ?_
      rintro e w2 ⟨rfl, rfl⟩
      have hpt : Rd wr (some ⟨b1, o1, none⟩) (trimL ps) := by rw [trimL_take]; exact (hp.ext hext).take _
      have hptl : (trimL ps).length ≤ n + 1 := by have := trimL_len ps; rw [Hpl.out] at this; exact this
      go_wp2_with fail
      refine (ref_compare _ A2 c c2 (trimL ps) us wr hpt hou.rd (by unfold maxLen; omega) (by unfold maxLen; omega)).mono ?_
      rintro e w2 ⟨rfl, hxt2⟩
      have hcv : cmpL (trimL ps) us = cmpI (val ps) (val us) := by rw [cmpL_nrm hpt.1 hou.1 (Nrm.trimL _) hun, val_trimL]
      rw [hcv]
      clear hcv
      rcases Nat.lt_trichotomy (val ps) (val us) with hlt | hlt | hlt
      · rw [cmpI_of_lt hlt]
        rw [Huv.out] at hlt
        have hq0 : 1 ≤ q := by
          rcases Nat.eq_zero_or_pos q with rfl | h
          · rw [Nat.zero_mul] at hlt; omega
          · exact h
        have hle : val ds ≤ val us := by
          rw [Huv.out]
          exact Nat.le_mul_of_pos_left _ hq0
        have hlen : n ≤ us.length := by have := len_le hou.1 hdn hle; rw [Hdl.out] at this; exact this
        have Hle := Lib.hid hle
        have Hlt := Lib.hid hlt
        have hqi : (1 : Int) ≤ (q : Int) := by omega
        clear hle hlt
        go_wp2_with fail
        refine (ref_minus rfl Hdl.out (hou.rd.ext hxt2) (hd.ext (hext.trans hxt2)) hlen Hle.out (by omega)).mono ?_
        rintro e w3 ⟨A3, c3, vs, rfl, ho3, hc3, hm3, ⟨hv3, hn3, hl3⟩, hxt3⟩
        have Hv3 := Lib.hid hv3
        clear hv3
        go_wp2_with fail
        go_roundw
        case rel =>
          refine ⟨q - 1, A3, c3, vs, congrArg (Value.int .u64) (by omega), rfl, ?_, hn3, ho3.mono (hext.trans hxt2).size, hc3, hm3, by omega, ?_, by omega, hext.trans (hxt2.trans hxt3)⟩
          · rw [Hv3.out, Huv.out, Nat.sub_mul, Nat.one_mul]
          · rw [Nat.sub_add_cancel hq0]; exact Hlt.out
        case measure => simp [intOf]; omega
      · rw [cmpI_of_eq hlt]
        rw [Huv.out] at hlt
        have Hlt := Lib.hid hlt
        clear hlt
        go_wp2_with fail
        go_ret2
        exact ⟨q, A2, c2, us, rfl, hou.ext hxt2, hc2, hm2, hq32, Huv.out, hun, by rw [Hlt.out]; exact Nat.le_refl _, HP.out, hext.trans hxt2⟩
      · rw [cmpI_of_gt hlt]
        rw [Huv.out] at hlt
        have Hlt := Lib.hid hlt
        clear hlt
        go_wp2_with fail
        go_ret2
        exact ⟨q, A2, c2, us, rfl, hou.ext hxt2, hc2, hm2, hq32, Huv.out, hun, Nat.le_of_lt Hlt.out, HP.out, hext.trans hxt2⟩
  · have d3 : decide ((4294967295 : Int) < (Q : Int)) = false := decide_eq_false (by omega)
    have hQ32 : Q < 4294967296 := by omega
    have hfirst := Hdf1.out
    have Hfirst := Lib.hid hfirst
    clear hfirst hdf
    go_enter Try.func83, Try.ntmps83
    go_wp2
    go_quiet (fail)
    have hnb := fun W : World => BlkN.lit W [Q] #[.int .u32 ((Q : Nat) : Int)] rfl
    have hw1 : W32 [Q] := W32.one hQ32
    go_wp2_with fail
    refine (ref_times1 (m := 1) (xs := ds) (ys := [Q]) Hdl.out rfl (hd.ext (((Ext.refl w).drewN _).alloc _)) ((hnb _).rd0 hw1) (by omega)).mono ?_
    rintro e w1 ⟨A1, c1, pp, rfl, ho1, hc1, hm1, ⟨hv1', hn1, hl1⟩, hxt1⟩
    rw [val_one, Nat.mul_comm] at hv1'
    have Hv1 := Lib.hid hv1'
    have ext1 := ((((Ext.refl w).drewN _).alloc _).trans hxt1 : Ext w _)
    have hl1' : pp.length ≤ n + 1 := by rw [Hdl.out] at hl1; exact hl1
    clear hv1' hl1 hnb hw1
    go_wp2_with fail
    go_loopw [7, 8] (fun a b wr => ∃ (q : Nat) (A2 : Option Addr) (c2 : Nat) (us : List Nat), a = .int .u64 (q : Int) ∧ b = .slice A2 us.length c2 ∧ val us = q * val ds ∧ Nrm us ∧ Own wr w.heap.size A2 us ∧ us.length ≤ c2 ∧ c2 ≤ maxLen ∧ us.length ≤ n + 1 ∧ val ps < (q + 1) * val ds ∧ q < 4294967296 ∧ Ext w wr) (fun a _ _ => (intOf a).toNat)
    case atStart => exact ⟨Q, A1, c1, pp, rfl, rfl, Hv1.out, hn1, ho1.mono (by first | exact (((Ext.refl w).drewN _).alloc _).size | simp), hc1, hm1, hl1', Hfirst.out, hQ32, ext1⟩
    case round =>
      clear ho1 hc1 hm1 hn1 hl1' ext1 hxt1
      obtain ⟨q, A2, c2, us, rfl, rfl, huv, hun, hou, hc2, hm2, hul, hP, hq32, hext⟩ := hrel
      have Huv := Lib.hid huv
      have HP := Lib.hid hP
      clear huv hP
      go_wp2_with fail
      refine (ref_trimN Hpl.out (hp.ext hext) hcp hcm).mono ?_
      rintro e w2 ⟨rfl, rfl⟩
      have hpt : Rd wr (some ⟨b1, o1, none⟩) (trimL ps) := by rw [trimL_take]; exact (hp.ext hext).take _
      have hptl : (trimL ps).length ≤ n + 1 := by have := trimL_len ps; rw [Hpl.out] at this; exact this
      go_wp2_with fail
      refine (ref_compare _ A2 c c2 (trimL ps) us wr hpt hou.rd (by unfold maxLen; omega) (by unfold maxLen; omega)).mono ?_
      rintro e w2 ⟨rfl, hxt2⟩
      have hcv : cmpL (trimL ps) us = cmpI (val ps) (val us) := by rw [cmpL_nrm hpt.1 hou.1 (Nrm.trimL _) hun, val_trimL]
      rw [hcv]
      clear hcv
      rcases Nat.lt_trichotomy (val ps) (val us) with hlt | hlt | hlt
      · rw [cmpI_of_lt hlt]
        rw [Huv.out] at hlt
        have hq0 : 1 ≤ q := by
          rcases Nat.eq_zero_or_pos q with rfl | h
          · rw [Nat.zero_mul] at hlt; omega
          · exact h
        have hle : val ds ≤ val us := by
          rw [Huv.out]
          exact Nat.le_mul_of_pos_left _ hq0
        have hlen : n ≤ us.length := by have := len_le hou.1 hdn hle; rw [Hdl.out] at this; exact this
        have Hle := Lib.hid hle
        have Hlt := Lib.hid hlt
        have hqi : (1 : Int) ≤ (q : Int) := by omega
        clear hle hlt
        go_wp2_with fail
        refine (ref_minus rfl Hdl.out (hou.rd.ext hxt2) (hd.ext (hext.trans hxt2)) hlen Hle.out (by omega)).mono ?_
        rintro e w3 ⟨A3, c3, vs, rfl, ho3, hc3, hm3, ⟨hv3, hn3, hl3⟩, hxt3⟩
        have Hv3 := Lib.hid hv3
        clear hv3
        go_wp2_with fail
        go_roundw
        case rel =>
          refine ⟨q - 1, A3, c3, vs, congrArg (Value.int .u64) (by omega), rfl, ?_, hn3, ho3.mono (hext.trans hxt2).size, hc3, hm3, by omega, ?_, by omega, hext.trans (hxt2.trans hxt3)⟩
          · rw [Hv3.out, Huv.out, Nat.sub_mul, Nat.one_mul]
          · rw [Nat.sub_add_cancel hq0]; exact Hlt.out
        case measure => simp [intOf]; omega
      · rw [cmpI_of_eq hlt]
        rw [Huv.out] at hlt
        have Hlt := Lib.hid hlt
        clear hlt
        go_wp2_with fail
        go_ret2
        exact ⟨q, A2, c2, us, rfl, hou.ext hxt2, hc2, hm2, hq32, Huv.out, hun, by rw [Hlt.out]; exact Nat.le_refl _, HP.out, hext.trans hxt2⟩
      · rw [cmpI_of_gt hlt]
        rw [Huv.out] at hlt
        have Hlt := Lib.hid hlt
        clear hlt
        go_wp2_with fail
        go_ret2
        exact ⟨q, A2, c2, us, rfl, hou.ext hxt2, hc2, hm2, hq32, Huv.out, hun, Nat.le_of_lt Hlt.out, HP.out, hext.trans hxt2⟩
end
end Go.Proofs.Ytmjmcinnbmjpdaa
