/- Walks and laws, a part. -/
import Derived.Test.YtiioodgpkdbndaaGreatDoorM0
import Derived.Test.YtiioodgpkdbndaaGreatDoorM1
import Derived.Test.YtiioodgpkdbndaaGreatDoorM2
import Derived.Test.YtiioodgpkdbndaaGreatDoorM3
import Derived.Test.YtiioodgpkdbndaaGreatDoorM4
import Derived.Test.YtiioodgpkdbndaaGreatDoorM5
import Derived.Test.YtiioodgpkdbndaaGreatDoorM6
import Derived.Test.YtiioodgpkdbndaaGreatDoorM7
import Derived.Test.YtiioodgpkdbndaaGreatDoorM8
import Derived.Test.YtiioodgpkdbndaaGreatDoorM9
import Derived.Test.YtiioodgpkdbndaaGreatDoorMi0
namespace Go.Proofs.YtiioodgpkdbndaaGreatDoor
open Go.RowKit
attribute [local go_sem ↓] Go.wp_at_zero Go.wp_at_succ
theorem ps_pos {l : List UInt8} (hp : ∀ t, l ≠ 45 :: t) (hd : Digs l) (z : Int) (hz : z = (dv l : Int)) : (Lib.itoa z = l → PS l z) ∧ (Lib.itoa z ≠ l → ∀ y, ¬ PS l y) := by
  subst hz
  have e : Lib.itoa (dv l : Int) = Lib.decDigits (dv l) := by unfold Lib.itoa; rw [if_neg (by omega)]; rfl
  refine ⟨fun h => .inr ⟨hd, (dec_iff hd).1 (e.symm.trans h), rfl⟩, fun h y hy => ?_⟩
  rcases hy with ⟨t, ht, _⟩ | ⟨_, hc, _⟩
  · exact hp t ht
  · exact h (e.trans ((dec_iff hd).2 hc))
theorem not_dig45 : ¬ Dig 45 := fun h => absurd h.1 (by decide)
theorem ps_neg {t : List UInt8} (hd : Digs t) (z : Int) (hz : z = -(dv t : Int)) : (Lib.itoa z = 45 :: t → PS (45 :: t) z) ∧ (Lib.itoa z ≠ 45 :: t → ∀ y, ¬ PS (45 :: t) y) := by
  subst hz
  by_cases h0 : dv t = 0
  · rw [h0]
    have e : Lib.itoa (-((0 : Nat) : Int)) = [48] := by rw [itoa_fd]; rfl
    rw [e]
    refine ⟨fun h => (by injection h with h _; cases h), fun _ y hy => ?_⟩
    rcases hy with ⟨t', ht, hd', hc, hn, _⟩ | ⟨h1, _⟩
    · injection ht with _ ht
      subst ht
      exact hn (dv_zero_canon hd' hc h0)
    · exact not_dig45 (h1 45 (by simp))
  · have e : Lib.itoa (-(dv t : Int)) = 45 :: Lib.decDigits (dv t) := by unfold Lib.itoa; rw [if_pos (by omega)]; congr 2; omega
    rw [e]
    refine ⟨fun h => ?_, fun h y hy => ?_⟩
    · injection h with _ h
      refine .inl ⟨t, rfl, hd, (dec_iff hd).1 h, ?_, rfl⟩
      rintro rfl
      exact h0 rfl
    · rcases hy with ⟨t', ht, _, hc, _⟩ | ⟨h1, _⟩
      · injection ht with _ ht
        subst ht
        exact h (by rw [(dec_iff hd).2 hc])
      · exact not_dig45 (h1 45 (by simp))
theorem ps_nd {l : List UInt8} (hp : ∀ t, l ≠ 45 :: t) (hd : ¬ Digs l) : ∀ y, ¬ PS l y := fun y hy => by
  rcases hy with ⟨t, ht, _⟩ | ⟨h, _⟩
  · exact hp t ht
  · exact hd h
theorem ps_ndn {t : List UInt8} (hd : ¬ Digs t) : ∀ y, ¬ PS (45 :: t) y := fun y hy => by
  rcases hy with ⟨t', ht, h, _⟩ | ⟨h, _⟩
  · injection ht with _ ht
    subst ht
    exact hd h
  · exact not_dig45 (h 45 (by simp))
/-- what Parse returns. -/
def PSOut (l : List UInt8) (len : Nat) (w : World) (e : Ending) (w' : World) : Prop := (∃ z, PS l z ∧ RetIE z len 0 w e w') ∨ ((∀ z, ¬ PS l z) ∧ RetIE 0 0 2 w e w')
section
variable {s : ByteArray} {w : World}
set_option maxRecDepth 100000 in
set_option maxHeartbeats 4000000 in
theorem rparse_p (hs : s.size ≤ 1000) (hp : ∀ t, s.data.toList ≠ 45 :: t) (h0 : 0 < s.size) (h45 : s[0].toNat ≠ 45) : Calls Tryz.prog 88 #[.string s] w (PSOut s.data.toList 10000 w) := by
  have HP := Lib.hid hp
  have t0 : decide ((0 : Int) < (s.size : Int)) = true := decide_eq_true (by omega)
  have t9 : ((s[0].toNat : Int) == 45) = false := by rw [beq_eq_false_iff_ne]; omega
  have T9 := Lib.hid h45
  clear hp h45
  go_enter Tryz.func88, Tryz.ntmps88
  go_upto_region 1 with (fail)
  obtain ⟨W, hW, extW, bz, hz⟩ := box1 w 24 #[.bool false, .slice none 0 0]
  rw [← hW]
  clear hW
  go_upto_region 7 with (fail)
  refine at_world (fun V => Ext w V ∧ Box V w.heap.size 24 #[.bool false, .slice none 0 0] ∧ Box V W.heap.size 24 #[.bool false, .slice none 0 0] ∧ W.heap.size < V.heap.size) ⟨extW.alloc _, bz.ext ((Ext.refl W).alloc _), Box.new W _ _, by simp⟩ ?_
  have hz5 := hz
  generalize W.heap.size = g5 at hz hz5 ⊢
  rintro V ⟨EV, bz, b5, h5⟩
  go_wp2
  go_loopw [6] (fun i wr => ∃ (k : Nat) (b : Bool) (A : Option Addr) (c : Nat) (ys : List Nat), k ≤ s.size ∧ i = .int .i64 (k : Int) ∧ Box wr w.heap.size 24 #[.bool false, .slice none 0 0] ∧ Box wr g5 24 #[.bool b, .slice A ys.length c] ∧ Rd wr A ys ∧ ys.length ≤ c ∧ c ≤ maxLen ∧ IsInt (dv (s.data.toList.take k) : Int) b ys ∧ ys.length ≤ 3 * k ∧ Ext w wr ∧ ∀ j (hj : j < s.size), j < k → Dig s[j]) (fun i _ => s.size - (intOf i).toNat)
  case atStart => exact ⟨0, false, none, 0, [], Nat.zero_le _, rfl, bz, b5, Rd.nil _ _, by simp, by unfold maxLen; omega, by rw [List.take_zero]; exact IsInt.nil false, by simp, EV, fun j _ h => absurd h (by omega)⟩
  case round =>
    obtain ⟨k, b, A, c, ys, hk, rfl, bzr, b5r, hr, hyc, hycm, hiy, hyl, EXT, hdg⟩ := hrel
    have Hdg := Lib.hid hdg
    clear hdg
    by_cases hlt : k < s.size
    · by_cases hd : Dig s[k]
      · have hd1 := hd.1
        have hd2 := hd.2
        have t1 : decide ((s[k].toNat : Int) < 48) = false := decide_eq_false (by omega)
        have t2 : decide ((57 : Int) < (s[k].toNat : Int)) = false := decide_eq_false (by omega)
        have hi1 : (48 : Int) ≤ (s[k].toNat : Int) := by omega
        have hi2 : (s[k].toNat : Int) ≤ 57 := by omega
        have x0 := b5r.cell 0 (.bool b) rfl
        have x1 := b5r.cell 1 (.slice A ys.length c) rfl
        have hyl2 : ys.length ≤ 3000 := by omega
        go_upto_region 12 with (fail)
        have hstep := dv_take s k hlt
        have Hstep := Lib.hid (show (dv (s.data.toList.take k) : Int) * 10 + ((s[k].toNat : Int) - 48) = (dv (s.data.toList.take (k + 1)) : Int) by omega)
        have Hd := Lib.hid hd
        clear hstep hd hd1 hd2
        refine wpL.start 10 (by kernel_rfl) (fun _ _ _ _ _ => ⟨fun h => h, fun h => h⟩) (fun hQ ES => ?_)
        refine wpL.take (i := 0) (d := some 40) (v := ?v0_1) rfl rfl (by kernel_rfl) (by kernel_rfl) (by kernel_rfl) (by kernel_rfl) hQ (Or.inl ⟨by rfl, ?y0_1⟩) ES ?r0_1
        case y0_1 =>
          intro w' hSw
          have k0 := (b5r.ext hSw).c2
          go_simp
          try with_reducible rfl
        try simp only [Act.put]
        try simp only [List.setIfInBounds_toArray]
        try simp only [List.set_cons_succ]
        try simp only [List.set_cons_zero]
        refine wpL.take (i := 3) (d := some 43) (v := ?v3_2) rfl rfl (by kernel_rfl) (by kernel_rfl) (by kernel_rfl) (by kernel_rfl) hQ (Or.inl ⟨by rfl, ?y3_2⟩) ES ?r3_2
        case y3_2 =>
          intro w' hSw
          go_simp
          try with_reducible rfl
        try simp only [Act.put]
        try simp only [List.setIfInBounds_toArray]
        try simp only [List.set_cons_succ]
        try simp only [List.set_cons_zero]
        refine wpL.take (i := 4) (d := some 44) (v := ?v4_3) rfl rfl (by kernel_rfl) (by kernel_rfl) (by kernel_rfl) (by kernel_rfl) hQ (Or.inl ⟨by rfl, ?y4_3⟩) ES ?r4_3
        case y4_3 =>
          intro w' hSw
          go_simp
          try with_reducible rfl
        try simp only [Act.put]
        try simp only [List.setIfInBounds_toArray]
        try simp only [List.set_cons_succ]
        try simp only [List.set_cons_zero]
        refine wpL.take (i := 5) (d := some 45) (v := ?v5_4) rfl rfl (by kernel_rfl) (by kernel_rfl) (by kernel_rfl) (by kernel_rfl) hQ (Or.inl ⟨by rfl, ?y5_4⟩) ES ?r5_4
        case y5_4 =>
          intro w' hSw
          go_simp
          try with_reducible rfl
        try simp only [Act.put]
        try simp only [List.setIfInBounds_toArray]
        try simp only [List.set_cons_succ]
        try simp only [List.set_cons_zero]
        refine wpL.take (i := 6) (d := some 46) (v := ?v6_5) rfl rfl (by kernel_rfl) (by kernel_rfl) (by kernel_rfl) (by kernel_rfl) hQ (Or.inl ⟨by rfl, ?y6_5⟩) ES ?r6_5
        case y6_5 =>
          intro w' hSw
          go_simp
          try with_reducible rfl
        try simp only [Act.put]
        try simp only [List.setIfInBounds_toArray]
        try simp only [List.set_cons_succ]
        try simp only [List.set_cons_zero]
        refine wpL.take (i := 7) (d := some 47) (v := ?v7_6) rfl rfl (by kernel_rfl) (by kernel_rfl) (by kernel_rfl) (by kernel_rfl) hQ (Or.inl ⟨by rfl, ?y7_6⟩) ES ?r7_6
        case y7_6 =>
          intro w' hSw
          go_simp
          try with_reducible rfl
        try simp only [Act.put]
        try simp only [List.setIfInBounds_toArray]
        try simp only [List.set_cons_succ]
        try simp only [List.set_cons_zero]
        refine wpL.call (i := 1) rfl (by kernel_rfl) (fun K hK => ?_)
        go_simp
        (go_at_call 44; refine (ref_FromInt 10 (by omega) (by omega)).mono ?_; rintro e wk1 ⟨bf, Af, cf, fs, rfl, hrf, hcf, hmf, hif, hlf, hxf⟩)
        refine hK.out _ _ (ES.trans hxf) ?_
        clear hK K
        try simp only [Act.put]
        try simp only [List.setIfInBounds_toArray]
        try simp only [List.set_cons_succ]
        try simp only [List.set_cons_zero]
        have ET := ES.trans hxf
        refine wpL.call (i := 2) rfl (by kernel_rfl) (fun K hK => ?_)
        go_simp
        (go_at_call 74; refine (ref_Mul rfl rfl (hr.ext ET) hrf hyc hycm hcf hmf (by omega) (by omega)).mono ?_; rintro e wk2 ⟨bm, Am, cm, ms, rfl, hrm, hcm2, hmm, him, hlm, hxm⟩)
        refine hK.out _ _ (ET.trans hxm) ?_
        clear hK K
        try simp only [Act.put]
        try simp only [List.setIfInBounds_toArray]
        try simp only [List.set_cons_succ]
        try simp only [List.set_cons_zero]
        refine wpL.call (i := 8) rfl (by kernel_rfl) (fun K hK => ?_)
        go_simp
        rw [IntWalk.u8_in _ (by omega), IntWalk.i64_in _ (by omega)]
        (go_at_call 44; refine (ref_FromInt ((s[k].toNat : Int) - 48) (by omega) (by omega)).mono ?_; rintro e wk3 ⟨bd, Ad, cd, ds, rfl, hrd, hcd, hmd, hid, hld, hxd⟩)
        refine hK.out _ _ ((ET.trans hxm).trans hxd) ?_
        clear hK K
        try simp only [Act.put]
        try simp only [List.setIfInBounds_toArray]
        try simp only [List.set_cons_succ]
        try simp only [List.set_cons_zero]
        refine wpL.call (i := 9) rfl (by kernel_rfl) (fun K hK => ?_)
        go_simp
        (go_at_call 73; refine (ref_Add rfl rfl (hrm.ext hxd) hrd hcm2 hmm hcd hmd (by omega) (by omega)).mono ?_; rintro e wk4 ⟨ba, Aa, ca, us, rfl, hra, hca, hma, hia, hla, hxa⟩)
        refine hK.out _ _ (((ET.trans hxm).trans hxd).trans hxa) ?_
        clear hK K
        try simp only [Act.put]
        try simp only [List.setIfInBounds_toArray]
        try simp only [List.set_cons_succ]
        try simp only [List.set_cons_zero]
        have E4 := ET.trans (hxm.trans (hxd.trans hxa))
        have b54 := b5r.ext E4
        have y0 := b54.cell 0 (.bool b) rfl
        have y1 := b54.cell 1 (.slice A ys.length c) rfl
        have f0 := b54.frozen 0
        have f1 := b54.frozen 1
        rw [him.eq, hid.eq, hiy.eq, hif.eq, Hstep.out] at hia
        refine wpL.tail (i := 10) rfl (by kernel_rfl) (by kernel_rfl) (fun K hK => ?_)
        go_simp
        refine hK.out _ _ ?_
        clear hK K
        try simp only [Act.put]
        try simp only [List.setIfInBounds_toArray]
        try simp only [List.set_cons_succ]
        try simp only [List.set_cons_zero]
        refine wpL.done (by kernel_rfl) ?_ _
        clear hQ
        have hp := put_box (b := ba) (A := Aa) (n := us.length) (c := ca) b54
        have hg5 : w.heap.size ≠ g5 := by omega
        have HD := Lib.hid (fun j (hj : j < s.size) (h : j < k + 1) => if he : j = k then (by subst he; exact Hd.out : Dig s[j]) else Hdg.out j hj (by omega))
        have HP5 := Lib.hid hp
        have HI := Lib.hid hia
        clear hp hia
        go_wp2_with fail
        go_roundw
        case rel => exact ⟨k + 1, ba, Aa, ca, us, by omega, by go_num, HP5.out.2.1 _ _ _ hg5 (bzr.ext E4), HP5.out.1, HP5.out.2.2.1 _ _ hra, hca, hma, HI.out, by omega, HP5.out.2.2.2 _ (EXT.trans E4) (by omega), HD.out⟩
        case measure => simp [intOf]; omega
      · have HN := Lib.hid hd
        have hno : ∀ y, ¬ PS s.data.toList y := ps_nd HP.out (fun h => HN.out (digs_at h k hlt))
        have Hno := Lib.hid hno
        clear hno hd
        by_cases h48 : s[k].toNat < 48
        · have t1 : decide ((s[k].toNat : Int) < 48) = true := decide_eq_true (by omega)
          have z0 := bzr.cell 0 (.bool false) rfl
          have z1 := bzr.cell 1 (.slice none 0 0) rfl
          have f0 := bzr.frozen 0
          have f1 := bzr.frozen 1
          go_wp2_with fail
          have hp := put_box (b := false) (A := none) (n := 0) (c := 0) bzr
          have hc0 := hp.1.cell 0 (.bool false) rfl
          have hc1 := hp.1.cell 1 (.slice none 0 0) rfl
          exact bodyPost_ret (v := .tuple #[.agg #[.bool false, .slice none 0 0], .int .i64 2]) (by simp [results, Tryz.results88, go_sem, hc0, hc1]) rfl (.inr ⟨Hno.out, false, none, 0, [], rfl, Rd.nil _ _, by simp, by unfold maxLen; omega, IsInt.nil false, by simp, hp.2.2.2 _ EXT (Nat.le_refl _)⟩)
        · have t1 : decide ((s[k].toNat : Int) < 48) = false := decide_eq_false (by omega)
          have h57 : 57 < s[k].toNat := Nat.lt_of_not_le fun h => HN.out ⟨by omega, h⟩
          have t2 : decide ((57 : Int) < (s[k].toNat : Int)) = true := decide_eq_true (by omega)
          have z0 := bzr.cell 0 (.bool false) rfl
          have z1 := bzr.cell 1 (.slice none 0 0) rfl
          have f0 := bzr.frozen 0
          have f1 := bzr.frozen 1
          go_wp2_with fail
          have hp := put_box (b := false) (A := none) (n := 0) (c := 0) bzr
          have hc0 := hp.1.cell 0 (.bool false) rfl
          have hc1 := hp.1.cell 1 (.slice none 0 0) rfl
          exact bodyPost_ret (v := .tuple #[.agg #[.bool false, .slice none 0 0], .int .i64 2]) (by simp [results, Tryz.results88, go_sem, hc0, hc1]) rfl (.inr ⟨Hno.out, false, none, 0, [], rfl, Rd.nil _ _, by simp, by unfold maxLen; omega, IsInt.nil false, by simp, hp.2.2.2 _ EXT (Nat.le_refl _)⟩)
    · obtain rfl : k = s.size := by omega
      have hyl2 : ys.length ≤ 3000 := by omega
      have hall : s.data.toList.take s.size = s.data.toList := List.take_of_length_le (by rw [← Lib.size_eq]; omega)
      rw [hall] at hiy
      have hdall : Digs s.data.toList := digs_of fun j hj => Hdg.out j hj hj
      have x0 := b5r.cell 0 (.bool b) rfl
      have x1 := b5r.cell 1 (.slice A ys.length c) rfl
      clear hall
      go_wp2_with fail
      refine (ref_Format rfl hr hyc hycm (by omega)).mono ?_
      rintro e w2 ⟨str, rfl, hstr, hx2⟩
      rw [hiy.eq] at hstr
      replace bzr := bzr.ext hx2
      replace b5r := b5r.ext hx2
      replace hr := hr.ext hx2
      replace EXT := EXT.trans hx2
      clear x0 x1
      have x0 := b5r.cell 0 (.bool b) rfl
      have x1 := b5r.cell 1 (.slice A ys.length c) rfl
      have hps := ps_pos HP.out hdall _ rfl
      have Hps := Lib.hid hps
      have HI := Lib.hid hiy
      by_cases heq : Lib.itoa (dv s.data.toList : Int) = s.data.toList
      · obtain rfl : str = s := bytes_ext (hstr.trans heq)
        have HZ := Lib.hid heq
        clear heq hstr hps hiy hdall
        have z0 := bzr.cell 0 (.bool false) rfl
        have z1 := bzr.cell 1 (.slice none 0 0) rfl
        have f0 := bzr.frozen 0
        have f1 := bzr.frozen 1
        go_wp2_with fail
        obtain ⟨r1, r2, r3, r4⟩ := fin_pair (b := b) (n := ys.length) (c := c) EXT (Nat.le_refl _) bzr hr
        exact bodyPost_ret (v := .tuple #[.agg #[.bool b, .slice A ys.length c], .int .i64 0]) (by simp [results, Tryz.results88, go_sem, r3, r4]) rfl (.inl ⟨_, Hps.out.1 HZ.out, b, A, c, ys, rfl, r1, hyc, hycm, HI.out, by omega, r2⟩)
      · have t3 : (str.toList == s.toList) = false := by rw [beq_eq_false_iff_ne, Lib.toList_data, Lib.toList_data, hstr]; exact heq
        have t4 : (str.toList != s.toList) = true := by rw [bne, t3]; rfl
        have T3 := Lib.hid t3
        have HZ := Lib.hid heq
        clear heq hstr hps hiy hdall
        have z0 := bzr.cell 0 (.bool false) rfl
        have z1 := bzr.cell 1 (.slice none 0 0) rfl
        have f0 := bzr.frozen 0
        have f1 := bzr.frozen 1
        go_wp2_with fail
        have hp := put_box (b := false) (A := none) (n := 0) (c := 0) bzr
        have hc0 := hp.1.cell 0 (.bool false) rfl
        have hc1 := hp.1.cell 1 (.slice none 0 0) rfl
        exact bodyPost_ret (v := .tuple #[.agg #[.bool false, .slice none 0 0], .int .i64 2]) (by simp [results, Tryz.results88, go_sem, hc0, hc1]) rfl (.inr ⟨Hps.out.2 HZ.out, false, none, 0, [], rfl, Rd.nil _ _, by simp, by unfold maxLen; omega, IsInt.nil false, by simp, hp.2.2.2 _ EXT (Nat.le_refl _)⟩)
set_option maxRecDepth 100000 in
set_option maxHeartbeats 4000000 in
theorem rparse_e (hs : s.size ≤ 1000) (hp : ∀ t, s.data.toList ≠ 45 :: t) (h0 : s.size = 0) : Calls Tryz.prog 88 #[.string s] w (PSOut s.data.toList 10000 w) := by
  have HP := Lib.hid hp
  have t0 : decide ((0 : Int) < (s.size : Int)) = false := decide_eq_false (by omega)
  have h00 : s.size ≤ 0 := by omega
  clear hp h0
  go_enter Tryz.func88, Tryz.ntmps88
  go_upto_region 1 with (fail)
  obtain ⟨W, hW, extW, bz, hz⟩ := box1 w 24 #[.bool false, .slice none 0 0]
  rw [← hW]
  clear hW
  go_upto_region 7 with (fail)
  refine at_world (fun V => Ext w V ∧ Box V w.heap.size 24 #[.bool false, .slice none 0 0] ∧ Box V W.heap.size 24 #[.bool false, .slice none 0 0] ∧ W.heap.size < V.heap.size) ⟨extW.alloc _, bz.ext ((Ext.refl W).alloc _), Box.new W _ _, by simp⟩ ?_
  have hz5 := hz
  generalize W.heap.size = g5 at hz hz5 ⊢
  rintro V ⟨EV, bz, b5, h5⟩
  go_wp2
  go_loopw [6] (fun i wr => ∃ (k : Nat) (b : Bool) (A : Option Addr) (c : Nat) (ys : List Nat), k ≤ s.size ∧ i = .int .i64 (k : Int) ∧ Box wr w.heap.size 24 #[.bool false, .slice none 0 0] ∧ Box wr g5 24 #[.bool b, .slice A ys.length c] ∧ Rd wr A ys ∧ ys.length ≤ c ∧ c ≤ maxLen ∧ IsInt (dv (s.data.toList.take k) : Int) b ys ∧ ys.length ≤ 3 * k ∧ Ext w wr ∧ ∀ j (hj : j < s.size), j < k → Dig s[j]) (fun i _ => s.size - (intOf i).toNat)
  case atStart => exact ⟨0, false, none, 0, [], Nat.zero_le _, rfl, bz, b5, Rd.nil _ _, by simp, by unfold maxLen; omega, by rw [List.take_zero]; exact IsInt.nil false, by simp, EV, fun j _ h => absurd h (by omega)⟩
  case round =>
    obtain ⟨k, b, A, c, ys, hk, rfl, bzr, b5r, hr, hyc, hycm, hiy, hyl, EXT, hdg⟩ := hrel
    have Hdg := Lib.hid hdg
    clear hdg
    by_cases hlt : k < s.size
    · exact absurd hlt (by omega)
    · obtain rfl : k = s.size := by omega
      have hyl2 : ys.length ≤ 3000 := by omega
      have hall : s.data.toList.take s.size = s.data.toList := List.take_of_length_le (by rw [← Lib.size_eq]; omega)
      rw [hall] at hiy
      have hdall : Digs s.data.toList := digs_of fun j hj => Hdg.out j hj hj
      have x0 := b5r.cell 0 (.bool b) rfl
      have x1 := b5r.cell 1 (.slice A ys.length c) rfl
      clear hall
      go_wp2_with fail
      refine (ref_Format rfl hr hyc hycm (by omega)).mono ?_
      rintro e w2 ⟨str, rfl, hstr, hx2⟩
      rw [hiy.eq] at hstr
      replace bzr := bzr.ext hx2
      replace b5r := b5r.ext hx2
      replace hr := hr.ext hx2
      replace EXT := EXT.trans hx2
      clear x0 x1
      have x0 := b5r.cell 0 (.bool b) rfl
      have x1 := b5r.cell 1 (.slice A ys.length c) rfl
      have hps := ps_pos HP.out hdall _ rfl
      have Hps := Lib.hid hps
      have HI := Lib.hid hiy
      by_cases heq : Lib.itoa (dv s.data.toList : Int) = s.data.toList
      · obtain rfl : str = s := bytes_ext (hstr.trans heq)
        have HZ := Lib.hid heq
        clear heq hstr hps hiy hdall
        have z0 := bzr.cell 0 (.bool false) rfl
        have z1 := bzr.cell 1 (.slice none 0 0) rfl
        have f0 := bzr.frozen 0
        have f1 := bzr.frozen 1
        go_wp2_with fail
        obtain ⟨r1, r2, r3, r4⟩ := fin_pair (b := b) (n := ys.length) (c := c) EXT (Nat.le_refl _) bzr hr
        exact bodyPost_ret (v := .tuple #[.agg #[.bool b, .slice A ys.length c], .int .i64 0]) (by simp [results, Tryz.results88, go_sem, r3, r4]) rfl (.inl ⟨_, Hps.out.1 HZ.out, b, A, c, ys, rfl, r1, hyc, hycm, HI.out, by omega, r2⟩)
      · have t3 : (str.toList == s.toList) = false := by rw [beq_eq_false_iff_ne, Lib.toList_data, Lib.toList_data, hstr]; exact heq
        have t4 : (str.toList != s.toList) = true := by rw [bne, t3]; rfl
        have T3 := Lib.hid t3
        have HZ := Lib.hid heq
        clear heq hstr hps hiy hdall
        have z0 := bzr.cell 0 (.bool false) rfl
        have z1 := bzr.cell 1 (.slice none 0 0) rfl
        have f0 := bzr.frozen 0
        have f1 := bzr.frozen 1
        go_wp2_with fail
        have hp := put_box (b := false) (A := none) (n := 0) (c := 0) bzr
        have hc0 := hp.1.cell 0 (.bool false) rfl
        have hc1 := hp.1.cell 1 (.slice none 0 0) rfl
        exact bodyPost_ret (v := .tuple #[.agg #[.bool false, .slice none 0 0], .int .i64 2]) (by simp [results, Tryz.results88, go_sem, hc0, hc1]) rfl (.inr ⟨Hps.out.2 HZ.out, false, none, 0, [], rfl, Rd.nil _ _, by simp, by unfold maxLen; omega, IsInt.nil false, by simp, hp.2.2.2 _ EXT (Nat.le_refl _)⟩)
set_option maxRecDepth 100000 in
set_option maxHeartbeats 4000000 in
theorem rparse_n (hs : s.size ≤ 1000) {tl : List UInt8} (hp : s.data.toList = 45 :: tl) : Calls Tryz.prog 88 #[.string s] w (PSOut s.data.toList 10000 w) := by
  obtain ⟨h0, h45, hsz⟩ := get0 hp
  obtain ⟨hx, hl, _⟩ := cut_neg (w := w) (by omega) hp
  have t0 : decide ((0 : Int) < (s.size : Int)) = true := decide_eq_true (by omega)
  have t9 : ((s[0].toNat : Int) == 45) = true := by rw [h45]; rfl
  have HX := Lib.hid (show s.data.toList = 45 :: (s.extract 1 s.size).data.toList by rw [hx]; exact hp)
  have hs1 : (s.extract 1 s.size).size < s.size := by omega
  clear hp hx hl hsz h45
  go_enter Tryz.func88, Tryz.ntmps88
  go_upto_region 1 with (fail)
  obtain ⟨W, hW, extW, bz, hz⟩ := box1 w 24 #[.bool false, .slice none 0 0]
  rw [← hW]
  clear hW
  go_upto_region 7 with (fail)
  refine at_world (fun V => Ext w V ∧ Box V w.heap.size 24 #[.bool false, .slice none 0 0] ∧ Box V W.heap.size 24 #[.bool false, .slice none 0 0] ∧ W.heap.size < V.heap.size) ⟨extW.alloc _, bz.ext ((Ext.refl W).alloc _), Box.new W _ _, by simp⟩ ?_
  have hz5 := hz
  generalize W.heap.size = g5 at hz hz5 ⊢
  generalize s.extract 1 s.size = t at HX hs1 ⊢
  rintro V ⟨EV, bz, b5, h5⟩
  go_wp2
  go_loopw [6] (fun i wr => ∃ (k : Nat) (b : Bool) (A : Option Addr) (c : Nat) (ys : List Nat), k ≤ t.size ∧ i = .int .i64 (k : Int) ∧ Box wr w.heap.size 24 #[.bool false, .slice none 0 0] ∧ Box wr g5 24 #[.bool b, .slice A ys.length c] ∧ Rd wr A ys ∧ ys.length ≤ c ∧ c ≤ maxLen ∧ IsInt (dv (t.data.toList.take k) : Int) b ys ∧ ys.length ≤ 3 * k ∧ Ext w wr ∧ ∀ j (hj : j < t.size), j < k → Dig t[j]) (fun i _ => t.size - (intOf i).toNat)
  case atStart => exact ⟨0, false, none, 0, [], Nat.zero_le _, rfl, bz, b5, Rd.nil _ _, by simp, by unfold maxLen; omega, by rw [List.take_zero]; exact IsInt.nil false, by simp, EV, fun j _ h => absurd h (by omega)⟩
  case round =>
    obtain ⟨k, b, A, c, ys, hk, rfl, bzr, b5r, hr, hyc, hycm, hiy, hyl, EXT, hdg⟩ := hrel
    have Hdg := Lib.hid hdg
    clear hdg
    by_cases hlt : k < t.size
    · by_cases hd : Dig t[k]
      · have hd1 := hd.1
        have hd2 := hd.2
        have t1 : decide ((t[k].toNat : Int) < 48) = false := decide_eq_false (by omega)
        have t2 : decide ((57 : Int) < (t[k].toNat : Int)) = false := decide_eq_false (by omega)
        have hi1 : (48 : Int) ≤ (t[k].toNat : Int) := by omega
        have hi2 : (t[k].toNat : Int) ≤ 57 := by omega
        have x0 := b5r.cell 0 (.bool b) rfl
        have x1 := b5r.cell 1 (.slice A ys.length c) rfl
        have hyl2 : ys.length ≤ 3000 := by omega
        go_upto_region 12 with (fail)
        have hstep := dv_take t k hlt
        have Hstep := Lib.hid (show (dv (t.data.toList.take k) : Int) * 10 + ((t[k].toNat : Int) - 48) = (dv (t.data.toList.take (k + 1)) : Int) by omega)
        have Hd := Lib.hid hd
        clear hstep hd hd1 hd2
        refine wpL.start 10 (by kernel_rfl) (fun _ _ _ _ _ => ⟨fun h => h, fun h => h⟩) (fun hQ ES => ?_)
        refine wpL.take (i := 0) (d := some 40) (v := ?v0_13) rfl rfl (by kernel_rfl) (by kernel_rfl) (by kernel_rfl) (by kernel_rfl) hQ (Or.inl ⟨by rfl, ?y0_13⟩) ES ?r0_13
        case y0_13 =>
          intro w' hSw
          have k0 := (b5r.ext hSw).c2
          go_simp
          try with_reducible rfl
        try simp only [Act.put]
        try simp only [List.setIfInBounds_toArray]
        try simp only [List.set_cons_succ]
        try simp only [List.set_cons_zero]
        refine wpL.take (i := 3) (d := some 43) (v := ?v3_14) rfl rfl (by kernel_rfl) (by kernel_rfl) (by kernel_rfl) (by kernel_rfl) hQ (Or.inl ⟨by rfl, ?y3_14⟩) ES ?r3_14
        case y3_14 =>
          intro w' hSw
          go_simp
          try with_reducible rfl
        try simp only [Act.put]
        try simp only [List.setIfInBounds_toArray]
        try simp only [List.set_cons_succ]
        try simp only [List.set_cons_zero]
        refine wpL.take (i := 4) (d := some 44) (v := ?v4_15) rfl rfl (by kernel_rfl) (by kernel_rfl) (by kernel_rfl) (by kernel_rfl) hQ (Or.inl ⟨by rfl, ?y4_15⟩) ES ?r4_15
        case y4_15 =>
          intro w' hSw
          go_simp
          try with_reducible rfl
        try simp only [Act.put]
        try simp only [List.setIfInBounds_toArray]
        try simp only [List.set_cons_succ]
        try simp only [List.set_cons_zero]
        refine wpL.take (i := 5) (d := some 45) (v := ?v5_16) rfl rfl (by kernel_rfl) (by kernel_rfl) (by kernel_rfl) (by kernel_rfl) hQ (Or.inl ⟨by rfl, ?y5_16⟩) ES ?r5_16
        case y5_16 =>
          intro w' hSw
          go_simp
          try with_reducible rfl
        try simp only [Act.put]
        try simp only [List.setIfInBounds_toArray]
        try simp only [List.set_cons_succ]
        try simp only [List.set_cons_zero]
        refine wpL.take (i := 6) (d := some 46) (v := ?v6_17) rfl rfl (by kernel_rfl) (by kernel_rfl) (by kernel_rfl) (by kernel_rfl) hQ (Or.inl ⟨by rfl, ?y6_17⟩) ES ?r6_17
        case y6_17 =>
          intro w' hSw
          go_simp
          try with_reducible rfl
        try simp only [Act.put]
        try simp only [List.setIfInBounds_toArray]
        try simp only [List.set_cons_succ]
        try simp only [List.set_cons_zero]
        refine wpL.take (i := 7) (d := some 47) (v := ?v7_18) rfl rfl (by kernel_rfl) (by kernel_rfl) (by kernel_rfl) (by kernel_rfl) hQ (Or.inl ⟨by rfl, ?y7_18⟩) ES ?r7_18
        case y7_18 =>
          intro w' hSw
          go_simp
          try with_reducible rfl
        try simp only [Act.put]
        try simp only [List.setIfInBounds_toArray]
        try simp only [List.set_cons_succ]
        try simp only [List.set_cons_zero]
        refine wpL.call (i := 1) rfl (by kernel_rfl) (fun K hK => ?_)
        go_simp
        (go_at_call 44; refine (ref_FromInt 10 (by omega) (by omega)).mono ?_; rintro e wk1 ⟨bf, Af, cf, fs, rfl, hrf, hcf, hmf, hif, hlf, hxf⟩)
        refine hK.out _ _ (ES.trans hxf) ?_
        clear hK K
        try simp only [Act.put]
        try simp only [List.setIfInBounds_toArray]
        try simp only [List.set_cons_succ]
        try simp only [List.set_cons_zero]
        have ET := ES.trans hxf
        refine wpL.call (i := 2) rfl (by kernel_rfl) (fun K hK => ?_)
        go_simp
        (go_at_call 74; refine (ref_Mul rfl rfl (hr.ext ET) hrf hyc hycm hcf hmf (by omega) (by omega)).mono ?_; rintro e wk2 ⟨bm, Am, cm, ms, rfl, hrm, hcm2, hmm, him, hlm, hxm⟩)
        refine hK.out _ _ (ET.trans hxm) ?_
        clear hK K
        try simp only [Act.put]
        try simp only [List.setIfInBounds_toArray]
        try simp only [List.set_cons_succ]
        try simp only [List.set_cons_zero]
        refine wpL.call (i := 8) rfl (by kernel_rfl) (fun K hK => ?_)
        go_simp
        rw [IntWalk.u8_in _ (by omega), IntWalk.i64_in _ (by omega)]
        (go_at_call 44; refine (ref_FromInt ((t[k].toNat : Int) - 48) (by omega) (by omega)).mono ?_; rintro e wk3 ⟨bd, Ad, cd, ds, rfl, hrd, hcd, hmd, hid, hld, hxd⟩)
        refine hK.out _ _ ((ET.trans hxm).trans hxd) ?_
        clear hK K
        try simp only [Act.put]
        try simp only [List.setIfInBounds_toArray]
        try simp only [List.set_cons_succ]
        try simp only [List.set_cons_zero]
        refine wpL.call (i := 9) rfl (by kernel_rfl) (fun K hK => ?_)
        go_simp
        (go_at_call 73; refine (ref_Add rfl rfl (hrm.ext hxd) hrd hcm2 hmm hcd hmd (by omega) (by omega)).mono ?_; rintro e wk4 ⟨ba, Aa, ca, us, rfl, hra, hca, hma, hia, hla, hxa⟩)
        refine hK.out _ _ (((ET.trans hxm).trans hxd).trans hxa) ?_
        clear hK K
        try simp only [Act.put]
        try simp only [List.setIfInBounds_toArray]
        try simp only [List.set_cons_succ]
        try simp only [List.set_cons_zero]
        have E4 := ET.trans (hxm.trans (hxd.trans hxa))
        have b54 := b5r.ext E4
        have y0 := b54.cell 0 (.bool b) rfl
        have y1 := b54.cell 1 (.slice A ys.length c) rfl
        have f0 := b54.frozen 0
        have f1 := b54.frozen 1
        rw [him.eq, hid.eq, hiy.eq, hif.eq, Hstep.out] at hia
        refine wpL.tail (i := 10) rfl (by kernel_rfl) (by kernel_rfl) (fun K hK => ?_)
        go_simp
        refine hK.out _ _ ?_
        clear hK K
        try simp only [Act.put]
        try simp only [List.setIfInBounds_toArray]
        try simp only [List.set_cons_succ]
        try simp only [List.set_cons_zero]
        refine wpL.done (by kernel_rfl) ?_ _
        clear hQ
        have hp := put_box (b := ba) (A := Aa) (n := us.length) (c := ca) b54
        have hg5 : w.heap.size ≠ g5 := by omega
        have HD := Lib.hid (fun j (hj : j < t.size) (h : j < k + 1) => if he : j = k then (by subst he; exact Hd.out : Dig t[j]) else Hdg.out j hj (by omega))
        have HP5 := Lib.hid hp
        have HI := Lib.hid hia
        clear hp hia
        go_wp2_with fail
        go_roundw
        case rel => exact ⟨k + 1, ba, Aa, ca, us, by omega, by go_num, HP5.out.2.1 _ _ _ hg5 (bzr.ext E4), HP5.out.1, HP5.out.2.2.1 _ _ hra, hca, hma, HI.out, by omega, HP5.out.2.2.2 _ (EXT.trans E4) (by omega), HD.out⟩
        case measure => simp [intOf]; omega
      · have HN := Lib.hid hd
        have hno : ∀ y, ¬ PS s.data.toList y := fun y => by rw [HX.out]; exact ps_ndn (fun h => HN.out (digs_at h k hlt)) y
        have Hno := Lib.hid hno
        clear hno hd
        by_cases h48 : t[k].toNat < 48
        · have t1 : decide ((t[k].toNat : Int) < 48) = true := decide_eq_true (by omega)
          have z0 := bzr.cell 0 (.bool false) rfl
          have z1 := bzr.cell 1 (.slice none 0 0) rfl
          have f0 := bzr.frozen 0
          have f1 := bzr.frozen 1
          go_wp2_with fail
          have hp := put_box (b := false) (A := none) (n := 0) (c := 0) bzr
          have hc0 := hp.1.cell 0 (.bool false) rfl
          have hc1 := hp.1.cell 1 (.slice none 0 0) rfl
          exact bodyPost_ret (v := .tuple #[.agg #[.bool false, .slice none 0 0], .int .i64 2]) (by simp [results, Tryz.results88, go_sem, hc0, hc1]) rfl (.inr ⟨Hno.out, false, none, 0, [], rfl, Rd.nil _ _, by simp, by unfold maxLen; omega, IsInt.nil false, by simp, hp.2.2.2 _ EXT (Nat.le_refl _)⟩)
        · have t1 : decide ((t[k].toNat : Int) < 48) = false := decide_eq_false (by omega)
          have h57 : 57 < t[k].toNat := Nat.lt_of_not_le fun h => HN.out ⟨by omega, h⟩
          have t2 : decide ((57 : Int) < (t[k].toNat : Int)) = true := decide_eq_true (by omega)
          have z0 := bzr.cell 0 (.bool false) rfl
          have z1 := bzr.cell 1 (.slice none 0 0) rfl
          have f0 := bzr.frozen 0
          have f1 := bzr.frozen 1
          go_wp2_with fail
          have hp := put_box (b := false) (A := none) (n := 0) (c := 0) bzr
          have hc0 := hp.1.cell 0 (.bool false) rfl
          have hc1 := hp.1.cell 1 (.slice none 0 0) rfl
          exact bodyPost_ret (v := .tuple #[.agg #[.bool false, .slice none 0 0], .int .i64 2]) (by simp [results, Tryz.results88, go_sem, hc0, hc1]) rfl (.inr ⟨Hno.out, false, none, 0, [], rfl, Rd.nil _ _, by simp, by unfold maxLen; omega, IsInt.nil false, by simp, hp.2.2.2 _ EXT (Nat.le_refl _)⟩)
    · obtain rfl : k = t.size := by omega
      have hyl2 : ys.length ≤ 3000 := by omega
      have hall : t.data.toList.take t.size = t.data.toList := List.take_of_length_le (by rw [← Lib.size_eq]; omega)
      rw [hall] at hiy
      have hdall : Digs t.data.toList := digs_of fun j hj => Hdg.out j hj hj
      have x0 := b5r.cell 0 (.bool b) rfl
      have x1 := b5r.cell 1 (.slice A ys.length c) rfl
      clear hall
      have t5 : decide ((t.size : Int) < (s.size : Int)) = true := decide_eq_true (by omega)
      go_wp2_with fail
      refine (ref_Neg rfl hr hyc hycm (by omega)).mono ?_
      rintro e wn ⟨b, A, c, ys, rfl, hrn, hyc, hycm, hin, hln, hxn⟩
      rw [hiy.eq] at hin
      have hyl3 : ys.length ≤ 3000 := by omega
      have b5n := b5r.ext hxn
      clear x0 x1
      have x0 := b5n.cell 0 _ rfl
      have x1 := b5n.cell 1 _ rfl
      have f0 := b5n.frozen 0
      have f1 := b5n.frozen 1
      have hp := put_box (b := b) (A := A) (n := ys.length) (c := c) b5n
      have hw5 : w.heap.size ≤ g5 := by omega
      have hw6 : w.heap.size ≠ g5 := by omega
      have HPP := Lib.hid hp
      clear hp
      go_upto_region 15 with (fail)
      refine at_world (fun X => Ext w X ∧ Box X w.heap.size 24 #[.bool false, .slice none 0 0] ∧ Box X g5 24 #[.bool b, .slice A ys.length c] ∧ Rd X A ys) ⟨HPP.out.2.2.2 _ (EXT.trans hxn) hw5, HPP.out.2.1 _ _ _ hw6 (bzr.ext hxn), HPP.out.1, HPP.out.2.2.1 _ _ hrn⟩ ?_
      clear HPP x0 x1 f0 f1 b5n hrn hxn hiy hyl hr b5r bzr EXT
      rintro X ⟨EXT, bzr, b5r, hr⟩
      have hiy := hin
      have x0 := b5r.cell 0 (.bool b) rfl
      have x1 := b5r.cell 1 (.slice A ys.length c) rfl
      go_wp2_with fail
      refine (ref_Format rfl hr hyc hycm (by omega)).mono ?_
      rintro e w2 ⟨str, rfl, hstr, hx2⟩
      rw [hiy.eq] at hstr
      replace bzr := bzr.ext hx2
      replace b5r := b5r.ext hx2
      replace hr := hr.ext hx2
      replace EXT := EXT.trans hx2
      clear x0 x1
      have x0 := b5r.cell 0 (.bool b) rfl
      have x1 := b5r.cell 1 (.slice A ys.length c) rfl
      have hps := (show (Lib.itoa (-(dv t.data.toList : Int)) = s.data.toList → PS s.data.toList (-(dv t.data.toList : Int))) ∧ (Lib.itoa (-(dv t.data.toList : Int)) ≠ s.data.toList → ∀ y, ¬ PS s.data.toList y) by rw [HX.out]; exact ps_neg hdall _ rfl)
      have Hps := Lib.hid hps
      have HI := Lib.hid hiy
      by_cases heq : Lib.itoa (-(dv t.data.toList : Int)) = s.data.toList
      · obtain rfl : str = s := bytes_ext (hstr.trans heq)
        have HZ := Lib.hid heq
        clear heq hstr hps hiy hdall
        have z0 := bzr.cell 0 (.bool false) rfl
        have z1 := bzr.cell 1 (.slice none 0 0) rfl
        have f0 := bzr.frozen 0
        have f1 := bzr.frozen 1
        go_wp2_with fail
        obtain ⟨r1, r2, r3, r4⟩ := fin_pair (b := b) (n := ys.length) (c := c) EXT (Nat.le_refl _) bzr hr
        exact bodyPost_ret (v := .tuple #[.agg #[.bool b, .slice A ys.length c], .int .i64 0]) (by simp [results, Tryz.results88, go_sem, r3, r4]) rfl (.inl ⟨_, Hps.out.1 HZ.out, b, A, c, ys, rfl, r1, hyc, hycm, HI.out, by omega, r2⟩)
      · have t3 : (str.toList == s.toList) = false := by rw [beq_eq_false_iff_ne, Lib.toList_data, Lib.toList_data, hstr]; exact heq
        have t4 : (str.toList != s.toList) = true := by rw [bne, t3]; rfl
        have T3 := Lib.hid t3
        have HZ := Lib.hid heq
        clear heq hstr hps hiy hdall
        have z0 := bzr.cell 0 (.bool false) rfl
        have z1 := bzr.cell 1 (.slice none 0 0) rfl
        have f0 := bzr.frozen 0
        have f1 := bzr.frozen 1
        go_wp2_with fail
        have hp := put_box (b := false) (A := none) (n := 0) (c := 0) bzr
        have hc0 := hp.1.cell 0 (.bool false) rfl
        have hc1 := hp.1.cell 1 (.slice none 0 0) rfl
        exact bodyPost_ret (v := .tuple #[.agg #[.bool false, .slice none 0 0], .int .i64 2]) (by simp [results, Tryz.results88, go_sem, hc0, hc1]) rfl (.inr ⟨Hps.out.2 HZ.out, false, none, 0, [], rfl, Rd.nil _ _, by simp, by unfold maxLen; omega, IsInt.nil false, by simp, hp.2.2.2 _ EXT (Nat.le_refl _)⟩)
theorem ref_Parse (hs : s.size ≤ 1000) : Calls Tryz.prog 88 #[.string s] w (PSOut s.data.toList 10000 w) := by
  match hl : s.data.toList with
  | [] => rw [← hl]; exact rparse_e hs (by rw [hl]; intro t h; cases h) (by rw [Lib.size_eq, hl]; rfl)
  | c :: t =>
    obtain ⟨h0, h1, _⟩ := get0 hl
    by_cases hc : c = 45
    · subst hc
      rw [← hl]
      exact rparse_n hs hl
    · rw [← hl]
      exact rparse_p hs (by rw [hl]; intro t' h; injection h with h _; exact hc h) h0 (by rw [h1]; exact fun h => hc (UInt8.toNat_inj.1 h))
theorem PS.fun {l : List UInt8} {y z : Int} (h : PS l y) (k : PS l z) : y = z := by
  rcases h with ⟨t, ht, hd, _, _, rfl⟩ | ⟨hd, _, rfl⟩
  · subst ht
    rcases k with ⟨t', ht', _, _, _, rfl⟩ | ⟨hd', _⟩
    · injection ht' with _ ht'
      subst ht'
      rfl
    · exact absurd (hd' 45 (by simp)) not_dig45
  · rcases k with ⟨t', ht', _⟩ | ⟨_, _, rfl⟩
    · subst ht'
      exact absurd (hd 45 (by simp)) not_dig45
    · rfl
end
end Go.Proofs.YtiioodgpkdbndaaGreatDoor
namespace Go.Proofs.YtiioodgpkdbndaaGreatDoor
open Go.RowKit
attribute [local go_sem ↓] Go.wp_at_zero Go.wp_at_succ
set_option maxHeartbeats 1000000 in
theorem q_digits (s : ByteArray) (w : World) (a r : List UInt8) (hs : s.size ≤ 100000) (hl : s.data.toList = a ++ r) (ha : Digs a) (hr : r = [] ∨ ∃ c b, r = c :: b ∧ ¬ Dig c) :
    Calls Tryz.prog 87 #[.string s] w fun e w' => e = .returned (.int .i64 (a.length : Int)) ∧ w = w' := by
  have hz : s.size = a.length + r.length := by rw [Lib.size_eq, hl, List.length_append]
  have hdg : ∀ k (hk : k < s.size), k < a.length → Dig s[k] := by
    intro k hk hka
    have e : s[k] = s.data.toList[k]'(by rw [← Lib.size_eq]; exact hk) := rfl
    rw [e]
    refine ha _ ?_
    simp only [hl]
    rw [List.getElem_append_left hka]
    exact List.getElem_mem _
  have hnd : ∀ (hk : a.length < s.size), ¬ Dig s[a.length] := by
    intro hk
    rcases hr with rfl | ⟨c, b, rfl, hc⟩
    · simp at hz; omega
    · have e : s[a.length] = s.data.toList[a.length]'(by rw [← Lib.size_eq]; exact hk) := rfl
      rw [e]
      simp only [hl]
      rw [List.getElem_append_right (Nat.le_refl _)]
      simp only [Nat.sub_self, List.getElem_cons_zero]
      exact hc
  have HD := Lib.hid hdg
  have HN := Lib.hid hnd
  obtain ⟨n, hn⟩ : ∃ n, a.length = n := ⟨_, rfl⟩
  rw [hn]
  have HE := Lib.hid hn
  have hns : n ≤ s.size := by omega
  clear hdg hnd hl ha hr hz hn
  go_enter Tryz.func87, Tryz.ntmps87
  go_wp2
  go_loop [3] (fun i => ∃ k : Nat, k ≤ n ∧ i = .int .i64 (k : Int)) (fun i => n - (intOf i).toNat)
  case atStart => exact ⟨0, Nat.zero_le _, rfl⟩
  case round =>
    obtain ⟨k, hk, rfl⟩ := hrel
    by_cases hlt : k < n
    · obtain ⟨h1, h2⟩ := HD.out k (by omega) (by rw [HE.out]; exact hlt)
      have t1 : decide ((48 : Int) ≤ (s[k].toNat : Int)) = true := decide_eq_true (by omega)
      have t2 : decide ((s[k].toNat : Int) ≤ 57) = true := decide_eq_true (by omega)
      have hks : k < s.size := by omega
      go_wp2
      go_round
      case rel => exact ⟨k + 1, by omega, by go_num⟩
      case measure => simp [intOf]; omega
    · obtain rfl : n = k := by omega
      by_cases hz : n < s.size
      · have hN : ¬ Dig s[n] := by
          have h1 := HN.out
          simp only [HE.out] at h1
          exact h1 hz
        by_cases h48 : 48 ≤ s[n].toNat
        · have t1 : decide ((48 : Int) ≤ (s[n].toNat : Int)) = true := decide_eq_true (by omega)
          have h57 : 57 < s[n].toNat := Nat.lt_of_not_le fun h => hN ⟨by omega, h⟩
          have t2 : decide ((s[n].toNat : Int) ≤ 57) = false := decide_eq_false (by omega)
          clear hN
          go_wp2
          go_ret
          exact ⟨rfl, rfl⟩
        · have t1 : decide ((48 : Int) ≤ (s[n].toNat : Int)) = false := decide_eq_false (by omega)
          clear hN
          go_wp2
          go_ret
          exact ⟨rfl, rfl⟩
      · have hz2 : n = s.size := by omega
        subst hz2
        go_wp2
        go_ret
        exact ⟨rfl, rfl⟩
theorem pow10_le (n : Nat) : 10 ^ n ≤ 4294967296 ^ n := Nat.pow_le_pow_left (by omega) n
/-- the digits of a text as an integer. -/
theorem q_ParseI (s : ByteArray) {w : World} (hs : s.size ≤ 1000) (hd : Digs s.data.toList) (hc : Canon s.data.toList) {L : Nat} (hL : s.size ≤ L) :
    Calls Tryz.prog 88 #[.string s] w fun e w' => ∃ t A n c, e = .returned (.tuple #[.agg #[.bool t, .slice A n c], .int .i64 0]) ∧ NI w' (dv s.data.toList : Int) L t A n c ∧ Ext w w' := by
  refine (ref_Parse (w := w) hs).mono ?_
  rintro e w' (⟨z, hz, h⟩ | ⟨hn, _⟩)
  · have hz2 : PS s.data.toList (dv s.data.toList : Int) := .inr ⟨hd, hc, rfl⟩
    rw [hz.fun hz2] at h
    obtain ⟨t, A, c, ys, rfl, g1, g2, g3, g4, g5, g6⟩ := h
    have hni : NI w' (dv s.data.toList : Int) 10000 t A ys.length c := ⟨ys, rfl, g1, g2, g3, g4, by omega⟩
    refine ⟨t, A, ys.length, c, rfl, (hni.tight' (M := s.size) ?_).le hL, g6⟩
    have h1 := dv_lt hd
    have h2 := pow10_le s.data.toList.length
    rw [Lib.size_eq]
    omega
  · exact absurd (.inr ⟨hd, hc, rfl⟩) (hn _)
end Go.Proofs.YtiioodgpkdbndaaGreatDoor
namespace Go.Proofs.YtiioodgpkdbndaaGreatDoor
open Go.RowKit
attribute [local go_sem ↓] Go.wp_at_zero Go.wp_at_succ
section
variable {w : World} {L : Nat}
set_option maxHeartbeats 16000000 in
set_option maxRecDepth 100000 in
theorem qp_e_pos (u : ByteArray) (n : Nat) (a r : List UInt8) (hs : u.size ≤ 200) (_hp : ∀ t, u.data.toList ≠ 45 :: t) (hl : u.data.toList = a ++ r) (hn : a.length = n) (ha : Digs a) (hr : r = [] ∨ ∃ c b, r = c :: b ∧ ¬ Dig c) (he : u.data.toList = []) (h0 : n = 0) :
    Calls Tryz.prog 50 #[.string u] w (RetZE 2 w) := by
  have hz : u.size ≤ 200 := hs
  have hne : u.toList.isEmpty = true := by rw [Lib.toList_data, he]; rfl
  have hsz := Lib.size_eq u
  rw [hl, List.length_append, hn] at hsz
  have hsz1 : u.size ≤ n + r.length := by omega
  have hsz2 : n + r.length ≤ u.size := by omega
  clear hsz
  have HG := Lib.hid (fun w => q_digits u w a r (by omega) hl ha hr)
  have HL := Lib.hid hl
  have HN := Lib.hid hn
  have HA := Lib.hid ha
  clear hl ha hr hn
  go_enter Tryz.func50, Tryz.ntmps50
  go_upto_region 1 with (fail)
  obtain ⟨W, hW, extW, bz, hzz⟩ := box1 w 27 #[Value.bool false, Value.slice none 0 0, Value.bool false, Value.slice none 0 0]
  rw [← hW]
  clear hW
  have t1 : decide ((65536 : Int) < (u.size : Int)) = false := decide_eq_false (by omega)
  go_wp2_with fail
  refine (HG.out _).mono ?_
  rintro e w0 ⟨rfl, hw0⟩
  subst hw0
  rw [HN.out]
  have hn0 : ((n : Int) == 0) = true := by rw [beq_iff_eq]; omega
  have hE := Ext.refl W
  have z0 := (bz.ext hE).cell 0 _ rfl
  have z1 := (bz.ext hE).cell 1 _ rfl
  have z2 := (bz.ext hE).cell 2 _ rfl
  have z3 := (bz.ext hE).cell 3 _ rfl
  have f0 := (bz.ext hE).frozen 0
  have f1 := (bz.ext hE).frozen 1
  have f2 := (bz.ext hE).frozen 2
  have f3 := (bz.ext hE).frozen 3
  go_wp2_with fail
  obtain ⟨b1, b2, b3, b4⟩ := fin_quad (s := false) (A := none) (n := 0) (c := 0) (t := false) (B := none) (m := 0) (d := 0) (bz.ext hE)
  have r0 := b1.cell 0 (.bool false) rfl
  have r1 := b1.cell 1 (.slice none 0 0) rfl
  have r2 := b1.cell 2 (.bool false) rfl
  have r3 := b1.cell 3 (.slice none 0 0) rfl
  unfold set4 at r0 r1 r2 r3
  refine bodyPost_ret (v := .tuple #[.agg #[.bool false, .slice none 0 0, .bool false, .slice none 0 0], .int .i64 2]) (by simp [results, Tryz.results50, go_sem, r0, r1, r2, r3]) rfl ⟨rfl, b3 _ (extW.trans hE) (by omega)⟩
set_option maxHeartbeats 16000000 in
set_option maxRecDepth 100000 in
theorem qp_0_pos (u : ByteArray) (n : Nat) (a r : List UInt8) (hs : u.size ≤ 200) (hp : ∀ t, u.data.toList ≠ 45 :: t) (hl : u.data.toList = a ++ r) (hn : a.length = n) (ha : Digs a) (hr : r = [] ∨ ∃ c b, r = c :: b ∧ ¬ Dig c) (hu0 : u.data.toList ≠ []) (h0 : n = 0) :
    Calls Tryz.prog 50 #[.string u] w (RetZE 2 w) := by
  have hz : u.size ≤ 200 := hs
  have hne : u.toList.isEmpty = false := by
    rw [Lib.toList_data]
    cases h : u.data.toList with
    | nil => exact absurd h hu0
    | cons c t => rfl
  have g0 : 0 < u.size := by rw [Lib.size_eq]; exact List.length_pos_iff.2 hu0
  have t9 : ((u[0].toNat : Int) == 45) = false := by
    rw [beq_eq_false_iff_ne]
    intro h
    cases h2 : u.data.toList with
    | nil => exact hu0 h2
    | cons c t =>
      obtain ⟨_, g1, _⟩ := get0 h2
      rw [g1] at h
      exact hp t (by rw [h2]; congr 1; exact UInt8.toNat_inj.1 (by have : (45 : UInt8).toNat = 45 := rfl; omega))
  clear hp
  have hsz := Lib.size_eq u
  rw [hl, List.length_append, hn] at hsz
  have hsz1 : u.size ≤ n + r.length := by omega
  have hsz2 : n + r.length ≤ u.size := by omega
  clear hsz
  have HG := Lib.hid (fun w => q_digits u w a r (by omega) hl ha hr)
  have HL := Lib.hid hl
  have HN := Lib.hid hn
  have HA := Lib.hid ha
  clear hl ha hr hn
  go_enter Tryz.func50, Tryz.ntmps50
  go_upto_region 1 with (fail)
  obtain ⟨W, hW, extW, bz, hzz⟩ := box1 w 27 #[Value.bool false, Value.slice none 0 0, Value.bool false, Value.slice none 0 0]
  rw [← hW]
  clear hW
  have t1 : decide ((65536 : Int) < (u.size : Int)) = false := decide_eq_false (by omega)
  go_wp2_with fail
  refine (HG.out _).mono ?_
  rintro e w0 ⟨rfl, hw0⟩
  subst hw0
  rw [HN.out]
  have hn0 : ((n : Int) == 0) = true := by rw [beq_iff_eq]; omega
  have hE := Ext.refl W
  have z0 := (bz.ext hE).cell 0 _ rfl
  have z1 := (bz.ext hE).cell 1 _ rfl
  have z2 := (bz.ext hE).cell 2 _ rfl
  have z3 := (bz.ext hE).cell 3 _ rfl
  have f0 := (bz.ext hE).frozen 0
  have f1 := (bz.ext hE).frozen 1
  have f2 := (bz.ext hE).frozen 2
  have f3 := (bz.ext hE).frozen 3
  go_wp2_with fail
  obtain ⟨b1, b2, b3, b4⟩ := fin_quad (s := false) (A := none) (n := 0) (c := 0) (t := false) (B := none) (m := 0) (d := 0) (bz.ext hE)
  have r0 := b1.cell 0 (.bool false) rfl
  have r1 := b1.cell 1 (.slice none 0 0) rfl
  have r2 := b1.cell 2 (.bool false) rfl
  have r3 := b1.cell 3 (.slice none 0 0) rfl
  unfold set4 at r0 r1 r2 r3
  refine bodyPost_ret (v := .tuple #[.agg #[.bool false, .slice none 0 0, .bool false, .slice none 0 0], .int .i64 2]) (by simp [results, Tryz.results50, go_sem, r0, r1, r2, r3]) rfl ⟨rfl, b3 _ (extW.trans hE) (by omega)⟩
set_option maxHeartbeats 16000000 in
set_option maxRecDepth 100000 in
theorem qp_c_pos (u : ByteArray) (n : Nat) (a r : List UInt8) (hs : u.size ≤ 200) (hp : ∀ t, u.data.toList ≠ 45 :: t) (hl : u.data.toList = a ++ r) (hn : a.length = n) (ha : Digs a) (hr : r = [] ∨ ∃ c b, r = c :: b ∧ ¬ Dig c) (hu0 : u.data.toList ≠ []) (h1 : 1 < n) (h48 : ∀ hk : 0 < u.size, u[0].toNat = 48) :
    Calls Tryz.prog 50 #[.string u] w (RetZE 2 w) := by
  have hz : u.size ≤ 200 := hs
  have hne : u.toList.isEmpty = false := by
    rw [Lib.toList_data]
    cases h : u.data.toList with
    | nil => exact absurd h hu0
    | cons c t => rfl
  have g0 : 0 < u.size := by rw [Lib.size_eq]; exact List.length_pos_iff.2 hu0
  have t9 : ((u[0].toNat : Int) == 45) = false := by
    rw [beq_eq_false_iff_ne]
    intro h
    cases h2 : u.data.toList with
    | nil => exact hu0 h2
    | cons c t =>
      obtain ⟨_, g1, _⟩ := get0 h2
      rw [g1] at h
      exact hp t (by rw [h2]; congr 1; exact UInt8.toNat_inj.1 (by have : (45 : UInt8).toNat = 45 := rfl; omega))
  clear hp
  have hsz := Lib.size_eq u
  rw [hl, List.length_append, hn] at hsz
  have hsz1 : u.size ≤ n + r.length := by omega
  have hsz2 : n + r.length ≤ u.size := by omega
  clear hsz
  have HG := Lib.hid (fun w => q_digits u w a r (by omega) hl ha hr)
  have HL := Lib.hid hl
  have HN := Lib.hid hn
  have HA := Lib.hid ha
  clear hl ha hr hn
  go_enter Tryz.func50, Tryz.ntmps50
  go_upto_region 1 with (fail)
  obtain ⟨W, hW, extW, bz, hzz⟩ := box1 w 27 #[Value.bool false, Value.slice none 0 0, Value.bool false, Value.slice none 0 0]
  rw [← hW]
  clear hW
  have t1 : decide ((65536 : Int) < (u.size : Int)) = false := decide_eq_false (by omega)
  go_wp2_with fail
  refine (HG.out _).mono ?_
  rintro e w0 ⟨rfl, hw0⟩
  subst hw0
  rw [HN.out]
  have hn0 : ((n : Int) == 0) = false := by rw [beq_eq_false_iff_ne]; omega
  have g3 : 0 < u.size := by omega
  have t3 : ((u[0].toNat : Int) == 48) = true := by rw [h48 g3]; rfl
  have t2 : decide ((1 : Int) < (n : Int)) = true := decide_eq_true (by omega)
  clear h48
  have hE := Ext.refl W
  have z0 := (bz.ext hE).cell 0 _ rfl
  have z1 := (bz.ext hE).cell 1 _ rfl
  have z2 := (bz.ext hE).cell 2 _ rfl
  have z3 := (bz.ext hE).cell 3 _ rfl
  have f0 := (bz.ext hE).frozen 0
  have f1 := (bz.ext hE).frozen 1
  have f2 := (bz.ext hE).frozen 2
  have f3 := (bz.ext hE).frozen 3
  go_wp2_with fail
  obtain ⟨b1, b2, b3, b4⟩ := fin_quad (s := false) (A := none) (n := 0) (c := 0) (t := false) (B := none) (m := 0) (d := 0) (bz.ext hE)
  have r0 := b1.cell 0 (.bool false) rfl
  have r1 := b1.cell 1 (.slice none 0 0) rfl
  have r2 := b1.cell 2 (.bool false) rfl
  have r3 := b1.cell 3 (.slice none 0 0) rfl
  unfold set4 at r0 r1 r2 r3
  refine bodyPost_ret (v := .tuple #[.agg #[.bool false, .slice none 0 0, .bool false, .slice none 0 0], .int .i64 2]) (by simp [results, Tryz.results50, go_sem, r0, r1, r2, r3]) rfl ⟨rfl, b3 _ (extW.trans hE) (by omega)⟩
set_option maxHeartbeats 16000000 in
set_option maxRecDepth 100000 in
theorem qp_0_neg (s u : ByteArray) (n : Nat) (a r : List UInt8) (hs : s.size ≤ 200) (h45 : s.data.toList = 45 :: u.data.toList) (hl : u.data.toList = a ++ r) (hn : a.length = n) (ha : Digs a) (hr : r = [] ∨ ∃ c b, r = c :: b ∧ ¬ Dig c) (h0 : n = 0) :
    Calls Tryz.prog 50 #[.string s] w (RetZE 2 w) := by
  obtain ⟨g0, g1, g2⟩ := get0 h45
  clear g2
  obtain ⟨c1, c2, c3⟩ := cut_neg (w := w) (s := s) (by omega) h45
  clear c3
  have hu : s.extract 1 s.size = u := bytes_ext c1
  have hne : s.toList.isEmpty = false := by rw [Lib.toList_data, h45]; rfl
  have t9 : ((s[0].toNat : Int) == 45) = true := by rw [g1]; rfl
  have hz : u.size ≤ 200 := by rw [← hu, c2]; have := Lib.size_eq s; rw [h45, List.length_cons] at this; have h2 := Lib.size_eq u; omega
  have HU := Lib.hid hu
  clear g1 c1 c2 hu h45
  have hsz := Lib.size_eq u
  rw [hl, List.length_append, hn] at hsz
  have hsz1 : u.size ≤ n + r.length := by omega
  have hsz2 : n + r.length ≤ u.size := by omega
  clear hsz
  have HG := Lib.hid (fun w => q_digits u w a r (by omega) hl ha hr)
  have HL := Lib.hid hl
  have HN := Lib.hid hn
  have HA := Lib.hid ha
  clear hl ha hr hn
  go_enter Tryz.func50, Tryz.ntmps50
  go_upto_region 1 with (fail)
  obtain ⟨W, hW, extW, bz, hzz⟩ := box1 w 27 #[Value.bool false, Value.slice none 0 0, Value.bool false, Value.slice none 0 0]
  rw [← hW]
  clear hW
  have t1 : decide ((65536 : Int) < (s.size : Int)) = false := decide_eq_false (by omega)
  go_wp2_with fail
  rw [HU.out]
  refine (HG.out _).mono ?_
  rintro e w0 ⟨rfl, hw0⟩
  subst hw0
  rw [HN.out]
  have hn0 : ((n : Int) == 0) = true := by rw [beq_iff_eq]; omega
  have hE := Ext.refl W
  have z0 := (bz.ext hE).cell 0 _ rfl
  have z1 := (bz.ext hE).cell 1 _ rfl
  have z2 := (bz.ext hE).cell 2 _ rfl
  have z3 := (bz.ext hE).cell 3 _ rfl
  have f0 := (bz.ext hE).frozen 0
  have f1 := (bz.ext hE).frozen 1
  have f2 := (bz.ext hE).frozen 2
  have f3 := (bz.ext hE).frozen 3
  go_wp2_with fail
  obtain ⟨b1, b2, b3, b4⟩ := fin_quad (s := false) (A := none) (n := 0) (c := 0) (t := false) (B := none) (m := 0) (d := 0) (bz.ext hE)
  have r0 := b1.cell 0 (.bool false) rfl
  have r1 := b1.cell 1 (.slice none 0 0) rfl
  have r2 := b1.cell 2 (.bool false) rfl
  have r3 := b1.cell 3 (.slice none 0 0) rfl
  unfold set4 at r0 r1 r2 r3
  refine bodyPost_ret (v := .tuple #[.agg #[.bool false, .slice none 0 0, .bool false, .slice none 0 0], .int .i64 2]) (by simp [results, Tryz.results50, go_sem, r0, r1, r2, r3]) rfl ⟨rfl, b3 _ (extW.trans hE) (by omega)⟩
set_option maxHeartbeats 16000000 in
set_option maxRecDepth 100000 in
theorem qp_c_neg (s u : ByteArray) (n : Nat) (a r : List UInt8) (hs : s.size ≤ 200) (h45 : s.data.toList = 45 :: u.data.toList) (hl : u.data.toList = a ++ r) (hn : a.length = n) (ha : Digs a) (hr : r = [] ∨ ∃ c b, r = c :: b ∧ ¬ Dig c) (h1 : 1 < n) (h48 : ∀ hk : 0 < u.size, u[0].toNat = 48) :
    Calls Tryz.prog 50 #[.string s] w (RetZE 2 w) := by
  obtain ⟨g0, g1, g2⟩ := get0 h45
  clear g2
  obtain ⟨c1, c2, c3⟩ := cut_neg (w := w) (s := s) (by omega) h45
  clear c3
  have hu : s.extract 1 s.size = u := bytes_ext c1
  have hne : s.toList.isEmpty = false := by rw [Lib.toList_data, h45]; rfl
  have t9 : ((s[0].toNat : Int) == 45) = true := by rw [g1]; rfl
  have hz : u.size ≤ 200 := by rw [← hu, c2]; have := Lib.size_eq s; rw [h45, List.length_cons] at this; have h2 := Lib.size_eq u; omega
  have HU := Lib.hid hu
  clear g1 c1 c2 hu h45
  have hsz := Lib.size_eq u
  rw [hl, List.length_append, hn] at hsz
  have hsz1 : u.size ≤ n + r.length := by omega
  have hsz2 : n + r.length ≤ u.size := by omega
  clear hsz
  have HG := Lib.hid (fun w => q_digits u w a r (by omega) hl ha hr)
  have HL := Lib.hid hl
  have HN := Lib.hid hn
  have HA := Lib.hid ha
  clear hl ha hr hn
  go_enter Tryz.func50, Tryz.ntmps50
  go_upto_region 1 with (fail)
  obtain ⟨W, hW, extW, bz, hzz⟩ := box1 w 27 #[Value.bool false, Value.slice none 0 0, Value.bool false, Value.slice none 0 0]
  rw [← hW]
  clear hW
  have t1 : decide ((65536 : Int) < (s.size : Int)) = false := decide_eq_false (by omega)
  go_wp2_with fail
  rw [HU.out]
  refine (HG.out _).mono ?_
  rintro e w0 ⟨rfl, hw0⟩
  subst hw0
  rw [HN.out]
  have hn0 : ((n : Int) == 0) = false := by rw [beq_eq_false_iff_ne]; omega
  have g3 : 0 < u.size := by omega
  have t3 : ((u[0].toNat : Int) == 48) = true := by rw [h48 g3]; rfl
  have t2 : decide ((1 : Int) < (n : Int)) = true := decide_eq_true (by omega)
  clear h48
  have hE := Ext.refl W
  have z0 := (bz.ext hE).cell 0 _ rfl
  have z1 := (bz.ext hE).cell 1 _ rfl
  have z2 := (bz.ext hE).cell 2 _ rfl
  have z3 := (bz.ext hE).cell 3 _ rfl
  have f0 := (bz.ext hE).frozen 0
  have f1 := (bz.ext hE).frozen 1
  have f2 := (bz.ext hE).frozen 2
  have f3 := (bz.ext hE).frozen 3
  go_wp2_with fail
  obtain ⟨b1, b2, b3, b4⟩ := fin_quad (s := false) (A := none) (n := 0) (c := 0) (t := false) (B := none) (m := 0) (d := 0) (bz.ext hE)
  have r0 := b1.cell 0 (.bool false) rfl
  have r1 := b1.cell 1 (.slice none 0 0) rfl
  have r2 := b1.cell 2 (.bool false) rfl
  have r3 := b1.cell 3 (.slice none 0 0) rfl
  unfold set4 at r0 r1 r2 r3
  refine bodyPost_ret (v := .tuple #[.agg #[.bool false, .slice none 0 0, .bool false, .slice none 0 0], .int .i64 2]) (by simp [results, Tryz.results50, go_sem, r0, r1, r2, r3]) rfl ⟨rfl, b3 _ (extW.trans hE) (by omega)⟩
set_option maxHeartbeats 16000000 in
set_option maxRecDepth 100000 in
theorem qp_int_pos (u : ByteArray) (n : Nat) (a r : List UInt8) (hs : u.size ≤ 200) (hp : ∀ t, u.data.toList ≠ 45 :: t) (hl : u.data.toList = a ++ r) (hn : a.length = n) (ha : Digs a) (hr : r = [] ∨ ∃ c b, r = c :: b ∧ ¬ Dig c) (hu0 : u.data.toList ≠ []) (hc : Canon a) (h0 : r = []) :
    Calls Tryz.prog 50 #[.string u] w (RetNRE (mkQ ((dv a : Int)) 1) 1000 w) := by
  have HY := Lib.hid (show (1 : Int) ≠ 0 by omega)
  have hz : u.size ≤ 200 := hs
  have hne : u.toList.isEmpty = false := by
    rw [Lib.toList_data]
    cases h : u.data.toList with
    | nil => exact absurd h hu0
    | cons c t => rfl
  have g0 : 0 < u.size := by rw [Lib.size_eq]; exact List.length_pos_iff.2 hu0
  have t9 : ((u[0].toNat : Int) == 45) = false := by
    rw [beq_eq_false_iff_ne]
    intro h
    cases h2 : u.data.toList with
    | nil => exact hu0 h2
    | cons c t =>
      obtain ⟨_, g1, _⟩ := get0 h2
      rw [g1] at h
      exact hp t (by rw [h2]; congr 1; exact UInt8.toNat_inj.1 (by have : (45 : UInt8).toNat = 45 := rfl; omega))
  clear hp
  have hsz := Lib.size_eq u
  rw [hl, List.length_append, hn] at hsz
  have hsz1 : u.size ≤ n + r.length := by omega
  have hsz2 : n + r.length ≤ u.size := by omega
  clear hsz
  have HG := Lib.hid (fun w => q_digits u w a r (by omega) hl ha hr)
  have HL := Lib.hid hl
  have HN := Lib.hid hn
  have HA := Lib.hid ha
  clear hl ha hr hn
  go_enter Tryz.func50, Tryz.ntmps50
  go_upto_region 1 with (fail)
  obtain ⟨W, hW, extW, bz, hzz⟩ := box1 w 27 #[Value.bool false, Value.slice none 0 0, Value.bool false, Value.slice none 0 0]
  rw [← hW]
  clear hW
  have t1 : decide ((65536 : Int) < (u.size : Int)) = false := decide_eq_false (by omega)
  go_wp2_with fail
  refine (HG.out _).mono ?_
  rintro e w0 ⟨rfl, hw0⟩
  subst hw0
  rw [HN.out]
  have HCA := Lib.hid hc
  have hn1 : 1 ≤ n := by
    rw [← HN.out]
    rcases hc with h | ⟨c, t, h, _⟩ <;> rw [h] <;> simp
  have hn0 : ((n : Int) == 0) = false := by rw [beq_eq_false_iff_ne]; omega
  have H48 := Lib.hid (fun (h1 : 1 < n) => show ((u[0]'(by omega)).toNat : Int) ≠ 48 from by
    rcases HCA.out with h | ⟨c, t, h, h2⟩
    · have := HN.out
      rw [h] at this
      simp at this
      omega
    · have hlc : u.data.toList = c :: (t ++ r) := by rw [HL.out, h]; rfl
      obtain ⟨_, g1, _⟩ := get0 hlc
      rw [g1]
      intro h3
      exact h2 (u8_48 (by omega)))
  clear hc
  go_upto_region 7 with (fail)
  go_cut [38] (fun p V => p = .bool false ∧ W = V)
  case first =>
    by_cases h1 : 1 < n
    · have h2 := H48.out h1
      have t2 : decide ((1 : Int) < (n : Int)) = true := decide_eq_true (by omega)
      have t3 : ((u[0].toNat : Int) == 48) = false := beq_eq_false_iff_ne.2 h2
      have g3 : 0 < u.size := by omega
      clear h2
      go_wp2_with fail
      go_meet
      exact ⟨rfl, rfl⟩
    · have t2 : decide ((1 : Int) < (n : Int)) = false := decide_eq_false (by omega)
      go_wp2_with fail
      go_meet
      exact ⟨rfl, rfl⟩
  case rest =>
  obtain ⟨rfl, rfl⟩ := hcut
  have c1 : (0 : Int) ≤ (n : Int) := by omega
  have c2 : (n : Int) ≤ (u.size : Int) := by omega
  have c3 : n ≤ u.size := by omega
  have hbf1 : (u.extract 0 n).data.toList = a := by rw [extract_to _ _ c3, HL.out, ← HN.out, List.take_left]
  have hrf1 : (u.extract n u.size).data.toList = r := by rw [extract_from, HL.out, ← HN.out, List.drop_left]
  obtain ⟨bf, hbf⟩ : ∃ bf, u.extract 0 n = bf := ⟨_, rfl⟩
  obtain ⟨rf, hrf⟩ : ∃ rf, u.extract n u.size = rf := ⟨_, rfl⟩
  rw [hbf] at hbf1
  rw [hrf] at hrf1
  have hbz : bf.size ≤ n := by rw [Lib.size_eq, hbf1, HN.out]; exact Nat.le_refl _
  have hrz := Lib.size_eq rf
  rw [hrf1] at hrz
  have hrz1 : rf.size ≤ r.length := by omega
  have hrz2 : r.length ≤ rf.size := by omega
  clear hrz
  have HBF := Lib.hid hbf
  have HRF := Lib.hid hrf
  have HB := Lib.hid hbf1
  have HR := Lib.hid hrf1
  clear hbf hrf hbf1 hrf1
  go_wp2_with fail
  rw [HBF.out]
  refine (q_ParseI bf (by omega) (by rw [HB.out]; exact HA.out) (by rw [HB.out]; exact HCA.out) (L := n) (by omega)).mono ?_
  rintro e wa ⟨s6, A6, n6, c6, rfl, h6, hxa⟩
  rw [HB.out] at h6
  go_upto_region 10 with (fail)
  refine at_world (fun V => Ext W V ∧ Box V wa.heap.size 24 #[.bool s6, .slice A6 n6 c6] ∧ NI V (dv a : Int) n s6 A6 n6 c6) ⟨hxa.alloc _, Box.new wa _ _, h6.ext ((Ext.refl wa).alloc _)⟩ ?_
  have hg6 : w.heap.size + 1 ≤ wa.heap.size := by have := hxa.size; omega
  generalize wa.heap.size = g6 at *
  clear hxa h6
  rintro V ⟨EV, b6, h6⟩
  replace bz := bz.ext EV
  replace extW := extW.trans EV
  clear EV
  go_wp2_with fail
  refine (q_FromInt 1 (by omega) (by omega)).mono ?_
  rintro e wb ⟨s8, A8, n8, c8, rfl, h8, hxb⟩
  go_upto_region 11 with (fail)
  refine at_world (fun U => Ext V U ∧ Box U wb.heap.size 24 #[.bool s8, .slice A8 n8 c8] ∧ NI U 1 2 s8 A8 n8 c8) ⟨hxb.alloc _, Box.new wb _ _, h8.ext ((Ext.refl wb).alloc _)⟩ ?_
  have hsz6 := hxb.size
  generalize wb.heap.size = g8 at *
  clear hxb h8
  rintro U ⟨EU, b8, h8⟩
  have hlt6 := b6.lt
  have hne68 : g6 ≠ g8 := by omega
  replace bz := bz.ext EU
  replace b6 := b6.ext EU
  replace h6 := h6.ext EU
  replace extW := extW.trans EU
  clear EU
  go_upto_region 13 with (fail)
  rw [HRF.out]
  have hre : rf.toList.isEmpty = true := by rw [Lib.toList_data, HR.out, h0]; rfl
  replace h6 := h6.le (L' := 200) (by omega)
  replace h8 := h8.le (L' := 201) (by omega)
  subst h0
  have b60 := b6.cell 0 (.bool s6) rfl
  have b61 := b6.cell 1 (.slice A6 n6 c6) rfl
  have b80 := b8.cell 0 (.bool s8) rfl
  have b81 := b8.cell 1 (.slice A8 n8 c8) rfl
  go_wp2_with fail
  refine (q_Make_nz h6 h8 (by omega) (by omega) HY.out).mono ?_
  rintro e wm ⟨s7, A7, n7, c7, t7, B7, m7, d7, rfl, hr, hE⟩
  replace hr := hr.le (L' := 1000) (by omega)
  skip
  clear b60 b61 b80 b81
  have z0 := (bz.ext hE).cell 0 _ rfl
  have z1 := (bz.ext hE).cell 1 _ rfl
  have z2 := (bz.ext hE).cell 2 _ rfl
  have z3 := (bz.ext hE).cell 3 _ rfl
  have f0 := (bz.ext hE).frozen 0
  have f1 := (bz.ext hE).frozen 1
  have f2 := (bz.ext hE).frozen 2
  have f3 := (bz.ext hE).frozen 3
  go_wp2_with fail
  obtain ⟨b1, b2, b3, b4⟩ := fin_quad (s := s7) (A := A7) (n := n7) (c := c7) (t := t7) (B := B7) (m := m7) (d := d7) (bz.ext hE)
  have r0 := b1.cell 0 (.bool s7) rfl
  have r1 := b1.cell 1 (.slice A7 n7 c7) rfl
  have r2 := b1.cell 2 (.bool t7) rfl
  have r3 := b1.cell 3 (.slice B7 m7 d7) rfl
  unfold set4 at r0 r1 r2 r3
  refine bodyPost_ret (v := .tuple #[.agg #[.bool s7, .slice A7 n7 c7, .bool t7, .slice B7 m7 d7], .int .i64 0]) (by simp [results, Tryz.results50, go_sem, r0, r1, r2, r3]) rfl ⟨s7, A7, n7, c7, t7, B7, m7, d7, rfl, ⟨b2 _ _ _ _ _ _ hr.num, b2 _ _ _ _ _ _ hr.den⟩, b3 _ (extW.trans hE) (by omega)⟩
set_option maxHeartbeats 16000000 in
set_option maxRecDepth 100000 in
theorem qp_int_neg (s u : ByteArray) (n : Nat) (a r : List UInt8) (hs : s.size ≤ 200) (h45 : s.data.toList = 45 :: u.data.toList) (hl : u.data.toList = a ++ r) (hn : a.length = n) (ha : Digs a) (hr : r = [] ∨ ∃ c b, r = c :: b ∧ ¬ Dig c) (hc : Canon a) (h0 : r = []) (hz0 : dv a ≠ 0) :
    Calls Tryz.prog 50 #[.string s] w (RetNRE (mkQ (-(dv a : Int)) 1) 1000 w) := by
  have HZ := Lib.hid (show (dv a : Int) ≠ 0 by omega)
  clear hz0
  have HY := Lib.hid (show (1 : Int) ≠ 0 by omega)
  obtain ⟨g0, g1, g2⟩ := get0 h45
  clear g2
  obtain ⟨c1, c2, c3⟩ := cut_neg (w := w) (s := s) (by omega) h45
  clear c3
  have hu : s.extract 1 s.size = u := bytes_ext c1
  have hne : s.toList.isEmpty = false := by rw [Lib.toList_data, h45]; rfl
  have t9 : ((s[0].toNat : Int) == 45) = true := by rw [g1]; rfl
  have hz : u.size ≤ 200 := by rw [← hu, c2]; have := Lib.size_eq s; rw [h45, List.length_cons] at this; have h2 := Lib.size_eq u; omega
  have HU := Lib.hid hu
  clear g1 c1 c2 hu h45
  have hsz := Lib.size_eq u
  rw [hl, List.length_append, hn] at hsz
  have hsz1 : u.size ≤ n + r.length := by omega
  have hsz2 : n + r.length ≤ u.size := by omega
  clear hsz
  have HG := Lib.hid (fun w => q_digits u w a r (by omega) hl ha hr)
  have HL := Lib.hid hl
  have HN := Lib.hid hn
  have HA := Lib.hid ha
  clear hl ha hr hn
  go_enter Tryz.func50, Tryz.ntmps50
  go_upto_region 1 with (fail)
  obtain ⟨W, hW, extW, bz, hzz⟩ := box1 w 27 #[Value.bool false, Value.slice none 0 0, Value.bool false, Value.slice none 0 0]
  rw [← hW]
  clear hW
  have t1 : decide ((65536 : Int) < (s.size : Int)) = false := decide_eq_false (by omega)
  go_wp2_with fail
  rw [HU.out]
  refine (HG.out _).mono ?_
  rintro e w0 ⟨rfl, hw0⟩
  subst hw0
  rw [HN.out]
  have HCA := Lib.hid hc
  have hn1 : 1 ≤ n := by
    rw [← HN.out]
    rcases hc with h | ⟨c, t, h, _⟩ <;> rw [h] <;> simp
  have hn0 : ((n : Int) == 0) = false := by rw [beq_eq_false_iff_ne]; omega
  have H48 := Lib.hid (fun (h1 : 1 < n) => show ((u[0]'(by omega)).toNat : Int) ≠ 48 from by
    rcases HCA.out with h | ⟨c, t, h, h2⟩
    · have := HN.out
      rw [h] at this
      simp at this
      omega
    · have hlc : u.data.toList = c :: (t ++ r) := by rw [HL.out, h]; rfl
      obtain ⟨_, g1, _⟩ := get0 hlc
      rw [g1]
      intro h3
      exact h2 (u8_48 (by omega)))
  clear hc
  go_upto_region 7 with (fail)
  go_cut [38] (fun p V => p = .bool false ∧ W = V)
  case first =>
    by_cases h1 : 1 < n
    · have h2 := H48.out h1
      have t2 : decide ((1 : Int) < (n : Int)) = true := decide_eq_true (by omega)
      have t3 : ((u[0].toNat : Int) == 48) = false := beq_eq_false_iff_ne.2 h2
      have g3 : 0 < u.size := by omega
      clear h2
      go_wp2_with fail
      go_meet
      exact ⟨rfl, rfl⟩
    · have t2 : decide ((1 : Int) < (n : Int)) = false := decide_eq_false (by omega)
      go_wp2_with fail
      go_meet
      exact ⟨rfl, rfl⟩
  case rest =>
  obtain ⟨rfl, rfl⟩ := hcut
  have c1 : (0 : Int) ≤ (n : Int) := by omega
  have c2 : (n : Int) ≤ (u.size : Int) := by omega
  have c3 : n ≤ u.size := by omega
  have hbf1 : (u.extract 0 n).data.toList = a := by rw [extract_to _ _ c3, HL.out, ← HN.out, List.take_left]
  have hrf1 : (u.extract n u.size).data.toList = r := by rw [extract_from, HL.out, ← HN.out, List.drop_left]
  obtain ⟨bf, hbf⟩ : ∃ bf, u.extract 0 n = bf := ⟨_, rfl⟩
  obtain ⟨rf, hrf⟩ : ∃ rf, u.extract n u.size = rf := ⟨_, rfl⟩
  rw [hbf] at hbf1
  rw [hrf] at hrf1
  have hbz : bf.size ≤ n := by rw [Lib.size_eq, hbf1, HN.out]; exact Nat.le_refl _
  have hrz := Lib.size_eq rf
  rw [hrf1] at hrz
  have hrz1 : rf.size ≤ r.length := by omega
  have hrz2 : r.length ≤ rf.size := by omega
  clear hrz
  have HBF := Lib.hid hbf
  have HRF := Lib.hid hrf
  have HB := Lib.hid hbf1
  have HR := Lib.hid hrf1
  clear hbf hrf hbf1 hrf1
  go_wp2_with fail
  rw [HBF.out]
  refine (q_ParseI bf (by omega) (by rw [HB.out]; exact HA.out) (by rw [HB.out]; exact HCA.out) (L := n) (by omega)).mono ?_
  rintro e wa ⟨s6, A6, n6, c6, rfl, h6, hxa⟩
  rw [HB.out] at h6
  go_upto_region 10 with (fail)
  refine at_world (fun V => Ext W V ∧ Box V wa.heap.size 24 #[.bool s6, .slice A6 n6 c6] ∧ NI V (dv a : Int) n s6 A6 n6 c6) ⟨hxa.alloc _, Box.new wa _ _, h6.ext ((Ext.refl wa).alloc _)⟩ ?_
  have hg6 : w.heap.size + 1 ≤ wa.heap.size := by have := hxa.size; omega
  generalize wa.heap.size = g6 at *
  clear hxa h6
  rintro V ⟨EV, b6, h6⟩
  replace bz := bz.ext EV
  replace extW := extW.trans EV
  clear EV
  go_wp2_with fail
  refine (q_FromInt 1 (by omega) (by omega)).mono ?_
  rintro e wb ⟨s8, A8, n8, c8, rfl, h8, hxb⟩
  go_upto_region 11 with (fail)
  refine at_world (fun U => Ext V U ∧ Box U wb.heap.size 24 #[.bool s8, .slice A8 n8 c8] ∧ NI U 1 2 s8 A8 n8 c8) ⟨hxb.alloc _, Box.new wb _ _, h8.ext ((Ext.refl wb).alloc _)⟩ ?_
  have hsz6 := hxb.size
  generalize wb.heap.size = g8 at *
  clear hxb h8
  rintro U ⟨EU, b8, h8⟩
  have hlt6 := b6.lt
  have hne68 : g6 ≠ g8 := by omega
  replace bz := bz.ext EU
  replace b6 := b6.ext EU
  replace h6 := h6.ext EU
  replace extW := extW.trans EU
  clear EU
  go_upto_region 13 with (fail)
  rw [HRF.out]
  have hre : rf.toList.isEmpty = true := by rw [Lib.toList_data, HR.out, h0]; rfl
  replace h6 := h6.le (L' := 200) (by omega)
  replace h8 := h8.le (L' := 201) (by omega)
  subst h0
  have hz0 : ((n6 : Int) == 0) = false := by rw [beq_eq_false_iff_ne]; intro h0; exact HZ.out (h6.zero.1 (by omega))
  have b60 := b6.cell 0 (.bool s6) rfl
  have b61 := b6.cell 1 (.slice A6 n6 c6) rfl
  go_wp2_with fail
  refine (q_Neg h6 (by omega)).mono ?_
  rintro e wn ⟨s9, A9, n9, c9, rfl, h9, hxn⟩
  replace bz := bz.ext hxn
  replace b6 := b6.ext hxn
  replace b8 := b8.ext hxn
  replace h8 := h8.ext hxn
  replace extW := extW.trans hxn
  clear b60 b61 h6 hxn hz0
  have z0 := b6.cell 0 _ rfl
  have z1 := b6.cell 1 _ rfl
  have f0 := b6.frozen 0
  have f1 := b6.frozen 1
  go_upto_region 29 with (fail)
  refine at_world (fun Y => Ext w Y ∧ Box Y w.heap.size 27 #[Value.bool false, Value.slice none 0 0, Value.bool false, Value.slice none 0 0] ∧ Box Y g6 24 #[.bool s9, .slice A9 n9 c9] ∧ Box Y g8 24 #[.bool s8, .slice A8 n8 c8] ∧ NI Y (-((dv a : Int))) 200 s9 A9 n9 c9 ∧ NI Y (1) 201 s8 A8 n8 c8) ?_ ?_
  · have q1 := fin_dual (s := s9) (A := A9) (n := n9) (c := c9) b6
    exact ⟨q1.2.2.1 _ extW (by omega), q1.2.2.2 _ _ _ (by omega) bz, q1.1, q1.2.2.2 _ _ _ (Ne.symm hne68) b8, q1.2.1 _ _ _ _ _ _ h9, q1.2.1 _ _ _ _ _ _ h8⟩
  clear extW bz b6 b8 h8 h9 z0 z1 f0 f1
  rintro Y ⟨extW, bz, b6, b8, h6, h8⟩
  have b60 := b6.cell 0 (.bool s9) rfl
  have b61 := b6.cell 1 (.slice A9 n9 c9) rfl
  have b80 := b8.cell 0 (.bool s8) rfl
  have b81 := b8.cell 1 (.slice A8 n8 c8) rfl
  go_wp2_with fail
  refine (q_Make_nz h6 h8 (by omega) (by omega) HY.out).mono ?_
  rintro e wm ⟨s7, A7, n7, c7, t7, B7, m7, d7, rfl, hr, hE⟩
  replace hr := hr.le (L' := 1000) (by omega)
  skip
  clear b60 b61 b80 b81
  have z0 := (bz.ext hE).cell 0 _ rfl
  have z1 := (bz.ext hE).cell 1 _ rfl
  have z2 := (bz.ext hE).cell 2 _ rfl
  have z3 := (bz.ext hE).cell 3 _ rfl
  have f0 := (bz.ext hE).frozen 0
  have f1 := (bz.ext hE).frozen 1
  have f2 := (bz.ext hE).frozen 2
  have f3 := (bz.ext hE).frozen 3
  go_wp2_with fail
  obtain ⟨b1, b2, b3, b4⟩ := fin_quad (s := s7) (A := A7) (n := n7) (c := c7) (t := t7) (B := B7) (m := m7) (d := d7) (bz.ext hE)
  have r0 := b1.cell 0 (.bool s7) rfl
  have r1 := b1.cell 1 (.slice A7 n7 c7) rfl
  have r2 := b1.cell 2 (.bool t7) rfl
  have r3 := b1.cell 3 (.slice B7 m7 d7) rfl
  unfold set4 at r0 r1 r2 r3
  refine bodyPost_ret (v := .tuple #[.agg #[.bool s7, .slice A7 n7 c7, .bool t7, .slice B7 m7 d7], .int .i64 0]) (by simp [results, Tryz.results50, go_sem, r0, r1, r2, r3]) rfl ⟨s7, A7, n7, c7, t7, B7, m7, d7, rfl, ⟨b2 _ _ _ _ _ _ hr.num, b2 _ _ _ _ _ _ hr.den⟩, b3 _ (extW.trans hE) (by omega)⟩
set_option maxHeartbeats 16000000 in
set_option maxRecDepth 100000 in
theorem qp_int_neg0 (s u : ByteArray) (n : Nat) (a r : List UInt8) (hs : s.size ≤ 200) (h45 : s.data.toList = 45 :: u.data.toList) (hl : u.data.toList = a ++ r) (hn : a.length = n) (ha : Digs a) (hr : r = [] ∨ ∃ c b, r = c :: b ∧ ¬ Dig c) (hc : Canon a) (h0 : r = []) (hz0 : dv a = 0) :
    Calls Tryz.prog 50 #[.string s] w (RetZE 2 w) := by
  have HZ := Lib.hid (show (dv a : Int) = 0 by omega)
  clear hz0
  have HY := Lib.hid (show (1 : Int) ≠ 0 by omega)
  obtain ⟨g0, g1, g2⟩ := get0 h45
  clear g2
  obtain ⟨c1, c2, c3⟩ := cut_neg (w := w) (s := s) (by omega) h45
  clear c3
  have hu : s.extract 1 s.size = u := bytes_ext c1
  have hne : s.toList.isEmpty = false := by rw [Lib.toList_data, h45]; rfl
  have t9 : ((s[0].toNat : Int) == 45) = true := by rw [g1]; rfl
  have hz : u.size ≤ 200 := by rw [← hu, c2]; have := Lib.size_eq s; rw [h45, List.length_cons] at this; have h2 := Lib.size_eq u; omega
  have HU := Lib.hid hu
  clear g1 c1 c2 hu h45
  have hsz := Lib.size_eq u
  rw [hl, List.length_append, hn] at hsz
  have hsz1 : u.size ≤ n + r.length := by omega
  have hsz2 : n + r.length ≤ u.size := by omega
  clear hsz
  have HG := Lib.hid (fun w => q_digits u w a r (by omega) hl ha hr)
  have HL := Lib.hid hl
  have HN := Lib.hid hn
  have HA := Lib.hid ha
  clear hl ha hr hn
  go_enter Tryz.func50, Tryz.ntmps50
  go_upto_region 1 with (fail)
  obtain ⟨W, hW, extW, bz, hzz⟩ := box1 w 27 #[Value.bool false, Value.slice none 0 0, Value.bool false, Value.slice none 0 0]
  rw [← hW]
  clear hW
  have t1 : decide ((65536 : Int) < (s.size : Int)) = false := decide_eq_false (by omega)
  go_wp2_with fail
  rw [HU.out]
  refine (HG.out _).mono ?_
  rintro e w0 ⟨rfl, hw0⟩
  subst hw0
  rw [HN.out]
  have HCA := Lib.hid hc
  have hn1 : 1 ≤ n := by
    rw [← HN.out]
    rcases hc with h | ⟨c, t, h, _⟩ <;> rw [h] <;> simp
  have hn0 : ((n : Int) == 0) = false := by rw [beq_eq_false_iff_ne]; omega
  have H48 := Lib.hid (fun (h1 : 1 < n) => show ((u[0]'(by omega)).toNat : Int) ≠ 48 from by
    rcases HCA.out with h | ⟨c, t, h, h2⟩
    · have := HN.out
      rw [h] at this
      simp at this
      omega
    · have hlc : u.data.toList = c :: (t ++ r) := by rw [HL.out, h]; rfl
      obtain ⟨_, g1, _⟩ := get0 hlc
      rw [g1]
      intro h3
      exact h2 (u8_48 (by omega)))
  clear hc
  go_upto_region 7 with (fail)
  go_cut [38] (fun p V => p = .bool false ∧ W = V)
  case first =>
    by_cases h1 : 1 < n
    · have h2 := H48.out h1
      have t2 : decide ((1 : Int) < (n : Int)) = true := decide_eq_true (by omega)
      have t3 : ((u[0].toNat : Int) == 48) = false := beq_eq_false_iff_ne.2 h2
      have g3 : 0 < u.size := by omega
      clear h2
      go_wp2_with fail
      go_meet
      exact ⟨rfl, rfl⟩
    · have t2 : decide ((1 : Int) < (n : Int)) = false := decide_eq_false (by omega)
      go_wp2_with fail
      go_meet
      exact ⟨rfl, rfl⟩
  case rest =>
  obtain ⟨rfl, rfl⟩ := hcut
  have c1 : (0 : Int) ≤ (n : Int) := by omega
  have c2 : (n : Int) ≤ (u.size : Int) := by omega
  have c3 : n ≤ u.size := by omega
  have hbf1 : (u.extract 0 n).data.toList = a := by rw [extract_to _ _ c3, HL.out, ← HN.out, List.take_left]
  have hrf1 : (u.extract n u.size).data.toList = r := by rw [extract_from, HL.out, ← HN.out, List.drop_left]
  obtain ⟨bf, hbf⟩ : ∃ bf, u.extract 0 n = bf := ⟨_, rfl⟩
  obtain ⟨rf, hrf⟩ : ∃ rf, u.extract n u.size = rf := ⟨_, rfl⟩
  rw [hbf] at hbf1
  rw [hrf] at hrf1
  have hbz : bf.size ≤ n := by rw [Lib.size_eq, hbf1, HN.out]; exact Nat.le_refl _
  have hrz := Lib.size_eq rf
  rw [hrf1] at hrz
  have hrz1 : rf.size ≤ r.length := by omega
  have hrz2 : r.length ≤ rf.size := by omega
  clear hrz
  have HBF := Lib.hid hbf
  have HRF := Lib.hid hrf
  have HB := Lib.hid hbf1
  have HR := Lib.hid hrf1
  clear hbf hrf hbf1 hrf1
  go_wp2_with fail
  rw [HBF.out]
  refine (q_ParseI bf (by omega) (by rw [HB.out]; exact HA.out) (by rw [HB.out]; exact HCA.out) (L := n) (by omega)).mono ?_
  rintro e wa ⟨s6, A6, n6, c6, rfl, h6, hxa⟩
  rw [HB.out] at h6
  go_upto_region 10 with (fail)
  refine at_world (fun V => Ext W V ∧ Box V wa.heap.size 24 #[.bool s6, .slice A6 n6 c6] ∧ NI V (dv a : Int) n s6 A6 n6 c6) ⟨hxa.alloc _, Box.new wa _ _, h6.ext ((Ext.refl wa).alloc _)⟩ ?_
  have hg6 : w.heap.size + 1 ≤ wa.heap.size := by have := hxa.size; omega
  generalize wa.heap.size = g6 at *
  clear hxa h6
  rintro V ⟨EV, b6, h6⟩
  replace bz := bz.ext EV
  replace extW := extW.trans EV
  clear EV
  go_wp2_with fail
  refine (q_FromInt 1 (by omega) (by omega)).mono ?_
  rintro e wb ⟨s8, A8, n8, c8, rfl, h8, hxb⟩
  go_upto_region 11 with (fail)
  refine at_world (fun U => Ext V U ∧ Box U wb.heap.size 24 #[.bool s8, .slice A8 n8 c8] ∧ NI U 1 2 s8 A8 n8 c8) ⟨hxb.alloc _, Box.new wb _ _, h8.ext ((Ext.refl wb).alloc _)⟩ ?_
  have hsz6 := hxb.size
  generalize wb.heap.size = g8 at *
  clear hxb h8
  rintro U ⟨EU, b8, h8⟩
  have hlt6 := b6.lt
  have hne68 : g6 ≠ g8 := by omega
  replace bz := bz.ext EU
  replace b6 := b6.ext EU
  replace h6 := h6.ext EU
  replace extW := extW.trans EU
  clear EU
  go_upto_region 13 with (fail)
  rw [HRF.out]
  have hre : rf.toList.isEmpty = true := by rw [Lib.toList_data, HR.out, h0]; rfl
  replace h6 := h6.le (L' := 200) (by omega)
  replace h8 := h8.le (L' := 201) (by omega)
  subst h0
  have hz0 : ((n6 : Int) == 0) = true := by rw [beq_iff_eq]; have := h6.zero.2 HZ.out; omega
  have b60 := b6.cell 0 (.bool s6) rfl
  have b61 := b6.cell 1 (.slice A6 n6 c6) rfl
  have hE := Ext.refl U
  have z0 := (bz.ext hE).cell 0 _ rfl
  have z1 := (bz.ext hE).cell 1 _ rfl
  have z2 := (bz.ext hE).cell 2 _ rfl
  have z3 := (bz.ext hE).cell 3 _ rfl
  have f0 := (bz.ext hE).frozen 0
  have f1 := (bz.ext hE).frozen 1
  have f2 := (bz.ext hE).frozen 2
  have f3 := (bz.ext hE).frozen 3
  go_wp2_with fail
  obtain ⟨b1, b2, b3, b4⟩ := fin_quad (s := false) (A := none) (n := 0) (c := 0) (t := false) (B := none) (m := 0) (d := 0) (bz.ext hE)
  have r0 := b1.cell 0 (.bool false) rfl
  have r1 := b1.cell 1 (.slice none 0 0) rfl
  have r2 := b1.cell 2 (.bool false) rfl
  have r3 := b1.cell 3 (.slice none 0 0) rfl
  unfold set4 at r0 r1 r2 r3
  refine bodyPost_ret (v := .tuple #[.agg #[.bool false, .slice none 0 0, .bool false, .slice none 0 0], .int .i64 2]) (by simp [results, Tryz.results50, go_sem, r0, r1, r2, r3]) rfl ⟨rfl, b3 _ (extW.trans hE) (by omega)⟩
end
end Go.Proofs.YtiioodgpkdbndaaGreatDoor
namespace Go.Proofs.YtiioodgpkdbndaaGreatDoor
open Go.RowKit
attribute [local go_sem ↓] Go.wp_at_zero Go.wp_at_succ
section
variable {w : World} {L : Nat}
set_option maxHeartbeats 16000000 in
set_option maxRecDepth 100000 in
theorem qp_dec_pos (u : ByteArray) (n : Nat) (a r : List UInt8) (hs : u.size ≤ 200) (hp : ∀ t, u.data.toList ≠ 45 :: t) (hl : u.data.toList = a ++ r) (hn : a.length = n) (ha : Digs a) (hr : r = [] ∨ ∃ c b, r = c :: b ∧ ¬ Dig c) (hu0 : u.data.toList ≠ []) (hc : Canon a) (b : List UInt8) (h0 : r = 46 :: b) (hb : Digs b) (hbn : b ≠ []) :
    Calls Tryz.prog 50 #[.string u] w (RetNRE (mkQ ((dv (a ++ b) : Int)) ((10 ^ b.length : Nat) : Int)) 1000 w) := by
  have hz : u.size ≤ 200 := hs
  have hne : u.toList.isEmpty = false := by
    rw [Lib.toList_data]
    cases h : u.data.toList with
    | nil => exact absurd h hu0
    | cons c t => rfl
  have g0 : 0 < u.size := by rw [Lib.size_eq]; exact List.length_pos_iff.2 hu0
  have t9 : ((u[0].toNat : Int) == 45) = false := by
    rw [beq_eq_false_iff_ne]
    intro h
    cases h2 : u.data.toList with
    | nil => exact hu0 h2
    | cons c t =>
      obtain ⟨_, g1, _⟩ := get0 h2
      rw [g1] at h
      exact hp t (by rw [h2]; congr 1; exact UInt8.toNat_inj.1 (by have : (45 : UInt8).toNat = 45 := rfl; omega))
  clear hp
  have hsz := Lib.size_eq u
  rw [hl, List.length_append, hn] at hsz
  have hsz1 : u.size ≤ n + r.length := by omega
  have hsz2 : n + r.length ≤ u.size := by omega
  clear hsz
  have HG := Lib.hid (fun w => q_digits u w a r (by omega) hl ha hr)
  have HL := Lib.hid hl
  have HN := Lib.hid hn
  have HA := Lib.hid ha
  clear hl ha hr hn
  go_enter Tryz.func50, Tryz.ntmps50
  go_upto_region 1 with (fail)
  obtain ⟨W, hW, extW, bz, hzz⟩ := box1 w 27 #[Value.bool false, Value.slice none 0 0, Value.bool false, Value.slice none 0 0]
  rw [← hW]
  clear hW
  have t1 : decide ((65536 : Int) < (u.size : Int)) = false := decide_eq_false (by omega)
  go_wp2_with fail
  refine (HG.out _).mono ?_
  rintro e w0 ⟨rfl, hw0⟩
  subst hw0
  rw [HN.out]
  have HCA := Lib.hid hc
  have hn1 : 1 ≤ n := by
    rw [← HN.out]
    rcases hc with h | ⟨c, t, h, _⟩ <;> rw [h] <;> simp
  have hn0 : ((n : Int) == 0) = false := by rw [beq_eq_false_iff_ne]; omega
  have H48 := Lib.hid (fun (h1 : 1 < n) => show ((u[0]'(by omega)).toNat : Int) ≠ 48 from by
    rcases HCA.out with h | ⟨c, t, h, h2⟩
    · have := HN.out
      rw [h] at this
      simp at this
      omega
    · have hlc : u.data.toList = c :: (t ++ r) := by rw [HL.out, h]; rfl
      obtain ⟨_, g1, _⟩ := get0 hlc
      rw [g1]
      intro h3
      exact h2 (u8_48 (by omega)))
  clear hc
  go_upto_region 7 with (fail)
  go_cut [38] (fun p V => p = .bool false ∧ W = V)
  case first =>
    by_cases h1 : 1 < n
    · have h2 := H48.out h1
      have t2 : decide ((1 : Int) < (n : Int)) = true := decide_eq_true (by omega)
      have t3 : ((u[0].toNat : Int) == 48) = false := beq_eq_false_iff_ne.2 h2
      have g3 : 0 < u.size := by omega
      clear h2
      go_wp2_with fail
      go_meet
      exact ⟨rfl, rfl⟩
    · have t2 : decide ((1 : Int) < (n : Int)) = false := decide_eq_false (by omega)
      go_wp2_with fail
      go_meet
      exact ⟨rfl, rfl⟩
  case rest =>
  obtain ⟨rfl, rfl⟩ := hcut
  have c1 : (0 : Int) ≤ (n : Int) := by omega
  have c2 : (n : Int) ≤ (u.size : Int) := by omega
  have c3 : n ≤ u.size := by omega
  have hbf1 : (u.extract 0 n).data.toList = a := by rw [extract_to _ _ c3, HL.out, ← HN.out, List.take_left]
  have hrf1 : (u.extract n u.size).data.toList = r := by rw [extract_from, HL.out, ← HN.out, List.drop_left]
  obtain ⟨bf, hbf⟩ : ∃ bf, u.extract 0 n = bf := ⟨_, rfl⟩
  obtain ⟨rf, hrf⟩ : ∃ rf, u.extract n u.size = rf := ⟨_, rfl⟩
  rw [hbf] at hbf1
  rw [hrf] at hrf1
  have hbz : bf.size ≤ n := by rw [Lib.size_eq, hbf1, HN.out]; exact Nat.le_refl _
  have hrz := Lib.size_eq rf
  rw [hrf1] at hrz
  have hrz1 : rf.size ≤ r.length := by omega
  have hrz2 : r.length ≤ rf.size := by omega
  clear hrz
  have HBF := Lib.hid hbf
  have HRF := Lib.hid hrf
  have HB := Lib.hid hbf1
  have HR := Lib.hid hrf1
  clear hbf hrf hbf1 hrf1
  go_wp2_with fail
  rw [HBF.out]
  refine (q_ParseI bf (by omega) (by rw [HB.out]; exact HA.out) (by rw [HB.out]; exact HCA.out) (L := n) (by omega)).mono ?_
  rintro e wa ⟨s6, A6, n6, c6, rfl, h6, hxa⟩
  rw [HB.out] at h6
  go_upto_region 10 with (fail)
  refine at_world (fun V => Ext W V ∧ Box V wa.heap.size 24 #[.bool s6, .slice A6 n6 c6] ∧ NI V (dv a : Int) n s6 A6 n6 c6) ⟨hxa.alloc _, Box.new wa _ _, h6.ext ((Ext.refl wa).alloc _)⟩ ?_
  have hg6 : w.heap.size + 1 ≤ wa.heap.size := by have := hxa.size; omega
  generalize wa.heap.size = g6 at *
  clear hxa h6
  rintro V ⟨EV, b6, h6⟩
  replace bz := bz.ext EV
  replace extW := extW.trans EV
  clear EV
  go_wp2_with fail
  refine (q_FromInt 1 (by omega) (by omega)).mono ?_
  rintro e wb ⟨s8, A8, n8, c8, rfl, h8, hxb⟩
  go_upto_region 11 with (fail)
  refine at_world (fun U => Ext V U ∧ Box U wb.heap.size 24 #[.bool s8, .slice A8 n8 c8] ∧ NI U 1 2 s8 A8 n8 c8) ⟨hxb.alloc _, Box.new wb _ _, h8.ext ((Ext.refl wb).alloc _)⟩ ?_
  have hsz6 := hxb.size
  generalize wb.heap.size = g8 at *
  clear hxb h8
  rintro U ⟨EU, b8, h8⟩
  have hlt6 := b6.lt
  have hne68 : g6 ≠ g8 := by omega
  replace bz := bz.ext EU
  replace b6 := b6.ext EU
  replace h6 := h6.ext EU
  replace extW := extW.trans EU
  clear EU
  go_upto_region 13 with (fail)
  rw [HRF.out]
  have hrl : rf.data.toList = 46 :: b := by rw [HR.out, h0]
  have hre : rf.toList.isEmpty = false := by rw [Lib.toList_data, hrl]; rfl
  obtain ⟨g9, g91, g92⟩ := get0 hrl
  have t46 : ((rf[0].toNat : Int) == 46) = true := by rw [g91]; rfl
  have hb1 : 1 ≤ b.length := List.length_pos_iff.2 hbn
  have t7 : decide ((1 : Int) < (rf.size : Int)) = true := decide_eq_true (by omega)
  obtain ⟨m, hm⟩ : ∃ m, b.length = m := ⟨_, rfl⟩
  have t8 : ((m : Int) == (rf.size : Int) - 1) = true := by rw [beq_iff_eq]; omega
  have hsf1 : (rf.extract 1 rf.size).data.toList = b := by rw [extract_from, hrl]; rfl
  obtain ⟨sf, hsf⟩ : ∃ sf, rf.extract 1 rf.size = sf := ⟨_, rfl⟩
  rw [hsf] at hsf1
  have hsz := Lib.size_eq sf
  rw [hsf1, hm] at hsz
  have HG2 := Lib.hid (fun w => q_digits sf w b [] (by omega) (by rw [hsf1, List.append_nil]) hb (.inl rfl))
  have HM := Lib.hid hm
  have HSF := Lib.hid hsf
  have HRL := Lib.hid hrl
  have HBD := Lib.hid hb
  have hrs1 : rf.size ≤ m + 1 := by omega
  have hrs2 : m + 1 ≤ rf.size := by omega
  have hm1 : 1 ≤ m := by omega
  clear g91 g92 hb1 hm hsf hsf1 hsz hrl hb hbn
  go_wp2_with fail
  rw [HSF.out]
  refine (HG2.out _).mono ?_
  rintro e w14 ⟨rfl, hw14⟩
  subst hw14
  rw [HM.out]
  go_wp2_with fail
  refine (q_FromInt 10 (by omega) (by omega)).mono ?_
  rintro e wt ⟨s10, A10, n10, c10, rfl, h10, hxt⟩
  go_upto_region 16 with (fail)
  refine at_world (fun U2 => Ext U U2 ∧ Box U2 wt.heap.size 24 #[.bool s10, .slice A10 n10 c10] ∧ NI U2 10 2 s10 A10 n10 c10) ⟨hxt.alloc _, Box.new wt _ _, h10.ext ((Ext.refl wt).alloc _)⟩ ?_
  have hszt := hxt.size
  generalize wt.heap.size = g10 at *
  clear hxt h10
  rintro U2 ⟨EU2, b10, h10⟩
  have hlt8 := b8.lt
  have hne610 : g6 ≠ g10 := by have := b6.lt; omega
  have hne810 : g8 ≠ g10 := by omega
  replace bz := bz.ext EU2
  replace b6 := b6.ext EU2
  replace b8 := b8.ext EU2
  replace h6 := h6.ext EU2
  replace h8 := h8.ext EU2
  replace extW := extW.trans EU2
  clear EU2 hszt hlt8
  have EW := extW
  go_wp2_with fail
  go_loopw [11] (fun i wr => ∃ (k : Nat) (s6 : Bool) (A6 : Option Addr) (n6 c6 : Nat) (s8 : Bool) (A8 : Option Addr) (n8 c8 : Nat), k ≤ m ∧ i = .int .i64 ((k : Int) + 1) ∧ Box wr w.heap.size 27 #[Value.bool false, Value.slice none 0 0, Value.bool false, Value.slice none 0 0] ∧ Box wr g6 24 #[.bool s6, .slice A6 n6 c6] ∧ Box wr g8 24 #[.bool s8, .slice A8 n8 c8] ∧ Box wr g10 24 #[.bool s10, .slice A10 n10 c10] ∧ NI wr (dv (a ++ b.take k) : Int) (n + k) s6 A6 n6 c6 ∧ NI wr ((10 ^ k : Nat) : Int) (k + 2) s8 A8 n8 c8 ∧ NI wr 10 2 s10 A10 n10 c10 ∧ Ext w wr) (fun i _ => m + 1 - (intOf i).toNat)
  case atStart => exact ⟨0, s6, A6, n6, c6, s8, A8, n8, c8, by omega, rfl, bz, b6, b8, b10, by rw [List.take_zero, List.append_nil]; exact h6, h8, h10, EW⟩
  case round =>
    clear bz b6 b8 b10 h6 h8 h10 extW EW
    obtain ⟨k, s6, A6, n6, c6, s8, A8, n8, c8, hk, rfl, bzr, b6r, b8r, b10r, h6r, h8r, h10r, EXT⟩ := hrel
    by_cases hlt : k < m
    · have hkr : k + 1 < rf.size := by omega
      have hdk : Dig rf[k + 1] := by
        have e : rf[k + 1] = rf.data.toList[k + 1]'(by rw [← Lib.size_eq]; exact hkr) := rfl
        rw [e]
        simp only [HRL.out, List.getElem_cons_succ]
        exact HBD.out _ (List.getElem_mem _)
      have hi1 : (48 : Int) ≤ (rf[k + 1].toNat : Int) := by have := hdk.1; omega
      have hi2 : (rf[k + 1].toNat : Int) ≤ 57 := by have := hdk.2; omega
      have hstep : dv (a ++ b.take (k + 1)) = 10 * dv (a ++ b.take k) + (rf[k + 1].toNat - 48) := by
        have hkb : k < b.length := by rw [HM.out]; exact hlt
        rw [List.take_succ_eq_append_getElem hkb, ← List.append_assoc, dv_snoc]
        have e : rf[k + 1] = rf.data.toList[k + 1]'(by rw [← Lib.size_eq]; exact hkr) := rfl
        rw [e]
        simp only [HRL.out, List.getElem_cons_succ]
      have Hstep := Lib.hid (show (dv (a ++ b.take k) : Int) * 10 + ((rf[k + 1].toNat : Int) - 48) = (dv (a ++ b.take (k + 1)) : Int) by omega)
      have hdd : Digs (a ++ b.take (k + 1)) := fun c hc => by
        rcases List.mem_append.1 hc with h | h
        · exact HA.out c h
        · exact HBD.out c (List.mem_of_mem_take h)
      have hlen : (a ++ b.take (k + 1)).length = n + (k + 1) := by
        rw [List.length_append, HN.out, List.length_take, HM.out]; omega
      have Hlim := Lib.hid (show (dv (a ++ b.take (k + 1)) : Int).natAbs < 4294967296 ^ (n + (k + 1)) by
        rw [Int.natAbs_natCast, ← hlen]
        exact Nat.lt_of_lt_of_le (dv_lt hdd) (pow10_le _))
      have Hlim2 := Lib.hid (show (((10 ^ (k + 1) : Nat) : Int)).natAbs < 4294967296 ^ (k + 1 + 2) by
        rw [Int.natAbs_natCast]
        exact Nat.lt_of_le_of_lt (pow10_le _) (Nat.pow_lt_pow_right (by omega) (by omega)))
      have hl1 : (k : Int) + 1 < (rf.size : Int) := by omega
      have hl0 : (0 : Int) ≤ (k : Int) + 1 := by omega
      have t77 : decide ((k : Int) + 1 < (rf.size : Int)) = true := decide_eq_true hl1
      clear hdk hstep hdd hlen
      go_upto_region 19 with (fail)
      clear t77
      refine wpL.start 10 (by kernel_rfl) (fun _ _ _ _ _ => ⟨fun h => h, fun h => h⟩) (fun hQ ES => ?_)
      refine wpL.take (i := 0) (d := some 80) (v := ?v0_54) rfl rfl (by kernel_rfl) (by kernel_rfl) (by kernel_rfl) (by kernel_rfl) hQ (Or.inl ⟨by rfl, ?y0_54⟩) ES ?r0_54
      case y0_54 =>
        intro w' hSw
        have k0 := (b6r.ext hSw).cell 0 _ rfl
        have j0 := (b10r.ext hSw).cell 0 _ rfl
        have k1 := (b6r.ext hSw).cell 1 _ rfl
        have j1 := (b10r.ext hSw).cell 1 _ rfl
        go_simp
        try with_reducible rfl
      try simp only [Act.put]
      try simp only [List.setIfInBounds_toArray]
      try simp only [List.set_cons_succ]
      try simp only [List.set_cons_zero]
      refine wpL.take (i := 1) (d := some 81) (v := ?v1_55) rfl rfl (by kernel_rfl) (by kernel_rfl) (by kernel_rfl) (by kernel_rfl) hQ (Or.inl ⟨by rfl, ?y1_55⟩) ES ?r1_55
      case y1_55 =>
        intro w' hSw
        have k0 := (b6r.ext hSw).cell 0 _ rfl
        have j0 := (b10r.ext hSw).cell 0 _ rfl
        have k1 := (b6r.ext hSw).cell 1 _ rfl
        have j1 := (b10r.ext hSw).cell 1 _ rfl
        go_simp
        try with_reducible rfl
      try simp only [Act.put]
      try simp only [List.setIfInBounds_toArray]
      try simp only [List.set_cons_succ]
      try simp only [List.set_cons_zero]
      refine wpL.take (i := 3) (d := some 83) (v := ?v3_56) rfl rfl (by kernel_rfl) (by kernel_rfl) (by kernel_rfl) (by kernel_rfl) hQ (Or.inl ⟨by rfl, ?y3_56⟩) ES ?r3_56
      case y3_56 =>
        intro w' hSw
        have k0 := (b6r.ext hSw).cell 0 _ rfl
        have j0 := (b10r.ext hSw).cell 0 _ rfl
        have k1 := (b6r.ext hSw).cell 1 _ rfl
        have j1 := (b10r.ext hSw).cell 1 _ rfl
        go_simp
        try with_reducible rfl
      try simp only [Act.put]
      try simp only [List.setIfInBounds_toArray]
      try simp only [List.set_cons_succ]
      try simp only [List.set_cons_zero]
      refine wpL.take (i := 4) (d := some 84) (v := ?v4_57) rfl rfl (by kernel_rfl) (by kernel_rfl) (by kernel_rfl) (by kernel_rfl) hQ (Or.inl ⟨by rfl, ?y4_57⟩) ES ?r4_57
      case y4_57 =>
        intro w' hSw
        have k0 := (b6r.ext hSw).cell 0 _ rfl
        have j0 := (b10r.ext hSw).cell 0 _ rfl
        have k1 := (b6r.ext hSw).cell 1 _ rfl
        have j1 := (b10r.ext hSw).cell 1 _ rfl
        go_simp
        try with_reducible rfl
      try simp only [Act.put]
      try simp only [List.setIfInBounds_toArray]
      try simp only [List.set_cons_succ]
      try simp only [List.set_cons_zero]
      refine wpL.take (i := 5) (d := some 85) (v := ?v5_58) rfl rfl (by kernel_rfl) (by kernel_rfl) (by kernel_rfl) (by kernel_rfl) hQ (Or.inl ⟨by rfl, ?y5_58⟩) ES ?r5_58
      case y5_58 =>
        intro w' hSw
        have k0 := (b6r.ext hSw).cell 0 _ rfl
        have j0 := (b10r.ext hSw).cell 0 _ rfl
        have k1 := (b6r.ext hSw).cell 1 _ rfl
        have j1 := (b10r.ext hSw).cell 1 _ rfl
        go_simp
        try with_reducible rfl
      try simp only [Act.put]
      try simp only [List.setIfInBounds_toArray]
      try simp only [List.set_cons_succ]
      try simp only [List.set_cons_zero]
      refine wpL.take (i := 6) (d := some 86) (v := ?v6_59) rfl rfl (by kernel_rfl) (by kernel_rfl) (by kernel_rfl) (by kernel_rfl) hQ (Or.inl ⟨by rfl, ?y6_59⟩) ES ?r6_59
      case y6_59 =>
        intro w' hSw
        have k0 := (b6r.ext hSw).cell 0 _ rfl
        have j0 := (b10r.ext hSw).cell 0 _ rfl
        have k1 := (b6r.ext hSw).cell 1 _ rfl
        have j1 := (b10r.ext hSw).cell 1 _ rfl
        go_simp
        try with_reducible rfl
      try simp only [Act.put]
      try simp only [List.setIfInBounds_toArray]
      try simp only [List.set_cons_succ]
      try simp only [List.set_cons_zero]
      refine wpL.take (i := 7) (d := some 87) (v := ?v7_60) rfl rfl (by kernel_rfl) (by kernel_rfl) (by kernel_rfl) (by kernel_rfl) hQ (Or.inl ⟨by rfl, ?y7_60⟩) ES ?r7_60
      case y7_60 =>
        intro w' hSw
        have k0 := (b6r.ext hSw).cell 0 _ rfl
        have j0 := (b10r.ext hSw).cell 0 _ rfl
        have k1 := (b6r.ext hSw).cell 1 _ rfl
        have j1 := (b10r.ext hSw).cell 1 _ rfl
        go_simp
        try with_reducible rfl
      try simp only [Act.put]
      try simp only [List.setIfInBounds_toArray]
      try simp only [List.set_cons_succ]
      try simp only [List.set_cons_zero]
      refine wpL.call (i := 2) rfl (by kernel_rfl) (fun K hK => ?_)
      go_simp
      (go_at_call 74; refine (q_Mul (h6r.ext ES) (h10r.ext ES) (by omega) (by omega)).mono ?_; rintro e wk1 ⟨s11, A11, n11, c11, rfl, k1, hx1⟩)
      refine hK.out _ _ (ES.trans hx1) ?_
      clear hK K
      try simp only [Act.put]
      try simp only [List.setIfInBounds_toArray]
      try simp only [List.set_cons_succ]
      try simp only [List.set_cons_zero]
      have ET := ES.trans hx1
      refine wpL.call (i := 8) rfl (by kernel_rfl) (fun K hK => ?_)
      go_simp
      rw [IntWalk.u8_in _ (by omega), IntWalk.i64_in _ (by omega)]
      (go_at_call 44; refine (q_FromInt ((rf[k + 1].toNat : Int) - 48) (by omega) (by omega)).mono ?_; rintro e wk2 ⟨s12, A12, n12, c12, rfl, k2, hx2⟩)
      refine hK.out _ _ (ET.trans hx2) ?_
      clear hK K
      try simp only [Act.put]
      try simp only [List.setIfInBounds_toArray]
      try simp only [List.set_cons_succ]
      try simp only [List.set_cons_zero]
      have ET2 := ET.trans hx2
      refine wpL.call (i := 9) rfl (by kernel_rfl) (fun K hK => ?_)
      go_simp
      (go_at_call 73; refine (q_Add (k1.ext hx2) k2 (by omega) (by omega)).mono ?_; rintro e wk3 ⟨s13, A13, n13, c13, rfl, k3, hx3⟩)
      refine hK.out _ _ (ET2.trans hx3) ?_
      clear hK K
      try simp only [Act.put]
      try simp only [List.setIfInBounds_toArray]
      try simp only [List.set_cons_succ]
      try simp only [List.set_cons_zero]
      have E4 := ET2.trans hx3
      have b64 := b6r.ext E4
      have y0 := b64.cell 0 _ rfl
      have y1 := b64.cell 1 _ rfl
      have f0 := b64.frozen 0
      have f1 := b64.frozen 1
      rw [Hstep.out] at k3
      refine wpL.tail (i := 10) rfl (by kernel_rfl) (by kernel_rfl) (fun K hK => ?_)
      go_simp
      refine hK.out _ _ ?_
      clear hK K
      try simp only [Act.put]
      try simp only [List.setIfInBounds_toArray]
      try simp only [List.set_cons_succ]
      try simp only [List.set_cons_zero]
      refine wpL.done (by kernel_rfl) ?_ _
      clear hQ
      refine at_exit (fun X => Ext w X ∧ Box X w.heap.size 27 #[Value.bool false, Value.slice none 0 0, Value.bool false, Value.slice none 0 0] ∧ Box X g6 24 #[.bool s13, .slice A13 n13 c13] ∧ Box X g8 24 #[.bool s8, .slice A8 n8 c8] ∧ Box X g10 24 #[.bool s10, .slice A10 n10 c10] ∧ NI X (dv (a ++ b.take (k + 1)) : Int) (n + (k + 1)) s13 A13 n13 c13 ∧ NI X ((10 ^ k : Nat) : Int) (k + 2) s8 A8 n8 c8 ∧ NI X 10 2 s10 A10 n10 c10) ?_ ?_
      · have q1 := fin_dual (s := s13) (A := A13) (n := n13) (c := c13) b64
        exact ⟨q1.2.2.1 _ (EXT.trans E4) (by omega), q1.2.2.2 _ _ _ (by omega) (bzr.ext E4), q1.1, q1.2.2.2 _ _ _ (Ne.symm hne68) (b8r.ext E4), q1.2.2.2 _ _ _ (Ne.symm hne610) (b10r.ext E4), q1.2.1 _ _ _ _ _ _ (k3.tight' Hlim.out), q1.2.1 _ _ _ _ _ _ (h8r.ext E4), q1.2.1 _ _ _ _ _ _ (h10r.ext E4)⟩
      clear bzr b6r b8r b10r h6r h8r h10r EXT k1 k2 k3 b64 y0 y1 f0 f1
      rintro X ⟨EXT, bzr, b6r, b8r, b10r, h6r, h8r, h10r⟩
      have x0 := b8r.cell 0 (.bool s8) rfl
      have x1 := b8r.cell 1 (.slice A8 n8 c8) rfl
      have y0 := b10r.cell 0 (.bool s10) rfl
      have y1 := b10r.cell 1 (.slice A10 n10 c10) rfl
      go_wp2_with fail
      refine (q_Mul h8r h10r (by omega) (by omega)).mono ?_
      rintro e wm ⟨s14, A14, n14, c14, rfl, k4, hx4⟩
      have e10 : ((10 ^ k : Nat) : Int) * 10 = ((10 ^ (k + 1) : Nat) : Int) := by rw [Nat.pow_succ]; omega
      rw [e10] at k4
      replace k4 := k4.tight' Hlim2.out
      clear x0 x1 y0 y1 e10
      replace bzr := bzr.ext hx4
      replace b6r := b6r.ext hx4
      replace b8r := b8r.ext hx4
      replace b10r := b10r.ext hx4
      replace h6r := h6r.ext hx4
      replace h10r := h10r.ext hx4
      replace EXT := EXT.trans hx4
      have z0 := b8r.cell 0 _ rfl
      have z1 := b8r.cell 1 _ rfl
      have f0 := b8r.frozen 0
      have f1 := b8r.frozen 1
      have HQ := Lib.hid (fin_dual (s := s14) (A := A14) (n := n14) (c := c14) b8r)
      go_wp2_with fail
      go_roundw
      case rel => exact ⟨k + 1, s13, A13, n13, c13, s14, A14, n14, c14, by omega, by go_num, HQ.out.2.2.2 _ _ _ (by omega) bzr, HQ.out.2.2.2 _ _ _ hne68 b6r, HQ.out.1, HQ.out.2.2.2 _ _ _ (Ne.symm hne810) b10r, HQ.out.2.1 _ _ _ _ _ _ h6r, HQ.out.2.1 _ _ _ _ _ _ k4, HQ.out.2.1 _ _ _ _ _ _ h10r, HQ.out.2.2.1 _ EXT (by omega)⟩
      case measure => simp [intOf]; omega
    · obtain rfl : k = m := by omega
      have hl1 : ¬ (k : Int) + 1 < (rf.size : Int) := by omega
      have t77 : decide ((k : Int) + 1 < (rf.size : Int)) = false := decide_eq_false hl1
      have e1 : b.take k = b := List.take_of_length_le (by rw [HM.out]; exact Nat.le_refl _)
      rw [e1] at h6r
      have h6 := h6r.le (L' := 200) (by omega)
      have h8 := h8r.le (L' := 202) (by omega)
      have bz := bzr
      have b6 := b6r
      have b8 := b8r
      have extW := EXT
      clear h6r h8r bzr b6r b8r EXT e1 h10r b10r
      have HY := Lib.hid (show ((10 ^ k : Nat) : Int) ≠ 0 by have := Nat.pow_pos (n := k) (show 0 < 10 by decide); omega)
      have b60 := b6.cell 0 (.bool s6) rfl
      have b61 := b6.cell 1 (.slice A6 n6 c6) rfl
      have b80 := b8.cell 0 (.bool s8) rfl
      have b81 := b8.cell 1 (.slice A8 n8 c8) rfl
      go_wp2_with fail
      refine (q_Make_nz h6 h8 (by omega) (by omega) HY.out).mono ?_
      rintro e wm ⟨s7, A7, n7, c7, t7, B7, m7, d7, rfl, hr, hE⟩
      replace hr := hr.le (L' := 1000) (by omega)
      rw [← HM.out] at hr
      clear b60 b61 b80 b81
      have z0 := (bz.ext hE).cell 0 _ rfl
      have z1 := (bz.ext hE).cell 1 _ rfl
      have z2 := (bz.ext hE).cell 2 _ rfl
      have z3 := (bz.ext hE).cell 3 _ rfl
      have f0 := (bz.ext hE).frozen 0
      have f1 := (bz.ext hE).frozen 1
      have f2 := (bz.ext hE).frozen 2
      have f3 := (bz.ext hE).frozen 3
      go_wp2_with fail
      obtain ⟨b1, b2, b3, b4⟩ := fin_quad (s := s7) (A := A7) (n := n7) (c := c7) (t := t7) (B := B7) (m := m7) (d := d7) (bz.ext hE)
      have r0 := b1.cell 0 (.bool s7) rfl
      have r1 := b1.cell 1 (.slice A7 n7 c7) rfl
      have r2 := b1.cell 2 (.bool t7) rfl
      have r3 := b1.cell 3 (.slice B7 m7 d7) rfl
      unfold set4 at r0 r1 r2 r3
      refine bodyPost_ret (v := .tuple #[.agg #[.bool s7, .slice A7 n7 c7, .bool t7, .slice B7 m7 d7], .int .i64 0]) (by simp [results, Tryz.results50, go_sem, r0, r1, r2, r3]) rfl ⟨s7, A7, n7, c7, t7, B7, m7, d7, rfl, ⟨b2 _ _ _ _ _ _ hr.num, b2 _ _ _ _ _ _ hr.den⟩, b3 _ (extW.trans hE) (by omega)⟩
set_option maxHeartbeats 16000000 in
set_option maxRecDepth 100000 in
theorem qp_dec_neg (s u : ByteArray) (n : Nat) (a r : List UInt8) (hs : s.size ≤ 200) (h45 : s.data.toList = 45 :: u.data.toList) (hl : u.data.toList = a ++ r) (hn : a.length = n) (ha : Digs a) (hr : r = [] ∨ ∃ c b, r = c :: b ∧ ¬ Dig c) (hc : Canon a) (b : List UInt8) (h0 : r = 46 :: b) (hb : Digs b) (hbn : b ≠ []) (hz0 : dv (a ++ b) ≠ 0) :
    Calls Tryz.prog 50 #[.string s] w (RetNRE (mkQ (-(dv (a ++ b) : Int)) ((10 ^ b.length : Nat) : Int)) 1000 w) := by
  have HZ := Lib.hid (show (dv (a ++ b) : Int) ≠ 0 by omega)
  clear hz0
  obtain ⟨g0, g1, g2⟩ := get0 h45
  clear g2
  obtain ⟨c1, c2, c3⟩ := cut_neg (w := w) (s := s) (by omega) h45
  clear c3
  have hu : s.extract 1 s.size = u := bytes_ext c1
  have hne : s.toList.isEmpty = false := by rw [Lib.toList_data, h45]; rfl
  have t9 : ((s[0].toNat : Int) == 45) = true := by rw [g1]; rfl
  have hz : u.size ≤ 200 := by rw [← hu, c2]; have := Lib.size_eq s; rw [h45, List.length_cons] at this; have h2 := Lib.size_eq u; omega
  have HU := Lib.hid hu
  clear g1 c1 c2 hu h45
  have hsz := Lib.size_eq u
  rw [hl, List.length_append, hn] at hsz
  have hsz1 : u.size ≤ n + r.length := by omega
  have hsz2 : n + r.length ≤ u.size := by omega
  clear hsz
  have HG := Lib.hid (fun w => q_digits u w a r (by omega) hl ha hr)
  have HL := Lib.hid hl
  have HN := Lib.hid hn
  have HA := Lib.hid ha
  clear hl ha hr hn
  go_enter Tryz.func50, Tryz.ntmps50
  go_upto_region 1 with (fail)
  obtain ⟨W, hW, extW, bz, hzz⟩ := box1 w 27 #[Value.bool false, Value.slice none 0 0, Value.bool false, Value.slice none 0 0]
  rw [← hW]
  clear hW
  have t1 : decide ((65536 : Int) < (s.size : Int)) = false := decide_eq_false (by omega)
  go_wp2_with fail
  rw [HU.out]
  refine (HG.out _).mono ?_
  rintro e w0 ⟨rfl, hw0⟩
  subst hw0
  rw [HN.out]
  have HCA := Lib.hid hc
  have hn1 : 1 ≤ n := by
    rw [← HN.out]
    rcases hc with h | ⟨c, t, h, _⟩ <;> rw [h] <;> simp
  have hn0 : ((n : Int) == 0) = false := by rw [beq_eq_false_iff_ne]; omega
  have H48 := Lib.hid (fun (h1 : 1 < n) => show ((u[0]'(by omega)).toNat : Int) ≠ 48 from by
    rcases HCA.out with h | ⟨c, t, h, h2⟩
    · have := HN.out
      rw [h] at this
      simp at this
      omega
    · have hlc : u.data.toList = c :: (t ++ r) := by rw [HL.out, h]; rfl
      obtain ⟨_, g1, _⟩ := get0 hlc
      rw [g1]
      intro h3
      exact h2 (u8_48 (by omega)))
  clear hc
  go_upto_region 7 with (fail)
  go_cut [38] (fun p V => p = .bool false ∧ W = V)
  case first =>
    by_cases h1 : 1 < n
    · have h2 := H48.out h1
      have t2 : decide ((1 : Int) < (n : Int)) = true := decide_eq_true (by omega)
      have t3 : ((u[0].toNat : Int) == 48) = false := beq_eq_false_iff_ne.2 h2
      have g3 : 0 < u.size := by omega
      clear h2
      go_wp2_with fail
      go_meet
      exact ⟨rfl, rfl⟩
    · have t2 : decide ((1 : Int) < (n : Int)) = false := decide_eq_false (by omega)
      go_wp2_with fail
      go_meet
      exact ⟨rfl, rfl⟩
  case rest =>
  obtain ⟨rfl, rfl⟩ := hcut
  have c1 : (0 : Int) ≤ (n : Int) := by omega
  have c2 : (n : Int) ≤ (u.size : Int) := by omega
  have c3 : n ≤ u.size := by omega
  have hbf1 : (u.extract 0 n).data.toList = a := by rw [extract_to _ _ c3, HL.out, ← HN.out, List.take_left]
  have hrf1 : (u.extract n u.size).data.toList = r := by rw [extract_from, HL.out, ← HN.out, List.drop_left]
  obtain ⟨bf, hbf⟩ : ∃ bf, u.extract 0 n = bf := ⟨_, rfl⟩
  obtain ⟨rf, hrf⟩ : ∃ rf, u.extract n u.size = rf := ⟨_, rfl⟩
  rw [hbf] at hbf1
  rw [hrf] at hrf1
  have hbz : bf.size ≤ n := by rw [Lib.size_eq, hbf1, HN.out]; exact Nat.le_refl _
  have hrz := Lib.size_eq rf
  rw [hrf1] at hrz
  have hrz1 : rf.size ≤ r.length := by omega
  have hrz2 : r.length ≤ rf.size := by omega
  clear hrz
  have HBF := Lib.hid hbf
  have HRF := Lib.hid hrf
  have HB := Lib.hid hbf1
  have HR := Lib.hid hrf1
  clear hbf hrf hbf1 hrf1
  go_wp2_with fail
  rw [HBF.out]
  refine (q_ParseI bf (by omega) (by rw [HB.out]; exact HA.out) (by rw [HB.out]; exact HCA.out) (L := n) (by omega)).mono ?_
  rintro e wa ⟨s6, A6, n6, c6, rfl, h6, hxa⟩
  rw [HB.out] at h6
  go_upto_region 10 with (fail)
  refine at_world (fun V => Ext W V ∧ Box V wa.heap.size 24 #[.bool s6, .slice A6 n6 c6] ∧ NI V (dv a : Int) n s6 A6 n6 c6) ⟨hxa.alloc _, Box.new wa _ _, h6.ext ((Ext.refl wa).alloc _)⟩ ?_
  have hg6 : w.heap.size + 1 ≤ wa.heap.size := by have := hxa.size; omega
  generalize wa.heap.size = g6 at *
  clear hxa h6
  rintro V ⟨EV, b6, h6⟩
  replace bz := bz.ext EV
  replace extW := extW.trans EV
  clear EV
  go_wp2_with fail
  refine (q_FromInt 1 (by omega) (by omega)).mono ?_
  rintro e wb ⟨s8, A8, n8, c8, rfl, h8, hxb⟩
  go_upto_region 11 with (fail)
  refine at_world (fun U => Ext V U ∧ Box U wb.heap.size 24 #[.bool s8, .slice A8 n8 c8] ∧ NI U 1 2 s8 A8 n8 c8) ⟨hxb.alloc _, Box.new wb _ _, h8.ext ((Ext.refl wb).alloc _)⟩ ?_
  have hsz6 := hxb.size
  generalize wb.heap.size = g8 at *
  clear hxb h8
  rintro U ⟨EU, b8, h8⟩
  have hlt6 := b6.lt
  have hne68 : g6 ≠ g8 := by omega
  replace bz := bz.ext EU
  replace b6 := b6.ext EU
  replace h6 := h6.ext EU
  replace extW := extW.trans EU
  clear EU
  go_upto_region 13 with (fail)
  rw [HRF.out]
  have hrl : rf.data.toList = 46 :: b := by rw [HR.out, h0]
  have hre : rf.toList.isEmpty = false := by rw [Lib.toList_data, hrl]; rfl
  obtain ⟨g9, g91, g92⟩ := get0 hrl
  have t46 : ((rf[0].toNat : Int) == 46) = true := by rw [g91]; rfl
  have hb1 : 1 ≤ b.length := List.length_pos_iff.2 hbn
  have t7 : decide ((1 : Int) < (rf.size : Int)) = true := decide_eq_true (by omega)
  obtain ⟨m, hm⟩ : ∃ m, b.length = m := ⟨_, rfl⟩
  have t8 : ((m : Int) == (rf.size : Int) - 1) = true := by rw [beq_iff_eq]; omega
  have hsf1 : (rf.extract 1 rf.size).data.toList = b := by rw [extract_from, hrl]; rfl
  obtain ⟨sf, hsf⟩ : ∃ sf, rf.extract 1 rf.size = sf := ⟨_, rfl⟩
  rw [hsf] at hsf1
  have hsz := Lib.size_eq sf
  rw [hsf1, hm] at hsz
  have HG2 := Lib.hid (fun w => q_digits sf w b [] (by omega) (by rw [hsf1, List.append_nil]) hb (.inl rfl))
  have HM := Lib.hid hm
  have HSF := Lib.hid hsf
  have HRL := Lib.hid hrl
  have HBD := Lib.hid hb
  have hrs1 : rf.size ≤ m + 1 := by omega
  have hrs2 : m + 1 ≤ rf.size := by omega
  have hm1 : 1 ≤ m := by omega
  clear g91 g92 hb1 hm hsf hsf1 hsz hrl hb hbn
  go_wp2_with fail
  rw [HSF.out]
  refine (HG2.out _).mono ?_
  rintro e w14 ⟨rfl, hw14⟩
  subst hw14
  rw [HM.out]
  go_wp2_with fail
  refine (q_FromInt 10 (by omega) (by omega)).mono ?_
  rintro e wt ⟨s10, A10, n10, c10, rfl, h10, hxt⟩
  go_upto_region 16 with (fail)
  refine at_world (fun U2 => Ext U U2 ∧ Box U2 wt.heap.size 24 #[.bool s10, .slice A10 n10 c10] ∧ NI U2 10 2 s10 A10 n10 c10) ⟨hxt.alloc _, Box.new wt _ _, h10.ext ((Ext.refl wt).alloc _)⟩ ?_
  have hszt := hxt.size
  generalize wt.heap.size = g10 at *
  clear hxt h10
  rintro U2 ⟨EU2, b10, h10⟩
  have hlt8 := b8.lt
  have hne610 : g6 ≠ g10 := by have := b6.lt; omega
  have hne810 : g8 ≠ g10 := by omega
  replace bz := bz.ext EU2
  replace b6 := b6.ext EU2
  replace b8 := b8.ext EU2
  replace h6 := h6.ext EU2
  replace h8 := h8.ext EU2
  replace extW := extW.trans EU2
  clear EU2 hszt hlt8
  have EW := extW
  go_wp2_with fail
  go_loopw [11] (fun i wr => ∃ (k : Nat) (s6 : Bool) (A6 : Option Addr) (n6 c6 : Nat) (s8 : Bool) (A8 : Option Addr) (n8 c8 : Nat), k ≤ m ∧ i = .int .i64 ((k : Int) + 1) ∧ Box wr w.heap.size 27 #[Value.bool false, Value.slice none 0 0, Value.bool false, Value.slice none 0 0] ∧ Box wr g6 24 #[.bool s6, .slice A6 n6 c6] ∧ Box wr g8 24 #[.bool s8, .slice A8 n8 c8] ∧ Box wr g10 24 #[.bool s10, .slice A10 n10 c10] ∧ NI wr (dv (a ++ b.take k) : Int) (n + k) s6 A6 n6 c6 ∧ NI wr ((10 ^ k : Nat) : Int) (k + 2) s8 A8 n8 c8 ∧ NI wr 10 2 s10 A10 n10 c10 ∧ Ext w wr) (fun i _ => m + 1 - (intOf i).toNat)
  case atStart => exact ⟨0, s6, A6, n6, c6, s8, A8, n8, c8, by omega, rfl, bz, b6, b8, b10, by rw [List.take_zero, List.append_nil]; exact h6, h8, h10, EW⟩
  case round =>
    clear bz b6 b8 b10 h6 h8 h10 extW EW
    obtain ⟨k, s6, A6, n6, c6, s8, A8, n8, c8, hk, rfl, bzr, b6r, b8r, b10r, h6r, h8r, h10r, EXT⟩ := hrel
    by_cases hlt : k < m
    · have hkr : k + 1 < rf.size := by omega
      have hdk : Dig rf[k + 1] := by
        have e : rf[k + 1] = rf.data.toList[k + 1]'(by rw [← Lib.size_eq]; exact hkr) := rfl
        rw [e]
        simp only [HRL.out, List.getElem_cons_succ]
        exact HBD.out _ (List.getElem_mem _)
      have hi1 : (48 : Int) ≤ (rf[k + 1].toNat : Int) := by have := hdk.1; omega
      have hi2 : (rf[k + 1].toNat : Int) ≤ 57 := by have := hdk.2; omega
      have hstep : dv (a ++ b.take (k + 1)) = 10 * dv (a ++ b.take k) + (rf[k + 1].toNat - 48) := by
        have hkb : k < b.length := by rw [HM.out]; exact hlt
        rw [List.take_succ_eq_append_getElem hkb, ← List.append_assoc, dv_snoc]
        have e : rf[k + 1] = rf.data.toList[k + 1]'(by rw [← Lib.size_eq]; exact hkr) := rfl
        rw [e]
        simp only [HRL.out, List.getElem_cons_succ]
      have Hstep := Lib.hid (show (dv (a ++ b.take k) : Int) * 10 + ((rf[k + 1].toNat : Int) - 48) = (dv (a ++ b.take (k + 1)) : Int) by omega)
      have hdd : Digs (a ++ b.take (k + 1)) := fun c hc => by
        rcases List.mem_append.1 hc with h | h
        · exact HA.out c h
        · exact HBD.out c (List.mem_of_mem_take h)
      have hlen : (a ++ b.take (k + 1)).length = n + (k + 1) := by
        rw [List.length_append, HN.out, List.length_take, HM.out]; omega
      have Hlim := Lib.hid (show (dv (a ++ b.take (k + 1)) : Int).natAbs < 4294967296 ^ (n + (k + 1)) by
        rw [Int.natAbs_natCast, ← hlen]
        exact Nat.lt_of_lt_of_le (dv_lt hdd) (pow10_le _))
      have Hlim2 := Lib.hid (show (((10 ^ (k + 1) : Nat) : Int)).natAbs < 4294967296 ^ (k + 1 + 2) by
        rw [Int.natAbs_natCast]
        exact Nat.lt_of_le_of_lt (pow10_le _) (Nat.pow_lt_pow_right (by omega) (by omega)))
      have hl1 : (k : Int) + 1 < (rf.size : Int) := by omega
      have hl0 : (0 : Int) ≤ (k : Int) + 1 := by omega
      have t77 : decide ((k : Int) + 1 < (rf.size : Int)) = true := decide_eq_true hl1
      clear hdk hstep hdd hlen
      go_upto_region 19 with (fail)
      clear t77
      refine wpL.start 10 (by kernel_rfl) (fun _ _ _ _ _ => ⟨fun h => h, fun h => h⟩) (fun hQ ES => ?_)
      refine wpL.take (i := 0) (d := some 80) (v := ?v0_61) rfl rfl (by kernel_rfl) (by kernel_rfl) (by kernel_rfl) (by kernel_rfl) hQ (Or.inl ⟨by rfl, ?y0_61⟩) ES ?r0_61
      case y0_61 =>
        intro w' hSw
        have k0 := (b6r.ext hSw).cell 0 _ rfl
        have j0 := (b10r.ext hSw).cell 0 _ rfl
        have k1 := (b6r.ext hSw).cell 1 _ rfl
        have j1 := (b10r.ext hSw).cell 1 _ rfl
        go_simp
        try with_reducible rfl
      try simp only [Act.put]
      try simp only [List.setIfInBounds_toArray]
      try simp only [List.set_cons_succ]
      try simp only [List.set_cons_zero]
      refine wpL.take (i := 1) (d := some 81) (v := ?v1_62) rfl rfl (by kernel_rfl) (by kernel_rfl) (by kernel_rfl) (by kernel_rfl) hQ (Or.inl ⟨by rfl, ?y1_62⟩) ES ?r1_62
      case y1_62 =>
        intro w' hSw
        have k0 := (b6r.ext hSw).cell 0 _ rfl
        have j0 := (b10r.ext hSw).cell 0 _ rfl
        have k1 := (b6r.ext hSw).cell 1 _ rfl
        have j1 := (b10r.ext hSw).cell 1 _ rfl
        go_simp
        try with_reducible rfl
      try simp only [Act.put]
      try simp only [List.setIfInBounds_toArray]
      try simp only [List.set_cons_succ]
      try simp only [List.set_cons_zero]
      refine wpL.take (i := 3) (d := some 83) (v := ?v3_63) rfl rfl (by kernel_rfl) (by kernel_rfl) (by kernel_rfl) (by kernel_rfl) hQ (Or.inl ⟨by rfl, ?y3_63⟩) ES ?r3_63
      case y3_63 =>
        intro w' hSw
        have k0 := (b6r.ext hSw).cell 0 _ rfl
        have j0 := (b10r.ext hSw).cell 0 _ rfl
        have k1 := (b6r.ext hSw).cell 1 _ rfl
        have j1 := (b10r.ext hSw).cell 1 _ rfl
        go_simp
        try with_reducible rfl
      try simp only [Act.put]
      try simp only [List.setIfInBounds_toArray]
      try simp only [List.set_cons_succ]
      try simp only [List.set_cons_zero]
      refine wpL.take (i := 4) (d := some 84) (v := ?v4_64) rfl rfl (by kernel_rfl) (by kernel_rfl) (by kernel_rfl) (by kernel_rfl) hQ (Or.inl ⟨by rfl, ?y4_64⟩) ES ?r4_64
      case y4_64 =>
        intro w' hSw
        have k0 := (b6r.ext hSw).cell 0 _ rfl
        have j0 := (b10r.ext hSw).cell 0 _ rfl
        have k1 := (b6r.ext hSw).cell 1 _ rfl
        have j1 := (b10r.ext hSw).cell 1 _ rfl
        go_simp
        try with_reducible rfl
      try simp only [Act.put]
      try simp only [List.setIfInBounds_toArray]
      try simp only [List.set_cons_succ]
      try simp only [List.set_cons_zero]
      refine wpL.take (i := 5) (d := some 85) (v := ?v5_65) rfl rfl (by kernel_rfl) (by kernel_rfl) (by kernel_rfl) (by kernel_rfl) hQ (Or.inl ⟨by rfl, ?y5_65⟩) ES ?r5_65
      case y5_65 =>
        intro w' hSw
        have k0 := (b6r.ext hSw).cell 0 _ rfl
        have j0 := (b10r.ext hSw).cell 0 _ rfl
        have k1 := (b6r.ext hSw).cell 1 _ rfl
        have j1 := (b10r.ext hSw).cell 1 _ rfl
        go_simp
        try with_reducible rfl
      try simp only [Act.put]
      try simp only [List.setIfInBounds_toArray]
      try simp only [List.set_cons_succ]
      try simp only [List.set_cons_zero]
      refine wpL.take (i := 6) (d := some 86) (v := ?v6_66) rfl rfl (by kernel_rfl) (by kernel_rfl) (by kernel_rfl) (by kernel_rfl) hQ (Or.inl ⟨by rfl, ?y6_66⟩) ES ?r6_66
      case y6_66 =>
        intro w' hSw
        have k0 := (b6r.ext hSw).cell 0 _ rfl
        have j0 := (b10r.ext hSw).cell 0 _ rfl
        have k1 := (b6r.ext hSw).cell 1 _ rfl
        have j1 := (b10r.ext hSw).cell 1 _ rfl
        go_simp
        try with_reducible rfl
      try simp only [Act.put]
      try simp only [List.setIfInBounds_toArray]
      try simp only [List.set_cons_succ]
      try simp only [List.set_cons_zero]
      refine wpL.take (i := 7) (d := some 87) (v := ?v7_67) rfl rfl (by kernel_rfl) (by kernel_rfl) (by kernel_rfl) (by kernel_rfl) hQ (Or.inl ⟨by rfl, ?y7_67⟩) ES ?r7_67
      case y7_67 =>
        intro w' hSw
        have k0 := (b6r.ext hSw).cell 0 _ rfl
        have j0 := (b10r.ext hSw).cell 0 _ rfl
        have k1 := (b6r.ext hSw).cell 1 _ rfl
        have j1 := (b10r.ext hSw).cell 1 _ rfl
        go_simp
        try with_reducible rfl
      try simp only [Act.put]
      try simp only [List.setIfInBounds_toArray]
      try simp only [List.set_cons_succ]
      try simp only [List.set_cons_zero]
      refine wpL.call (i := 2) rfl (by kernel_rfl) (fun K hK => ?_)
      go_simp
      (go_at_call 74; refine (q_Mul (h6r.ext ES) (h10r.ext ES) (by omega) (by omega)).mono ?_; rintro e wk1 ⟨s11, A11, n11, c11, rfl, k1, hx1⟩)
      refine hK.out _ _ (ES.trans hx1) ?_
      clear hK K
      try simp only [Act.put]
      try simp only [List.setIfInBounds_toArray]
      try simp only [List.set_cons_succ]
      try simp only [List.set_cons_zero]
      have ET := ES.trans hx1
      refine wpL.call (i := 8) rfl (by kernel_rfl) (fun K hK => ?_)
      go_simp
      rw [IntWalk.u8_in _ (by omega), IntWalk.i64_in _ (by omega)]
      (go_at_call 44; refine (q_FromInt ((rf[k + 1].toNat : Int) - 48) (by omega) (by omega)).mono ?_; rintro e wk2 ⟨s12, A12, n12, c12, rfl, k2, hx2⟩)
      refine hK.out _ _ (ET.trans hx2) ?_
      clear hK K
      try simp only [Act.put]
      try simp only [List.setIfInBounds_toArray]
      try simp only [List.set_cons_succ]
      try simp only [List.set_cons_zero]
      have ET2 := ET.trans hx2
      refine wpL.call (i := 9) rfl (by kernel_rfl) (fun K hK => ?_)
      go_simp
      (go_at_call 73; refine (q_Add (k1.ext hx2) k2 (by omega) (by omega)).mono ?_; rintro e wk3 ⟨s13, A13, n13, c13, rfl, k3, hx3⟩)
      refine hK.out _ _ (ET2.trans hx3) ?_
      clear hK K
      try simp only [Act.put]
      try simp only [List.setIfInBounds_toArray]
      try simp only [List.set_cons_succ]
      try simp only [List.set_cons_zero]
      have E4 := ET2.trans hx3
      have b64 := b6r.ext E4
      have y0 := b64.cell 0 _ rfl
      have y1 := b64.cell 1 _ rfl
      have f0 := b64.frozen 0
      have f1 := b64.frozen 1
      rw [Hstep.out] at k3
      refine wpL.tail (i := 10) rfl (by kernel_rfl) (by kernel_rfl) (fun K hK => ?_)
      go_simp
      refine hK.out _ _ ?_
      clear hK K
      try simp only [Act.put]
      try simp only [List.setIfInBounds_toArray]
      try simp only [List.set_cons_succ]
      try simp only [List.set_cons_zero]
      refine wpL.done (by kernel_rfl) ?_ _
      clear hQ
      refine at_exit (fun X => Ext w X ∧ Box X w.heap.size 27 #[Value.bool false, Value.slice none 0 0, Value.bool false, Value.slice none 0 0] ∧ Box X g6 24 #[.bool s13, .slice A13 n13 c13] ∧ Box X g8 24 #[.bool s8, .slice A8 n8 c8] ∧ Box X g10 24 #[.bool s10, .slice A10 n10 c10] ∧ NI X (dv (a ++ b.take (k + 1)) : Int) (n + (k + 1)) s13 A13 n13 c13 ∧ NI X ((10 ^ k : Nat) : Int) (k + 2) s8 A8 n8 c8 ∧ NI X 10 2 s10 A10 n10 c10) ?_ ?_
      · have q1 := fin_dual (s := s13) (A := A13) (n := n13) (c := c13) b64
        exact ⟨q1.2.2.1 _ (EXT.trans E4) (by omega), q1.2.2.2 _ _ _ (by omega) (bzr.ext E4), q1.1, q1.2.2.2 _ _ _ (Ne.symm hne68) (b8r.ext E4), q1.2.2.2 _ _ _ (Ne.symm hne610) (b10r.ext E4), q1.2.1 _ _ _ _ _ _ (k3.tight' Hlim.out), q1.2.1 _ _ _ _ _ _ (h8r.ext E4), q1.2.1 _ _ _ _ _ _ (h10r.ext E4)⟩
      clear bzr b6r b8r b10r h6r h8r h10r EXT k1 k2 k3 b64 y0 y1 f0 f1
      rintro X ⟨EXT, bzr, b6r, b8r, b10r, h6r, h8r, h10r⟩
      have x0 := b8r.cell 0 (.bool s8) rfl
      have x1 := b8r.cell 1 (.slice A8 n8 c8) rfl
      have y0 := b10r.cell 0 (.bool s10) rfl
      have y1 := b10r.cell 1 (.slice A10 n10 c10) rfl
      go_wp2_with fail
      refine (q_Mul h8r h10r (by omega) (by omega)).mono ?_
      rintro e wm ⟨s14, A14, n14, c14, rfl, k4, hx4⟩
      have e10 : ((10 ^ k : Nat) : Int) * 10 = ((10 ^ (k + 1) : Nat) : Int) := by rw [Nat.pow_succ]; omega
      rw [e10] at k4
      replace k4 := k4.tight' Hlim2.out
      clear x0 x1 y0 y1 e10
      replace bzr := bzr.ext hx4
      replace b6r := b6r.ext hx4
      replace b8r := b8r.ext hx4
      replace b10r := b10r.ext hx4
      replace h6r := h6r.ext hx4
      replace h10r := h10r.ext hx4
      replace EXT := EXT.trans hx4
      have z0 := b8r.cell 0 _ rfl
      have z1 := b8r.cell 1 _ rfl
      have f0 := b8r.frozen 0
      have f1 := b8r.frozen 1
      have HQ := Lib.hid (fin_dual (s := s14) (A := A14) (n := n14) (c := c14) b8r)
      go_wp2_with fail
      go_roundw
      case rel => exact ⟨k + 1, s13, A13, n13, c13, s14, A14, n14, c14, by omega, by go_num, HQ.out.2.2.2 _ _ _ (by omega) bzr, HQ.out.2.2.2 _ _ _ hne68 b6r, HQ.out.1, HQ.out.2.2.2 _ _ _ (Ne.symm hne810) b10r, HQ.out.2.1 _ _ _ _ _ _ h6r, HQ.out.2.1 _ _ _ _ _ _ k4, HQ.out.2.1 _ _ _ _ _ _ h10r, HQ.out.2.2.1 _ EXT (by omega)⟩
      case measure => simp [intOf]; omega
    · obtain rfl : k = m := by omega
      have hl1 : ¬ (k : Int) + 1 < (rf.size : Int) := by omega
      have t77 : decide ((k : Int) + 1 < (rf.size : Int)) = false := decide_eq_false hl1
      have e1 : b.take k = b := List.take_of_length_le (by rw [HM.out]; exact Nat.le_refl _)
      rw [e1] at h6r
      have h6 := h6r.le (L' := 200) (by omega)
      have h8 := h8r.le (L' := 202) (by omega)
      have bz := bzr
      have b6 := b6r
      have b8 := b8r
      have extW := EXT
      clear h6r h8r bzr b6r b8r EXT e1 h10r b10r
      have HY := Lib.hid (show ((10 ^ k : Nat) : Int) ≠ 0 by have := Nat.pow_pos (n := k) (show 0 < 10 by decide); omega)
      have hz0 : ((n6 : Int) == 0) = false := by rw [beq_eq_false_iff_ne]; intro h0; exact HZ.out (h6.zero.1 (by omega))
      have b60 := b6.cell 0 (.bool s6) rfl
      have b61 := b6.cell 1 (.slice A6 n6 c6) rfl
      go_wp2_with fail
      refine (q_Neg h6 (by omega)).mono ?_
      rintro e wn ⟨s9, A9, n9, c9, rfl, h9, hxn⟩
      replace bz := bz.ext hxn
      replace b6 := b6.ext hxn
      replace b8 := b8.ext hxn
      replace h8 := h8.ext hxn
      replace extW := extW.trans hxn
      clear b60 b61 h6 hxn hz0
      have z0 := b6.cell 0 _ rfl
      have z1 := b6.cell 1 _ rfl
      have f0 := b6.frozen 0
      have f1 := b6.frozen 1
      go_upto_region 29 with (fail)
      refine at_world (fun Y => Ext w Y ∧ Box Y w.heap.size 27 #[Value.bool false, Value.slice none 0 0, Value.bool false, Value.slice none 0 0] ∧ Box Y g6 24 #[.bool s9, .slice A9 n9 c9] ∧ Box Y g8 24 #[.bool s8, .slice A8 n8 c8] ∧ NI Y (-((dv (a ++ b) : Int))) 200 s9 A9 n9 c9 ∧ NI Y (((10 ^ k : Nat) : Int)) 202 s8 A8 n8 c8) ?_ ?_
      · have q1 := fin_dual (s := s9) (A := A9) (n := n9) (c := c9) b6
        exact ⟨q1.2.2.1 _ extW (by omega), q1.2.2.2 _ _ _ (by omega) bz, q1.1, q1.2.2.2 _ _ _ (Ne.symm hne68) b8, q1.2.1 _ _ _ _ _ _ h9, q1.2.1 _ _ _ _ _ _ h8⟩
      clear extW bz b6 b8 h8 h9 z0 z1 f0 f1
      rintro Y ⟨extW, bz, b6, b8, h6, h8⟩
      have b60 := b6.cell 0 (.bool s9) rfl
      have b61 := b6.cell 1 (.slice A9 n9 c9) rfl
      have b80 := b8.cell 0 (.bool s8) rfl
      have b81 := b8.cell 1 (.slice A8 n8 c8) rfl
      go_wp2_with fail
      refine (q_Make_nz h6 h8 (by omega) (by omega) HY.out).mono ?_
      rintro e wm ⟨s7, A7, n7, c7, t7, B7, m7, d7, rfl, hr, hE⟩
      replace hr := hr.le (L' := 1000) (by omega)
      rw [← HM.out] at hr
      clear b60 b61 b80 b81
      have z0 := (bz.ext hE).cell 0 _ rfl
      have z1 := (bz.ext hE).cell 1 _ rfl
      have z2 := (bz.ext hE).cell 2 _ rfl
      have z3 := (bz.ext hE).cell 3 _ rfl
      have f0 := (bz.ext hE).frozen 0
      have f1 := (bz.ext hE).frozen 1
      have f2 := (bz.ext hE).frozen 2
      have f3 := (bz.ext hE).frozen 3
      go_wp2_with fail
      obtain ⟨b1, b2, b3, b4⟩ := fin_quad (s := s7) (A := A7) (n := n7) (c := c7) (t := t7) (B := B7) (m := m7) (d := d7) (bz.ext hE)
      have r0 := b1.cell 0 (.bool s7) rfl
      have r1 := b1.cell 1 (.slice A7 n7 c7) rfl
      have r2 := b1.cell 2 (.bool t7) rfl
      have r3 := b1.cell 3 (.slice B7 m7 d7) rfl
      unfold set4 at r0 r1 r2 r3
      refine bodyPost_ret (v := .tuple #[.agg #[.bool s7, .slice A7 n7 c7, .bool t7, .slice B7 m7 d7], .int .i64 0]) (by simp [results, Tryz.results50, go_sem, r0, r1, r2, r3]) rfl ⟨s7, A7, n7, c7, t7, B7, m7, d7, rfl, ⟨b2 _ _ _ _ _ _ hr.num, b2 _ _ _ _ _ _ hr.den⟩, b3 _ (extW.trans hE) (by omega)⟩
set_option maxHeartbeats 16000000 in
set_option maxRecDepth 100000 in
theorem qp_dec_neg0 (s u : ByteArray) (n : Nat) (a r : List UInt8) (hs : s.size ≤ 200) (h45 : s.data.toList = 45 :: u.data.toList) (hl : u.data.toList = a ++ r) (hn : a.length = n) (ha : Digs a) (hr : r = [] ∨ ∃ c b, r = c :: b ∧ ¬ Dig c) (hc : Canon a) (b : List UInt8) (h0 : r = 46 :: b) (hb : Digs b) (hbn : b ≠ []) (hz0 : dv (a ++ b) = 0) :
    Calls Tryz.prog 50 #[.string s] w (RetZE 2 w) := by
  have HZ := Lib.hid (show (dv (a ++ b) : Int) = 0 by omega)
  clear hz0
  obtain ⟨g0, g1, g2⟩ := get0 h45
  clear g2
  obtain ⟨c1, c2, c3⟩ := cut_neg (w := w) (s := s) (by omega) h45
  clear c3
  have hu : s.extract 1 s.size = u := bytes_ext c1
  have hne : s.toList.isEmpty = false := by rw [Lib.toList_data, h45]; rfl
  have t9 : ((s[0].toNat : Int) == 45) = true := by rw [g1]; rfl
  have hz : u.size ≤ 200 := by rw [← hu, c2]; have := Lib.size_eq s; rw [h45, List.length_cons] at this; have h2 := Lib.size_eq u; omega
  have HU := Lib.hid hu
  clear g1 c1 c2 hu h45
  have hsz := Lib.size_eq u
  rw [hl, List.length_append, hn] at hsz
  have hsz1 : u.size ≤ n + r.length := by omega
  have hsz2 : n + r.length ≤ u.size := by omega
  clear hsz
  have HG := Lib.hid (fun w => q_digits u w a r (by omega) hl ha hr)
  have HL := Lib.hid hl
  have HN := Lib.hid hn
  have HA := Lib.hid ha
  clear hl ha hr hn
  go_enter Tryz.func50, Tryz.ntmps50
  go_upto_region 1 with (fail)
  obtain ⟨W, hW, extW, bz, hzz⟩ := box1 w 27 #[Value.bool false, Value.slice none 0 0, Value.bool false, Value.slice none 0 0]
  rw [← hW]
  clear hW
  have t1 : decide ((65536 : Int) < (s.size : Int)) = false := decide_eq_false (by omega)
  go_wp2_with fail
  rw [HU.out]
  refine (HG.out _).mono ?_
  rintro e w0 ⟨rfl, hw0⟩
  subst hw0
  rw [HN.out]
  have HCA := Lib.hid hc
  have hn1 : 1 ≤ n := by
    rw [← HN.out]
    rcases hc with h | ⟨c, t, h, _⟩ <;> rw [h] <;> simp
  have hn0 : ((n : Int) == 0) = false := by rw [beq_eq_false_iff_ne]; omega
  have H48 := Lib.hid (fun (h1 : 1 < n) => show ((u[0]'(by omega)).toNat : Int) ≠ 48 from by
    rcases HCA.out with h | ⟨c, t, h, h2⟩
    · have := HN.out
      rw [h] at this
      simp at this
      omega
    · have hlc : u.data.toList = c :: (t ++ r) := by rw [HL.out, h]; rfl
      obtain ⟨_, g1, _⟩ := get0 hlc
      rw [g1]
      intro h3
      exact h2 (u8_48 (by omega)))
  clear hc
  go_upto_region 7 with (fail)
  go_cut [38] (fun p V => p = .bool false ∧ W = V)
  case first =>
    by_cases h1 : 1 < n
    · have h2 := H48.out h1
      have t2 : decide ((1 : Int) < (n : Int)) = true := decide_eq_true (by omega)
      have t3 : ((u[0].toNat : Int) == 48) = false := beq_eq_false_iff_ne.2 h2
      have g3 : 0 < u.size := by omega
      clear h2
      go_wp2_with fail
      go_meet
      exact ⟨rfl, rfl⟩
    · have t2 : decide ((1 : Int) < (n : Int)) = false := decide_eq_false (by omega)
      go_wp2_with fail
      go_meet
      exact ⟨rfl, rfl⟩
  case rest =>
  obtain ⟨rfl, rfl⟩ := hcut
  have c1 : (0 : Int) ≤ (n : Int) := by omega
  have c2 : (n : Int) ≤ (u.size : Int) := by omega
  have c3 : n ≤ u.size := by omega
  have hbf1 : (u.extract 0 n).data.toList = a := by rw [extract_to _ _ c3, HL.out, ← HN.out, List.take_left]
  have hrf1 : (u.extract n u.size).data.toList = r := by rw [extract_from, HL.out, ← HN.out, List.drop_left]
  obtain ⟨bf, hbf⟩ : ∃ bf, u.extract 0 n = bf := ⟨_, rfl⟩
  obtain ⟨rf, hrf⟩ : ∃ rf, u.extract n u.size = rf := ⟨_, rfl⟩
  rw [hbf] at hbf1
  rw [hrf] at hrf1
  have hbz : bf.size ≤ n := by rw [Lib.size_eq, hbf1, HN.out]; exact Nat.le_refl _
  have hrz := Lib.size_eq rf
  rw [hrf1] at hrz
  have hrz1 : rf.size ≤ r.length := by omega
  have hrz2 : r.length ≤ rf.size := by omega
  clear hrz
  have HBF := Lib.hid hbf
  have HRF := Lib.hid hrf
  have HB := Lib.hid hbf1
  have HR := Lib.hid hrf1
  clear hbf hrf hbf1 hrf1
  go_wp2_with fail
  rw [HBF.out]
  refine (q_ParseI bf (by omega) (by rw [HB.out]; exact HA.out) (by rw [HB.out]; exact HCA.out) (L := n) (by omega)).mono ?_
  rintro e wa ⟨s6, A6, n6, c6, rfl, h6, hxa⟩
  rw [HB.out] at h6
  go_upto_region 10 with (fail)
  refine at_world (fun V => Ext W V ∧ Box V wa.heap.size 24 #[.bool s6, .slice A6 n6 c6] ∧ NI V (dv a : Int) n s6 A6 n6 c6) ⟨hxa.alloc _, Box.new wa _ _, h6.ext ((Ext.refl wa).alloc _)⟩ ?_
  have hg6 : w.heap.size + 1 ≤ wa.heap.size := by have := hxa.size; omega
  generalize wa.heap.size = g6 at *
  clear hxa h6
  rintro V ⟨EV, b6, h6⟩
  replace bz := bz.ext EV
  replace extW := extW.trans EV
  clear EV
  go_wp2_with fail
  refine (q_FromInt 1 (by omega) (by omega)).mono ?_
  rintro e wb ⟨s8, A8, n8, c8, rfl, h8, hxb⟩
  go_upto_region 11 with (fail)
  refine at_world (fun U => Ext V U ∧ Box U wb.heap.size 24 #[.bool s8, .slice A8 n8 c8] ∧ NI U 1 2 s8 A8 n8 c8) ⟨hxb.alloc _, Box.new wb _ _, h8.ext ((Ext.refl wb).alloc _)⟩ ?_
  have hsz6 := hxb.size
  generalize wb.heap.size = g8 at *
  clear hxb h8
  rintro U ⟨EU, b8, h8⟩
  have hlt6 := b6.lt
  have hne68 : g6 ≠ g8 := by omega
  replace bz := bz.ext EU
  replace b6 := b6.ext EU
  replace h6 := h6.ext EU
  replace extW := extW.trans EU
  clear EU
  go_upto_region 13 with (fail)
  rw [HRF.out]
  have hrl : rf.data.toList = 46 :: b := by rw [HR.out, h0]
  have hre : rf.toList.isEmpty = false := by rw [Lib.toList_data, hrl]; rfl
  obtain ⟨g9, g91, g92⟩ := get0 hrl
  have t46 : ((rf[0].toNat : Int) == 46) = true := by rw [g91]; rfl
  have hb1 : 1 ≤ b.length := List.length_pos_iff.2 hbn
  have t7 : decide ((1 : Int) < (rf.size : Int)) = true := decide_eq_true (by omega)
  obtain ⟨m, hm⟩ : ∃ m, b.length = m := ⟨_, rfl⟩
  have t8 : ((m : Int) == (rf.size : Int) - 1) = true := by rw [beq_iff_eq]; omega
  have hsf1 : (rf.extract 1 rf.size).data.toList = b := by rw [extract_from, hrl]; rfl
  obtain ⟨sf, hsf⟩ : ∃ sf, rf.extract 1 rf.size = sf := ⟨_, rfl⟩
  rw [hsf] at hsf1
  have hsz := Lib.size_eq sf
  rw [hsf1, hm] at hsz
  have HG2 := Lib.hid (fun w => q_digits sf w b [] (by omega) (by rw [hsf1, List.append_nil]) hb (.inl rfl))
  have HM := Lib.hid hm
  have HSF := Lib.hid hsf
  have HRL := Lib.hid hrl
  have HBD := Lib.hid hb
  have hrs1 : rf.size ≤ m + 1 := by omega
  have hrs2 : m + 1 ≤ rf.size := by omega
  have hm1 : 1 ≤ m := by omega
  clear g91 g92 hb1 hm hsf hsf1 hsz hrl hb hbn
  go_wp2_with fail
  rw [HSF.out]
  refine (HG2.out _).mono ?_
  rintro e w14 ⟨rfl, hw14⟩
  subst hw14
  rw [HM.out]
  go_wp2_with fail
  refine (q_FromInt 10 (by omega) (by omega)).mono ?_
  rintro e wt ⟨s10, A10, n10, c10, rfl, h10, hxt⟩
  go_upto_region 16 with (fail)
  refine at_world (fun U2 => Ext U U2 ∧ Box U2 wt.heap.size 24 #[.bool s10, .slice A10 n10 c10] ∧ NI U2 10 2 s10 A10 n10 c10) ⟨hxt.alloc _, Box.new wt _ _, h10.ext ((Ext.refl wt).alloc _)⟩ ?_
  have hszt := hxt.size
  generalize wt.heap.size = g10 at *
  clear hxt h10
  rintro U2 ⟨EU2, b10, h10⟩
  have hlt8 := b8.lt
  have hne610 : g6 ≠ g10 := by have := b6.lt; omega
  have hne810 : g8 ≠ g10 := by omega
  replace bz := bz.ext EU2
  replace b6 := b6.ext EU2
  replace b8 := b8.ext EU2
  replace h6 := h6.ext EU2
  replace h8 := h8.ext EU2
  replace extW := extW.trans EU2
  clear EU2 hszt hlt8
  have EW := extW
  go_wp2_with fail
  go_loopw [11] (fun i wr => ∃ (k : Nat) (s6 : Bool) (A6 : Option Addr) (n6 c6 : Nat) (s8 : Bool) (A8 : Option Addr) (n8 c8 : Nat), k ≤ m ∧ i = .int .i64 ((k : Int) + 1) ∧ Box wr w.heap.size 27 #[Value.bool false, Value.slice none 0 0, Value.bool false, Value.slice none 0 0] ∧ Box wr g6 24 #[.bool s6, .slice A6 n6 c6] ∧ Box wr g8 24 #[.bool s8, .slice A8 n8 c8] ∧ Box wr g10 24 #[.bool s10, .slice A10 n10 c10] ∧ NI wr (dv (a ++ b.take k) : Int) (n + k) s6 A6 n6 c6 ∧ NI wr ((10 ^ k : Nat) : Int) (k + 2) s8 A8 n8 c8 ∧ NI wr 10 2 s10 A10 n10 c10 ∧ Ext w wr) (fun i _ => m + 1 - (intOf i).toNat)
  case atStart => exact ⟨0, s6, A6, n6, c6, s8, A8, n8, c8, by omega, rfl, bz, b6, b8, b10, by rw [List.take_zero, List.append_nil]; exact h6, h8, h10, EW⟩
  case round =>
    clear bz b6 b8 b10 h6 h8 h10 extW EW
    obtain ⟨k, s6, A6, n6, c6, s8, A8, n8, c8, hk, rfl, bzr, b6r, b8r, b10r, h6r, h8r, h10r, EXT⟩ := hrel
    by_cases hlt : k < m
    · have hkr : k + 1 < rf.size := by omega
      have hdk : Dig rf[k + 1] := by
        have e : rf[k + 1] = rf.data.toList[k + 1]'(by rw [← Lib.size_eq]; exact hkr) := rfl
        rw [e]
        simp only [HRL.out, List.getElem_cons_succ]
        exact HBD.out _ (List.getElem_mem _)
      have hi1 : (48 : Int) ≤ (rf[k + 1].toNat : Int) := by have := hdk.1; omega
      have hi2 : (rf[k + 1].toNat : Int) ≤ 57 := by have := hdk.2; omega
      have hstep : dv (a ++ b.take (k + 1)) = 10 * dv (a ++ b.take k) + (rf[k + 1].toNat - 48) := by
        have hkb : k < b.length := by rw [HM.out]; exact hlt
        rw [List.take_succ_eq_append_getElem hkb, ← List.append_assoc, dv_snoc]
        have e : rf[k + 1] = rf.data.toList[k + 1]'(by rw [← Lib.size_eq]; exact hkr) := rfl
        rw [e]
        simp only [HRL.out, List.getElem_cons_succ]
      have Hstep := Lib.hid (show (dv (a ++ b.take k) : Int) * 10 + ((rf[k + 1].toNat : Int) - 48) = (dv (a ++ b.take (k + 1)) : Int) by omega)
      have hdd : Digs (a ++ b.take (k + 1)) := fun c hc => by
        rcases List.mem_append.1 hc with h | h
        · exact HA.out c h
        · exact HBD.out c (List.mem_of_mem_take h)
      have hlen : (a ++ b.take (k + 1)).length = n + (k + 1) := by
        rw [List.length_append, HN.out, List.length_take, HM.out]; omega
      have Hlim := Lib.hid (show (dv (a ++ b.take (k + 1)) : Int).natAbs < 4294967296 ^ (n + (k + 1)) by
        rw [Int.natAbs_natCast, ← hlen]
        exact Nat.lt_of_lt_of_le (dv_lt hdd) (pow10_le _))
      have Hlim2 := Lib.hid (show (((10 ^ (k + 1) : Nat) : Int)).natAbs < 4294967296 ^ (k + 1 + 2) by
        rw [Int.natAbs_natCast]
        exact Nat.lt_of_le_of_lt (pow10_le _) (Nat.pow_lt_pow_right (by omega) (by omega)))
      have hl1 : (k : Int) + 1 < (rf.size : Int) := by omega
      have hl0 : (0 : Int) ≤ (k : Int) + 1 := by omega
      have t77 : decide ((k : Int) + 1 < (rf.size : Int)) = true := decide_eq_true hl1
      clear hdk hstep hdd hlen
      go_upto_region 19 with (fail)
      clear t77
      refine wpL.start 10 (by kernel_rfl) (fun _ _ _ _ _ => ⟨fun h => h, fun h => h⟩) (fun hQ ES => ?_)
      refine wpL.take (i := 0) (d := some 80) (v := ?v0_68) rfl rfl (by kernel_rfl) (by kernel_rfl) (by kernel_rfl) (by kernel_rfl) hQ (Or.inl ⟨by rfl, ?y0_68⟩) ES ?r0_68
      case y0_68 =>
        intro w' hSw
        have k0 := (b6r.ext hSw).cell 0 _ rfl
        have j0 := (b10r.ext hSw).cell 0 _ rfl
        have k1 := (b6r.ext hSw).cell 1 _ rfl
        have j1 := (b10r.ext hSw).cell 1 _ rfl
        go_simp
        try with_reducible rfl
      try simp only [Act.put]
      try simp only [List.setIfInBounds_toArray]
      try simp only [List.set_cons_succ]
      try simp only [List.set_cons_zero]
      refine wpL.take (i := 1) (d := some 81) (v := ?v1_69) rfl rfl (by kernel_rfl) (by kernel_rfl) (by kernel_rfl) (by kernel_rfl) hQ (Or.inl ⟨by rfl, ?y1_69⟩) ES ?r1_69
      case y1_69 =>
        intro w' hSw
        have k0 := (b6r.ext hSw).cell 0 _ rfl
        have j0 := (b10r.ext hSw).cell 0 _ rfl
        have k1 := (b6r.ext hSw).cell 1 _ rfl
        have j1 := (b10r.ext hSw).cell 1 _ rfl
        go_simp
        try with_reducible rfl
      try simp only [Act.put]
      try simp only [List.setIfInBounds_toArray]
      try simp only [List.set_cons_succ]
      try simp only [List.set_cons_zero]
      refine wpL.take (i := 3) (d := some 83) (v := ?v3_70) rfl rfl (by kernel_rfl) (by kernel_rfl) (by kernel_rfl) (by kernel_rfl) hQ (Or.inl ⟨by rfl, ?y3_70⟩) ES ?r3_70
      case y3_70 =>
        intro w' hSw
        have k0 := (b6r.ext hSw).cell 0 _ rfl
        have j0 := (b10r.ext hSw).cell 0 _ rfl
        have k1 := (b6r.ext hSw).cell 1 _ rfl
        have j1 := (b10r.ext hSw).cell 1 _ rfl
        go_simp
        try with_reducible rfl
      try simp only [Act.put]
      try simp only [List.setIfInBounds_toArray]
      try simp only [List.set_cons_succ]
      try simp only [List.set_cons_zero]
      refine wpL.take (i := 4) (d := some 84) (v := ?v4_71) rfl rfl (by kernel_rfl) (by kernel_rfl) (by kernel_rfl) (by kernel_rfl) hQ (Or.inl ⟨by rfl, ?y4_71⟩) ES ?r4_71
      case y4_71 =>
        intro w' hSw
        have k0 := (b6r.ext hSw).cell 0 _ rfl
        have j0 := (b10r.ext hSw).cell 0 _ rfl
        have k1 := (b6r.ext hSw).cell 1 _ rfl
        have j1 := (b10r.ext hSw).cell 1 _ rfl
        go_simp
        try with_reducible rfl
      try simp only [Act.put]
      try simp only [List.setIfInBounds_toArray]
      try simp only [List.set_cons_succ]
      try simp only [List.set_cons_zero]
      refine wpL.take (i := 5) (d := some 85) (v := ?v5_72) rfl rfl (by kernel_rfl) (by kernel_rfl) (by kernel_rfl) (by kernel_rfl) hQ (Or.inl ⟨by rfl, ?y5_72⟩) ES ?r5_72
      case y5_72 =>
        intro w' hSw
        have k0 := (b6r.ext hSw).cell 0 _ rfl
        have j0 := (b10r.ext hSw).cell 0 _ rfl
        have k1 := (b6r.ext hSw).cell 1 _ rfl
        have j1 := (b10r.ext hSw).cell 1 _ rfl
        go_simp
        try with_reducible rfl
      try simp only [Act.put]
      try simp only [List.setIfInBounds_toArray]
      try simp only [List.set_cons_succ]
      try simp only [List.set_cons_zero]
      refine wpL.take (i := 6) (d := some 86) (v := ?v6_73) rfl rfl (by kernel_rfl) (by kernel_rfl) (by kernel_rfl) (by kernel_rfl) hQ (Or.inl ⟨by rfl, ?y6_73⟩) ES ?r6_73
      case y6_73 =>
        intro w' hSw
        have k0 := (b6r.ext hSw).cell 0 _ rfl
        have j0 := (b10r.ext hSw).cell 0 _ rfl
        have k1 := (b6r.ext hSw).cell 1 _ rfl
        have j1 := (b10r.ext hSw).cell 1 _ rfl
        go_simp
        try with_reducible rfl
      try simp only [Act.put]
      try simp only [List.setIfInBounds_toArray]
      try simp only [List.set_cons_succ]
      try simp only [List.set_cons_zero]
      refine wpL.take (i := 7) (d := some 87) (v := ?v7_74) rfl rfl (by kernel_rfl) (by kernel_rfl) (by kernel_rfl) (by kernel_rfl) hQ (Or.inl ⟨by rfl, ?y7_74⟩) ES ?r7_74
      case y7_74 =>
        intro w' hSw
        have k0 := (b6r.ext hSw).cell 0 _ rfl
        have j0 := (b10r.ext hSw).cell 0 _ rfl
        have k1 := (b6r.ext hSw).cell 1 _ rfl
        have j1 := (b10r.ext hSw).cell 1 _ rfl
        go_simp
        try with_reducible rfl
      try simp only [Act.put]
      try simp only [List.setIfInBounds_toArray]
      try simp only [List.set_cons_succ]
      try simp only [List.set_cons_zero]
      refine wpL.call (i := 2) rfl (by kernel_rfl) (fun K hK => ?_)
      go_simp
      (go_at_call 74; refine (q_Mul (h6r.ext ES) (h10r.ext ES) (by omega) (by omega)).mono ?_; rintro e wk1 ⟨s11, A11, n11, c11, rfl, k1, hx1⟩)
      refine hK.out _ _ (ES.trans hx1) ?_
      clear hK K
      try simp only [Act.put]
      try simp only [List.setIfInBounds_toArray]
      try simp only [List.set_cons_succ]
      try simp only [List.set_cons_zero]
      have ET := ES.trans hx1
      refine wpL.call (i := 8) rfl (by kernel_rfl) (fun K hK => ?_)
      go_simp
      rw [IntWalk.u8_in _ (by omega), IntWalk.i64_in _ (by omega)]
      (go_at_call 44; refine (q_FromInt ((rf[k + 1].toNat : Int) - 48) (by omega) (by omega)).mono ?_; rintro e wk2 ⟨s12, A12, n12, c12, rfl, k2, hx2⟩)
      refine hK.out _ _ (ET.trans hx2) ?_
      clear hK K
      try simp only [Act.put]
      try simp only [List.setIfInBounds_toArray]
      try simp only [List.set_cons_succ]
      try simp only [List.set_cons_zero]
      have ET2 := ET.trans hx2
      refine wpL.call (i := 9) rfl (by kernel_rfl) (fun K hK => ?_)
      go_simp
      (go_at_call 73; refine (q_Add (k1.ext hx2) k2 (by omega) (by omega)).mono ?_; rintro e wk3 ⟨s13, A13, n13, c13, rfl, k3, hx3⟩)
      refine hK.out _ _ (ET2.trans hx3) ?_
      clear hK K
      try simp only [Act.put]
      try simp only [List.setIfInBounds_toArray]
      try simp only [List.set_cons_succ]
      try simp only [List.set_cons_zero]
      have E4 := ET2.trans hx3
      have b64 := b6r.ext E4
      have y0 := b64.cell 0 _ rfl
      have y1 := b64.cell 1 _ rfl
      have f0 := b64.frozen 0
      have f1 := b64.frozen 1
      rw [Hstep.out] at k3
      refine wpL.tail (i := 10) rfl (by kernel_rfl) (by kernel_rfl) (fun K hK => ?_)
      go_simp
      refine hK.out _ _ ?_
      clear hK K
      try simp only [Act.put]
      try simp only [List.setIfInBounds_toArray]
      try simp only [List.set_cons_succ]
      try simp only [List.set_cons_zero]
      refine wpL.done (by kernel_rfl) ?_ _
      clear hQ
      refine at_exit (fun X => Ext w X ∧ Box X w.heap.size 27 #[Value.bool false, Value.slice none 0 0, Value.bool false, Value.slice none 0 0] ∧ Box X g6 24 #[.bool s13, .slice A13 n13 c13] ∧ Box X g8 24 #[.bool s8, .slice A8 n8 c8] ∧ Box X g10 24 #[.bool s10, .slice A10 n10 c10] ∧ NI X (dv (a ++ b.take (k + 1)) : Int) (n + (k + 1)) s13 A13 n13 c13 ∧ NI X ((10 ^ k : Nat) : Int) (k + 2) s8 A8 n8 c8 ∧ NI X 10 2 s10 A10 n10 c10) ?_ ?_
      · have q1 := fin_dual (s := s13) (A := A13) (n := n13) (c := c13) b64
        exact ⟨q1.2.2.1 _ (EXT.trans E4) (by omega), q1.2.2.2 _ _ _ (by omega) (bzr.ext E4), q1.1, q1.2.2.2 _ _ _ (Ne.symm hne68) (b8r.ext E4), q1.2.2.2 _ _ _ (Ne.symm hne610) (b10r.ext E4), q1.2.1 _ _ _ _ _ _ (k3.tight' Hlim.out), q1.2.1 _ _ _ _ _ _ (h8r.ext E4), q1.2.1 _ _ _ _ _ _ (h10r.ext E4)⟩
      clear bzr b6r b8r b10r h6r h8r h10r EXT k1 k2 k3 b64 y0 y1 f0 f1
      rintro X ⟨EXT, bzr, b6r, b8r, b10r, h6r, h8r, h10r⟩
      have x0 := b8r.cell 0 (.bool s8) rfl
      have x1 := b8r.cell 1 (.slice A8 n8 c8) rfl
      have y0 := b10r.cell 0 (.bool s10) rfl
      have y1 := b10r.cell 1 (.slice A10 n10 c10) rfl
      go_wp2_with fail
      refine (q_Mul h8r h10r (by omega) (by omega)).mono ?_
      rintro e wm ⟨s14, A14, n14, c14, rfl, k4, hx4⟩
      have e10 : ((10 ^ k : Nat) : Int) * 10 = ((10 ^ (k + 1) : Nat) : Int) := by rw [Nat.pow_succ]; omega
      rw [e10] at k4
      replace k4 := k4.tight' Hlim2.out
      clear x0 x1 y0 y1 e10
      replace bzr := bzr.ext hx4
      replace b6r := b6r.ext hx4
      replace b8r := b8r.ext hx4
      replace b10r := b10r.ext hx4
      replace h6r := h6r.ext hx4
      replace h10r := h10r.ext hx4
      replace EXT := EXT.trans hx4
      have z0 := b8r.cell 0 _ rfl
      have z1 := b8r.cell 1 _ rfl
      have f0 := b8r.frozen 0
      have f1 := b8r.frozen 1
      have HQ := Lib.hid (fin_dual (s := s14) (A := A14) (n := n14) (c := c14) b8r)
      go_wp2_with fail
      go_roundw
      case rel => exact ⟨k + 1, s13, A13, n13, c13, s14, A14, n14, c14, by omega, by go_num, HQ.out.2.2.2 _ _ _ (by omega) bzr, HQ.out.2.2.2 _ _ _ hne68 b6r, HQ.out.1, HQ.out.2.2.2 _ _ _ (Ne.symm hne810) b10r, HQ.out.2.1 _ _ _ _ _ _ h6r, HQ.out.2.1 _ _ _ _ _ _ k4, HQ.out.2.1 _ _ _ _ _ _ h10r, HQ.out.2.2.1 _ EXT (by omega)⟩
      case measure => simp [intOf]; omega
    · obtain rfl : k = m := by omega
      have hl1 : ¬ (k : Int) + 1 < (rf.size : Int) := by omega
      have t77 : decide ((k : Int) + 1 < (rf.size : Int)) = false := decide_eq_false hl1
      have e1 : b.take k = b := List.take_of_length_le (by rw [HM.out]; exact Nat.le_refl _)
      rw [e1] at h6r
      have h6 := h6r.le (L' := 200) (by omega)
      have h8 := h8r.le (L' := 202) (by omega)
      have bz := bzr
      have b6 := b6r
      have b8 := b8r
      have extW := EXT
      clear h6r h8r bzr b6r b8r EXT e1 h10r b10r
      have HY := Lib.hid (show ((10 ^ k : Nat) : Int) ≠ 0 by have := Nat.pow_pos (n := k) (show 0 < 10 by decide); omega)
      have hz0 : ((n6 : Int) == 0) = true := by rw [beq_iff_eq]; have := h6.zero.2 HZ.out; omega
      have b60 := b6.cell 0 (.bool s6) rfl
      have b61 := b6.cell 1 (.slice A6 n6 c6) rfl
      have hE := Ext.refl wr
      have z0 := (bz.ext hE).cell 0 _ rfl
      have z1 := (bz.ext hE).cell 1 _ rfl
      have z2 := (bz.ext hE).cell 2 _ rfl
      have z3 := (bz.ext hE).cell 3 _ rfl
      have f0 := (bz.ext hE).frozen 0
      have f1 := (bz.ext hE).frozen 1
      have f2 := (bz.ext hE).frozen 2
      have f3 := (bz.ext hE).frozen 3
      go_wp2_with fail
      obtain ⟨b1, b2, b3, b4⟩ := fin_quad (s := false) (A := none) (n := 0) (c := 0) (t := false) (B := none) (m := 0) (d := 0) (bz.ext hE)
      have r0 := b1.cell 0 (.bool false) rfl
      have r1 := b1.cell 1 (.slice none 0 0) rfl
      have r2 := b1.cell 2 (.bool false) rfl
      have r3 := b1.cell 3 (.slice none 0 0) rfl
      unfold set4 at r0 r1 r2 r3
      refine bodyPost_ret (v := .tuple #[.agg #[.bool false, .slice none 0 0, .bool false, .slice none 0 0], .int .i64 2]) (by simp [results, Tryz.results50, go_sem, r0, r1, r2, r3]) rfl ⟨rfl, b3 _ (extW.trans hE) (by omega)⟩
end
end Go.Proofs.YtiioodgpkdbndaaGreatDoor
