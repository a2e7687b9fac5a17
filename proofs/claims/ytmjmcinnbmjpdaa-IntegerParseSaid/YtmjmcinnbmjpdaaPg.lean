/- Walks: the reference's Parse, every text. -/
import Derived.Test.YtmjmcinnbmjpdaaPd
import Derived.Test.YtmjmcinnbmjpdaaPf
import Derived.Test.YtmjmcinnbmjpdaaPl
namespace Go.Proofs.Ytmjmcinnbmjpdaa
open Go.RowKit
attribute [local go_sem ↓] Go.wp_at_zero Go.wp_at_succ
theorem ps_pos {l : List UInt8} (hp : ∀ t, l ≠ 45 :: t) (hd : Digs l) (z : Int) (hz : z = (dv l : Int)) : (Lib.itoa z = l → PS l z) ∧ (Lib.itoa z ≠ l → ∀ y, ¬ PS l y) := by
  subst hz
  have e : Lib.itoa (dv l : Int) = Lib.decDigits (dv l) := by unfold Lib.itoa; rw [if_neg (by omega)]; rfl
  refine ⟨fun h => .inr ⟨hd, (dec_iff hd).1 (e.symm.trans h), rfl⟩, fun h y hy => ?_⟩
  rcases hy with ⟨t, ht, _⟩ | ⟨_, hc, _⟩
  · exact hp t ht
  · exact h (e.trans ((dec_iff hd).2 hc))
theorem not_dig45 : ¬ Dig 45 := fun h => absurd h.1 (by decide)
theorem ps_neg {t : List UInt8} (hd : Digs t) (z : Int) (hz : z = -(dv t : Int)) : (Lib.itoa z = 45 :: t → PS (45 :: t) z) ∧ (Lib.itoa z ≠ 45 :: t → ∀ y, ¬ PS (45 :: t) y) := by
  subst hz
  by_cases h0 : dv t = 0
  · rw [h0]
    have e : Lib.itoa (-((0 : Nat) : Int)) = [48] := by rw [itoa_fd]; rfl
    rw [e]
    refine ⟨fun h => (by injection h with h _; cases h), fun _ y hy => ?_⟩
    rcases hy with ⟨t', ht, hd', hc, hn, _⟩ | ⟨h1, _⟩
    · injection ht with _ ht
      subst ht
      exact hn (dv_zero_canon hd' hc h0)
    · exact not_dig45 (h1 45 (by simp))
  · have e : Lib.itoa (-(dv t : Int)) = 45 :: Lib.decDigits (dv t) := by unfold Lib.itoa; rw [if_pos (by omega)]; congr 2; omega
    rw [e]
    refine ⟨fun h => ?_, fun h y hy => ?_⟩
    · injection h with _ h
      refine .inl ⟨t, rfl, hd, (dec_iff hd).1 h, ?_, rfl⟩
      rintro rfl
      exact h0 rfl
    · rcases hy with ⟨t', ht, _, hc, _⟩ | ⟨h1, _⟩
      · injection ht with _ ht
        subst ht
        exact h (by rw [(dec_iff hd).2 hc])
      · exact not_dig45 (h1 45 (by simp))
theorem ps_nd {l : List UInt8} (hp : ∀ t, l ≠ 45 :: t) (hd : ¬ Digs l) : ∀ y, ¬ PS l y := fun y hy => by
  rcases hy with ⟨t, ht, _⟩ | ⟨h, _⟩
  · exact hp t ht
  · exact hd h
theorem ps_ndn {t : List UInt8} (hd : ¬ Digs t) : ∀ y, ¬ PS (45 :: t) y := fun y hy => by
  rcases hy with ⟨t', ht, h, _⟩ | ⟨h, _⟩
  · injection ht with _ ht
    subst ht
    exact hd h
  · exact not_dig45 (h 45 (by simp))
/-- what Parse returns. -/
def PSOut (l : List UInt8) (len : Nat) (w : World) (e : Ending) (w' : World) : Prop := (∃ z, PS l z ∧ RetIE z len 0 w e w') ∨ ((∀ z, ¬ PS l z) ∧ RetIE 0 0 2 w e w')
section
variable {s : ByteArray} {w : World}
set_option maxRecDepth 100000 in
set_option maxHeartbeats 4000000 in
theorem rparse_p (hs : s.size ≤ 1000) (hp : ∀ t, s.data.toList ≠ 45 :: t) (h0 : 0 < s.size) (h45 : s[0].toNat ≠ 45) : Calls Try.prog 42 #[.string s] w (PSOut s.data.toList 10000 w) := by
  have HP := Lib.hid hp
  have t0 : decide ((0 : Int) < (s.size : Int)) = true := decide_eq_true (by omega)
  have t9 : ((s[0].toNat : Int) == 45) = false := by rw [beq_eq_false_iff_ne]; omega
  have T9 := Lib.hid h45
  clear hp h45
  go_enter Try.func42, Try.ntmps42
  go_upto_region 1 with (fail)
  obtain ⟨W, hW, extW, bz, hz⟩ := box1 w 24 #[.bool false, .slice none 0 0]
  rw [← hW]
  clear hW
  go_upto_region 7 with (fail)
  refine at_world (fun V => Ext w V ∧ Box V w.heap.size 24 #[.bool false, .slice none 0 0] ∧ Box V W.heap.size 24 #[.bool false, .slice none 0 0] ∧ W.heap.size < V.heap.size) ⟨extW.alloc _, bz.ext ((Ext.refl W).alloc _), Box.new W _ _, by simp⟩ ?_
  have hz5 := hz
  generalize W.heap.size = g5 at hz hz5 ⊢
  rintro V ⟨EV, bz, b5, h5⟩
  go_wp2
  go_loopw [6] (fun i wr => ∃ (k : Nat) (b : Bool) (A : Option Addr) (c : Nat) (ys : List Nat), k ≤ s.size ∧ i = .int .i64 (k : Int) ∧ Box wr w.heap.size 24 #[.bool false, .slice none 0 0] ∧ Box wr g5 24 #[.bool b, .slice A ys.length c] ∧ Rd wr A ys ∧ ys.length ≤ c ∧ c ≤ maxLen ∧ IsInt (dv (s.data.toList.take k) : Int) b ys ∧ ys.length ≤ 3 * k ∧ Ext w wr ∧ ∀ j (hj : j < s.size), j < k → Dig s[j]) (fun i _ => s.size - (intOf i).toNat)
  case atStart => exact ⟨0, false, none, 0, [], Nat.zero_le _, rfl, bz, b5, Rd.nil _ _, by simp, by unfold maxLen; omega, by rw [List.take_zero]; exact IsInt.nil false, by simp, EV, fun j _ h => absurd h (by omega)⟩
  case round =>
    obtain ⟨k, b, A, c, ys, hk, rfl, bzr, b5r, hr, hyc, hycm, hiy, hyl, EXT, hdg⟩ := hrel
    have Hdg := Lib.hid hdg
    clear hdg
    by_cases hlt : k < s.size
    · by_cases hd : Dig s[k]
      · have hd1 := hd.1
        have hd2 := hd.2
        have t1 : decide ((s[k].toNat : Int) < 48) = false := decide_eq_false (by omega)
        have t2 : decide ((57 : Int) < (s[k].toNat : Int)) = false := decide_eq_false (by omega)
        have hi1 : (48 : Int) ≤ (s[k].toNat : Int) := by omega
        have hi2 : (s[k].toNat : Int) ≤ 57 := by omega
        have x0 := b5r.cell 0 (.bool b) rfl
        have x1 := b5r.cell 1 (.slice A ys.length c) rfl
        have hyl2 : ys.length ≤ 3000 := by omega
        go_upto_region 12 with (fail)
        have hstep := dv_take s k hlt
        have Hstep := Lib.hid (show (dv (s.data.toList.take k) : Int) * 10 + ((s[k].toNat : Int) - 48) = (dv (s.data.toList.take (k + 1)) : Int) by omega)
        have Hd := Lib.hid hd
        clear hstep hd hd1 hd2
        refine wpL.start 10 (by kernel_rfl) (fun _ _ _ _ _ => ⟨fun h => h, fun h => h⟩) (fun hQ ES => ?_)
        refine wpL.take (i := 0) (d := some 40) (v := ?v0_1) rfl rfl (by kernel_rfl) (by kernel_rfl) (by kernel_rfl) (by kernel_rfl) hQ (Or.inl ⟨by rfl, ?y0_1⟩) ES ?r0_1
        case y0_1 =>
          intro w' hSw
          have k0 := (b5r.ext hSw).cell 0 _ rfl
          have k1 := (b5r.ext hSw).cell 1 _ rfl
          go_simp
          try with_reducible rfl
        try simp only [Act.put]
        try simp only [List.setIfInBounds_toArray]
        try simp only [List.set_cons_succ]
        try simp only [List.set_cons_zero]
        refine wpL.take (i := 3) (d := some 43) (v := ?v3_2) rfl rfl (by kernel_rfl) (by kernel_rfl) (by kernel_rfl) (by kernel_rfl) hQ (Or.inl ⟨by rfl, ?y3_2⟩) ES ?r3_2
        case y3_2 =>
          intro w' hSw
          go_simp
          try with_reducible rfl
        try simp only [Act.put]
        try simp only [List.setIfInBounds_toArray]
        try simp only [List.set_cons_succ]
        try simp only [List.set_cons_zero]
        refine wpL.take (i := 4) (d := some 44) (v := ?v4_3) rfl rfl (by kernel_rfl) (by kernel_rfl) (by kernel_rfl) (by kernel_rfl) hQ (Or.inl ⟨by rfl, ?y4_3⟩) ES ?r4_3
        case y4_3 =>
          intro w' hSw
          go_simp
          try with_reducible rfl
        try simp only [Act.put]
        try simp only [List.setIfInBounds_toArray]
        try simp only [List.set_cons_succ]
        try simp only [List.set_cons_zero]
        refine wpL.take (i := 5) (d := some 45) (v := ?v5_4) rfl rfl (by kernel_rfl) (by kernel_rfl) (by kernel_rfl) (by kernel_rfl) hQ (Or.inl ⟨by rfl, ?y5_4⟩) ES ?r5_4
        case y5_4 =>
          intro w' hSw
          go_simp
          try with_reducible rfl
        try simp only [Act.put]
        try simp only [List.setIfInBounds_toArray]
        try simp only [List.set_cons_succ]
        try simp only [List.set_cons_zero]
        refine wpL.take (i := 6) (d := some 46) (v := ?v6_5) rfl rfl (by kernel_rfl) (by kernel_rfl) (by kernel_rfl) (by kernel_rfl) hQ (Or.inl ⟨by rfl, ?y6_5⟩) ES ?r6_5
        case y6_5 =>
          intro w' hSw
          go_simp
          try with_reducible rfl
        try simp only [Act.put]
        try simp only [List.setIfInBounds_toArray]
        try simp only [List.set_cons_succ]
        try simp only [List.set_cons_zero]
        refine wpL.take (i := 7) (d := some 47) (v := ?v7_6) rfl rfl (by kernel_rfl) (by kernel_rfl) (by kernel_rfl) (by kernel_rfl) hQ (Or.inl ⟨by rfl, ?y7_6⟩) ES ?r7_6
        case y7_6 =>
          intro w' hSw
          go_simp
          try with_reducible rfl
        try simp only [Act.put]
        try simp only [List.setIfInBounds_toArray]
        try simp only [List.set_cons_succ]
        try simp only [List.set_cons_zero]
        refine wpL.call (i := 1) rfl (by kernel_rfl) (fun K hK => ?_)
        go_simp
        (go_at_call 25; refine (ref_FromInt 10 (by omega) (by omega)).mono ?_; rintro e wk1 ⟨bf, Af, cf, fs, rfl, hrf, hcf, hmf, hif, hlf, hxf⟩)
        refine hK.out _ _ (ES.trans hxf) ?_
        clear hK K
        try simp only [Act.put]
        try simp only [List.setIfInBounds_toArray]
        try simp only [List.set_cons_succ]
        try simp only [List.set_cons_zero]
        have ET := ES.trans hxf
        refine wpL.call (i := 2) rfl (by kernel_rfl) (fun K hK => ?_)
        go_simp
        (go_at_call 35; refine (ref_Mul rfl rfl (hr.ext ET) hrf hyc hycm hcf hmf (by omega) (by omega)).mono ?_; rintro e wk2 ⟨bm, Am, cm, ms, rfl, hrm, hcm2, hmm, him, hlm, hxm⟩)
        refine hK.out _ _ (ET.trans hxm) ?_
        clear hK K
        try simp only [Act.put]
        try simp only [List.setIfInBounds_toArray]
        try simp only [List.set_cons_succ]
        try simp only [List.set_cons_zero]
        refine wpL.call (i := 8) rfl (by kernel_rfl) (fun K hK => ?_)
        go_simp
        rw [IntWalk.u8_in _ (by omega), IntWalk.i64_in _ (by omega)]
        (go_at_call 25; refine (ref_FromInt ((s[k].toNat : Int) - 48) (by omega) (by omega)).mono ?_; rintro e wk3 ⟨bd, Ad, cd, ds, rfl, hrd, hcd, hmd, hid, hld, hxd⟩)
        refine hK.out _ _ ((ET.trans hxm).trans hxd) ?_
        clear hK K
        try simp only [Act.put]
        try simp only [List.setIfInBounds_toArray]
        try simp only [List.set_cons_succ]
        try simp only [List.set_cons_zero]
        refine wpL.call (i := 9) rfl (by kernel_rfl) (fun K hK => ?_)
        go_simp
        (go_at_call 27; refine (ref_Add rfl rfl (hrm.ext hxd) hrd hcm2 hmm hcd hmd (by omega) (by omega)).mono ?_; rintro e wk4 ⟨ba, Aa, ca, us, rfl, hra, hca, hma, hia, hla, hxa⟩)
        refine hK.out _ _ (((ET.trans hxm).trans hxd).trans hxa) ?_
        clear hK K
        try simp only [Act.put]
        try simp only [List.setIfInBounds_toArray]
        try simp only [List.set_cons_succ]
        try simp only [List.set_cons_zero]
        have E4 := ET.trans (hxm.trans (hxd.trans hxa))
        have b54 := b5r.ext E4
        have y0 := b54.cell 0 (.bool b) rfl
        have y1 := b54.cell 1 (.slice A ys.length c) rfl
        have f0 := b54.frozen 0
        have f1 := b54.frozen 1
        rw [him.eq, hid.eq, hiy.eq, hif.eq, Hstep.out] at hia
        refine wpL.tail (i := 10) rfl (by kernel_rfl) (by kernel_rfl) (fun K hK => ?_)
        go_simp
        refine hK.out _ _ ?_
        clear hK K
        try simp only [Act.put]
        try simp only [List.setIfInBounds_toArray]
        try simp only [List.set_cons_succ]
        try simp only [List.set_cons_zero]
        refine wpL.done (by kernel_rfl) ?_ _
        clear hQ
        have hp := put_box (b := ba) (A := Aa) (n := us.length) (c := ca) b54
        have hg5 : w.heap.size ≠ g5 := by omega
        have HD := Lib.hid (fun j (hj : j < s.size) (h : j < k + 1) => if he : j = k then (by subst he; exact Hd.out : Dig s[j]) else Hdg.out j hj (by omega))
        have HP5 := Lib.hid hp
        have HI := Lib.hid hia
        clear hp hia
        go_wp2_with fail
        go_roundw
        case rel => exact ⟨k + 1, ba, Aa, ca, us, by omega, by go_num, HP5.out.2.1 _ _ _ hg5 (bzr.ext E4), HP5.out.1, HP5.out.2.2.1 _ _ hra, hca, hma, HI.out, by omega, HP5.out.2.2.2 _ (EXT.trans E4) (by omega), HD.out⟩
        case measure => simp [intOf]; omega
      · have HN := Lib.hid hd
        have hno : ∀ y, ¬ PS s.data.toList y := ps_nd HP.out (fun h => HN.out (digs_at h k hlt))
        have Hno := Lib.hid hno
        clear hno hd
        by_cases h48 : s[k].toNat < 48
        · have t1 : decide ((s[k].toNat : Int) < 48) = true := decide_eq_true (by omega)
          have z0 := bzr.cell 0 (.bool false) rfl
          have z1 := bzr.cell 1 (.slice none 0 0) rfl
          have f0 := bzr.frozen 0
          have f1 := bzr.frozen 1
          go_wp2_with fail
          have hp := put_box (b := false) (A := none) (n := 0) (c := 0) bzr
          have hc0 := hp.1.cell 0 (.bool false) rfl
          have hc1 := hp.1.cell 1 (.slice none 0 0) rfl
          exact bodyPost_ret (v := .tuple #[.agg #[.bool false, .slice none 0 0], .int .i64 2]) (by simp [results, Try.results42, go_sem, hc0, hc1]) rfl (.inr ⟨Hno.out, false, none, 0, [], rfl, Rd.nil _ _, by simp, by unfold maxLen; omega, IsInt.nil false, by simp, hp.2.2.2 _ EXT (Nat.le_refl _)⟩)
        · have t1 : decide ((s[k].toNat : Int) < 48) = false := decide_eq_false (by omega)
          have h57 : 57 < s[k].toNat := Nat.lt_of_not_le fun h => HN.out ⟨by omega, h⟩
          have t2 : decide ((57 : Int) < (s[k].toNat : Int)) = true := decide_eq_true (by omega)
          have z0 := bzr.cell 0 (.bool false) rfl
          have z1 := bzr.cell 1 (.slice none 0 0) rfl
          have f0 := bzr.frozen 0
          have f1 := bzr.frozen 1
          go_wp2_with fail
          have hp := put_box (b := false) (A := none) (n := 0) (c := 0) bzr
          have hc0 := hp.1.cell 0 (.bool false) rfl
          have hc1 := hp.1.cell 1 (.slice none 0 0) rfl
          exact bodyPost_ret (v := .tuple #[.agg #[.bool false, .slice none 0 0], .int .i64 2]) (by simp [results, Try.results42, go_sem, hc0, hc1]) rfl (.inr ⟨Hno.out, false, none, 0, [], rfl, Rd.nil _ _, by simp, by unfold maxLen; omega, IsInt.nil false, by simp, hp.2.2.2 _ EXT (Nat.le_refl _)⟩)
    · obtain rfl : k = s.size := by omega
      have hyl2 : ys.length ≤ 3000 := by omega
      have hall : s.data.toList.take s.size = s.data.toList := List.take_of_length_le (by rw [← Lib.size_eq]; omega)
      rw [hall] at hiy
      have hdall : Digs s.data.toList := digs_of fun j hj => Hdg.out j hj hj
      have x0 := b5r.cell 0 (.bool b) rfl
      have x1 := b5r.cell 1 (.slice A ys.length c) rfl
      clear hall

      go_wp2_with fail
      refine (ref_Format rfl hr hyc hycm (by omega)).mono ?_
      rintro e w2 ⟨str, rfl, hstr, hx2⟩
      rw [hiy.eq] at hstr
      replace bzr := bzr.ext hx2
      replace b5r := b5r.ext hx2
      replace hr := hr.ext hx2
      replace EXT := EXT.trans hx2
      clear x0 x1
      have x0 := b5r.cell 0 (.bool b) rfl
      have x1 := b5r.cell 1 (.slice A ys.length c) rfl
      have hps := ps_pos HP.out hdall _ rfl
      have Hps := Lib.hid hps
      have HI := Lib.hid hiy
      by_cases heq : Lib.itoa (dv s.data.toList : Int) = s.data.toList
      · obtain rfl : str = s := bytes_ext (hstr.trans heq)
        have HZ := Lib.hid heq
        clear heq hstr hps hiy hdall
        have z0 := bzr.cell 0 (.bool false) rfl
        have z1 := bzr.cell 1 (.slice none 0 0) rfl
        have f0 := bzr.frozen 0
        have f1 := bzr.frozen 1
        go_wp2_with fail
        obtain ⟨r1, r2, r3, r4⟩ := fin_pair (b := b) (n := ys.length) (c := c) EXT (Nat.le_refl _) bzr hr
        exact bodyPost_ret (v := .tuple #[.agg #[.bool b, .slice A ys.length c], .int .i64 0]) (by simp [results, Try.results42, go_sem, r3, r4]) rfl (.inl ⟨_, Hps.out.1 HZ.out, b, A, c, ys, rfl, r1, hyc, hycm, HI.out, by omega, r2⟩)
      · have t3 : (str.toList == s.toList) = false := by rw [beq_eq_false_iff_ne, Lib.toList_data, Lib.toList_data, hstr]; exact heq
        have t4 : (str.toList != s.toList) = true := by rw [bne, t3]; rfl
        have T3 := Lib.hid t3
        have HZ := Lib.hid heq
        clear heq hstr hps hiy hdall
        have z0 := bzr.cell 0 (.bool false) rfl
        have z1 := bzr.cell 1 (.slice none 0 0) rfl
        have f0 := bzr.frozen 0
        have f1 := bzr.frozen 1
        go_wp2_with fail
        have hp := put_box (b := false) (A := none) (n := 0) (c := 0) bzr
        have hc0 := hp.1.cell 0 (.bool false) rfl
        have hc1 := hp.1.cell 1 (.slice none 0 0) rfl
        exact bodyPost_ret (v := .tuple #[.agg #[.bool false, .slice none 0 0], .int .i64 2]) (by simp [results, Try.results42, go_sem, hc0, hc1]) rfl (.inr ⟨Hps.out.2 HZ.out, false, none, 0, [], rfl, Rd.nil _ _, by simp, by unfold maxLen; omega, IsInt.nil false, by simp, hp.2.2.2 _ EXT (Nat.le_refl _)⟩)

set_option maxRecDepth 100000 in
set_option maxHeartbeats 4000000 in
theorem rparse_e (hs : s.size ≤ 1000) (hp : ∀ t, s.data.toList ≠ 45 :: t) (h0 : s.size = 0) : Calls Try.prog 42 #[.string s] w (PSOut s.data.toList 10000 w) := by
  have HP := Lib.hid hp
  have t0 : decide ((0 : Int) < (s.size : Int)) = false := decide_eq_false (by omega)
  have h00 : s.size ≤ 0 := by omega
  clear hp h0
  go_enter Try.func42, Try.ntmps42
  go_upto_region 1 with (fail)
  obtain ⟨W, hW, extW, bz, hz⟩ := box1 w 24 #[.bool false, .slice none 0 0]
  rw [← hW]
  clear hW
  go_upto_region 7 with (fail)
  refine at_world (fun V => Ext w V ∧ Box V w.heap.size 24 #[.bool false, .slice none 0 0] ∧ Box V W.heap.size 24 #[.bool false, .slice none 0 0] ∧ W.heap.size < V.heap.size) ⟨extW.alloc _, bz.ext ((Ext.refl W).alloc _), Box.new W _ _, by simp⟩ ?_
  have hz5 := hz
  generalize W.heap.size = g5 at hz hz5 ⊢
  rintro V ⟨EV, bz, b5, h5⟩
  go_wp2
  go_loopw [6] (fun i wr => ∃ (k : Nat) (b : Bool) (A : Option Addr) (c : Nat) (ys : List Nat), k ≤ s.size ∧ i = .int .i64 (k : Int) ∧ Box wr w.heap.size 24 #[.bool false, .slice none 0 0] ∧ Box wr g5 24 #[.bool b, .slice A ys.length c] ∧ Rd wr A ys ∧ ys.length ≤ c ∧ c ≤ maxLen ∧ IsInt (dv (s.data.toList.take k) : Int) b ys ∧ ys.length ≤ 3 * k ∧ Ext w wr ∧ ∀ j (hj : j < s.size), j < k → Dig s[j]) (fun i _ => s.size - (intOf i).toNat)
  case atStart => exact ⟨0, false, none, 0, [], Nat.zero_le _, rfl, bz, b5, Rd.nil _ _, by simp, by unfold maxLen; omega, by rw [List.take_zero]; exact IsInt.nil false, by simp, EV, fun j _ h => absurd h (by omega)⟩
  case round =>
    obtain ⟨k, b, A, c, ys, hk, rfl, bzr, b5r, hr, hyc, hycm, hiy, hyl, EXT, hdg⟩ := hrel
    have Hdg := Lib.hid hdg
    clear hdg
    by_cases hlt : k < s.size
    · exact absurd hlt (by omega)
    · obtain rfl : k = s.size := by omega
      have hyl2 : ys.length ≤ 3000 := by omega
      have hall : s.data.toList.take s.size = s.data.toList := List.take_of_length_le (by rw [← Lib.size_eq]; omega)
      rw [hall] at hiy
      have hdall : Digs s.data.toList := digs_of fun j hj => Hdg.out j hj hj
      have x0 := b5r.cell 0 (.bool b) rfl
      have x1 := b5r.cell 1 (.slice A ys.length c) rfl
      clear hall

      go_wp2_with fail
      refine (ref_Format rfl hr hyc hycm (by omega)).mono ?_
      rintro e w2 ⟨str, rfl, hstr, hx2⟩
      rw [hiy.eq] at hstr
      replace bzr := bzr.ext hx2
      replace b5r := b5r.ext hx2
      replace hr := hr.ext hx2
      replace EXT := EXT.trans hx2
      clear x0 x1
      have x0 := b5r.cell 0 (.bool b) rfl
      have x1 := b5r.cell 1 (.slice A ys.length c) rfl
      have hps := ps_pos HP.out hdall _ rfl
      have Hps := Lib.hid hps
      have HI := Lib.hid hiy
      by_cases heq : Lib.itoa (dv s.data.toList : Int) = s.data.toList
      · obtain rfl : str = s := bytes_ext (hstr.trans heq)
        have HZ := Lib.hid heq
        clear heq hstr hps hiy hdall
        have z0 := bzr.cell 0 (.bool false) rfl
        have z1 := bzr.cell 1 (.slice none 0 0) rfl
        have f0 := bzr.frozen 0
        have f1 := bzr.frozen 1
        go_wp2_with fail
        obtain ⟨r1, r2, r3, r4⟩ := fin_pair (b := b) (n := ys.length) (c := c) EXT (Nat.le_refl _) bzr hr
        exact bodyPost_ret (v := .tuple #[.agg #[.bool b, .slice A ys.length c], .int .i64 0]) (by simp [results, Try.results42, go_sem, r3, r4]) rfl (.inl ⟨_, Hps.out.1 HZ.out, b, A, c, ys, rfl, r1, hyc, hycm, HI.out, by omega, r2⟩)
      · have t3 : (str.toList == s.toList) = false := by rw [beq_eq_false_iff_ne, Lib.toList_data, Lib.toList_data, hstr]; exact heq
        have t4 : (str.toList != s.toList) = true := by rw [bne, t3]; rfl
        have T3 := Lib.hid t3
        have HZ := Lib.hid heq
        clear heq hstr hps hiy hdall
        have z0 := bzr.cell 0 (.bool false) rfl
        have z1 := bzr.cell 1 (.slice none 0 0) rfl
        have f0 := bzr.frozen 0
        have f1 := bzr.frozen 1
        go_wp2_with fail
        have hp := put_box (b := false) (A := none) (n := 0) (c := 0) bzr
        have hc0 := hp.1.cell 0 (.bool false) rfl
        have hc1 := hp.1.cell 1 (.slice none 0 0) rfl
        exact bodyPost_ret (v := .tuple #[.agg #[.bool false, .slice none 0 0], .int .i64 2]) (by simp [results, Try.results42, go_sem, hc0, hc1]) rfl (.inr ⟨Hps.out.2 HZ.out, false, none, 0, [], rfl, Rd.nil _ _, by simp, by unfold maxLen; omega, IsInt.nil false, by simp, hp.2.2.2 _ EXT (Nat.le_refl _)⟩)

set_option maxRecDepth 100000 in
set_option maxHeartbeats 4000000 in
theorem rparse_n (hs : s.size ≤ 1000) {tl : List UInt8} (hp : s.data.toList = 45 :: tl) : Calls Try.prog 42 #[.string s] w (PSOut s.data.toList 10000 w) := by
  obtain ⟨h0, h45, hsz⟩ := get0 hp
  obtain ⟨hx, hl, _⟩ := cut_neg (w := w) (by omega) hp
  have t0 : decide ((0 : Int) < (s.size : Int)) = true := decide_eq_true (by omega)
  have t9 : ((s[0].toNat : Int) == 45) = true := by rw [h45]; rfl
  have HX := Lib.hid (show s.data.toList = 45 :: (s.extract 1 s.size).data.toList by rw [hx]; exact hp)
  have hs1 : (s.extract 1 s.size).size < s.size := by omega
  clear hp hx hl hsz h45
  go_enter Try.func42, Try.ntmps42
  go_upto_region 1 with (fail)
  obtain ⟨W, hW, extW, bz, hz⟩ := box1 w 24 #[.bool false, .slice none 0 0]
  rw [← hW]
  clear hW
  go_upto_region 7 with (fail)
  refine at_world (fun V => Ext w V ∧ Box V w.heap.size 24 #[.bool false, .slice none 0 0] ∧ Box V W.heap.size 24 #[.bool false, .slice none 0 0] ∧ W.heap.size < V.heap.size) ⟨extW.alloc _, bz.ext ((Ext.refl W).alloc _), Box.new W _ _, by simp⟩ ?_
  have hz5 := hz
  generalize W.heap.size = g5 at hz hz5 ⊢
  generalize s.extract 1 s.size = t at HX hs1 ⊢
  rintro V ⟨EV, bz, b5, h5⟩
  go_wp2
  go_loopw [6] (fun i wr => ∃ (k : Nat) (b : Bool) (A : Option Addr) (c : Nat) (ys : List Nat), k ≤ t.size ∧ i = .int .i64 (k : Int) ∧ Box wr w.heap.size 24 #[.bool false, .slice none 0 0] ∧ Box wr g5 24 #[.bool b, .slice A ys.length c] ∧ Rd wr A ys ∧ ys.length ≤ c ∧ c ≤ maxLen ∧ IsInt (dv (t.data.toList.take k) : Int) b ys ∧ ys.length ≤ 3 * k ∧ Ext w wr ∧ ∀ j (hj : j < t.size), j < k → Dig t[j]) (fun i _ => t.size - (intOf i).toNat)
  case atStart => exact ⟨0, false, none, 0, [], Nat.zero_le _, rfl, bz, b5, Rd.nil _ _, by simp, by unfold maxLen; omega, by rw [List.take_zero]; exact IsInt.nil false, by simp, EV, fun j _ h => absurd h (by omega)⟩
  case round =>
    obtain ⟨k, b, A, c, ys, hk, rfl, bzr, b5r, hr, hyc, hycm, hiy, hyl, EXT, hdg⟩ := hrel
    have Hdg := Lib.hid hdg
    clear hdg
    by_cases hlt : k < t.size
    · by_cases hd : Dig t[k]
      · have hd1 := hd.1
        have hd2 := hd.2
        have t1 : decide ((t[k].toNat : Int) < 48) = false := decide_eq_false (by omega)
        have t2 : decide ((57 : Int) < (t[k].toNat : Int)) = false := decide_eq_false (by omega)
        have hi1 : (48 : Int) ≤ (t[k].toNat : Int) := by omega
        have hi2 : (t[k].toNat : Int) ≤ 57 := by omega
        have x0 := b5r.cell 0 (.bool b) rfl
        have x1 := b5r.cell 1 (.slice A ys.length c) rfl
        have hyl2 : ys.length ≤ 3000 := by omega
        go_upto_region 12 with (fail)
        have hstep := dv_take t k hlt
        have Hstep := Lib.hid (show (dv (t.data.toList.take k) : Int) * 10 + ((t[k].toNat : Int) - 48) = (dv (t.data.toList.take (k + 1)) : Int) by omega)
        have Hd := Lib.hid hd
        clear hstep hd hd1 hd2
        refine wpL.start 10 (by kernel_rfl) (fun _ _ _ _ _ => ⟨fun h => h, fun h => h⟩) (fun hQ ES => ?_)
        refine wpL.take (i := 0) (d := some 40) (v := ?v0_13) rfl rfl (by kernel_rfl) (by kernel_rfl) (by kernel_rfl) (by kernel_rfl) hQ (Or.inl ⟨by rfl, ?y0_13⟩) ES ?r0_13
        case y0_13 =>
          intro w' hSw
          have k0 := (b5r.ext hSw).cell 0 _ rfl
          have k1 := (b5r.ext hSw).cell 1 _ rfl
          go_simp
          try with_reducible rfl
        try simp only [Act.put]
        try simp only [List.setIfInBounds_toArray]
        try simp only [List.set_cons_succ]
        try simp only [List.set_cons_zero]
        refine wpL.take (i := 3) (d := some 43) (v := ?v3_14) rfl rfl (by kernel_rfl) (by kernel_rfl) (by kernel_rfl) (by kernel_rfl) hQ (Or.inl ⟨by rfl, ?y3_14⟩) ES ?r3_14
        case y3_14 =>
          intro w' hSw
          go_simp
          try with_reducible rfl
        try simp only [Act.put]
        try simp only [List.setIfInBounds_toArray]
        try simp only [List.set_cons_succ]
        try simp only [List.set_cons_zero]
        refine wpL.take (i := 4) (d := some 44) (v := ?v4_15) rfl rfl (by kernel_rfl) (by kernel_rfl) (by kernel_rfl) (by kernel_rfl) hQ (Or.inl ⟨by rfl, ?y4_15⟩) ES ?r4_15
        case y4_15 =>
          intro w' hSw
          go_simp
          try with_reducible rfl
        try simp only [Act.put]
        try simp only [List.setIfInBounds_toArray]
        try simp only [List.set_cons_succ]
        try simp only [List.set_cons_zero]
        refine wpL.take (i := 5) (d := some 45) (v := ?v5_16) rfl rfl (by kernel_rfl) (by kernel_rfl) (by kernel_rfl) (by kernel_rfl) hQ (Or.inl ⟨by rfl, ?y5_16⟩) ES ?r5_16
        case y5_16 =>
          intro w' hSw
          go_simp
          try with_reducible rfl
        try simp only [Act.put]
        try simp only [List.setIfInBounds_toArray]
        try simp only [List.set_cons_succ]
        try simp only [List.set_cons_zero]
        refine wpL.take (i := 6) (d := some 46) (v := ?v6_17) rfl rfl (by kernel_rfl) (by kernel_rfl) (by kernel_rfl) (by kernel_rfl) hQ (Or.inl ⟨by rfl, ?y6_17⟩) ES ?r6_17
        case y6_17 =>
          intro w' hSw
          go_simp
          try with_reducible rfl
        try simp only [Act.put]
        try simp only [List.setIfInBounds_toArray]
        try simp only [List.set_cons_succ]
        try simp only [List.set_cons_zero]
        refine wpL.take (i := 7) (d := some 47) (v := ?v7_18) rfl rfl (by kernel_rfl) (by kernel_rfl) (by kernel_rfl) (by kernel_rfl) hQ (Or.inl ⟨by rfl, ?y7_18⟩) ES ?r7_18
        case y7_18 =>
          intro w' hSw
          go_simp
          try with_reducible rfl
        try simp only [Act.put]
        try simp only [List.setIfInBounds_toArray]
        try simp only [List.set_cons_succ]
        try simp only [List.set_cons_zero]
        refine wpL.call (i := 1) rfl (by kernel_rfl) (fun K hK => ?_)
        go_simp
        (go_at_call 25; refine (ref_FromInt 10 (by omega) (by omega)).mono ?_; rintro e wk1 ⟨bf, Af, cf, fs, rfl, hrf, hcf, hmf, hif, hlf, hxf⟩)
        refine hK.out _ _ (ES.trans hxf) ?_
        clear hK K
        try simp only [Act.put]
        try simp only [List.setIfInBounds_toArray]
        try simp only [List.set_cons_succ]
        try simp only [List.set_cons_zero]
        have ET := ES.trans hxf
        refine wpL.call (i := 2) rfl (by kernel_rfl) (fun K hK => ?_)
        go_simp
        (go_at_call 35; refine (ref_Mul rfl rfl (hr.ext ET) hrf hyc hycm hcf hmf (by omega) (by omega)).mono ?_; rintro e wk2 ⟨bm, Am, cm, ms, rfl, hrm, hcm2, hmm, him, hlm, hxm⟩)
        refine hK.out _ _ (ET.trans hxm) ?_
        clear hK K
        try simp only [Act.put]
        try simp only [List.setIfInBounds_toArray]
        try simp only [List.set_cons_succ]
        try simp only [List.set_cons_zero]
        refine wpL.call (i := 8) rfl (by kernel_rfl) (fun K hK => ?_)
        go_simp
        rw [IntWalk.u8_in _ (by omega), IntWalk.i64_in _ (by omega)]
        (go_at_call 25; refine (ref_FromInt ((t[k].toNat : Int) - 48) (by omega) (by omega)).mono ?_; rintro e wk3 ⟨bd, Ad, cd, ds, rfl, hrd, hcd, hmd, hid, hld, hxd⟩)
        refine hK.out _ _ ((ET.trans hxm).trans hxd) ?_
        clear hK K
        try simp only [Act.put]
        try simp only [List.setIfInBounds_toArray]
        try simp only [List.set_cons_succ]
        try simp only [List.set_cons_zero]
        refine wpL.call (i := 9) rfl (by kernel_rfl) (fun K hK => ?_)
        go_simp
        (go_at_call 27; refine (ref_Add rfl rfl (hrm.ext hxd) hrd hcm2 hmm hcd hmd (by omega) (by omega)).mono ?_; rintro e wk4 ⟨ba, Aa, ca, us, rfl, hra, hca, hma, hia, hla, hxa⟩)
        refine hK.out _ _ (((ET.trans hxm).trans hxd).trans hxa) ?_
        clear hK K
        try simp only [Act.put]
        try simp only [List.setIfInBounds_toArray]
        try simp only [List.set_cons_succ]
        try simp only [List.set_cons_zero]
        have E4 := ET.trans (hxm.trans (hxd.trans hxa))
        have b54 := b5r.ext E4
        have y0 := b54.cell 0 (.bool b) rfl
        have y1 := b54.cell 1 (.slice A ys.length c) rfl
        have f0 := b54.frozen 0
        have f1 := b54.frozen 1
        rw [him.eq, hid.eq, hiy.eq, hif.eq, Hstep.out] at hia
        refine wpL.tail (i := 10) rfl (by kernel_rfl) (by kernel_rfl) (fun K hK => ?_)
        go_simp
        refine hK.out _ _ ?_
        clear hK K
        try simp only [Act.put]
        try simp only [List.setIfInBounds_toArray]
        try simp only [List.set_cons_succ]
        try simp only [List.set_cons_zero]
        refine wpL.done (by kernel_rfl) ?_ _
        clear hQ
        have hp := put_box (b := ba) (A := Aa) (n := us.length) (c := ca) b54
        have hg5 : w.heap.size ≠ g5 := by omega
        have HD := Lib.hid (fun j (hj : j < t.size) (h : j < k + 1) => if he : j = k then (by subst he; exact Hd.out : Dig t[j]) else Hdg.out j hj (by omega))
        have HP5 := Lib.hid hp
        have HI := Lib.hid hia
        clear hp hia
        go_wp2_with fail
        go_roundw
        case rel => exact ⟨k + 1, ba, Aa, ca, us, by omega, by go_num, HP5.out.2.1 _ _ _ hg5 (bzr.ext E4), HP5.out.1, HP5.out.2.2.1 _ _ hra, hca, hma, HI.out, by omega, HP5.out.2.2.2 _ (EXT.trans E4) (by omega), HD.out⟩
        case measure => simp [intOf]; omega
      · have HN := Lib.hid hd
        have hno : ∀ y, ¬ PS s.data.toList y := fun y => by rw [HX.out]; exact ps_ndn (fun h => HN.out (digs_at h k hlt)) y
        have Hno := Lib.hid hno
        clear hno hd
        by_cases h48 : t[k].toNat < 48
        · have t1 : decide ((t[k].toNat : Int) < 48) = true := decide_eq_true (by omega)
          have z0 := bzr.cell 0 (.bool false) rfl
          have z1 := bzr.cell 1 (.slice none 0 0) rfl
          have f0 := bzr.frozen 0
          have f1 := bzr.frozen 1
          go_wp2_with fail
          have hp := put_box (b := false) (A := none) (n := 0) (c := 0) bzr
          have hc0 := hp.1.cell 0 (.bool false) rfl
          have hc1 := hp.1.cell 1 (.slice none 0 0) rfl
          exact bodyPost_ret (v := .tuple #[.agg #[.bool false, .slice none 0 0], .int .i64 2]) (by simp [results, Try.results42, go_sem, hc0, hc1]) rfl (.inr ⟨Hno.out, false, none, 0, [], rfl, Rd.nil _ _, by simp, by unfold maxLen; omega, IsInt.nil false, by simp, hp.2.2.2 _ EXT (Nat.le_refl _)⟩)
        · have t1 : decide ((t[k].toNat : Int) < 48) = false := decide_eq_false (by omega)
          have h57 : 57 < t[k].toNat := Nat.lt_of_not_le fun h => HN.out ⟨by omega, h⟩
          have t2 : decide ((57 : Int) < (t[k].toNat : Int)) = true := decide_eq_true (by omega)
          have z0 := bzr.cell 0 (.bool false) rfl
          have z1 := bzr.cell 1 (.slice none 0 0) rfl
          have f0 := bzr.frozen 0
          have f1 := bzr.frozen 1
          go_wp2_with fail
          have hp := put_box (b := false) (A := none) (n := 0) (c := 0) bzr
          have hc0 := hp.1.cell 0 (.bool false) rfl
          have hc1 := hp.1.cell 1 (.slice none 0 0) rfl
          exact bodyPost_ret (v := .tuple #[.agg #[.bool false, .slice none 0 0], .int .i64 2]) (by simp [results, Try.results42, go_sem, hc0, hc1]) rfl (.inr ⟨Hno.out, false, none, 0, [], rfl, Rd.nil _ _, by simp, by unfold maxLen; omega, IsInt.nil false, by simp, hp.2.2.2 _ EXT (Nat.le_refl _)⟩)
    · obtain rfl : k = t.size := by omega
      have hyl2 : ys.length ≤ 3000 := by omega
      have hall : t.data.toList.take t.size = t.data.toList := List.take_of_length_le (by rw [← Lib.size_eq]; omega)
      rw [hall] at hiy
      have hdall : Digs t.data.toList := digs_of fun j hj => Hdg.out j hj hj
      have x0 := b5r.cell 0 (.bool b) rfl
      have x1 := b5r.cell 1 (.slice A ys.length c) rfl
      clear hall
      have t5 : decide ((t.size : Int) < (s.size : Int)) = true := decide_eq_true (by omega)
      go_wp2_with fail
      refine (ref_Neg rfl hr hyc hycm (by omega)).mono ?_
      rintro e wn ⟨b, A, c, ys, rfl, hrn, hyc, hycm, hin, hln, hxn⟩
      rw [hiy.eq] at hin
      have hyl3 : ys.length ≤ 3000 := by omega
      have b5n := b5r.ext hxn
      clear x0 x1
      have x0 := b5n.cell 0 _ rfl
      have x1 := b5n.cell 1 _ rfl
      have f0 := b5n.frozen 0
      have f1 := b5n.frozen 1
      have hp := put_box (b := b) (A := A) (n := ys.length) (c := c) b5n
      have hw5 : w.heap.size ≤ g5 := by omega
      have hw6 : w.heap.size ≠ g5 := by omega
      have HPP := Lib.hid hp
      clear hp
      go_upto_region 15 with (fail)
      refine at_world (fun X => Ext w X ∧ Box X w.heap.size 24 #[.bool false, .slice none 0 0] ∧ Box X g5 24 #[.bool b, .slice A ys.length c] ∧ Rd X A ys) ⟨HPP.out.2.2.2 _ (EXT.trans hxn) hw5, HPP.out.2.1 _ _ _ hw6 (bzr.ext hxn), HPP.out.1, HPP.out.2.2.1 _ _ hrn⟩ ?_
      clear HPP x0 x1 f0 f1 b5n hrn hxn hiy hyl hr b5r bzr EXT
      rintro X ⟨EXT, bzr, b5r, hr⟩
      have hiy := hin
      have x0 := b5r.cell 0 (.bool b) rfl
      have x1 := b5r.cell 1 (.slice A ys.length c) rfl

      go_wp2_with fail
      refine (ref_Format rfl hr hyc hycm (by omega)).mono ?_
      rintro e w2 ⟨str, rfl, hstr, hx2⟩
      rw [hiy.eq] at hstr
      replace bzr := bzr.ext hx2
      replace b5r := b5r.ext hx2
      replace hr := hr.ext hx2
      replace EXT := EXT.trans hx2
      clear x0 x1
      have x0 := b5r.cell 0 (.bool b) rfl
      have x1 := b5r.cell 1 (.slice A ys.length c) rfl
      have hps := (show (Lib.itoa (-(dv t.data.toList : Int)) = s.data.toList → PS s.data.toList (-(dv t.data.toList : Int))) ∧ (Lib.itoa (-(dv t.data.toList : Int)) ≠ s.data.toList → ∀ y, ¬ PS s.data.toList y) by rw [HX.out]; exact ps_neg hdall _ rfl)
      have Hps := Lib.hid hps
      have HI := Lib.hid hiy
      by_cases heq : Lib.itoa (-(dv t.data.toList : Int)) = s.data.toList
      · obtain rfl : str = s := bytes_ext (hstr.trans heq)
        have HZ := Lib.hid heq
        clear heq hstr hps hiy hdall
        have z0 := bzr.cell 0 (.bool false) rfl
        have z1 := bzr.cell 1 (.slice none 0 0) rfl
        have f0 := bzr.frozen 0
        have f1 := bzr.frozen 1
        go_wp2_with fail
        obtain ⟨r1, r2, r3, r4⟩ := fin_pair (b := b) (n := ys.length) (c := c) EXT (Nat.le_refl _) bzr hr
        exact bodyPost_ret (v := .tuple #[.agg #[.bool b, .slice A ys.length c], .int .i64 0]) (by simp [results, Try.results42, go_sem, r3, r4]) rfl (.inl ⟨_, Hps.out.1 HZ.out, b, A, c, ys, rfl, r1, hyc, hycm, HI.out, by omega, r2⟩)
      · have t3 : (str.toList == s.toList) = false := by rw [beq_eq_false_iff_ne, Lib.toList_data, Lib.toList_data, hstr]; exact heq
        have t4 : (str.toList != s.toList) = true := by rw [bne, t3]; rfl
        have T3 := Lib.hid t3
        have HZ := Lib.hid heq
        clear heq hstr hps hiy hdall
        have z0 := bzr.cell 0 (.bool false) rfl
        have z1 := bzr.cell 1 (.slice none 0 0) rfl
        have f0 := bzr.frozen 0
        have f1 := bzr.frozen 1
        go_wp2_with fail
        have hp := put_box (b := false) (A := none) (n := 0) (c := 0) bzr
        have hc0 := hp.1.cell 0 (.bool false) rfl
        have hc1 := hp.1.cell 1 (.slice none 0 0) rfl
        exact bodyPost_ret (v := .tuple #[.agg #[.bool false, .slice none 0 0], .int .i64 2]) (by simp [results, Try.results42, go_sem, hc0, hc1]) rfl (.inr ⟨Hps.out.2 HZ.out, false, none, 0, [], rfl, Rd.nil _ _, by simp, by unfold maxLen; omega, IsInt.nil false, by simp, hp.2.2.2 _ EXT (Nat.le_refl _)⟩)

theorem ref_Parse (hs : s.size ≤ 1000) : Calls Try.prog 42 #[.string s] w (PSOut s.data.toList 10000 w) := by
  match hl : s.data.toList with
  | [] => rw [← hl]; exact rparse_e hs (by rw [hl]; intro t h; cases h) (by rw [Lib.size_eq, hl]; rfl)
  | c :: t =>
    obtain ⟨h0, h1, _⟩ := get0 hl
    by_cases hc : c = 45
    · subst hc
      rw [← hl]
      exact rparse_n hs hl
    · rw [← hl]
      exact rparse_p hs (by rw [hl]; intro t' h; injection h with h _; exact hc h) h0 (by rw [h1]; exact fun h => hc (UInt8.toNat_inj.1 h))
theorem int_Parse (hs : s.size ≤ 1000) : Calls Try.prog 41 #[.string s] w (PSOut s.data.toList 10000 w) := by
  by_cases hn : ∃ t, s.data.toList = 45 :: t
  · obtain ⟨t, ht⟩ := hn
    by_cases hd : Digs t ∧ Canon t
    · by_cases h0 : t = [48]
      · subst h0
        refine (parse_n0 (by omega) ht).mono fun e w' h => .inr ⟨fun z hz => ?_, h⟩
        rw [ht] at hz
        rcases hz with ⟨t', h1, _, _, h2, _⟩ | ⟨h1, _⟩
        · injection h1 with _ h1
          exact h2 h1.symm
        · exact not_dig45 (h1 45 (by simp))
      · refine (parse_n (z := -(dv t : Int)) (by omega) ht hd.1 hd.2 h0 rfl).mono fun e w' h => .inl ⟨-(dv t : Int), by rw [ht]; exact .inl ⟨t, rfl, hd.1, hd.2, h0, rfl⟩, ?_⟩
        obtain ⟨b, A, c, ys, h1, h2, h3, h4, h5, h6, h7⟩ := h
        exact ⟨b, A, c, ys, h1, h2, h3, h4, h5, by omega, h7⟩
    · refine (parse_ne (by omega) ht hd).mono fun e w' h => .inr ⟨fun z hz => ?_, h⟩
      rw [ht] at hz
      rcases hz with ⟨t', h1, h2, h3, _⟩ | ⟨h1, _⟩
      · injection h1 with _ h1
        subst h1
        exact hd ⟨h2, h3⟩
      · exact not_dig45 (h1 45 (by simp))
  · have hp : ∀ t, s.data.toList ≠ 45 :: t := fun t h => hn ⟨t, h⟩
    by_cases hd : Digs s.data.toList ∧ Canon s.data.toList
    · refine (parse_p (z := (dv s.data.toList : Int)) (by omega) hp hd.1 hd.2 rfl).mono fun e w' h => .inl ⟨(dv s.data.toList : Int), .inr ⟨hd.1, hd.2, rfl⟩, ?_⟩
      obtain ⟨b, A, c, ys, h1, h2, h3, h4, h5, h6, h7⟩ := h
      exact ⟨b, A, c, ys, h1, h2, h3, h4, h5, by omega, h7⟩
    · refine (parse_pe (by omega) hp hd).mono fun e w' h => .inr ⟨fun z hz => ?_, h⟩
      rcases hz with ⟨t, h1, _⟩ | ⟨h1, h2, _⟩
      · exact hp t h1
      · exact hd ⟨h1, h2⟩
theorem PS.fun {l : List UInt8} {y z : Int} (h : PS l y) (k : PS l z) : y = z := by
  rcases h with ⟨t, ht, hd, _, _, rfl⟩ | ⟨hd, _, rfl⟩
  · subst ht
    rcases k with ⟨t', ht', _, _, _, rfl⟩ | ⟨hd', _⟩
    · injection ht' with _ ht'
      subst ht'
      rfl
    · exact absurd (hd' 45 (by simp)) not_dig45
  · rcases k with ⟨t', ht', _⟩ | ⟨_, _, rfl⟩
    · subst ht'
      exact absurd (hd 45 (by simp)) not_dig45
    · rfl
end
end Go.Proofs.Ytmjmcinnbmjpdaa
