/- For every string the law RationalParse returns true: Parse returns the specified number or error, and the examples of the chapter hold. Condition: the five listed tables of Go's library hold what their initialisers lay (tied by the given card). -/
import Derived.Test.YtiioodgpkdbndaaGreatDoorM0
import Derived.Test.YtiioodgpkdbndaaGreatDoorM1
import Derived.Test.YtiioodgpkdbndaaGreatDoorM2
import Derived.Test.YtiioodgpkdbndaaGreatDoorM3
import Derived.Test.YtiioodgpkdbndaaGreatDoorM4
import Derived.Test.YtiioodgpkdbndaaGreatDoorM5
import Derived.Test.YtiioodgpkdbndaaGreatDoorM6
import Derived.Test.YtiioodgpkdbndaaGreatDoorM7
import Derived.Test.YtiioodgpkdbndaaGreatDoorM8
import Derived.Test.YtiioodgpkdbndaaGreatDoorM9
import Derived.Test.YtiioodgpkdbndaaGreatDoorMi0
import Derived.Test.YtiioodgpkdbndaaGreatDoorMi1
import Derived.Test.YtiioodgpkdbndaaGreatDoorMi2
import Derived.ChangeMaps5
namespace Go.Proofs.YtiioodgpkdbndaaGreatDoor
open Go.RowKit
theorem mkQ_pos {z y : Int} (h : 0 < y) : mkQ z y = mkRat z y.natAbs := if_neg (by omega)
theorem mkQ_neg {z y : Int} (h : 0 < y) : mkQ (-z) y = -mkQ z y := by
  rw [mkQ_pos h, mkQ_pos h, Rat.neg_mkRat]
theorem mkQ_one (z : Int) : mkQ z 1 = (z : Rat) := by
  rw [mkQ_pos (by omega)]
  exact Rat.mkRat_one z
theorem mkQ_zero {z y : Int} (h : 0 < y) : mkQ z y = 0 ↔ z = 0 := by
  rw [mkQ_pos h]
  exact Rat.mkRat_eq_zero (by omega)
theorem ups_head {a r : List UInt8} {q : Rat} (ha : Digs a) (hr : r = [] ∨ ∃ c b, r = c :: b ∧ ¬ Dig c) (h : UPS (a ++ r) q) :
    Canon a ∧ ((r = [] ∧ q = ((dv a : Int) : Rat)) ∨ (∃ b, r = 46 :: b ∧ Digs b ∧ b ≠ [] ∧ q = mkQ (dv (a ++ b) : Int) ((10 ^ b.length : Nat) : Int)) ∨
      (∃ b, r = 47 :: b ∧ Digs b ∧ Canon b ∧ b ≠ [49] ∧ 0 < dv b ∧ Nat.gcd (dv a) (dv b) = 1 ∧ q = mkRat (dv a : Int) (dv b))) := by
  rcases hr with rfl | ⟨c, b, rfl, hc⟩
  · rw [List.append_nil] at h
    obtain ⟨_, h1, h2⟩ := (ups_digs ha).1 h
    exact ⟨h1, .inl ⟨rfl, h2⟩⟩
  · by_cases h46 : c = 46
    · subst h46
      obtain ⟨_, h1, h2⟩ := (ups_dot (ha.not_mem not_dig46)).1 h
      exact ⟨h1, .inr (.inl ⟨b, rfl, h2⟩)⟩
    · by_cases h47 : c = 47
      · subst h47
        obtain ⟨_, h1, h2⟩ := (ups_slash' ha).1 h
        exact ⟨h1, .inr (.inr ⟨b, rfl, h2⟩)⟩
      · exact absurd h (ups_other ha hc h46 h47)
/-- what the reference's Parse does with a text without a sign, and with a sign before it. -/
def QGood (l : List UInt8) (z y : Int) : Prop :=
  (∀ (u : ByteArray) (w : World), u.data.toList = l → u.size ≤ 200 → (∀ t, l ≠ 45 :: t) → Calls Tryz.prog 50 #[.string u] w (RetNRE (mkQ z y) 1000 w)) ∧
  (∀ (s u : ByteArray) (w : World), u.data.toList = l → s.size ≤ 200 → s.data.toList = 45 :: l → (z ≠ 0 → Calls Tryz.prog 50 #[.string s] w (RetNRE (mkQ (-z) y) 1000 w)) ∧ (z = 0 → Calls Tryz.prog 50 #[.string s] w (RetZE 2 w)))
def QBad (l : List UInt8) : Prop :=
  (∀ (u : ByteArray) (w : World), u.data.toList = l → u.size ≤ 200 → (∀ t, l ≠ 45 :: t) → Calls Tryz.prog 50 #[.string u] w (RetZE 2 w)) ∧
  (∀ (s u : ByteArray) (w : World), u.data.toList = l → s.size ≤ 200 → s.data.toList = 45 :: l → Calls Tryz.prog 50 #[.string s] w (RetZE 2 w))
theorem q_unsigned (l : List UInt8) : (∃ z y : Int, 0 < y ∧ UPS l (mkQ z y) ∧ QGood l z y) ∨ ((∀ q, ¬ UPS l q) ∧ QBad l) := by
  obtain ⟨a, r, rfl, ha, hr⟩ := digits_split l
  by_cases hc : Canon a
  · have hne : ∀ {u : ByteArray}, u.data.toList = a ++ r → u.data.toList ≠ [] := by
      intro u hu h
      rw [hu] at h
      have := List.append_eq_nil_iff.1 h
      rcases hc with h | ⟨_, _, h, _⟩ <;> rw [h] at this <;> simp at this
    have hr0 := hr
    rcases hr with rfl | ⟨c, b, rfl, hcd⟩
    · refine .inl ⟨(dv a : Int), 1, by omega, ?_, fun u w hu hs hp => ?_, fun s u w hu hs h45 => ⟨fun hz => ?_, fun hz => ?_⟩⟩
      · rw [mkQ_one, List.append_nil]
        exact .inl ⟨ha, hc, rfl⟩
      · exact qp_int_pos u _ a [] hs (by rw [hu]; exact hp) hu rfl ha hr0 (hne hu) hc rfl
      · exact qp_int_neg s u _ a [] hs (by rw [hu]; exact h45) hu rfl ha hr0 hc rfl (by omega)
      · exact qp_int_neg0 s u _ a [] hs (by rw [hu]; exact h45) hu rfl ha hr0 hc rfl (by omega)
    · by_cases h46 : c = 46
      · subst h46
        by_cases hb : Digs b
        · by_cases hbn : b = []
          · refine .inr ⟨fun q hq => ?_, fun u w hu hs hp => ?_, fun s u w hu hs h45 => ?_⟩
            · exact ((ups_dot (ha.not_mem not_dig46)).1 hq).2.2.2.1 hbn
            · exact qp_d1_pos u _ a _ hs (by rw [hu]; exact hp) hu rfl ha hr0 (hne hu) hc b rfl hbn
            · exact qp_d1_neg s u _ a _ hs (by rw [hu]; exact h45) hu rfl ha hr0 hc b rfl hbn
          · have hy : (0 : Int) < ((10 ^ b.length : Nat) : Int) := by have := Nat.pow_pos (n := b.length) (show 0 < 10 by decide); omega
            refine .inl ⟨(dv (a ++ b) : Int), ((10 ^ b.length : Nat) : Int), hy, ?_, fun u w hu hs hp => ?_, fun s u w hu hs h45 => ⟨fun hz => ?_, fun hz => ?_⟩⟩
            · exact (ups_dot (ha.not_mem not_dig46)).2 ⟨ha, hc, hb, hbn, rfl⟩
            · exact qp_dec_pos u _ a _ hs (by rw [hu]; exact hp) hu rfl ha hr0 (hne hu) hc b rfl hb hbn
            · exact qp_dec_neg s u _ a _ hs (by rw [hu]; exact h45) hu rfl ha hr0 hc b rfl hb hbn (by omega)
            · exact qp_dec_neg0 s u _ a _ hs (by rw [hu]; exact h45) hu rfl ha hr0 hc b rfl hb hbn (by omega)
        · obtain ⟨a', r', hbe, ha', hr'⟩ := digits_split b
          have hrn : r' ≠ [] := by
            intro h
            rw [h, List.append_nil] at hbe
            exact hb (hbe ▸ ha')
          refine .inr ⟨fun q hq => ?_, fun u w hu hs hp => ?_, fun s u w hu hs h45 => ?_⟩
          · exact hb ((ups_dot (ha.not_mem not_dig46)).1 hq).2.2.1
          · exact qp_d2_pos u _ a _ hs (by rw [hu]; exact hp) hu rfl ha hr0 (hne hu) hc b rfl a' r' hbe ha' hr' hrn
          · exact qp_d2_neg s u _ a _ hs (by rw [hu]; exact h45) hu rfl ha hr0 hc b rfl a' r' hbe ha' hr' hrn
      · by_cases h47 : c = 47
        · subst h47
          by_cases hb : Digs b
          · cases hbb : b with
            | nil =>
              rw [← hbb]
              rw [hbb] at hb
              refine .inr ⟨fun q hq => ?_, fun u w hu hs hp => ?_, fun s u w hu hs h45 => ?_⟩
              · obtain ⟨_, _, _, h4, _⟩ := (ups_slash' ha).1 hq
                rw [hbb] at h4
                rcases h4 with h | ⟨_, _, h, _⟩ <;> cases h
              · exact qp_d3_pos u _ a _ hs (by rw [hu]; exact hp) hu rfl ha hr0 (hne hu) hc b rfl hbb
              · exact qp_d3_neg s u _ a _ hs (by rw [hu]; exact h45) hu rfl ha hr0 hc b rfl hbb
            | cons x t =>
              rw [← hbb]
              by_cases hx : x = 48
              · subst hx
                refine .inr ⟨fun q hq => ?_, fun u w hu hs hp => ?_, fun s u w hu hs h45 => ?_⟩
                · obtain ⟨_, _, _, h4, _, h6, _⟩ := (ups_slash' ha).1 hq
                  rw [hbb] at h4 h6
                  rcases h4 with h | ⟨_, _, h, h'⟩
                  · rw [h] at h6; exact absurd h6 (by decide)
                  · injection h with h _; exact h' h.symm
                · exact qp_d5_pos u _ a _ hs (by rw [hu]; exact hp) hu rfl ha hr0 (hne hu) hc b rfl hb t hbb
                · exact qp_d5_neg s u _ a _ hs (by rw [hu]; exact h45) hu rfl ha hr0 hc b rfl hb t hbb
              · have hbc : Canon b := .inr ⟨x, t, hbb, hx⟩
                have hb48 : ∀ t, b ≠ 48 :: t := fun t' h => by
                  rw [hbb] at h
                  injection h with h _
                  exact hx h
                have hbn : b ≠ [] := by rw [hbb]; simp
                have hbp : 0 < dv b := by
                  rw [hbb] at hb ⊢
                  exact dv_pos hb hx
                by_cases h1 : (dv b : Int) = 1
                · refine .inr ⟨fun q hq => ?_, fun u w hu hs hp => ?_, fun s u w hu hs h45 => ?_⟩
                  · obtain ⟨_, _, _, _, h5, _⟩ := (ups_slash' ha).1 hq
                    apply h5
                    rw [← dec_canon hb hbc, show dv b = 1 by omega]
                    decide +kernel
                  · exact qp_quo_pos1 u _ a _ hs (by rw [hu]; exact hp) hu rfl ha hr0 (hne hu) hc b rfl hb hbn hbc hb48 h1
                  · exact qp_quo_neg1 s u _ a _ hs (by rw [hu]; exact h45) hu rfl ha hr0 hc b rfl hb hbn hbc hb48 h1
                · by_cases h2 : Nat.gcd (dv a) (dv b) = 1
                  · have hq : mkQ (dv a : Int) (dv b : Int) = mkRat (dv a : Int) (dv b) := by
                      rw [mkQ_pos (by omega), Int.natAbs_natCast]
                    refine .inl ⟨(dv a : Int), (dv b : Int), by omega, ?_, fun u w hu hs hp => ?_, fun s u w hu hs h45 => ⟨fun hz => ?_, fun hz => ?_⟩⟩
                    · rw [hq]
                      refine (ups_slash' ha).2 ⟨ha, hc, hb, hbc, fun e => ?_, hbp, h2, rfl⟩
                      apply h1
                      rw [e]
                      rfl
                    · exact qp_quo_pos u _ a _ hs (by rw [hu]; exact hp) hu rfl ha hr0 (hne hu) hc b rfl hb hbn hbc hb48 h1 h2
                    · exact qp_quo_neg s u _ a _ hs (by rw [hu]; exact h45) hu rfl ha hr0 hc b rfl hb hbn hbc hb48 h1 h2 (by omega)
                    · exfalso
                      rw [show dv a = 0 by omega, Nat.gcd_zero_left] at h2
                      omega
                  · refine .inr ⟨fun q hq => ?_, fun u w hu hs hp => ?_, fun s u w hu hs h45 => ?_⟩
                    · exact h2 ((ups_slash' ha).1 hq).2.2.2.2.2.2.1
                    · exact qp_quo_pos2 u _ a _ hs (by rw [hu]; exact hp) hu rfl ha hr0 (hne hu) hc b rfl hb hbn hbc hb48 h1 h2
                    · exact qp_quo_neg2 s u _ a _ hs (by rw [hu]; exact h45) hu rfl ha hr0 hc b rfl hb hbn hbc hb48 h1 h2
          · obtain ⟨a', r', hbe, ha', hr'⟩ := digits_split b
            have hrn : r' ≠ [] := by
              intro h
              rw [h, List.append_nil] at hbe
              exact hb (hbe ▸ ha')
            refine .inr ⟨fun q hq => ?_, fun u w hu hs hp => ?_, fun s u w hu hs h45 => ?_⟩
            · exact hb ((ups_slash' ha).1 hq).2.2.1
            · exact qp_d4_pos u _ a _ hs (by rw [hu]; exact hp) hu rfl ha hr0 (hne hu) hc b rfl a' r' hbe ha' hr' hrn
            · exact qp_d4_neg s u _ a _ hs (by rw [hu]; exact h45) hu rfl ha hr0 hc b rfl a' r' hbe ha' hr' hrn
        · refine .inr ⟨fun q => ups_other ha hcd h46 h47, fun u w hu hs hp => ?_, fun s u w hu hs h45 => ?_⟩
          · exact qp_d6_pos u _ a _ hs (by rw [hu]; exact hp) hu rfl ha hr0 (hne hu) hc b c rfl h46 h47
          · exact qp_d6_neg s u _ a _ hs (by rw [hu]; exact h45) hu rfl ha hr0 hc b c rfl h46 h47
  · refine .inr ⟨fun q hq => hc (ups_head ha hr hq).1, ?_⟩
    match a, ha, hc with
    | [], ha, hc =>
      refine ⟨fun u w hu hs hp => ?_, fun s u w hu hs h45 => ?_⟩
      · by_cases h0 : u.data.toList = []
        · exact qp_e_pos u _ [] r hs (by rw [hu]; exact hp) hu rfl ha hr h0 rfl
        · exact qp_0_pos u _ [] r hs (by rw [hu]; exact hp) hu rfl ha hr h0 rfl
      · exact qp_0_neg s u _ [] r hs (by rw [hu]; exact h45) hu rfl ha hr rfl
    | x :: t, ha, hc =>
      have hx : x = 48 := Classical.byContradiction fun h => hc (.inr ⟨x, t, rfl, h⟩)
      subst hx
      have ht : t ≠ [] := by rintro rfl; exact hc (.inl rfl)
      have hlt := List.length_pos_iff.2 ht
      have h48 : ∀ {u : ByteArray}, u.data.toList = 48 :: t ++ r → ∀ hk : 0 < u.size, u[0].toNat = 48 := by
        intro u hu hk
        obtain ⟨_, g1, _⟩ := get0 (s := u) (c := 48) (t := t ++ r) hu
        rw [g1]; rfl
      refine ⟨fun u w hu hs hp => ?_, fun s u w hu hs h45 => ?_⟩
      · exact qp_c_pos u _ (48 :: t) r hs (by rw [hu]; exact hp) hu rfl ha hr (by rw [hu]; simp) (by rw [List.length_cons]; omega) (h48 hu)
      · exact qp_c_neg s u _ (48 :: t) r hs (by rw [hu]; exact h45) hu rfl ha hr (by rw [List.length_cons]; omega) (h48 hu)
theorem q_ParseR {w : World} (s : ByteArray) (hs : s.size ≤ 200) : Calls Tryz.prog 50 #[.string s] w (RetRP s.data.toList 1000 w) := by
  by_cases hn : ∃ t, s.data.toList = 45 :: t
  · obtain ⟨t, ht⟩ := hn
    obtain ⟨u, hu⟩ : ∃ u : ByteArray, u.data.toList = t := ⟨⟨t.toArray⟩, rfl⟩
    rcases q_unsigned t with ⟨z, y, hy, hq, _, hg⟩ | ⟨hq, _, hg⟩
    · have h := hg s u w hu hs ht
      by_cases hz : z = 0
      · refine (h.2 hz).mono fun e w' h => .inr ⟨fun p hp => ?_, h⟩
        rw [ht, rps_neg] at hp
        have := hq.fun hp.2
        rw [(mkQ_zero hy).2 hz] at this
        exact hp.1 (by rw [← Rat.neg_neg p, ← this]; rfl)
      · refine (h.1 hz).mono fun e w' h => .inl ⟨mkQ (-z) y, ?_, h⟩
        rw [ht, rps_neg]
        refine ⟨fun h0 => hz ?_, ?_⟩
        · have := (mkQ_zero hy).1 h0
          omega
        · rw [mkQ_neg hy, Rat.neg_neg]; exact hq
    · refine (hg s u w hu hs ht).mono fun e w' h => .inr ⟨fun p hp => ?_, h⟩
      rw [ht, rps_neg] at hp
      exact hq _ hp.2
  · have hp : ∀ t, s.data.toList ≠ 45 :: t := fun t h => hn ⟨t, h⟩
    rcases q_unsigned s.data.toList with ⟨z, y, hy, hq, hg, _⟩ | ⟨hq, hg, _⟩
    · exact (hg s w rfl hs hp).mono fun e w' h => .inl ⟨_, (rps_pos hp).2 hq, h⟩
    · exact (hg s w rfl hs hp).mono fun e w' h => .inr ⟨fun p h' => hq _ ((rps_pos hp).1 h'), h⟩
end Go.Proofs.YtiioodgpkdbndaaGreatDoor
namespace Go.Proofs.YtiioodgpkdbndaaGreatDoor
open Go.RowKit
attribute [local go_sem ↓] Go.wp_at_zero Go.wp_at_succ
section
variable {w w' : World} {q p r : Rat} {L : Nat} {s t s' t' u u' : Bool} {A B A' B' C D : Option Addr} {n c m d n' c' m' d' l e0 l' e' : Nat} {xs ys xs' ys' zs zs' : List Nat}
set_option maxHeartbeats 16000000 in
set_option maxRecDepth 100000 in
theorem parse2_ok (hA : Awake2) (hT : Tab w) (hP : TabP w) (x : ByteArray) (hs : x.size ≤ 200) (hq : RPS x.data.toList q) :
    Calls Tryz.prog 11 #[.string x] w fun e w' => e = .returned (.bool true) ∧ Ext w w' := by
  have HQ := Lib.hid hq
  clear hq
  have HA := Lib.hid hA
  clear hA
  have t1 : decide ((200 : Int) < (x.size : Int)) = false := decide_eq_false (by omega)
  go_enter Tryz.func11, Tryz.ntmps11
  have extW := Ext.refl w
  go_wp2_with fail
  refine (HA.out _ hT hP).mono ?_
  rintro e W ⟨rfl, hxt⟩
  replace extW := extW.trans hxt
  clear hxt
  go_wp2_with fail
  refine (p_ParseR x (by omega) (hT.ext extW)).mono ?_
  intro e wa hps
  obtain ⟨s3, A3, n3, c3, t3, B3, m3, d3, rfl, r3, hx⟩ : RetNRE q 1000 W e wa := by
    rcases hps with ⟨q', hq', hh⟩ | ⟨hn, hh⟩
    · rw [HQ.out.fun hq']; exact hh
    · exact absurd HQ.out (hn _)
  clear hps
  go_upto_region 4 with (fail)
  refine at_world (fun V => Ext W V ∧ Box V wa.heap.size 27 #[.bool s3, .slice A3 n3 c3, .bool t3, .slice B3 m3 d3] ∧ NR V q 1000 s3 A3 n3 c3 t3 B3 m3 d3) ⟨hx.alloc _, Box.new wa _ _, r3.ext ((Ext.refl wa).alloc _)⟩ ?_
  generalize wa.heap.size = g3
  clear hx r3
  rintro V ⟨EV, b3, r3⟩
  replace extW := extW.trans EV
  clear EV
  go_wp2_with fail
  refine (q_ParseR x hs).mono ?_
  intro e wb hps
  obtain ⟨s4, A4, n4, c4, t4, B4, m4, d4, rfl, r4, hx⟩ : RetNRE q 1000 V e wb := by
    rcases hps with ⟨q', hq', hh⟩ | ⟨hn, hh⟩
    · rw [HQ.out.fun hq']; exact hh
    · exact absurd HQ.out (hn _)
  clear hps
  go_upto_region 5 with (fail)
  refine at_world (fun U => Ext V U ∧ Box U wb.heap.size 27 #[.bool s4, .slice A4 n4 c4, .bool t4, .slice B4 m4 d4] ∧ NR U q 1000 s4 A4 n4 c4 t4 B4 m4 d4) ⟨hx.alloc _, Box.new wb _ _, r4.ext ((Ext.refl wb).alloc _)⟩ ?_
  generalize wb.heap.size = g5
  clear hx r4
  rintro U ⟨EV, b5, r4⟩
  replace b3 := b3.ext EV
  replace r3 := r3.ext EV
  replace extW := extW.trans EV
  clear EV
  have b30 := b3.cell 0 (.bool s3) rfl
  have b31 := b3.cell 1 (.slice A3 n3 c3) rfl
  have b32 := b3.cell 2 (.bool t3) rfl
  have b33 := b3.cell 3 (.slice B3 m3 d3) rfl
  have b50 := b5.cell 0 (.bool s4) rfl
  have b51 := b5.cell 1 (.slice A4 n4 c4) rfl
  have b52 := b5.cell 2 (.bool t4) rfl
  have b53 := b5.cell 3 (.slice B4 m4 d4) rfl
  go_wp2_with fail
  refine (q_Same r3 r4).mono ?_
  rintro e we ⟨rfl, hxe⟩
  go_wp2_with fail
  go_ret
  exact ⟨rfl, extW.trans hxe⟩
set_option maxHeartbeats 16000000 in
set_option maxRecDepth 100000 in
theorem parse2_bad (hA : Awake2) (hT : Tab w) (hP : TabP w) (x : ByteArray) (hs : x.size ≤ 200) (hq : ∀ q, ¬ RPS x.data.toList q) :
    Calls Tryz.prog 11 #[.string x] w fun e w' => e = .returned (.bool true) ∧ Ext w w' := by
  have HQ := Lib.hid hq
  clear hq
  have HA := Lib.hid hA
  clear hA
  have t1 : decide ((200 : Int) < (x.size : Int)) = false := decide_eq_false (by omega)
  go_enter Tryz.func11, Tryz.ntmps11
  have extW := Ext.refl w
  go_wp2_with fail
  refine (HA.out _ hT hP).mono ?_
  rintro e W ⟨rfl, hxt⟩
  replace extW := extW.trans hxt
  clear hxt
  go_wp2_with fail
  refine (p_ParseR x (by omega) (hT.ext extW)).mono ?_
  intro e wa hps
  obtain ⟨rfl, hx⟩ : RetZE 2 W e wa := by
    rcases hps with ⟨q', hq', hh⟩ | ⟨hn, hh⟩
    · exact absurd hq' (HQ.out _)
    · exact hh
  clear hps
  go_upto_region 4 with (fail)
  refine at_world (fun V => Ext W V ∧ Box V wa.heap.size 27 #[Value.bool false, Value.slice none 0 0, Value.bool false, Value.slice none 0 0]) ⟨hx.alloc _, Box.new wa _ _⟩ ?_
  generalize wa.heap.size = g3
  clear hx 
  rintro V ⟨EV, b3⟩
  replace extW := extW.trans EV
  clear EV
  go_wp2_with fail
  refine (q_ParseR x hs).mono ?_
  intro e wb hps
  obtain ⟨rfl, hx⟩ : RetZE 2 V e wb := by
    rcases hps with ⟨q', hq', hh⟩ | ⟨hn, hh⟩
    · exact absurd hq' (HQ.out _)
    · exact hh
  clear hps
  go_upto_region 5 with (fail)
  refine at_world (fun U => Ext V U ∧ Box U wb.heap.size 27 #[Value.bool false, Value.slice none 0 0, Value.bool false, Value.slice none 0 0]) ⟨hx.alloc _, Box.new wb _ _⟩ ?_
  generalize wb.heap.size = g5
  clear hx 
  rintro U ⟨EV, b5⟩
  replace b3 := b3.ext EV
  replace extW := extW.trans EV
  clear EV
  have b30 := b3.cell 0 (.bool false) rfl
  have b31 := b3.cell 1 (.slice none 0 0) rfl
  have b32 := b3.cell 2 (.bool false) rfl
  have b33 := b3.cell 3 (.slice none 0 0) rfl
  go_wp2_with fail
  go_ret
  exact ⟨rfl, extW⟩
set_option maxHeartbeats 2000000 in
theorem parse2_no (hA : Awake2) (hT : Tab w) (hP : TabP w) (x : ByteArray) (hs : ¬ x.size ≤ 200) :
    Calls Tryz.prog 11 #[.string x] w fun e w' => e = .returned (.bool true) ∧ Ext w w' := by
  have HA := Lib.hid hA
  clear hA
  have t1 : decide ((200 : Int) < (x.size : Int)) = true := decide_eq_true (by omega)
  go_enter Tryz.func11, Tryz.ntmps11
  have extW := Ext.refl w
  go_wp2_with fail
  refine (HA.out _ hT hP).mono ?_
  rintro e W ⟨rfl, hxt⟩
  replace extW := extW.trans hxt
  clear hxt
  go_wp2_with fail
  refine (HA.out _ (hT.ext extW) (hP.ext extW)).mono ?_
  rintro e W2 ⟨rfl, hxt⟩
  go_wp2_with fail
  go_ret
  exact ⟨rfl, extW.trans hxt⟩
theorem parse2_any (hA : Awake2) (hT : Tab w) (hP : TabP w) (x : ByteArray) :
    Calls Tryz.prog 11 #[.string x] w fun e w' => e = .returned (.bool true) ∧ Ext w w' := by
  by_cases hs : x.size ≤ 200
  · by_cases hq : ∃ q, RPS x.data.toList q
    · obtain ⟨q, hq⟩ := hq
      exact parse2_ok hA hT hP x hs hq
    · exact parse2_bad hA hT hP x hs fun q h => hq ⟨q, h⟩
  · exact parse2_no hA hT hP x hs
end
end Go.Proofs.YtiioodgpkdbndaaGreatDoor
namespace Go.Proofs.YtiioodgpkdbndaaGreatDoor
open Go.ChangeShapes Go.WideShapes Go.ChangeAt Go.RowKit Go.Joins
set_option maxRecDepth 100000
theorem parse2_laid : Rows.rationalParseRow.laid = laidR := by kernel_rfl
theorem parse2_lifted (os : Os) (started : os.Started) (H : Type) (enc : TypeId × Value → H) :
    ReturnsInHanded {} Tryz.checked os 11 .any (fun w args => (Rows.rationalParseSpec.pre enc Tryz.prog Tryz.f11 [] false w args ∧ laidMetH Tryz.prog Rows.rationalParseRow.laid w) ∧ sizedMet enc Tryz.prog Tryz.f11 (OpenSpec.ofChange Rows.rationalParseSpec) false w args)
      (Rows.rationalParseSpec.post enc Tryz.prog Tryz.f11 false true false false) := by
  refine returnsInHanded_of_change_and (C := Tryz.checked) (X := fun w _ => laidMetH Tryz.prog Rows.rationalParseRow.laid w) (fun _ _ _ hh h => h.of_heap hh) Tryz.own started (by kernel_rfl) Tryz.func11
    (ChangeSpec.witness_shaped (enc := enc) (C := Tryz.checked) (os := os) (X := fun w _ => laidMetH Tryz.prog Rows.rationalParseRow.laid w) false (World.laidAll Tryz.prog os Rows.rationalParseRow.laid) #[.string ⟨#[]⟩] 8 (World.laidAll_os _ _ _)
      (World.shaped_of_ZipB (by kernel_rfl) (by kernel_rfl)) (by kernel_rfl) (by kernel_rfl) (by kernel_rfl)
      (by rw [MakeChecks.laidMetH_plain _ _ _ (by kernel_rfl)]; exact laidMet_laidAll _ (by kernel_rfl) (by kernel_rfl))) ?_
  intro W base args ds gs before hval0 hW _ _ hL _
  have hval : ∀ (j : Nat) t v, Tryz.f11.params[j]? = some t → args[j]? = some v → Value.okWide Tryz.prog W .any base t v := hval0
  have hW' := hW
  have hlt : ∀ p ∈ before, p.block < W.heap.size := fun p hp => hW.lt p hp
  obtain ⟨p, q, hA0, hV, rfl, _, _⟩ := hW
  have hA : DataW.TrodAll enc Tryz.prog W 0 (fun _ => true) true Tryz.f11.params.toList args.toList ds p := hA0
  rw [Tryz.params11] at hA hval
  obtain ⟨v0, d0, rfl, rfl, h0⟩ := trodAll_one hA
  obtain ⟨rfl, rfl⟩ := trodVars_none hV
  simp only [List.append_nil] at hW' hlt
  obtain ⟨str, rfl, _, _, _⟩ := Go.ChangeMaps.open_string Tryz.underlying9 (hval 0 9 v0 rfl rfl) h0
  clear hA0 hval0
  rw [parse2_laid] at hL
  obtain ⟨hT, hP⟩ := tabs_of_laid hL
  refine (parse2_any awake2 hT hP str).mono fun e W' ⟨he, hext⟩ => ?_
  subst he
  have hb : Below W.heap.size W W' := hext
  have g0 := Below.trod Tryz.laidOut (by kernel_rfl) (of_decide_eq_true (by kernel_rfl)) h0 hb (fun p hp => hlt p hp)
  exact ⟨_, rfl, _, _, _, [], p, [], hW', trodAll_mk1 (shut_bool Tryz.underlying4 true), trodAll_mk1 g0, rfl, Below.frame hb _, fun h => by cases h⟩
theorem parse2_row_holds : Rows.RationalParseSaid :=
  OpenClaim.holds_of_wide 11 Tryz.f11 rfl rfl rfl rfl rfl rfl rfl ⟨rfl, rfl, rfl, rfl, rfl⟩ rfl rfl rfl rfl rfl (by kernel_rfl) Tryz.func11 (by kernel_rfl)
    (of_decide_eq_true (by kernel_rfl)) (by unfold Func.isWrapper; first | (rw [if_neg (of_decide_eq_false (by kernel_rfl))]; exact ⟨rfl, rfl⟩) | (rw [if_pos (by decide +kernel)]; kernel_rfl))
    (fun os started H enc _ => parse2_lifted os started H enc)
theorem parse2_holds : Rows.RationalParseCardSaid :=
  Claim7.holds_tied_plain_at .later [] [.data, .data, .data, .data, .pinned] true Rows.rationalParseCard.stood.harness false
    parse2_row_holds (fun _ h => by cases h) (by kernel_rfl) (fun _ h => by cases h) rationalParse_row_tie rfl ⟨rfl, rfl⟩ (by kernel_rfl) rfl
    (fun f fn hf hfn => by
      obtain rfl : f = 11 := Option.some.inj ((show Tryz.prog.funcNamed "setsquare/setsquarelaw02.RationalParse" = some 11 by kernel_rfl).symm.trans hf) |>.symm
      obtain rfl : fn = Tryz.f11 := (Option.some.inj (Tryz.func11.symm.trans hfn)).symm
      exact ⟨by kernel_rfl, fun j t ht => by
        rw [Tryz.params11] at ht
        have hm : t ∈ [9] := by simpa using Array.mem_of_getElem? ht
        have hall : ([9].all fun u => !Tryz.prog.wantsStandIn u) = true := by kernel_rfl
        exact (show Tryz.prog.wantsStandIn t = false by simpa using List.all_eq_true.1 hall t hm)⟩)
    (by kernel_rfl)
end Go.Proofs.YtiioodgpkdbndaaGreatDoor
