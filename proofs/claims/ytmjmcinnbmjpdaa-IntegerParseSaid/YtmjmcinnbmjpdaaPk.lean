/- The walk of the law IntegerParse. -/
import Derived.Test.YtmjmcinnbmjpdaaPg
import Derived.Test.YtmjmcinnbmjpdaaWx
namespace Go.Proofs.Ytmjmcinnbmjpdaa
open Go.RowKit
attribute [local go_sem ↓] Go.wp_at_zero Go.wp_at_succ
/-- the integer and the error's number of a text. -/
def PV (l : List UInt8) (z err : Int) : Prop := (PS l z ∧ err = 0) ∨ ((∀ y, ¬ PS l y) ∧ z = 0 ∧ err = 2)
theorem PV.fun {l : List UInt8} {y z e f : Int} (h : PV l y e) (k : PV l z f) : y = z ∧ e = f := by
  rcases h with ⟨h1, rfl⟩ | ⟨h1, rfl, rfl⟩
  · rcases k with ⟨k1, rfl⟩ | ⟨k1, rfl, rfl⟩
    · exact ⟨h1.fun k1, rfl⟩
    · exact absurd h1 (k1 _)
  · rcases k with ⟨k1, rfl⟩ | ⟨k1, rfl, rfl⟩
    · exact absurd k1 (h1 _)
    · exact ⟨rfl, rfl⟩
theorem PSOut.pv {l : List UInt8} {len : Nat} {w w' : World} {e : Ending} (h : PSOut l len w e w') : ∃ z err, PV l z err ∧ RetIE z (max len 0) err w e w' := by
  rcases h with ⟨z, h1, h2⟩ | ⟨h1, h2⟩
  · refine ⟨z, 0, .inl ⟨h1, rfl⟩, ?_⟩
    rwa [Nat.max_zero]
  · refine ⟨0, 2, .inr ⟨h1, rfl, rfl⟩, ?_⟩
    obtain ⟨b, A, c, ys, h1, h2, h3, h4, h5, h6, h7⟩ := h2
    exact ⟨b, A, c, ys, h1, h2, h3, h4, h5, by omega, h7⟩
section
variable {s : ByteArray} {w : World}
set_option maxHeartbeats 4000000 in
theorem law_parse_yes (hs : s.size ≤ 200) : Calls Try.prog 9 #[.string s] w fun e w' => e = .returned (.bool true) ∧ Ext w w' := by
  have HA := Lib.hid awake
  have t1 : decide ((200 : Int) < (s.size : Int)) = false := decide_eq_false (by omega)
  go_enter Try.func9, Try.ntmps9
  go_wp2_with fail
  refine (HA.out _).mono ?_
  rintro e W ⟨rfl, extW⟩
  go_wp2_with fail
  refine (int_Parse (by omega)).mono ?_
  intro e w2 hP
  obtain ⟨z1, e1, hv1, b2, A2, c2, ps, rfl, hr2, hc2, hm2, hi2, hl2, hx2⟩ := hP.pv
  have HV1 := Lib.hid hv1
  clear hP hv1
  go_upto_region 4 with (fail)
  refine at_world (fun V => Ext W V ∧ Box V w2.heap.size 24 #[.bool b2, .slice A2 ps.length c2] ∧ Rd V A2 ps) ⟨hx2.alloc _, Box.new w2 _ _, hr2.ext ((Ext.refl w2).alloc _)⟩ ?_
  generalize w2.heap.size = g3
  clear hx2 hr2
  rintro V ⟨EV, b3, hr2⟩
  go_wp2_with fail
  refine (ref_Parse (by omega)).mono ?_
  intro e w3 hP
  obtain ⟨z2, e2, hv2, b4, A4, c4, qs, rfl, hr4, hc4, hm4, hi4, hl4, hx4⟩ := hP.pv
  obtain ⟨rfl, rfl⟩ := HV1.out.fun hv2
  clear hP hv2 HV1
  go_upto_region 5 with (fail)
  refine at_world (fun U => Ext W U ∧ Box U g3 24 #[.bool b2, .slice A2 ps.length c2] ∧ Box U w3.heap.size 24 #[.bool b4, .slice A4 qs.length c4] ∧ Rd U A2 ps ∧ Rd U A4 qs) ⟨(EV.trans hx4).alloc _, (b3.ext hx4).ext ((Ext.refl w3).alloc _), Box.new w3 _ _, (hr2.ext hx4).ext ((Ext.refl w3).alloc _), hr4.ext ((Ext.refl w3).alloc _)⟩ ?_
  generalize w3.heap.size = g5
  clear EV hx4 b3 hr2 hr4
  rintro U ⟨EU, b3, b5, hr2, hr4⟩
  have p0 := b3.cell 0 _ rfl
  have p1 := b3.cell 1 _ rfl
  have q0 := b5.cell 0 _ rfl
  have q1 := b5.cell 1 _ rfl
  go_wp2_with fail
  refine (law_same_int rfl rfl hr2 hr4 (by omega) hi2 hi4).mono ?_
  rintro e w4 ⟨rfl, hx5⟩
  go_wp2_with fail
  go_ret
  exact ⟨rfl, (extW.trans EU).trans hx5⟩
set_option maxHeartbeats 4000000 in
theorem law_parse_no (hs : 200 < s.size) (_hm : s.size ≤ maxLen) : Calls Try.prog 9 #[.string s] w fun e w' => e = .returned (.bool true) ∧ Ext w w' := by
  have HA := Lib.hid awake
  have t1 : decide ((200 : Int) < (s.size : Int)) = true := decide_eq_true (by omega)
  go_enter Try.func9, Try.ntmps9
  go_wp2_with fail
  refine (HA.out _).mono ?_
  rintro e W ⟨rfl, extW⟩
  go_wp2_with fail
  refine (HA.out _).mono ?_
  rintro e W2 ⟨rfl, hxt⟩
  go_wp2_with fail
  go_ret
  exact ⟨rfl, extW.trans hxt⟩
theorem law_parse (hm : s.size ≤ maxLen) : Calls Try.prog 9 #[.string s] w fun e w' => e = .returned (.bool true) ∧ Ext w w' := by
  by_cases h : s.size ≤ 200
  · exact law_parse_yes h
  · exact law_parse_no (by omega) hm
end
end Go.Proofs.Ytmjmcinnbmjpdaa
