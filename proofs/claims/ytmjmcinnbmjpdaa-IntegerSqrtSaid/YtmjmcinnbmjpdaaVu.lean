/- The walk of the law IntegerSqrt. -/
import Derived.Test.YtmjmcinnbmjpdaaVs
import Derived.Test.YtmjmcinnbmjpdaaWx
namespace Go.Proofs.Ytmjmcinnbmjpdaa
open Go.RowKit
attribute [local go_sem ↓] Go.wp_at_zero Go.wp_at_succ
section
variable {A B : Option Addr} {c d n m : Nat} {xs ys : List Nat} {w : World} {s t : Bool}
set_option maxHeartbeats 4000000 in
theorem sqrt_neg (hn : xs.length = n) (hx : Rd w A xs) (hc : n ≤ c) (hcm : c ≤ maxLen) (h1 : n ≤ 20) (hneg : ival s xs < 0) :
    Calls Try.prog 8 #[.agg #[.bool s, .slice A n c]] w fun e w' => e = .returned (.bool true) ∧ Ext w w' := by
  have hsg := sign_lt hneg
  have Hn := Lib.hid hn
  have HA := Lib.hid awake
  clear hn
  go_enter Try.func8, Try.ntmps8
  go_upto_region 1 with (fail)
  obtain ⟨W0, hW, extW, bx, hz⟩ := box1 w 24 #[.bool s, .slice A n c]
  rw [← hW]
  clear hW
  go_wp2_with fail
  refine (HA.out _).mono ?_
  rintro e W ⟨rfl, hxt⟩
  replace extW := extW.trans hxt
  replace bx := bx.ext hxt
  clear hxt hz
  have x0 := bx.cell 0 (.bool s) rfl
  have x1 := bx.cell 1 (.slice A n c) rfl
  have hnb := Box.new W 24 #[.bool s, .slice A n c]
  have e1 := (Ext.refl W).alloc (.cells #[.bool s, .slice A n c] 24)
  go_wp2_with fail
  refine (small_yes1 hnb h1).mono ?_
  rintro e W1 ⟨rfl, hxt⟩
  have ES := e1.trans hxt
  clear hnb e1 hxt x0 x1
  have x0 := (bx.ext ES).cell 0 (.bool s) rfl
  have x1 := (bx.ext ES).cell 1 (.slice A n c) rfl
  go_wp2_with fail
  refine (law_cp Hn.out (hx.ext (extW.trans ES)) (by omega)).mono ?_
  rintro e w2 ⟨A1, c1, rfl, hr1, hc1, hm1, hxt⟩
  replace ES := ES.trans hxt
  clear hxt x0 x1
  go_wp2_with fail
  refine (int_Sqrt_neg rfl hr1 hc1 hm1 (by have := Hn.out; omega) hneg).mono ?_
  rintro e w3 ⟨b3, A3, c3, rs, rfl, hr3, hc3, hm3, hi3, hl3, hxt⟩
  have hl3' : rs.length ≤ 30 := by have := Hn.out; omega
  replace ES := ES.trans hxt
  clear hxt hr1 hc1 hm1 hl3
  go_upto_region 4 with (fail)
  refine at_world (fun V => Ext W V ∧ Box V w3.heap.size 24 #[.bool b3, .slice A3 rs.length c3] ∧ Rd V A3 rs ∧ Box V w.heap.size 24 #[.bool s, .slice A n c] ∧ Rd V A xs) ⟨ES.alloc _, Box.new w3 _ _, hr3.ext ((Ext.refl w3).alloc _), (bx.ext ES).ext ((Ext.refl w3).alloc _), (hx.ext (extW.trans ES)).ext ((Ext.refl w3).alloc _)⟩ ?_
  generalize w3.heap.size = gr
  clear ES hr3
  rintro W4 ⟨ES, xr, hr3, xa, hxa⟩
  have x0 := xa.cell 0 (.bool s) rfl
  have x1 := xa.cell 1 (.slice A n c) rfl
  go_wp2_with fail
  refine (ref_Sign Hn.out hxa hc hcm (by omega)).mono ?_
  rintro e w5 ⟨rfl, ET⟩
  rw [hsg]
  clear x0 x1
  have r0 := (xr.ext ET).cell 0 (.bool b3) rfl
  have r1 := (xr.ext ET).cell 1 (.slice A3 rs.length c3) rfl
  go_wp2_with fail
  refine (law_same_int (m := 0) rfl rfl (hr3.ext ET) (Rd.nil _ _) (by omega) hi3 (IsInt.nil false)).mono ?_
  rintro e w6 ⟨rfl, hxt⟩
  go_wp2_with fail
  go_ret
  exact ⟨rfl, (extW.trans ES).trans (ET.trans hxt)⟩
theorem sq_signs {v z : Nat} {V Z N : Int} (hV : V = v) (hZ : Z = z) (hN : N = Z + 1) (h1 : z * z ≤ v) (h2 : v < (z + 1) * (z + 1)) : (∃ S, (Z * Z - V).sign = S ∧ decide (S ≤ 0) = true) ∧ (∃ S, (N * N - V).sign = S ∧ decide (0 < S) = true) := by
  subst hV; subst hN; subst hZ
  have a : (z : Int) * (z : Int) - (v : Int) ≤ 0 := by
    have : ((z * z : Nat) : Int) ≤ (v : Int) := by exact_mod_cast h1
    rw [Int.natCast_mul] at this
    omega
  have b : 0 < ((z : Int) + 1) * ((z : Int) + 1) - (v : Int) := by
    have : (v : Int) < (((z + 1) * (z + 1) : Nat) : Int) := by exact_mod_cast h2
    rw [Int.natCast_mul, Int.natCast_add] at this
    simp only [Int.natCast_one] at this
    omega
  refine ⟨⟨_, rfl, ?_⟩, ⟨_, rfl, ?_⟩⟩
  · rcases Int.lt_or_eq_of_le a with h | h
    · rw [Int.sign_eq_neg_one_of_neg h]; rfl
    · rw [h]; rfl
  · rw [Int.sign_eq_one_of_pos b]; rfl
set_option maxHeartbeats 8000000 in
theorem sqrt_pos (hn : xs.length = n) (hx : Rd w A xs) (hc : n ≤ c) (hcm : c ≤ maxLen) (h1 : n ≤ 20) (hpos : 0 ≤ ival s xs) :
    Calls Try.prog 8 #[.agg #[.bool s, .slice A n c]] w fun e w' => e = .returned (.bool true) ∧ Ext w w' := by
  obtain ⟨SG, hsg, dSG⟩ : ∃ SG, (ival s xs).sign = SG ∧ decide (SG < 0) = false := ⟨_, rfl, by rcases sign_ge hpos with h | h <;> rw [h] <;> rfl⟩
  have Hn := Lib.hid hn
  have HA := Lib.hid awake
  clear hn
  go_enter Try.func8, Try.ntmps8
  go_upto_region 1 with (fail)
  obtain ⟨W0, hW, extW, bx, hz⟩ := box1 w 24 #[.bool s, .slice A n c]
  rw [← hW]
  clear hW
  go_wp2_with fail
  refine (HA.out _).mono ?_
  rintro e W ⟨rfl, hxt⟩
  replace extW := extW.trans hxt
  replace bx := bx.ext hxt
  clear hxt hz
  have x0 := bx.cell 0 (.bool s) rfl
  have x1 := bx.cell 1 (.slice A n c) rfl
  have hnb := Box.new W 24 #[.bool s, .slice A n c]
  have e1 := (Ext.refl W).alloc (.cells #[.bool s, .slice A n c] 24)
  go_wp2_with fail
  refine (small_yes1 hnb h1).mono ?_
  rintro e W1 ⟨rfl, hxt⟩
  have ES := e1.trans hxt
  clear hnb e1 hxt x0 x1
  have x0 := (bx.ext ES).cell 0 (.bool s) rfl
  have x1 := (bx.ext ES).cell 1 (.slice A n c) rfl
  go_wp2_with fail
  refine (law_cp Hn.out (hx.ext (extW.trans ES)) (by omega)).mono ?_
  rintro e w2 ⟨A1, c1, rfl, hr1, hc1, hm1, hxt⟩
  replace ES := ES.trans hxt
  clear hxt x0 x1
  go_wp2_with fail
  refine (int_Sqrt_pos rfl hr1 hc1 hm1 (by have := Hn.out; omega) hpos).mono ?_
  rintro e w3 ⟨z, hz1, hz2, b3, A3, c3, rs, rfl, hr3, hc3, hm3, hi3, hl3, hxt⟩
  have Hz1 := Lib.hid hz1
  have Hz2 := Lib.hid hz2
  have Hpos := Lib.hid hpos
  clear hz1 hz2 hpos
  have hl3' : rs.length ≤ 30 := by have := Hn.out; omega
  replace ES := ES.trans hxt
  clear hxt hr1 hc1 hm1 hl3
  go_upto_region 4 with (fail)
  refine at_world (fun V => Ext W V ∧ Box V w3.heap.size 24 #[.bool b3, .slice A3 rs.length c3] ∧ Rd V A3 rs ∧ Box V w.heap.size 24 #[.bool s, .slice A n c] ∧ Rd V A xs) ⟨ES.alloc _, Box.new w3 _ _, hr3.ext ((Ext.refl w3).alloc _), (bx.ext ES).ext ((Ext.refl w3).alloc _), (hx.ext (extW.trans ES)).ext ((Ext.refl w3).alloc _)⟩ ?_
  generalize w3.heap.size = gr
  clear ES hr3
  rintro W4 ⟨ES, xr, hr3, xa, hxa⟩
  have x0 := xa.cell 0 (.bool s) rfl
  have x1 := xa.cell 1 (.slice A n c) rfl
  go_wp2_with fail
  refine (ref_Sign Hn.out hxa hc hcm (by omega)).mono ?_
  rintro e w5 ⟨rfl, ET⟩
  rw [hsg]
  clear x0 x1
  have r0 := (xr.ext ET).cell 0 (.bool b3) rfl
  have r1 := (xr.ext ET).cell 1 (.slice A3 rs.length c3) rfl
  have Hvb := Lib.hid (validB_int hi3)
  obtain ⟨SZ, hzs, dSZ⟩ : ∃ SZ, (ival b3 rs).sign = SZ ∧ decide (0 ≤ SZ) = true := ⟨_, rfl, by rw [hi3.eq]; rcases sign_ge (z := (z : Int)) (by omega) with h | h <;> rw [h] <;> rfl⟩
  have Hzs := Lib.hid hzs
  clear hzs hsg
  have hsz5 := ET.size
  go_wp2_with fail
  go_cut [5] (fun p V => ∃ gn b5 A5 c5 ns, p = .pointer (some ⟨gn, 0, none⟩) ∧ Ext W4 V ∧ Box V gn 24 #[.bool b5, .slice A5 (List.length ns) c5] ∧ Rd V A5 ns ∧ ns.length ≤ c5 ∧ c5 ≤ maxLen ∧ IsInt ((z : Int) + 1) b5 ns ∧ ns.length ≤ 40)
  case first =>
    go_region_held3 (fun w' => w'.cell? ⟨w.heap.size, 0, none⟩ = some (.bool s) ∧ w'.cell? ⟨w.heap.size, 1, none⟩ = some (.slice A n c) ∧ w'.cell? ⟨gr, 0, none⟩ = some (.bool b3) ∧ w'.cell? ⟨gr, 1, none⟩ = some (.slice A3 rs.length c3)) (first | exact ⟨(xa.ext ET).cell 0 _ rfl, (xa.ext ET).cell 1 _ rfl, (xr.ext ET).cell 0 _ rfl, (xr.ext ET).cell 1 _ rfl⟩ | exact ⟨(xa.ext ET.drew).cell 0 _ rfl, (xa.ext ET.drew).cell 1 _ rfl, (xr.ext ET.drew).cell 0 _ rfl, (xr.ext ET.drew).cell 1 _ rfl⟩ | exact ⟨(xa.ext (ET.alloc _)).cell 0 _ rfl, (xa.ext (ET.alloc _)).cell 1 _ rfl, (xr.ext (ET.alloc _)).cell 0 _ rfl, (xr.ext (ET.alloc _)).cell 1 _ rfl⟩ | exact ⟨(xa.ext (ET.drew.alloc _)).cell 0 _ rfl, (xa.ext (ET.drew.alloc _)).cell 1 _ rfl, (xr.ext (ET.drew.alloc _)).cell 0 _ rfl, (xr.ext (ET.drew.alloc _)).cell 1 _ rfl⟩ | exact ⟨(xa.ext ((ET.setCell (p := ⟨wk.heap.size, 0, none⟩) hsz _).setCell (p := ⟨wk.heap.size, 1, none⟩) hsz _)).cell 0 _ rfl, (xa.ext ((ET.setCell (p := ⟨wk.heap.size, 0, none⟩) hsz _).setCell (p := ⟨wk.heap.size, 1, none⟩) hsz _)).cell 1 _ rfl, (xr.ext ((ET.setCell (p := ⟨wk.heap.size, 0, none⟩) hsz _).setCell (p := ⟨wk.heap.size, 1, none⟩) hsz _)).cell 0 _ rfl, (xr.ext ((ET.setCell (p := ⟨wk.heap.size, 0, none⟩) hsz _).setCell (p := ⟨wk.heap.size, 1, none⟩) hsz _)).cell 1 _ rfl⟩ | exact ⟨(xa.ext ((ET.setCell (p := ⟨w5.heap.size, 0, none⟩) hsz5 _).setCell (p := ⟨w5.heap.size, 1, none⟩) hsz5 _)).cell 0 _ rfl, (xa.ext ((ET.setCell (p := ⟨w5.heap.size, 0, none⟩) hsz5 _).setCell (p := ⟨w5.heap.size, 1, none⟩) hsz5 _)).cell 1 _ rfl, (xr.ext ((ET.setCell (p := ⟨w5.heap.size, 0, none⟩) hsz5 _).setCell (p := ⟨w5.heap.size, 1, none⟩) hsz5 _)).cell 0 _ rfl, (xr.ext ((ET.setCell (p := ⟨w5.heap.size, 0, none⟩) hsz5 _).setCell (p := ⟨w5.heap.size, 1, none⟩) hsz5 _)).cell 1 _ rfl⟩)
      (first | (go_at_call 25; refine (ref_FromInt 1 (by omega) (by omega)).mono ?_; rintro e wk ⟨b4, A4, c4, qs, rfl, hr4, hc4, hm4, hi4, hl4, hxt⟩; replace ET := (by first | exact ET.trans hxt | exact ET.drew.trans hxt | exact (ET.alloc _).trans hxt | exact (ET.drew.alloc _).trans hxt : Ext W4 _); have hsz := ET.size; first | (have xnb : Box wk w5.heap.size 24 #[Value.bool false, Value.slice none 0 0] := Box.ext (Box.new w5 24 #[Value.bool false, Value.slice none 0 0]) hxt; have n0 := xnb.cell 0 (Value.bool false) rfl; have n1 := xnb.cell 1 (Value.slice none 0 0) rfl; have nf0 := xnb.frozen 0; have nf1 := xnb.frozen 1) | (have xnb : Box wk w5.heap.size 24 #[Value.bool false, Value.slice none 0 0] := Box.ext (Box.new w5.drew 24 #[Value.bool false, Value.slice none 0 0]) hxt; have n0 := xnb.cell 0 (Value.bool false) rfl; have n1 := xnb.cell 1 (Value.slice none 0 0) rfl; have nf0 := xnb.frozen 0; have nf1 := xnb.frozen 1) | skip) | (go_at_call 27; refine (ref_Add rfl rfl (hr3.ext (by first | exact ET | exact ET.drew | exact ET.alloc _ | exact ET.drew.alloc _ | exact (ET.alloc _).drew)) (by first | exact hr4 | exact hr4.ext ((Ext.refl _).alloc _)) hc3 hm3 hc4 hm4 (by omega) (by omega)).mono ?_; rintro e wk2 ⟨b5, A5, c5, ns, rfl, hr5, hc5, hm5, hi5, hl5, hxt⟩; replace ET := (by first | exact ET.trans hxt | exact ET.drew.trans hxt | exact (ET.alloc _).trans hxt | exact (ET.drew.alloc _).trans hxt : Ext W4 _); first | (replace xnb := Box.ext xnb hxt; have n0 := xnb.cell 0 (Value.bool false) rfl; have n1 := xnb.cell 1 (Value.slice none 0 0) rfl; have nf0 := xnb.frozen 0; have nf1 := xnb.frozen 1) | (have xnb : Box wk2 wk.heap.size 24 #[Value.bool false, Value.slice none 0 0] := Box.ext (Box.new wk 24 #[Value.bool false, Value.slice none 0 0]) hxt; have n0 := xnb.cell 0 (Value.bool false) rfl; have n1 := xnb.cell 1 (Value.slice none 0 0) rfl; have nf0 := xnb.frozen 0; have nf1 := xnb.frozen 1) | skip))
    all_goals (go_wp2_with fail; go_meet; rw [hi3.eq, hi4.eq] at hi5; first | exact ⟨_, b5, A5, c5, ns, rfl, ET.alloc _, Box.new _ _ _, hr5.ext ((Ext.refl _).alloc _), hc5, hm5, hi5, by omega⟩ | exact ⟨_, b5, A5, c5, ns, rfl, ET.drew.alloc _, Box.new _ _ _, hr5.ext ((Ext.refl _).drew.alloc _), hc5, hm5, hi5, by omega⟩ | exact ⟨wk.heap.size, b5, A5, c5, ns, rfl, (ET.setCell (p := ⟨wk.heap.size, 0, none⟩) hsz _).setCell (p := ⟨wk.heap.size, 1, none⟩) hsz _, (xnb.setA _).setB _, (fin_pair ET hsz xnb hr5).1, hc5, hm5, hi5, by omega⟩ | exact ⟨w5.heap.size, b5, A5, c5, ns, rfl, (ET.setCell (p := ⟨w5.heap.size, 0, none⟩) hsz5 _).setCell (p := ⟨w5.heap.size, 1, none⟩) hsz5 _, (xnb.setA _).setB _, (fin_pair ET hsz5 xnb hr5).1, hc5, hm5, hi5, by omega⟩)
  case rest =>
    clear r0 r1 ET hsz5
    obtain ⟨gn, b5, A5, c5, ns, rfl, EU, xn, hr5, hc5, hm5, hi5, hl5⟩ := hcut
    replace xr := xr.ext EU
    replace hr3 := hr3.ext EU
    replace xa := xa.ext EU
    replace hxa := hxa.ext EU
    have EX := (extW.trans ES).trans EU
    clear EU ES extW
    have EU := Ext.refl wc
    obtain ⟨⟨SC1, hq1, dc1⟩, ⟨SC2, hq2, dc2⟩⟩ := sq_signs (V := ival s xs) (Z := ival b3 rs) (N := ival b5 ns) (ival_abs Hpos.out) hi3.eq (by rw [hi5.eq, hi3.eq]) Hz1.out Hz2.out
    have Hc1 := Lib.hid hq1
    have Hc2 := Lib.hid hq2
    clear hq1 hq2
    have x0 := xa.cell 0 (.bool s) rfl
    have x1 := xa.cell 1 (.slice A n c) rfl
    have r0 := xr.cell 0 (.bool b3) rfl
    have r1 := xr.cell 1 (.slice A3 rs.length c3) rfl
    have n0 := xn.cell 0 (.bool b5) rfl
    have n1 := xn.cell 1 (.slice A5 ns.length c5) rfl
    go_wp2_with fail
    go_region_held3 (fun w' => w'.cell? ⟨w.heap.size, 0, none⟩ = some (.bool s) ∧ w'.cell? ⟨w.heap.size, 1, none⟩ = some (.slice A n c) ∧ w'.cell? ⟨gr, 0, none⟩ = some (.bool b3) ∧ w'.cell? ⟨gr, 1, none⟩ = some (.slice A3 rs.length c3) ∧ w'.cell? ⟨gn, 0, none⟩ = some (.bool b5) ∧ w'.cell? ⟨gn, 1, none⟩ = some (.slice A5 ns.length c5)) (first | exact ⟨(xa.ext EU).cell 0 _ rfl, (xa.ext EU).cell 1 _ rfl, (xr.ext EU).cell 0 _ rfl, (xr.ext EU).cell 1 _ rfl, (xn.ext EU).cell 0 _ rfl, (xn.ext EU).cell 1 _ rfl⟩ | exact ⟨(xa.ext EU.drew).cell 0 _ rfl, (xa.ext EU.drew).cell 1 _ rfl, (xr.ext EU.drew).cell 0 _ rfl, (xr.ext EU.drew).cell 1 _ rfl, (xn.ext EU.drew).cell 0 _ rfl, (xn.ext EU.drew).cell 1 _ rfl⟩ | exact ⟨(xa.ext (EU.drewN _)).cell 0 _ rfl, (xa.ext (EU.drewN _)).cell 1 _ rfl, (xr.ext (EU.drewN _)).cell 0 _ rfl, (xr.ext (EU.drewN _)).cell 1 _ rfl, (xn.ext (EU.drewN _)).cell 0 _ rfl, (xn.ext (EU.drewN _)).cell 1 _ rfl⟩)
      (first | (go_at_call 19; refine (ref_Valid rfl (hr3.ext (by first | exact EU | exact EU.drew | exact EU.drewN _)) hc3 hm3 (by omega)).mono ?_; rintro e wk ⟨rfl, hxt⟩; rw [Hvb.out]; replace EU := (by first | exact EU.trans hxt | exact EU.drew.trans hxt : Ext wc _)) | (go_at_call 21; refine (ref_Sign rfl (hr3.ext (by first | exact EU | exact EU.drew | exact EU.drewN _)) hc3 hm3 (by omega)).mono ?_; rintro e wk ⟨rfl, hxt⟩; rw [Hzs.out]; replace EU := (by first | exact EU.trans hxt | exact EU.drew.trans hxt : Ext wc _)) | (go_at_call_of 35 A3; refine (ref_Mul rfl rfl (hr3.ext (by first | exact EU | exact EU.drew | exact EU.drewN _)) (hr3.ext (by first | exact EU | exact EU.drew | exact EU.drewN _)) hc3 hm3 hc3 hm3 (by omega) (by omega)).mono ?_; rintro e wk ⟨b6, A6, c6, ms, rfl, hr6, hc6, hm6, hi6, hl6, hxt⟩; replace EU := (by first | exact EU.trans hxt | exact EU.drew.trans hxt : Ext wc _)) | (go_at_call_of 35 A5; refine (ref_Mul rfl rfl (hr5.ext (by first | exact EU | exact EU.drew | exact EU.drewN _)) (hr5.ext (by first | exact EU | exact EU.drew | exact EU.drewN _)) hc5 hm5 hc5 hm5 (by omega) (by omega)).mono ?_; rintro e wk ⟨b7, A7, c7, ms7, rfl, hr7, hc7, hm7, hi7, hl7, hxt⟩; replace EU := (by first | exact EU.trans hxt | exact EU.drew.trans hxt : Ext wc _)) | (go_at_call_of 33 A7; refine (ref_Cmp rfl Hn.out hr7 (hxa.ext (by first | exact EU | exact EU.drew | exact EU.drewN _)) hc7 hm7 hc hcm (by omega) (by omega)).mono ?_; rintro e wk ⟨rfl, hxt⟩; rw [hi7.eq, Hc2.out]; replace EU := (by first | exact EU.trans hxt | exact EU.drew.trans hxt : Ext wc _)) | (go_at_call_of 33 A6; refine (ref_Cmp rfl Hn.out hr6 (hxa.ext (by first | exact EU | exact EU.drew | exact EU.drewN _)) hc6 hm6 hc hcm (by omega) (by omega)).mono ?_; rintro e wk ⟨rfl, hxt⟩; rw [hi6.eq, Hc1.out]; replace EU := (by first | exact EU.trans hxt | exact EU.drew.trans hxt : Ext wc _)))
    go_wp2_with fail
    go_ret
    exact ⟨rfl, EX.trans (by first | exact EU | exact EU.drew | exact EU.drewN _)⟩
set_option maxHeartbeats 1000000 in
theorem sqrt_no (hn : xs.length = n) (hno : ¬ n ≤ 20) :
    Calls Try.prog 8 #[.agg #[.bool s, .slice A n c]] w fun e w' => e = .returned (.bool true) ∧ Ext w w' := by
  have Hn := Lib.hid hn
  have HA := Lib.hid awake
  clear hn
  go_enter Try.func8, Try.ntmps8
  go_upto_region 1 with (fail)
  obtain ⟨W0, hW, extW, bx, hz⟩ := box1 w 24 #[.bool s, .slice A n c]
  rw [← hW]
  clear hW
  go_wp2_with fail
  refine (HA.out _).mono ?_
  rintro e W ⟨rfl, hxt⟩
  replace extW := extW.trans hxt
  replace bx := bx.ext hxt
  clear hxt hz
  have x0 := bx.cell 0 (.bool s) rfl
  have x1 := bx.cell 1 (.slice A n c) rfl
  have hnb := Box.new W 24 #[.bool s, .slice A n c]
  have e1 := (Ext.refl W).alloc (.cells #[.bool s, .slice A n c] 24)
  go_wp2_with fail
  refine (small_no1 hnb hno).mono ?_
  rintro e W1 ⟨rfl, hxt⟩
  have ES := e1.trans hxt
  clear hnb e1 hxt x0 x1
  go_wp2_with fail
  refine (HA.out _).mono ?_
  rintro e W2 ⟨rfl, hxt⟩
  go_wp2_with fail
  go_ret
  exact ⟨rfl, (extW.trans ES).trans hxt⟩
theorem sqrt_any (hn : xs.length = n) (hx : Rd w A xs) (hc : n ≤ c) (hcm : c ≤ maxLen) : Calls Try.prog 8 #[.agg #[.bool s, .slice A n c]] w fun e w' => e = .returned (.bool true) ∧ Ext w w' := by
  by_cases h : n ≤ 20
  · rcases Int.lt_or_le (ival s xs) 0 with h2 | h2
    · exact sqrt_neg hn hx hc hcm h h2
    · exact sqrt_pos hn hx hc hcm h h2
  · exact sqrt_no hn h
end
end Go.Proofs.Ytmjmcinnbmjpdaa
