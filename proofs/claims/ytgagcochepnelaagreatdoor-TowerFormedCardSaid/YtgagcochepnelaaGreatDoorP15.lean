/- For every tower with three elements and every number the law TowerFormed returns true: Formed accepts exactly the formed towers and elements, and FromRat, Add, Sub and Mul return empty results for others, and the examples of the chapter hold. Condition: the table math/bits.deBruijn64tab holds what its initialiser lays (tied by the given card). -/
import Derived.Test.YtgagcochepnelaaGreatDoorP0
import Derived.Test.YtgagcochepnelaaGreatDoorP1
import Derived.Test.YtgagcochepnelaaGreatDoorP2
import Derived.Test.YtgagcochepnelaaGreatDoorP3
import Derived.Test.YtgagcochepnelaaGreatDoorP4
import Derived.Test.YtgagcochepnelaaGreatDoorP5
import Derived.Test.YtgagcochepnelaaGreatDoorP6
import Derived.Test.YtgagcochepnelaaGreatDoorP7
import Derived.Test.YtgagcochepnelaaGreatDoorP8
import Derived.Test.YtgagcochepnelaaGreatDoorP9
import Derived.Test.YtgagcochepnelaaGreatDoorP10
import Derived.Test.YtgagcochepnelaaGreatDoorP11
import Derived.Test.YtgagcochepnelaaGreatDoorP12
import Derived.Test.YtgagcochepnelaaGreatDoorP13
import Derived.Test.YtgagcochepnelaaGreatDoorP14
import Derived.Test.YtgagcochepnelaaGreatDoorCards
import Derived.Test.YtgagcochepnelaaGreatDoorTie
import Derived.LaidMore
import Derived.OpenShut
import Derived.Lib.SmallJoins
import Derived.LaidLaws
import Derived.Deep.Slices
import Derived.Lib.LaidTab
import Derived.SevenTiedAt
import Derived.Stop.Joined
set_option linter.unusedSimpArgs false
set_option linter.unusedVariables false
set_option maxHeartbeats 64000000
namespace Go.Proofs.YtgagcochepnelaaGreatDoor
section
open Go.RowKit
attribute [local go_sem ↓] Go.wp_at_zero Go.wp_at_succ
section
variable {w w' : World} {q x : Rat} {L M : Nat} {s t : Bool} {A B : Option Addr} {n c m d : Nat} {sx tx : Bool} {Ax Bx : Option Addr} {nx cx mx dx : Nat} {qs ps : List Rat} {rs : List RawR} {ts us : List (List RawR)}
theorem RawT.three {g : Nat} {T : TypeId} {D : Option Addr} {l e : Nat} {r1 r2 r3 : List RawR} (hb : Box w g T #[.slice A n c, .slice B m d, .slice D l e]) (h : RawP w A n c r1) (h' : RawP w B m d r2) (h'' : RawP w D l e r3) : RawT w (some ⟨g, 0, .none⟩) 3 3 [r1, r2, r3] :=
 ⟨rfl, Nat.le_refl _, by unfold maxLen; omega, fun _ => ⟨g, 0, rfl, fun i hi => by
  have hi' : i = 0 \/ i = 1 \/ i = 2 := by simp at hi; omega
  rcases hi' with rfl | rfl | rfl
  ·exact ⟨A, n, c, hb.cell 0 _ rfl, h⟩
  ·exact ⟨B, m, d, hb.cell 1 _ rfl, h'⟩
  ·exact ⟨D, l, e, hb.cell 2 _ rfl, h''⟩⟩⟩
end
section
variable {w : World} {A B D : Option Addr} {n c m d l e0 : Nat} {ts : List (List RawR)} {r1 r2 : List RawR}
theorem p_MulT_no (h : RawT w A n c ts) (hq : RawP w B m d r1) (hp : RawP w D l e0 r2) (hn : n <= 16) (hr : ∀ l ∈ ts, l.all (fun r => r.le 1000) = true) (h1 : r1.all (fun r => r.le 1000) = true) (h2 : r2.all (fun r => r.le 1000) = true) (hf : formedB ts [r1, r2] = false) (hT : Tab w) :
  Calls Tryz.prog 23 #[.slice A n c, .slice B m d, .slice D l e0] w fun e w' => e = .returned (.slice none 0 0) /\ Ext w w' := by
 have Hf := Lib.hid hf;clear hf
 go_enter Tryz.func23, Tryz.ntmps23
 go_upto_region 1 with (fail)
 obtain ⟨W, hW, EW, b1, b2, hz⟩ := box2 w 23 23 #[.slice B m d] #[.slice D l e0];rw [<- hW];clear hW hz;have hnb := Box.new W 23 #[.slice B m d, .slice D l e0];have q1 := (Ext.refl W).alloc (.cells #[.slice B m d, .slice D l e0] 23);have x0 := b1.cell 0 (.slice B m d) rfl;have y0 := b2.cell 0 (.slice D l e0) rfl;have e1 := EW.trans q1
 go_wp2_with fail
 refine (p_formedT (h.ext e1) (RawT.two hnb (hq.ext e1) (hp.ext e1)) hn (by omega) hr (fun l hl => by
  rcases List.mem_cons.1 hl with rfl | hl
  ·exact h1
  ·rw [List.mem_singleton.1 hl]; exact h2) (hT.ext e1)).mono ?_
 rintro e V ⟨rfl, hxt⟩;rw [Hf.out]
 go_wp2_with fail
 go_ret
 exact ⟨rfl, e1.trans hxt⟩
end
theorem tower_bundle {w : World} {A : Option Addr} {n c L : Nat} {ts : List (List RawR)} (h : RawT w A n c ts) (f1 : towerB ts 0 = true) (l4 : ∀ l ∈ ts, l.all (fun r => r.le L) = true) :
  PolT w A n c (ts.map fun l => l.map RawR.q) L /\ TowL (ts.map fun l => l.map RawR.q) := by
 have f3 := towerB_at ts 0 f1;refine ⟨h.polT (fun l hl => ?_) l4, fun i hi => ?_⟩
 ·obtain ⟨i, hi, rfl⟩ := List.getElem_of_mem hl
  exact (validL_parts (f3 i hi)).2
 ·rw [List.length_map] at hi
  rw [List.getElem_map, List.length_map, (validL_parts (f3 i hi)).1, Nat.zero_add]
section
variable {w : World} {A B D : Option Addr} {n c m d l e0 : Nat} {ts : List (List RawR)} {r1 : List RawR} {xs ys : List Nat} {s t : Bool}
theorem p_FromRat_no (h : RawT w A n c ts) (hx : RI w B m d xs) (hy : RI w D l e0 ys) (hn : n <= 16) (hr : ∀ l ∈ ts, l.all (fun r => r.le 1000) = true) (hm : m <= 1000) (hl : l <= 1000) (hf : (towerB ts 0 && validQ s xs t ys) = false) (hT : Tab w) :
  Calls Tryz.prog 16 #[.slice A n c, .agg #[.bool s, .slice B m d, .bool t, .slice D l e0]] w fun e w' => e = .returned (.slice none 0 0) /\ Ext w w' := by
 have Hf := Lib.hid hf;clear hf
 go_enter Tryz.func16, Tryz.ntmps16
 go_upto_region 1 with (fail)
 obtain ⟨W, hW, extW, bx, hz⟩ := box1 w 30 #[.bool s, .slice B m d, .bool t, .slice D l e0];rw [<- hW];clear hW hz
 go_wp2_with fail
 refine (p_formedT (h.ext extW) (RawT.none W) hn (by omega) hr (fun l hl => by cases hl) (hT.ext extW)).mono ?_;rintro e V ⟨rfl, hxt⟩;replace bx := bx.ext hxt;replace extW := extW.trans hxt
 cases ht : towerB ts 0 with
 | false =>
  have Ht := Lib.hid (show formedB ts [] = false by unfold formedB; rw [ht]; rfl);clear ht;rw [Ht.out]
  go_wp2_with fail
  go_ret
  exact ⟨rfl, extW⟩
 | true =>
  have Ht := Lib.hid (show formedB ts [] = true by unfold formedB; rw [ht]; rfl);have Hv := Lib.hid (show validQ s xs t ys = false by have := Hf.out; rw [ht] at this; exact this);clear ht Hf;rw [Ht.out];have x0 := bx.cell 0 (.bool s) rfl;have x1 := bx.cell 1 (.slice B m d) rfl;have x2 := bx.cell 2 (.bool t) rfl;have x3 := bx.cell 3 (.slice D l e0) rfl
  go_wp2_with fail
  refine (p_ValidRaw (hx.ext extW) (hy.ext extW) (by omega) (by omega) (hT.ext extW)).mono ?_;rintro e V2 ⟨rfl, hxu⟩;rw [Hv.out]
  go_wp2_with fail
  go_ret
  exact ⟨rfl, extW.trans hxu⟩
theorem p_FormedT (h : RawT w A n c ts) (hq : RawP w B m d r1) (hn : n <= 16) (hr : ∀ l ∈ ts, l.all (fun r => r.le 1000) = true) (h1 : r1.all (fun r => r.le 1000) = true) (hT : Tab w) :
  Calls Tryz.prog 14 #[.slice A n c, .slice B m d] w fun e w' => e = .returned (.bool (formedB ts [r1])) /\ Ext w w' := by
 have hnb := Box.new w 23 #[.slice B m d];have e1 := (Ext.refl w).alloc (.cells #[.slice B m d] 23)
 go_enter Tryz.func14, Tryz.ntmps14
 go_wp2_with fail
 refine (p_formedT (h.ext e1) (RawT.one hnb (hq.ext e1)) hn (by omega) hr (fun l hl => by rw [List.mem_singleton.1 hl]; exact h1) (hT.ext e1)).mono ?_;rintro e V ⟨rfl, hxt⟩
 go_wp2_with fail
 go_ret
 exact ⟨rfl, e1.trans hxt⟩
end
theorem fewB4_all {ts ls : List (List RawR)} (h : fewB4 ts ls = true) : ts.length <= 4 /\ ∀ l ∈ ts ++ ls, l.length <= 16 /\ l.all (fun r => r.le 4) = true := by
 unfold fewB4 fewL at h;rw [Bool.and_eq_true, decide_eq_true_eq] at h;refine ⟨h.1, fun l hl => ?_⟩;have := List.all_eq_true.1 h.2 l hl;rw [Bool.and_eq_true, decide_eq_true_eq] at this;exact this
theorem RawP.single {w : World} {g m d l e : Nat} {T : TypeId} {B D : Option Addr} {s t : Bool} {xs ys : List Nat} (hb : Box w g T #[.bool s, .slice B m d, .bool t, .slice D l e]) (hx : RI w B m d xs) (hy : RI w D l e ys) : RawP w (some ⟨g, 0, none⟩) 1 1 [⟨s, xs, t, ys⟩] :=
 ⟨rfl, Nat.le_refl _, by unfold maxLen; omega, fun _ => ⟨g, 0, rfl, fun i hi => by
  have hi0 : i = 0 := by simpa using hi
  subst hi0;exact ⟨B, m, d, D, l, e, hb.cell 0 _ rfl, hb.cell 1 _ rfl, hb.cell 2 _ rfl, hb.cell 3 _ rfl, hx, hy⟩⟩⟩
theorem formedB_two {ts : List (List RawR)} {r1 r2 : List RawR} (h : formedB ts [r1] = false \/ formedB ts [r2] = false) : formedB ts [r1, r2] = false := by
 unfold formedB at *;simp only [List.all_cons, List.all_nil, Bool.and_true] at *
 rcases h with h | h
 ·cases h1 : towerB ts 0 with
  | false => rfl
  | true => rw [h1] at h; simp only [Bool.true_and] at h ⊢; rw [h]; rfl
 ·cases h1 : towerB ts 0 with
  | false => rfl
  | true => rw [h1] at h; simp only [Bool.true_and] at h ⊢; rw [h, Bool.and_false]
theorem p_FromRatU {w : World} {A B D : Option Addr} {n c m d l e0 : Nat} {ts : List (List RawR)} {s t : Bool} {xs ys : List Nat} (h : RawT w A n c ts) (hx : RI w B m d xs) (hy : RI w D l e0 ys) (hn : n <= 4) (l4 : ∀ l ∈ ts, l.all (fun r => r.le 4) = true) (hm : m <= 4) (hl : l <= 4) (hT : Tab w) :
  Calls Tryz.prog 16 #[.slice A n c, .agg #[.bool s, .slice B m d, .bool t, .slice D l e0]] w (fun e w' => ∃ Ar mr cr, e = .returned (.slice Ar mr cr) /\ ((towerB ts 0 = true /\ validQ s xs t ys = true /\ Pol w' Ar mr cr (rawQ s xs t ys :: List.replicate (2 ^ n - 1) 0) 4) \/ ((towerB ts 0 && validQ s xs t ys) = false /\ mr = 0)) /\ Ext w w') := by
 cases ht : (towerB ts 0 && validQ s xs t ys) with
 | false =>
  refine (p_FromRat_no h hx hy (by omega) (fun l hl => le_1000 (l4 l hl)) (by omega) (by omega) ht hT).mono ?_;rintro e V ⟨rfl, hx⟩;exact ⟨_, _, _, rfl, .inr ⟨rfl, rfl⟩, hx⟩
 | true =>
  rw [Bool.and_eq_true] at ht;obtain ⟨hp, htw⟩ := tower_bundle h ht.1 l4;refine (p_FromRatT (M := 4) hp htw (NR.of_raw' hx hy ht.2 hm hl) (by omega) (by omega) (by omega) (by omega) hT).mono ?_;rintro e V ⟨Ar, mr, cr, rfl, hP, hx⟩;exact ⟨Ar, mr, cr, rfl, .inl ⟨ht.1, ht.2, hP⟩, hx⟩
set_option maxRecDepth 100000 in
theorem formed6_any {w : World} {A A1 A2 A3 : Option Addr} {n c n1 c1 n2 c2 n3 c3 : Nat} {ts : List (List RawR)} {r1 r2 r3 : List RawR} (hA : Awake6) (hT : Tab w) (h : RawT w A n c ts) (h1 : RawP w A1 n1 c1 r1) (h2 : RawP w A2 n2 c2 r2) (h3 : RawP w A3 n3 c3 r3) {s t : Bool} {B0 D0 : Option Addr} {m0 d0 l0 e0 : Nat} {xs ys : List Nat} (s3 : SzL r3) (hu : RI w B0 m0 d0 xs) (hv : RI w D0 l0 e0 ys) :
  Calls Tryz.prog 3 #[.agg #[.slice A n c, .slice A1 n1 c1, .slice A2 n2 c2, .slice A3 n3 c3], .agg #[.bool s, .slice B0 m0 d0, .bool t, .slice D0 l0 e0]] w (fun e w' => e = .returned (.bool true) /\ Ext w w') := by
 have HS3 := Lib.hid s3;clear s3
 go_enter Tryz.func3, Tryz.ntmps3
 go_upto_region 1 with (fail)
 obtain ⟨W, hW, EW, bx, bn, hz⟩ := box2 w 25 30 #[.slice A n c, .slice A1 n1 c1, .slice A2 n2 c2, .slice A3 n3 c3] #[.bool s, .slice B0 m0 d0, .bool t, .slice D0 l0 e0];rw [<- hW];clear hW hz;have HA := Lib.hid hA;clear hA
 go_wp2_with fail
 refine (HA.out _ (hT.ext EW)).mono ?_;rintro e V1 ⟨rfl, hx⟩;replace bx := bx.ext hx;replace bn := bn.ext hx;replace EW := EW.trans hx;clear hx;have x0 := bx.cell 0 (.slice A n c) rfl;have x1 := bx.cell 1 (.slice A1 n1 c1) rfl;have x2 := bx.cell 2 (.slice A2 n2 c2) rfl;have x3 := bx.cell 3 (.slice A3 n3 c3) rfl;have x10 := bn.cell 0 (.bool s) rfl;have x11 := bn.cell 1 (.slice B0 m0 d0) rfl;have x12 := bn.cell 2 (.bool t) rfl;have x13 := bn.cell 3 (.slice D0 l0 e0) rfl;obtain ⟨V9, hV9, e1, hnn, hnb, hz9⟩ := box2 V1 30 23 #[.bool s, .slice B0 m0 d0, .bool t, .slice D0 l0 e0] #[.slice A1 n1 c1, .slice A2 n2 c2, .slice (some ⟨V1.heap.size, 0, none⟩) 1 1]
 go_wp2_with fail
 rw [<- hV9];clear hV9 hz9;refine (q_FewT (h.ext (EW.trans e1)) (RawT.three hnb (h1.ext (EW.trans e1)) (h2.ext (EW.trans e1)) (RawP.single hnn (hu.ext (EW.trans e1)) (hv.ext (EW.trans e1)))) (by omega)).mono ?_;rintro e V2 ⟨rfl, hx⟩;replace hx := e1.trans hx;replace bx := bx.ext hx;replace bn := bn.ext hx;replace EW := EW.trans hx;clear hx hnb hnn e1 x0 x1 x2 x3 x10 x11 x12 x13
 cases hfb : fewB4 ts [r1, r2, [⟨s, xs, t, ys⟩]] with
 | false =>
  go_wp2_with fail
  refine (HA.out _ (hT.ext EW)).mono ?_;rintro e V3 ⟨rfl, hx⟩
  go_wp2_with fail
  go_ret
  exact ⟨rfl, EW.trans hx⟩
 | true =>
  obtain ⟨hf4, hfl⟩ := fewB4_all hfb;have hn4 : n <= 4 := by rw [<- h.len]; exact hf4
  have l4 : ∀ l ∈ ts, l.all (fun r => r.le 4) = true := fun l hl => (hfl l (List.mem_append_left _ hl)).2
  have k4 : r1.all (fun r => r.le 4) = true := (hfl r1 (List.mem_append_right _ (by simp))).2;have hn1 : n1 <= 16 := by rw [<- h1.len]; exact (hfl r1 (List.mem_append_right _ (by simp))).1
  have HLT := Lib.hid (show ∀ l ∈ ts, l.length <= 100000 from fun l hl => Nat.le_trans (hfl l (List.mem_append_left _ hl)).1 (by decide));have HSO := Lib.hid (show (∀ l ∈ ts, SzL l) /\ SzL r1 from ⟨fun l hl => SzL.few (hfl l (List.mem_append_left _ hl)), SzL.few (hfl r1 (List.mem_append_right _ (by simp)))⟩);have H4 := Lib.hid l4;have k5 : r2.all (fun r => r.le 4) = true := (hfl r2 (List.mem_append_right _ (by simp))).2;have hn2 : n2 <= 16 := by rw [<- h2.len]; exact (hfl r2 (List.mem_append_right _ (by simp))).1
  have HR2 := Lib.hid (le_1000 k5);have HSR := Lib.hid (show SzL r2 from SzL.few (hfl r2 (List.mem_append_right _ (by simp))));have hq := (hfl [⟨s, xs, t, ys⟩] (List.mem_append_right _ (by simp))).2;simp only [List.all_cons, List.all_nil, Bool.and_true] at hq;unfold RawR.le at hq;simp only [Bool.and_eq_true, decide_eq_true_eq] at hq;have hm0 : m0 <= 4 := by rw [<- hu.len]; exact hq.1
  have hl0 : l0 <= 4 := by rw [<- hv.len]; exact hq.2
  have HK := Lib.hid k4;have HR := Lib.hid (show ∀ l ∈ ts, l.all (fun r => r.le 1000) = true from fun l hl => le_1000 (l4 l hl));have HR1 := Lib.hid (le_1000 k4);clear l4 k4 k5 hq hfb;have x0 := bx.cell 0 (.slice A n c) rfl;have x1 := bx.cell 1 (.slice A1 n1 c1) rfl;have x2 := bx.cell 2 (.slice A2 n2 c2) rfl;have x3 := bx.cell 3 (.slice A3 n3 c3) rfl
  go_wp2_with fail
  refine (law_own (h.ext EW) (h1.ext EW) (h2.ext EW) (h3.ext EW) (by omega) HSO.out.1 HSO.out.2 HSR.out HS3.out).mono ?_;rintro e V3 ⟨A', c', B', d', C', e', D', f', rfl, k0, k1, k2, k3, hx⟩
  go_upto_region 4 with (fail)
  obtain ⟨V4, hV4, ex, by_, hz4⟩ := box1 V3 25 #[.slice A' n c', .slice B' n1 d', .slice C' n2 e', .slice D' n3 f'];rw [<- hV4];clear hV4 hz4 x0 x1 x2 x3;replace hx := hx.trans ex;replace k0 := k0.ext ex;replace k1 := k1.ext ex;replace k2 := k2.ext ex;replace bx := bx.ext hx;replace bn := bn.ext hx;replace EW := EW.trans hx;generalize V3.heap.size = gx at *;replace h := h.ext EW;replace h1 := h1.ext EW;replace hu := hu.ext EW;replace hv := hv.ext EW;replace h2 := h2.ext EW;clear ex hx h3 k3 hfl hf4
  go_cut [35] (fun p V => p = .bool false /\ Ext V4 V)
  case first =>
   have x0 := bx.cell 0 (.slice A n c) rfl;have x1 := bx.cell 1 (.slice A1 n1 c1) rfl;have x4 := by_.cell 0 (.slice A' n c') rfl;have x5 := by_.cell 1 (.slice B' n1 d') rfl;clear x0 x1 x4 x5;have ES0 := Ext.refl V4;refine wp_region_held_drew (S := Ext V4) (by kernel_rfl) ES0.drew (fun ES => ?_);clear ES0;refine Late.s0 ES (fun hAl hQ => ?_);refine Late.u 0 25 hQ ?_
   try simp only [zP]
   refine Late.u 2 27 hQ ?_
   try simp only [zP]
   refine Late.u 5 30 hQ ?_
   try simp only [zP]
   refine Late.u 7 32 hQ ?_
   try simp only [zP]
   refine Late.t 1 26 ?v_4 hQ ?y_4 ?_
   case y_4 => intro w' hSw;have k00 := (bx.ext hSw).c4;have k10 := (by_.ext hSw).c4;go_simp;try rfl
   try simp only [zP]
   refine Late.t 3 28 ?v_5 hQ ?y_5 ?_
   case y_5 => intro w' hSw;have k00 := (bx.ext hSw).c4;have k10 := (by_.ext hSw).c4;go_simp;try rfl
   try simp only [zP]
   refine Late.t 6 31 ?v_6 hQ ?y_6 ?_
   case y_6 => intro w' hSw;have k00 := (bx.ext hSw).c4;have k10 := (by_.ext hSw).c4;go_simp;try rfl
   try simp only [zP]
   refine Late.t 8 33 ?v_7 hQ ?y_7 ?_
   case y_7 => intro w' hSw;have k00 := (bx.ext hSw).c4;have k10 := (by_.ext hSw).c4;go_simp;try rfl
   try simp only [zP]
   refine Late.cl (i := 4) rfl hAl hQ (fun w4 e4 E4 K hK => ?_);go_simp
   (go_at_call 14; refine (p_FormedT (k0.ext E4) (k1.ext E4) (by omega) HR.out HR1.out (hT.ext (EW.trans E4))).mono ?_; rintro e wk4 ⟨rfl, hx4⟩)
   refine hK.out _ _ hx4 ?_;clear hK K
   try simp only [zP]
   refine Late.cl (i := 9) rfl hAl hQ (fun w9 e9 E9 K hK => ?_);go_simp
   (go_at_call 15; refine (q_FormedT (h.ext E9) (h1.ext E9) (by omega) (by omega) HR.out HLT.out HR1.out).mono ?_; rintro e wk9 ⟨rfl, hx9⟩)
   refine hK.out _ _ hx9 ?_;clear hK K
   try simp only [zP]
   refine Late.u 10 35 hQ ?_
   try simp only [zP]
   refine Late.d0 (fun U11 ez Ez => ?_);clear hAl hQ ES
   go_wp2_with fail
   go_meet
   exact ⟨by simp, Ez⟩
  case rest =>
  obtain ⟨rfl, hx⟩ := hcut;replace h := h.ext hx;replace h1 := h1.ext hx;replace h2 := h2.ext hx;replace k0 := k0.ext hx;replace k1 := k1.ext hx;replace k2 := k2.ext hx;replace hu := hu.ext hx;replace hv := hv.ext hx;replace bx := bx.ext hx;replace by_ := by_.ext hx;replace bn := bn.ext hx;replace EW := EW.trans hx;clear hx;have x4 := by_.cell 0 (.slice A' n c') rfl;have x10 := bn.cell 0 (.bool s) rfl;have x11 := bn.cell 1 (.slice B0 m0 d0) rfl;have x12 := bn.cell 2 (.bool t) rfl;have x13 := bn.cell 3 (.slice D0 l0 e0) rfl
  go_wp2_with fail
  refine (p_FromRatU k0 hu hv hn4 H4.out hm0 hl0 (hT.ext EW)).mono ?_;rintro e V5 ⟨Ar, mr, cr, rfl, hfr, hx⟩;clear x4 x10 x11 x12 x13;replace h := h.ext hx;replace h1 := h1.ext hx;replace h2 := h2.ext hx;replace k0 := k0.ext hx;replace k1 := k1.ext hx;replace k2 := k2.ext hx;replace hu := hu.ext hx;replace hv := hv.ext hx;replace bx := bx.ext hx;replace by_ := by_.ext hx;replace bn := bn.ext hx;replace EW := EW.trans hx;clear hx
  go_upto_region 7 with (fail)
  go_cut [71] (fun p V => p = .bool false /\ Ext V5 V)
  case first =>
   have x0 := bx.cell 0 (.slice A n c) rfl;have x10 := bn.cell 0 (.bool s) rfl;have x11 := bn.cell 1 (.slice B0 m0 d0) rfl;have x12 := bn.cell 2 (.bool t) rfl;have x13 := bn.cell 3 (.slice D0 l0 e0) rfl
   rcases hfr with ⟨ht0, hv0, hP⟩ | ⟨hno, rfl⟩
   ·have HT0 := Lib.hid ht0
    have HV0 := Lib.hid hv0;have hN := NR.of_raw' (L := 4) hu hv hv0 hm0 hl0;generalize rawQ s xs t ys = q at hN hP;clear ht0 hv0
    go_wp2_with fail
    refine (q_TowerT h (by omega) HR.out HLT.out).mono ?_;rintro e U1 ⟨rfl, hx⟩;rw [HT0.out];replace bx := bx.ext hx;replace bn := bn.ext hx;clear x0 x10 x11 x12 x13;have x0 := bx.cell 0 (.slice A n c) rfl;have x10 := bn.cell 0 (.bool s) rfl;have x11 := bn.cell 1 (.slice B0 m0 d0) rfl;have x12 := bn.cell 2 (.bool t) rfl;have x13 := bn.cell 3 (.slice D0 l0 e0) rfl
    go_wp2_with fail
    refine (q_ValidRaw (hu.ext hx) (hv.ext hx) (by omega) (by omega)).mono ?_;rintro e U2 ⟨rfl, hy⟩;rw [HV0.out];replace hx := hx.trans hy;replace bx := bx.ext hy;replace bn := bn.ext hy;clear x0 x10 x11 x12 x13 hy;have x0 := bx.cell 0 (.slice A n c) rfl;have x10 := bn.cell 0 (.bool s) rfl;have x11 := bn.cell 1 (.slice B0 m0 d0) rfl;have x12 := bn.cell 2 (.bool t) rfl;have x13 := bn.cell 3 (.slice D0 l0 e0) rfl
    go_wp2_with fail
    refine (q_FromRatT (T := A) (n := n) (ct := c) (hN.ext hx) (by omega) (by omega)).mono ?_;rintro e U3 ⟨A9, m9, c9, rfl, hQ, hy⟩;replace hx := hx.trans hy;replace bx := bx.ext hy;replace bn := bn.ext hy;have hl9 := hP.len;have h2n : 2 ^ n <= 16 := (m_few n (by omega)).2.2.2.2.2.2;simp only [List.length_cons, List.length_replicate] at hl9;clear x0 x10 x11 x12 x13 hy
    go_wp2_with fail
    refine (q_SameT (hP.ext hx) hQ (by omega) (by omega) (by omega)).mono ?_;rintro e U4 ⟨rfl, hy⟩;replace hx := hx.trans hy;replace bx := bx.ext hy;replace bn := bn.ext hy;clear hy h2n hl9;have x0 := bx.cell 0 (.slice A n c) rfl
    go_wp2_with fail
    refine (q_TowerT (h.ext hx) (by omega) HR.out HLT.out).mono ?_;rintro e U5 ⟨rfl, hy⟩;rw [HT0.out];replace hx := hx.trans hy;replace bn := bn.ext hy;clear hy x0;have x10 := bn.cell 0 (.bool s) rfl;have x11 := bn.cell 1 (.slice B0 m0 d0) rfl;have x12 := bn.cell 2 (.bool t) rfl;have x13 := bn.cell 3 (.slice D0 l0 e0) rfl
    go_wp2_with fail
    refine (q_ValidRaw (hu.ext hx) (hv.ext hx) (by omega) (by omega)).mono ?_;rintro e U6 ⟨rfl, hy⟩;rw [HV0.out]
    go_wp2_with fail
    go_meet
    exact ⟨rfl, hx.trans hy⟩
   ·cases ht0 : towerB ts 0 with
    | false =>
     have HT0 := Lib.hid ht0;clear ht0 hno
     go_wp2_with fail
     refine (q_TowerT h (by omega) HR.out HLT.out).mono ?_;rintro e U1 ⟨rfl, hx⟩;rw [HT0.out];replace bx := bx.ext hx;clear x0;have x0 := bx.cell 0 (.slice A n c) rfl
     go_wp2_with fail
     refine (q_TowerT (h.ext hx) (by omega) HR.out HLT.out).mono ?_;rintro e U2 ⟨rfl, hy⟩;rw [HT0.out]
     go_wp2_with fail
     go_meet
     exact ⟨rfl, hx.trans hy⟩
    | true =>
     have HT0 := Lib.hid ht0;have HV0 := Lib.hid (show validQ s xs t ys = false by rw [ht0] at hno; exact hno);clear ht0 hno
     go_wp2_with fail
     refine (q_TowerT h (by omega) HR.out HLT.out).mono ?_;rintro e U1 ⟨rfl, hx⟩;rw [HT0.out];replace bx := bx.ext hx;replace bn := bn.ext hx;clear x0 x10 x11 x12 x13;have x0 := bx.cell 0 (.slice A n c) rfl;have x10 := bn.cell 0 (.bool s) rfl;have x11 := bn.cell 1 (.slice B0 m0 d0) rfl;have x12 := bn.cell 2 (.bool t) rfl;have x13 := bn.cell 3 (.slice D0 l0 e0) rfl
     go_wp2_with fail
     refine (q_ValidRaw (hu.ext hx) (hv.ext hx) (by omega) (by omega)).mono ?_;rintro e U2 ⟨rfl, hy⟩;rw [HV0.out];replace hx := hx.trans hy;replace bx := bx.ext hy;replace bn := bn.ext hy;clear x0 x10 x11 x12 x13 hy;have x0 := bx.cell 0 (.slice A n c) rfl
     go_wp2_with fail
     refine (q_TowerT (h.ext hx) (by omega) HR.out HLT.out).mono ?_;rintro e U5 ⟨rfl, hy⟩;rw [HT0.out];replace hx := hx.trans hy;replace bn := bn.ext hy;clear hy x0;have x10 := bn.cell 0 (.bool s) rfl;have x11 := bn.cell 1 (.slice B0 m0 d0) rfl;have x12 := bn.cell 2 (.bool t) rfl;have x13 := bn.cell 3 (.slice D0 l0 e0) rfl
     go_wp2_with fail
     refine (q_ValidRaw (hu.ext hx) (hv.ext hx) (by omega) (by omega)).mono ?_;rintro e U6 ⟨rfl, hy⟩;rw [HV0.out]
     go_wp2_with fail
     go_meet
     exact ⟨rfl, hx.trans hy⟩
  case rest =>
  clear hfr;obtain ⟨rfl, hx⟩ := hcut;replace h := h.ext hx;replace h1 := h1.ext hx;replace h2 := h2.ext hx;replace k0 := k0.ext hx;replace k1 := k1.ext hx;replace k2 := k2.ext hx;replace hu := hu.ext hx;replace hv := hv.ext hx;replace bx := bx.ext hx;replace by_ := by_.ext hx;replace bn := bn.ext hx;replace EW := EW.trans hx;clear hx;have x0 := bx.cell 0 (.slice A n c) rfl;have x1 := bx.cell 1 (.slice A1 n1 c1) rfl;have x2 := bx.cell 2 (.slice A2 n2 c2) rfl
  go_wp2_with fail
  refine (q_FormedT h h1 (by omega) (by omega) HR.out HLT.out HR1.out).mono ?_;rintro e V6 ⟨rfl, hx⟩;clear x0 x1 x2;replace h := h.ext hx;replace h1 := h1.ext hx;replace h2 := h2.ext hx;replace k0 := k0.ext hx;replace k1 := k1.ext hx;replace k2 := k2.ext hx;replace hu := hu.ext hx;replace hv := hv.ext hx;replace bx := bx.ext hx;replace by_ := by_.ext hx;replace bn := bn.ext hx;replace EW := EW.trans hx;clear hx;have x0 := bx.cell 0 (.slice A n c) rfl;have x1 := bx.cell 1 (.slice A1 n1 c1) rfl;have x2 := bx.cell 2 (.slice A2 n2 c2) rfl
  cases hf1 : formedB ts [r1] with
  | false =>
   have HF := Lib.hid (formedB_two (r2 := r2) (Or.inl hf1));clear hf1 h h1 h2
   go_upto_region 11 with (fail)
   clear x0 x1 x2;have x4 := by_.cell 0 (.slice A' n c') rfl;have x5 := by_.cell 1 (.slice B' n1 d') rfl;have x6 := by_.cell 2 (.slice C' n2 e') rfl;clear x4 x5 x6;have ES0 := Ext.refl V6;refine wp_region_held_drew (S := Ext V6) (by kernel_rfl) ES0.drew (fun ES => ?_);clear ES0;refine Late.s0 ES (fun hAl hQ => ?_);refine Late.u 0 84 hQ ?_
   try simp only [zP]
   refine Late.u 2 86 hQ ?_
   try simp only [zP]
   refine Late.u 4 88 hQ ?_
   try simp only [zP]
   refine Late.u 8 92 hQ ?_
   try simp only [zP]
   refine Late.u 10 94 hQ ?_
   try simp only [zP]
   refine Late.u 12 96 hQ ?_
   try simp only [zP]
   refine Late.u 17 101 hQ ?_
   try simp only [zP]
   refine Late.u 19 103 hQ ?_
   try simp only [zP]
   refine Late.u 21 105 hQ ?_
   try simp only [zP]
   refine Late.t 1 85 ?v_i hQ ?y_i ?_
   case y_i => intro w' hSw;have k00 := (bx.ext hSw).c4;have k10 := (by_.ext hSw).c4;go_simp;try rfl
   try simp only [zP]
   refine Late.t 3 87 ?v_j hQ ?y_j ?_
   case y_j => intro w' hSw;have k00 := (bx.ext hSw).c4;have k10 := (by_.ext hSw).c4;go_simp;try rfl
   try simp only [zP]
   refine Late.t 5 89 ?v_k hQ ?y_k ?_
   case y_k => intro w' hSw;have k00 := (bx.ext hSw).c4;have k10 := (by_.ext hSw).c4;go_simp;try rfl
   try simp only [zP]
   refine Late.t 9 93 ?v_l hQ ?y_l ?_
   case y_l => intro w' hSw;have k00 := (bx.ext hSw).c4;have k10 := (by_.ext hSw).c4;go_simp;try rfl
   try simp only [zP]
   refine Late.t 11 95 ?v_m hQ ?y_m ?_
   case y_m => intro w' hSw;have k00 := (bx.ext hSw).c4;have k10 := (by_.ext hSw).c4;go_simp;try rfl
   try simp only [zP]
   refine Late.t 13 97 ?v_n hQ ?y_n ?_
   case y_n => intro w' hSw;have k00 := (bx.ext hSw).c4;have k10 := (by_.ext hSw).c4;go_simp;try rfl
   try simp only [zP]
   refine Late.t 18 102 ?v_o hQ ?y_o ?_
   case y_o => intro w' hSw;have k00 := (bx.ext hSw).c4;have k10 := (by_.ext hSw).c4;go_simp;try rfl
   try simp only [zP]
   refine Late.t 20 104 ?v_p hQ ?y_p ?_
   case y_p => intro w' hSw;have k00 := (bx.ext hSw).c4;have k10 := (by_.ext hSw).c4;go_simp;try rfl
   try simp only [zP]
   refine Late.t 22 106 ?v_q hQ ?y_q ?_
   case y_q => intro w' hSw;have k00 := (bx.ext hSw).c4;have k10 := (by_.ext hSw).c4;go_simp;try rfl
   try simp only [zP]
   refine Late.cl (i := 6) rfl hAl hQ (fun w6 e6 E6 K hK => ?_);go_simp
   (go_at_call 21; refine (p_AddT_no (k0.ext E6) (k1.ext E6) (k2.ext E6) (by omega) HR.out HR1.out HR2.out HF.out (hT.ext (EW.trans E6))).mono ?_; rintro e wk6 ⟨rfl, hx6⟩)
   refine hK.out _ _ hx6 ?_;clear hK K
   try simp only [zP]
   refine Late.u 7 91 hQ ?_
   try simp only [zP]
   refine Late.cl (i := 14) rfl hAl hQ (fun w14 e14 E14 K hK => ?_);go_simp
   (go_at_call 22; refine (p_SubT_no (k0.ext E14) (k1.ext E14) (k2.ext E14) (by omega) HR.out HR1.out HR2.out HF.out (hT.ext (EW.trans E14))).mono ?_; rintro e wk14 ⟨rfl, hx14⟩)
   refine hK.out _ _ hx14 ?_;clear hK K
   try simp only [zP]
   refine Late.u 15 99 hQ ?_
   try simp only [zP]
   refine Late.u 16 100 hQ ?_
   try simp only [zP]
   refine Late.cl (i := 23) rfl hAl hQ (fun w23 e23 E23 K hK => ?_);go_simp
   (go_at_call 23; refine (p_MulT_no (k0.ext E23) (k1.ext E23) (k2.ext E23) (by omega) HR.out HR1.out HR2.out HF.out (hT.ext (EW.trans E23))).mono ?_; rintro e wk23 ⟨rfl, hx23⟩)
   refine hK.out _ _ hx23 ?_;clear hK K
   try simp only [zP]
   refine Late.u 24 108 hQ ?_
   try simp only [zP]
   refine Late.u 25 109 hQ ?_
   try simp only [zP]
   refine Late.u 26 110 hQ ?_
   try simp only [zP]
   refine Late.u 27 4 hQ ?_
   try simp only [zP]
   refine Late.d0 (fun U21 ez Ez => ?_);clear hAl hQ ES;replace k0 := k0.ext Ez;replace k1 := k1.ext Ez;replace k2 := k2.ext Ez;replace bx := bx.ext Ez;replace by_ := by_.ext Ez;replace EW := EW.trans Ez;clear ez Ez;have x4 := by_.cell 0 (.slice A' n c') rfl;have x5 := by_.cell 1 (.slice B' n1 d') rfl;have x6 := by_.cell 2 (.slice C' n2 e') rfl
   go_wp2_with fail
   go_ret
   exact ⟨rfl, EW⟩
  | true =>
   have HF1 := Lib.hid hf1;clear hf1
   go_wp2_with fail
   refine (q_FormedT h h2 (by omega) (by omega) HR.out HLT.out HR2.out).mono ?_;rintro e V7 ⟨rfl, hx⟩;clear x0 x1 x2;replace h := h.ext hx;replace h1 := h1.ext hx;replace h2 := h2.ext hx;replace k0 := k0.ext hx;replace k1 := k1.ext hx;replace k2 := k2.ext hx;replace hu := hu.ext hx;replace hv := hv.ext hx;replace bx := bx.ext hx;replace by_ := by_.ext hx;replace bn := bn.ext hx;replace EW := EW.trans hx;clear hx
   cases hf2 : formedB ts [r2] with
   | true =>
    go_wp2_with fail
    go_ret
    exact ⟨rfl, EW⟩
   | false =>
    have HF := Lib.hid (formedB_two (r1 := r1) (Or.inr hf2));clear hf2 h h1 h2
    go_upto_region 11 with (fail)
    have x4 := by_.cell 0 (.slice A' n c') rfl;have x5 := by_.cell 1 (.slice B' n1 d') rfl;have x6 := by_.cell 2 (.slice C' n2 e') rfl;clear x4 x5 x6;have ES0 := Ext.refl V7;refine wp_region_held_drew (S := Ext V7) (by kernel_rfl) ES0.drew (fun ES => ?_);clear ES0;refine Late.s0 ES (fun hAl hQ => ?_);refine Late.u 0 84 hQ ?_
    try simp only [zP]
    refine Late.u 2 86 hQ ?_
    try simp only [zP]
    refine Late.u 4 88 hQ ?_
    try simp only [zP]
    refine Late.u 8 92 hQ ?_
    try simp only [zP]
    refine Late.u 10 94 hQ ?_
    try simp only [zP]
    refine Late.u 12 96 hQ ?_
    try simp only [zP]
    refine Late.u 17 101 hQ ?_
    try simp only [zP]
    refine Late.u 19 103 hQ ?_
    try simp only [zP]
    refine Late.u 21 105 hQ ?_
    try simp only [zP]
    refine Late.t 1 85 ?v_17 hQ ?y_17 ?_
    case y_17 => intro w' hSw;have k00 := (bx.ext hSw).c4;have k10 := (by_.ext hSw).c4;go_simp;try rfl
    try simp only [zP]
    refine Late.t 3 87 ?v_18 hQ ?y_18 ?_
    case y_18 => intro w' hSw;have k00 := (bx.ext hSw).c4;have k10 := (by_.ext hSw).c4;go_simp;try rfl
    try simp only [zP]
    refine Late.t 5 89 ?v_19 hQ ?y_19 ?_
    case y_19 => intro w' hSw;have k00 := (bx.ext hSw).c4;have k10 := (by_.ext hSw).c4;go_simp;try rfl
    try simp only [zP]
    refine Late.t 9 93 ?v_1a hQ ?y_1a ?_
    case y_1a => intro w' hSw;have k00 := (bx.ext hSw).c4;have k10 := (by_.ext hSw).c4;go_simp;try rfl
    try simp only [zP]
    refine Late.t 11 95 ?v_1b hQ ?y_1b ?_
    case y_1b => intro w' hSw;have k00 := (bx.ext hSw).c4;have k10 := (by_.ext hSw).c4;go_simp;try rfl
    try simp only [zP]
    refine Late.t 13 97 ?v_1c hQ ?y_1c ?_
    case y_1c => intro w' hSw;have k00 := (bx.ext hSw).c4;have k10 := (by_.ext hSw).c4;go_simp;try rfl
    try simp only [zP]
    refine Late.t 18 102 ?v_1d hQ ?y_1d ?_
    case y_1d => intro w' hSw;have k00 := (bx.ext hSw).c4;have k10 := (by_.ext hSw).c4;go_simp;try rfl
    try simp only [zP]
    refine Late.t 20 104 ?v_1e hQ ?y_1e ?_
    case y_1e => intro w' hSw;have k00 := (bx.ext hSw).c4;have k10 := (by_.ext hSw).c4;go_simp;try rfl
    try simp only [zP]
    refine Late.t 22 106 ?v_1f hQ ?y_1f ?_
    case y_1f => intro w' hSw;have k00 := (bx.ext hSw).c4;have k10 := (by_.ext hSw).c4;go_simp;try rfl
    try simp only [zP]
    refine Late.cl (i := 6) rfl hAl hQ (fun w6 e6 E6 K hK => ?_);go_simp
    (go_at_call 21; refine (p_AddT_no (k0.ext E6) (k1.ext E6) (k2.ext E6) (by omega) HR.out HR1.out HR2.out HF.out (hT.ext (EW.trans E6))).mono ?_; rintro e wk6 ⟨rfl, hx6⟩)
    refine hK.out _ _ hx6 ?_;clear hK K
    try simp only [zP]
    refine Late.u 7 91 hQ ?_
    try simp only [zP]
    refine Late.cl (i := 14) rfl hAl hQ (fun w14 e14 E14 K hK => ?_);go_simp
    (go_at_call 22; refine (p_SubT_no (k0.ext E14) (k1.ext E14) (k2.ext E14) (by omega) HR.out HR1.out HR2.out HF.out (hT.ext (EW.trans E14))).mono ?_; rintro e wk14 ⟨rfl, hx14⟩)
    refine hK.out _ _ hx14 ?_;clear hK K
    try simp only [zP]
    refine Late.u 15 99 hQ ?_
    try simp only [zP]
    refine Late.u 16 100 hQ ?_
    try simp only [zP]
    refine Late.cl (i := 23) rfl hAl hQ (fun w23 e23 E23 K hK => ?_);go_simp
    (go_at_call 23; refine (p_MulT_no (k0.ext E23) (k1.ext E23) (k2.ext E23) (by omega) HR.out HR1.out HR2.out HF.out (hT.ext (EW.trans E23))).mono ?_; rintro e wk23 ⟨rfl, hx23⟩)
    refine hK.out _ _ hx23 ?_;clear hK K
    try simp only [zP]
    refine Late.u 24 108 hQ ?_
    try simp only [zP]
    refine Late.u 25 109 hQ ?_
    try simp only [zP]
    refine Late.u 26 110 hQ ?_
    try simp only [zP]
    refine Late.u 27 4 hQ ?_
    try simp only [zP]
    refine Late.d0 (fun U21 ez Ez => ?_);clear hAl hQ ES;replace k0 := k0.ext Ez;replace k1 := k1.ext Ez;replace k2 := k2.ext Ez;replace bx := bx.ext Ez;replace by_ := by_.ext Ez;replace EW := EW.trans Ez;clear ez Ez;have x4 := by_.cell 0 (.slice A' n c') rfl;have x5 := by_.cell 1 (.slice B' n1 d') rfl;have x6 := by_.cell 2 (.slice C' n2 e') rfl
    go_wp2_with fail
    go_ret
    exact ⟨rfl, EW⟩
end
section
open Go.ChangeShapes Go.WideShapes Go.ChangeAt Go.RowKit Go.Joins
section
variable {H : Type} {enc : TypeId × Value -> H} {W : World} {base : Nat} {held : Bool}
set_option maxRecDepth 100000 in
theorem open_rat {r : Reach} {b0 : Nat} {v : Value} {d : DataW H} {p : List MemPlace} (hv : Value.okWide Tryz.prog W r b0 30 v) (h : DataW.Trod enc Tryz.prog W base (fun _ => true) held 30 v d p) :
  ∃ s A n c t B m d xs ys, v = .agg #[.bool s, .slice A n c, .bool t, .slice B m d] /\ RI W A n c xs /\ RI W B m d ys := by
 obtain ⟨cs, rfl, hsz⟩ := okWide_struct Tryz.underlying30 hv;obtain ⟨c0, c1, c2, c3, rfl⟩ := array4 (hsz.trans cellsR);obtain ⟨fuel, hf⟩ := h;obtain ⟨s, A, n, c, t, B, m, d, xs, ys, rfl, rfl, rfl, rfl, r1, r2⟩ := open_ratc hf;exact ⟨s, A, n, c, t, B, m, d, xs, ys, rfl, r1, r2⟩
theorem words_sizedT {m : Nat} {A : Option Addr} {n c : Nat} {y : DataW H × List MemPlace} (h : DataW.trod enc Tryz.prog W base (fun _ => true) held m 26 [.slice A n c] = some y) (hw : (DataW.weights Tryz.prog 26 y.1).all (· <= reachBytes) = true) : n * 4 <= 140737488355328 := by
 rcases open_ints Tryz.underlying26 Tryz.underlying89 Tryz.cellsW h with ⟨hcs, _⟩ | ⟨a, len, cap, zs, hcs, _, hl, hm, hz, rfl, _, _⟩
 ·injection hcs with hcs _
  injection hcs with h1 h2 h3
  omega
 ·injection hcs with hcs _
  injection hcs with h1 h2 h3
  simp only [if_true] at hz;have h4 := of_decide_eq_true (List.all_eq_true.1 hw (((lits .u32 (zs.take len)).length + (lits .u32 (zs.drop len)).length) * Tryz.prog.bytesOf 89) (by simp only [DataW.weights, Tryz.underlying26]; exact List.mem_cons_self));rw [show Tryz.prog.bytesOf 89 = 4 by kernel_rfl] at h4;simp [lits, reachBytes] at h4;omega
set_option maxRecDepth 100000 in
theorem int_sizedT {m : Nat} {v : Value} {A : Option Addr} {n c : Nat} {y : DataW H × List MemPlace} (h : DataW.trod enc Tryz.prog W base (fun _ => true) held m 28 [v, .slice A n c] = some y) (hw : (DataW.weights Tryz.prog 28 y.1).all (· <= reachBytes) = true) : n * 4 <= 140737488355328 := by
 obtain ⟨y0, y1, k, rfl, _, h0, h1⟩ := trod_struct2 Tryz.underlying28 h;rw [cellsS] at h1;simp only [List.drop_zero, List.drop_succ_cons, List.take_succ_cons, List.take_zero] at h1;refine words_sizedT h1 (List.all_eq_true.2 fun q hq => List.all_eq_true.1 hw q ?_);simp [DataW.weights, Tryz.underlying28, DataW.weightsEach, hq]
set_option maxRecDepth 100000 in
theorem rat_sizedT {m : Nat} {v0 v1 : Value} {A B : Option Addr} {n c n' c' : Nat} {y : DataW H × List MemPlace} (h : DataW.trod enc Tryz.prog W base (fun _ => true) held m 30 [v0, .slice A n c, v1, .slice B n' c'] = some y) (hw : (DataW.weights Tryz.prog 30 y.1).all (· <= reachBytes) = true) : n * 4 <= 140737488355328 /\ n' * 4 <= 140737488355328 := by
 obtain ⟨y0, y1, k, rfl, _, h0, h1⟩ := trod_struct2 Tryz.underlying30 h;rw [Tryz.cellsI] at h0 h1;simp only [List.drop_zero, List.drop_succ_cons, List.take_succ_cons, List.take_zero] at h0 h1;refine ⟨int_sizedT h0 (List.all_eq_true.2 fun q hq => List.all_eq_true.1 hw q ?_), int_sizedT h1 (List.all_eq_true.2 fun q hq => List.all_eq_true.1 hw q ?_)⟩
 ·rw [DataW.weights, Tryz.underlying30]
  simp only [DataW.weightsEach, List.map_cons, List.map_nil, List.append_nil];exact List.mem_append.2 (.inl hq)
 ·rw [DataW.weights, Tryz.underlying30]
  simp only [DataW.weightsEach, List.map_cons, List.map_nil, List.append_nil];exact List.mem_append.2 (.inr hq)
theorem weightsAll_mem {P : Program} {e : TypeId} {d : DataW H} : ∀ {l : List (DataW H)}, d ∈ l -> ∀ q ∈ DataW.weights P e d, q ∈ DataW.weightsAll P e l
 | [], hd, _, _ => by cases hd
 | x :: l, hd, q, hq => by
  rw [DataW.weightsAll]
  rcases List.mem_cons.1 hd with rfl | hd
  ·exact List.mem_append.2 (.inl hq)
  ·exact List.mem_append.2 (.inr (weightsAll_mem hd q hq))
set_option maxRecDepth 100000 in
theorem rats_sized {fuel : Nat} {A : Option Addr} {n c : Nat} {rs : List RawR} {y : DataW H × List MemPlace} (hf : DataW.trod enc Tryz.prog W base (fun _ => true) held fuel 23 [.slice A n c] = some y) (hw : (DataW.weights Tryz.prog 23 y.1).all (· <= reachBytes) = true) (hr : RawP W A n c rs) : SzL rs := by
 rcases Deep.open_slice Tryz.underlying23 hf with ⟨hcs, _⟩ | ⟨a, n', c', m, k, D, Pl, hcs, _, hl, hm, hmm, rfl, hx⟩
 ·injection hcs with hcs _
  injection hcs with h1 h2 h3
  have hz : rs = [] := List.length_eq_zero_iff.1 (hr.len.trans h2);subst hz;exact ⟨by simp, fun r hr => by cases hr⟩
 ·injection hcs with hcs _
  injection hcs with h1 h2 h3
  subst h1 h2 h3;simp only [if_true] at hmm;subst hmm;have hall := fun q hq => of_decide_eq_true (List.all_eq_true.1 hw q hq)
  rw [DataW.weights, Tryz.underlying23] at hall;simp only at hall;refine ⟨?_, fun r hrm => ?_⟩
  ·have h4 := hall _ List.mem_cons_self
   rw [show Tryz.prog.bytesOf 30 = 64 by kernel_rfl] at h4;simp [reachBytes] at h4;rw [hr.len];omega
  ·obtain ⟨i, hi, rfl⟩ := List.getElem_of_mem hrm
   have hin : i < n := by rw [<- hr.len]; exact hi
   obtain ⟨b, off, e, hat⟩ := hr.at_ (fun e => by subst e; exact absurd hi (Nat.not_lt_zero _))
   injection e with e
   subst e;obtain ⟨A', n', c', B', m', d', e0, e1, e2, e3, hx0, hy0⟩ := hat i hi;obtain ⟨cs', g1, g2⟩ := hx i (by omega);rw [cellsR] at g1;obtain ⟨_, hlen, hc⟩ := World.cells?_some g1
   obtain ⟨c0, c1, c2, c3, rfl⟩ : ∃ c0 c1 c2 c3, cs' = [c0, c1, c2, c3] := by
    rcases cs' with _ | ⟨c0, _ | ⟨c1, _ | ⟨c2, _ | ⟨c3, _ | ⟨c4, l⟩⟩⟩⟩⟩ <;> simp at hlen
    exact ⟨c0, c1, c2, c3, rfl⟩
   have hadd : ∀ j, j < 4 -> ((⟨b, off, none⟩ : Addr).add (i * 4)).add j = ⟨b, off + 4 * i + j, none⟩ := by
    intro j _;rw [Deep.add_add];unfold Addr.add
    split
    ·rename_i h0
     have : i * 4 + j = 0 := h0;simp only [Addr.mk.injEq, and_true, true_and];omega
    ·simp only [Addr.mk.injEq, and_true, true_and]
     omega
   have q1 := hc 1 (by omega);have q3 := hc 3 (by omega);rw [hadd _ (by omega)] at q1 q3;rw [e1] at q1;rw [e3] at q3;simp only [List.getElem?_cons_succ, List.getElem?_cons_zero, Option.some.injEq] at q1 q3;subst q1 q3;have hz := rat_sizedT g2 (List.all_eq_true.2 fun q hq => decide_eq_true (hall q (List.mem_cons_of_mem _ (List.mem_append.2 (.inl (weightsAll_mem (List.mem_map.2 ⟨i, List.mem_range.2 hin, rfl⟩) q hq))))));rw [hx0.len, hy0.len];exact hz
set_option maxRecDepth 100000 in
theorem open_caseS {r : Reach} {b0 : Nat} {v : Value} {d : DataW H} {p : List MemPlace} (hv : Value.okWide Tryz.prog W r b0 25 v) (h : DataW.Trod enc Tryz.prog W base (fun _ => true) held 25 v d p) (hw : (DataW.weights Tryz.prog 25 d).all (· <= reachBytes) = true) :
  ∃ A n c A1 n1 c1 A2 n2 c2 A3 n3 c3 ts r1 r2 r3, v = .agg #[.slice A n c, .slice A1 n1 c1, .slice A2 n2 c2, .slice A3 n3 c3] /\ RawT W A n c ts /\ RawP W A1 n1 c1 r1 /\ RawP W A2 n2 c2 r2 /\ RawP W A3 n3 c3 r3 /\ SzL r2 /\ SzL r3 := by
 obtain ⟨v0, v1, v2, v3, y0, y1, y2, y3, n, rfl, hd, _, h0, h1, h2, h3⟩ := open_agg4 Tryz.underlying25 (by kernel_rfl) (by kernel_rfl) hv h;obtain ⟨A, n, c, ts, rfl, g⟩ := open_ratss h0;obtain ⟨A1, n1, c1, r1, rfl, g1⟩ := open_ratsc h1;obtain ⟨A2, n2, c2, r2, rfl, g2⟩ := open_ratsc h2;obtain ⟨A3, n3, c3, r3, rfl, g3⟩ := open_ratsc h3;subst hd;rw [DataW.weights, Tryz.underlying25] at hw;simp only [DataW.weightsEach, List.map_cons, List.map_nil, List.append_nil, List.all_append, Bool.and_eq_true] at hw;exact ⟨A, n, c, A1, n1, c1, A2, n2, c2, A3, n3, c3, ts, r1, r2, r3, rfl, g, g1, g2, g3, rats_sized h2 hw.2.2.1 g2, rats_sized h3 hw.2.2.2 g3⟩
end
set_option maxRecDepth 100000
theorem formed6_lifted (os : Os) (started : os.Started) (H : Type) (enc : TypeId × Value -> H) :
  ReturnsInHanded {} Tryz.checked os 3 .any (fun w args => (Rows.towerFormedSpec.pre enc Tryz.prog Tryz.f3 [] false w args /\ laidMetH Tryz.prog laidI w) /\ sizedMet enc Tryz.prog Tryz.f3 (OpenSpec.ofChange Rows.towerFormedSpec) false w args)
   (Rows.towerFormedSpec.post enc Tryz.prog Tryz.f3 false true false false) := by
 refine returnsInHanded_of_change_and (C := Tryz.checked) (X := fun w _ => laidMetH Tryz.prog laidI w) (fun _ _ _ hh h => h.of_heap hh) Tryz.own started (by kernel_rfl) Tryz.func3
  (ChangeSpec.witness_shaped (enc := enc) (C := Tryz.checked) (os := os) (X := fun w _ => laidMetH Tryz.prog laidI w) false (World.doorLaid Tryz.prog 400 os) #[Value.agg #[Value.slice none 0 0, Value.slice none 0 0, Value.slice none 0 0, Value.slice none 0 0], Value.agg #[.bool false, .slice none 0 0, .bool false, .slice none 0 0]] 8 rfl (World.shaped_of_RefB (by kernel_rfl) (by kernel_rfl)) (by kernel_rfl) (by kernel_rfl) (by kernel_rfl) (doorI_met os _)) ?_
 intro W base args ds gs before hval0 hW _ hsz hL _;have hval : ∀ (j : Nat) t v, Tryz.f3.params[j]? = some t -> args[j]? = some v -> Value.okWide Tryz.prog W .any base t v := hval0;have hW' := hW;have hlt : ∀ p ∈ before, p.block < W.heap.size := fun p hp => hW.lt p hp
 obtain ⟨p, q, hA0, hV, rfl, _, _⟩ := hW;have hA : DataW.TrodAll enc Tryz.prog W 0 (fun _ => true) true Tryz.f3.params.toList args.toList ds p := hA0;rw [Tryz.params3] at hA hval;obtain ⟨v0, v1, d0, d1, p0, p1, rfl, rfl, rfl, h0, h1⟩ := trodAll_two hA;obtain ⟨rfl, rfl⟩ := trodVars_none hV;simp only [List.append_nil] at hW' hlt
 obtain ⟨A, n, c, A1, n1, c1, A2, n2, c2, A3, n3, c3, ts, r1, r2, r3, rfl, hr0, hr1, hr2, hr3, sz2, sz3⟩ := open_caseS (hval 0 25 v0 rfl rfl) h0 (List.all_eq_true.2 fun q hq => List.all_eq_true.1 hsz q (by
  rw [Tryz.params3];simp only [List.append_nil, List.cons_append, DataW.weightsEach];exact List.mem_append.2 (.inl hq)))
 obtain ⟨s, B0, m0, d0_, t, B, m, d, xs, ys, rfl, hq0, hq1⟩ := open_rat (hval 1 30 v1 rfl rfl) h1;clear hA0 hval0;have hT := tab_of_laidH hL;refine (formed6_any awake6 hT hr0 hr1 hr2 hr3 sz3 hq0 hq1).mono fun e W' ⟨he, hext⟩ => ?_
 subst he;have hb : Below W.heap.size W W' := hext;have g0 := Below.trod Tryz.laidOut (by kernel_rfl) (of_decide_eq_true (by kernel_rfl)) h0 hb (fun p hp => hlt p (List.mem_append.2 (.inl hp)));have g1 := Below.trod Tryz.laidOut (by kernel_rfl) (of_decide_eq_true (by kernel_rfl)) h1 hb (fun p hp => hlt p (List.mem_append.2 (.inr hp)));exact ⟨_, rfl, _, _, _, [], (p0 ++ p1), [], hW', trodAll_mk1 (shut_bool Tryz.underlying4 true), trodAll_mk2 g0 g1, rfl, Below.frame hb _, fun h => by cases h⟩
theorem formed6_row_holds : Rows.TowerFormedSaid :=
 OpenClaim.holds_of_wide 3 Tryz.f3 rfl rfl rfl rfl rfl rfl rfl ⟨rfl, rfl, rfl, rfl, rfl⟩ rfl rfl rfl rfl rfl (by kernel_rfl) Tryz.func3 (by kernel_rfl)
  (of_decide_eq_true (by kernel_rfl)) (by unfold Func.isWrapper; first | (rw [if_neg (of_decide_eq_false (by kernel_rfl))]; exact ⟨rfl, rfl⟩) | (rw [if_pos (by decide +kernel)]; kernel_rfl))
  (fun os started H enc _ => formed6_lifted os started H enc)
theorem formed6_holds : Rows.TowerFormedCardSaid :=
 Claim7.holds_tied_plain_at .later [] [.data] true Rows.towerFormedCard.stood.harness false
  formed6_row_holds (fun _ h => by cases h) (by kernel_rfl) (fun _ h => by cases h) towerFormed_row_tie rfl ⟨rfl, rfl⟩ (by kernel_rfl) rfl
  (fun f fn hf hfn => by
   obtain rfl : f = 3 := Option.some.inj ((show Tryz.prog.funcNamed "setsquare/setsquarelaw06.TowerFormed" = some 3 by kernel_rfl).symm.trans hf) |>.symm;obtain rfl : fn = Tryz.f3 := (Option.some.inj (Tryz.func3.symm.trans hfn)).symm
   exact ⟨by kernel_rfl, fun j t ht => by
    rw [Tryz.params3] at ht;have hm : t ∈ [25, 30] := by simpa using Array.mem_of_getElem? ht
    have hall : ([25, 30].all fun u => !Tryz.prog.wantsStandIn u) = true := by kernel_rfl
    exact (show Tryz.prog.wantsStandIn t = false by simpa using List.all_eq_true.1 hall t hm)⟩)
  (by kernel_rfl)
end
end Go.Proofs.YtgagcochepnelaaGreatDoor
