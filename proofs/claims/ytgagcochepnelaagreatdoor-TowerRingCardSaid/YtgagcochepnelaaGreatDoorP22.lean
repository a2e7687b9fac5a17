/- For every tower with three elements the law TowerRing returns true: up to the height 3 the elements of a tower are a commutative ring, and the examples of the chapter hold. Condition: the table math/bits.deBruijn64tab holds what its initialiser lays (tied by the given card). -/
import Derived.Test.YtgagcochepnelaaGreatDoorP0
import Derived.Test.YtgagcochepnelaaGreatDoorP1
import Derived.Test.YtgagcochepnelaaGreatDoorP2
import Derived.Test.YtgagcochepnelaaGreatDoorP3
import Derived.Test.YtgagcochepnelaaGreatDoorP4
import Derived.Test.YtgagcochepnelaaGreatDoorP5
import Derived.Test.YtgagcochepnelaaGreatDoorP6
import Derived.Test.YtgagcochepnelaaGreatDoorP7
import Derived.Test.YtgagcochepnelaaGreatDoorP8
import Derived.Test.YtgagcochepnelaaGreatDoorP9
import Derived.Test.YtgagcochepnelaaGreatDoorP10
import Derived.Test.YtgagcochepnelaaGreatDoorP11
import Derived.Test.YtgagcochepnelaaGreatDoorP12
import Derived.Test.YtgagcochepnelaaGreatDoorP13
import Derived.Test.YtgagcochepnelaaGreatDoorP21
import Derived.Test.YtgagcochepnelaaGreatDoorCards
import Derived.Test.YtgagcochepnelaaGreatDoorTie
import Derived.LaidMore
import Derived.OpenShut
import Derived.Lib.SmallJoins
import Derived.LaidLaws
import Derived.Deep.Slices
import Derived.Lib.LaidTab
import Derived.SevenTiedAt
import Derived.Stop.Joined
set_option linter.unusedSimpArgs false
set_option linter.unusedVariables false
set_option maxHeartbeats 64000000
namespace Go.Proofs.YtgagcochepnelaaGreatDoor
section
open Go.RowKit
attribute [local go_sem ↓] Go.wp_at_zero Go.wp_at_succ
def eYq : Nat -> Nat
 | 0 => 0
 | h + 1 => eYq h + eYq h + 2 ^ h + 2
theorem eF_le : ∀ h, eF h <= eYq h
 | 0 => Nat.le_refl _
 | h + 1 => by
  have := eF_le h
  show eF h + (2 ^ h + eF h) <= eYq h + eYq h + 2 ^ h + 2
  omega
theorem in_few {qs : List Rat} (h : ∀ q ∈ qs, SmQ q) : 0 < prodD qs /\ prodD qs <= W4 ^ qs.length /\ AllM (prodD qs) (W4 * prodD qs) qs := by
 obtain ⟨h1, h2⟩ := prodD_le h;refine ⟨h1, h2, fun q hq => ?_⟩;obtain ⟨k, hk⟩ := prodD_dvd q hq;have h3 : k <= prodD qs := by rw [hk]; exact Nat.le_mul_of_pos_left _ q.den_pos
 refine ⟨q.num * (k : Int), ?_, ?_⟩
 ·have h4 : 0 < k := by
   rcases Nat.eq_zero_or_pos k with h0 | h0
   ·rw [h0, Nat.mul_zero] at hk; omega
   ·exact h0
  have h5 := nat_ne h4;have h6 := nat_ne q.den_pos;have h7 := rat_quo q;rw [Rat.intCast_natCast] at h7;rw [hk, Rat.mkRat_eq_div, Rat.intCast_mul, Rat.natCast_mul, Rat.intCast_natCast]
  conv => lhs; rw [h7]
  grind
 ·rw [Int.natAbs_mul, Int.natAbs_natCast]
  exact Nat.mul_le_mul (h q hq).1 h3
theorem pr_bd {Mr Xr : Nat -> Nat} {n : Nat} (hM : ∀ i, i < n -> Mr i <= W4 ^ 2 ^ i) (hX : ∀ i, i < n -> Xr i <= W4 ^ (1 + 2 ^ i)) : ∀ h, h <= n -> prQ Mr h <= W4 ^ eF h /\ prY Mr Xr h <= W4 ^ eYq h
 | 0, _ => ⟨Nat.le_refl _, Nat.le_refl _⟩
 | h + 1, hh => by
  obtain ⟨i1, i2⟩ := pr_bd hM hX h (by omega);have hm := hM h (by omega);have hx := hX h (by omega);have hq : Mr h * prQ Mr h <= W4 ^ (2 ^ h + eF h) := by rw [Nat.pow_add]; exact Nat.mul_le_mul hm i1
  constructor
  ·show prQ Mr h * (Mr h * prQ Mr h) <= W4 ^ (eF h + (2 ^ h + eF h))
   rw [Nat.pow_add];exact Nat.mul_le_mul i1 hq
  ·have e := eF_le h
   have a1 : prY Mr Xr h * (Mr h * prQ Mr h) <= W4 ^ (eYq h + eYq h + 2 ^ h + 1) := by
    refine Nat.le_trans (Nat.mul_le_mul i2 hq) ?_;rw [<- Nat.pow_add];exact Nat.pow_le_pow_right W4_pos (by omega)
   have a2 : prY Mr Xr h * (Xr h * prY Mr Xr h) <= W4 ^ (eYq h + eYq h + 2 ^ h + 1) := by
    refine Nat.le_trans (Nat.mul_le_mul i2 (Nat.mul_le_mul hx i2)) ?_;rw [<- Nat.pow_add, <- Nat.pow_add];exact Nat.pow_le_pow_right W4_pos (by omega)
   show prY Mr Xr h * (Mr h * prQ Mr h) + prY Mr Xr h * (Mr h * prQ Mr h) + prY Mr Xr h * (Xr h * prY Mr Xr h) <= W4 ^ (eYq h + eYq h + 2 ^ h + 1 + 1)
   rw [Nat.pow_succ W4 (eYq h + eYq h + 2 ^ h + 1)];generalize W4 ^ (eYq h + eYq h + 2 ^ h + 1) = p at a1 a2;have h4 : p * 3 <= p * W4 := Nat.mul_le_mul_left _ (by decide +kernel);omega
end
section
open Go.ChangeShapes Go.WideShapes Go.ChangeAt Go.RowKit Go.Joins
section
variable {H : Type} {enc : TypeId × Value -> H} {W : World} {base : Nat} {held : Bool}
set_option maxRecDepth 100000 in
theorem open_case {r : Reach} {b0 : Nat} {v : Value} {d : DataW H} {p : List MemPlace} (hv : Value.okWide Tryz.prog W r b0 25 v) (h : DataW.Trod enc Tryz.prog W base (fun _ => true) held 25 v d p) :
  ∃ A n c A1 n1 c1 A2 n2 c2 A3 n3 c3 ts r1 r2 r3, v = .agg #[.slice A n c, .slice A1 n1 c1, .slice A2 n2 c2, .slice A3 n3 c3] /\ RawT W A n c ts /\ RawP W A1 n1 c1 r1 /\ RawP W A2 n2 c2 r2 /\ RawP W A3 n3 c3 r3 := by
 obtain ⟨v0, v1, v2, v3, y0, y1, y2, y3, n, rfl, _, _, h0, h1, h2, h3⟩ := open_agg4 Tryz.underlying25 (by kernel_rfl) (by kernel_rfl) hv h;obtain ⟨A, n, c, ts, rfl, g⟩ := open_ratss h0;obtain ⟨A1, n1, c1, r1, rfl, g1⟩ := open_ratsc h1;obtain ⟨A2, n2, c2, r2, rfl, g2⟩ := open_ratsc h2;obtain ⟨A3, n3, c3, r3, rfl, g3⟩ := open_ratsc h3;exact ⟨A, n, c, A1, n1, c1, A2, n2, c2, A3, n3, c3, ts, r1, r2, r3, rfl, g, g1, g2, g3⟩
end
end
section
open Go.RowKit
theorem mulL_assoc {R : Nat -> List Rat} (hR : ∀ i, (R i).length = 2 ^ i) {h : Nat} {a b c : List Rat} (ha : a.length = 2 ^ h) (hb : b.length = 2 ^ h) (hc : c.length = 2 ^ h) : mulL R h (mulL R h a b) c = mulL R h a (mulL R h b c) :=
 toE_inj mulL_len mulL_len (by rw [toE_mul hR mulL_len hc, toE_mul hR ha hb, toE_mul hR ha mulL_len, toE_mul hR hb hc, El.mul_assoc])
def InB (m x : Nat) (qs : List Rat) : Prop := ∃ M X, 0 < M /\ AllM M X qs /\ M <= W4 ^ m /\ X <= W4 ^ x
section
variable {m x m' x' n h S : Nat} {qs a b : List Rat}
theorem InB.few (hs : ∀ q ∈ qs, SmQ q) (hl : qs.length = 2 ^ n) : InB (2 ^ n) (1 + 2 ^ n) qs := by
 obtain ⟨h1, h2, h3⟩ := in_few hs;rw [hl] at h2;exact ⟨_, _, h1, h3, h2, by rw [Nat.pow_add, Nat.pow_one]; exact Nat.mul_le_mul_left _ h2⟩
theorem InB.words (hb : InB m x qs) (hx : 4 * x + 1 <= S) (hm : 4 * m + 1 <= S) : ∀ q ∈ qs, q.num.natAbs < 4294967296 ^ S /\ q.den < 4294967296 ^ S := by
 obtain ⟨M, X, h1, h2, h3, h4⟩ := hb;intro q hq;obtain ⟨k1, k2⟩ := (h2 q hq).size h1;exact ⟨Nat.lt_of_lt_of_le (W4_words (Nat.le_trans k1 h4)) (Nat.pow_le_pow_right (by omega) hx), Nat.lt_of_lt_of_le (W4_words (Nat.le_trans k2 h3)) (Nat.pow_le_pow_right (by omega) hm)⟩
theorem InB.bd (hb : InB m x qs) : BdQ x m qs := by
 obtain ⟨M, X, h1, h2, h3, h4⟩ := hb;refine ⟨fun q hq => Nat.le_trans ((h2 q hq).size h1).1 h4, M, h1, h3, fun q hq => ?_⟩;obtain ⟨z, rfl, _⟩ := h2 q hq;exact (mkRat_sizes z M (by omega)).1
structure RadB (R : Nat -> List Rat) (Mr Xr : Nat -> Nat) : Prop where
 len : ∀ i, (R i).length = 2 ^ i
 pos : ∀ i, 0 < Mr i
 all : ∀ i, AllM (Mr i) (Xr i) (R i)
 mb : ∀ i, Mr i <= W4 ^ 2 ^ i
 xb : ∀ i, Xr i <= W4 ^ (1 + 2 ^ i)
variable {R : Nat -> List Rat} {Mr Xr : Nat -> Nat}
theorem InB.mul (hR : RadB R Mr Xr) (h : Nat) (ha : InB m x a) (hb : InB m' x' b) : InB (m + m' + eF h) (x + x' + eYq h) (mulL R h a b) := by
 obtain ⟨Ma, Xa, p1, p2, p3, p4⟩ := ha;obtain ⟨Mb, Xb, q1, q2, q3, q4⟩ := hb;obtain ⟨b1, b2⟩ := pr_bd (n := h) (fun i _ => hR.mb i) (fun i _ => hR.xb i) h (Nat.le_refl _);refine ⟨_, _, Nat.mul_pos (Nat.mul_pos p1 q1) (prQ_pos hR.pos h), mulL_in hR.pos hR.all h p1 q1 p2 q2, ?_, ?_⟩
 ·rw [Nat.pow_add, Nat.pow_add]
  exact Nat.mul_le_mul (Nat.mul_le_mul p3 q3) b1
 ·rw [Nat.pow_add, Nat.pow_add]
  exact Nat.mul_le_mul (Nat.mul_le_mul p4 q4) b2
theorem low_few : ∀ h, h < 4 -> eF h <= 12 /\ eYq h <= 26 /\ 2 ^ h <= 8 /\ eF (h + 1) <= 32 /\ eYq (h + 1) <= 62 /\ 2 ^ (h + 1) <= 16 := by
 intro h hh
 match h, hh with
 | 0, _ => decide
 | 1, _ => decide
 | 2, _ => decide
 | 3, _ => decide
end
section
variable {w : World} {Tt A B : Option Addr} {n ct m c d h : Nat} {T : List (List Rat)} {qs ps : List Rat}
theorem rad_few (hp : PolT w Tt n ct T 4) (ht : TowL T) : RadB (radQ T) (fun i => prodD (radQ T i)) (fun i => W4 * prodD (radQ T i)) := by
 have hR : ∀ i q, q ∈ radQ T i -> SmQ q := by
  intro i q hq
  rcases Nat.lt_or_ge i T.length with hi | hi
  ·rw [radQ_at hi] at hq
   exact hp.sm _ (List.getElem_mem hi) q hq
  ·unfold radQ at hq
   rw [List.getD_eq_getElem?_getD, List.getElem?_eq_none hi] at hq;rw [List.eq_of_mem_replicate hq];exact ⟨Nat.zero_le _, W4_pos⟩
 have hb : ∀ i, prodD (radQ T i) <= W4 ^ 2 ^ i := fun i => by have := (in_few (hR i)).2.1; rwa [radQ_len ht] at this
 exact ⟨radQ_len ht, fun i => (in_few (hR i)).1, fun i => (in_few (hR i)).2.2, hb, fun i => by rw [Nat.pow_add, Nat.pow_one]; exact Nat.mul_le_mul_left _ (hb i)⟩
end
end
section
open Go.RowKit
attribute [local go_sem ↓] Go.wp_at_zero Go.wp_at_succ
theorem add_assocL : ∀ a b c : List Rat, addL (addL a b) c = addL a (addL b c)
 | [], _, _ => rfl
 | _ :: _, [], _ => rfl
 | _ :: _, _ :: _, [] => rfl
 | x :: a, y :: b, z :: c => by
  show (x + y + z) :: addL (addL a b) c = (x + (y + z)) :: addL a (addL b c)
  rw [add_assocL a b c, Rat.add_assoc]
theorem mul_addL {R : Nat -> List Rat} (hR : ∀ i, (R i).length = 2 ^ i) {h : Nat} {a b c : List Rat} (ha : a.length = 2 ^ h) (hb : b.length = 2 ^ h) (hc : c.length = 2 ^ h) : mulL R h a (addL b c) = addL (mulL R h a b) (mulL R h a c) :=
 toE_inj mulL_len (addL_len mulL_len mulL_len) (by rw [toE_mul hR ha (addL_len hb hc), toE_add hb hc, El.mul_add, toE_add mulL_len mulL_len, toE_mul hR ha hb, toE_mul hR ha hc])
theorem one_len (h : Nat) (q : Rat) : (q :: List.replicate (2 ^ h - 1) (0 : Rat)).length = 2 ^ h := by
 have := Nat.pow_pos (n := h) (show 0 < 2 by omega);rw [List.length_cons, List.length_replicate];omega
theorem one_mulL {R : Nat -> List Rat} (hR : ∀ i, (R i).length = 2 ^ i) {h : Nat} {a : List Rat} (ha : a.length = 2 ^ h) : mulL R h (1 :: List.replicate (2 ^ h - 1) 0) a = a :=
 toE_inj mulL_len ha (by rw [mulL_comm hR (one_len h 1) ha, toE_mul hR ha (one_len h 1), toE_const, El.smul_one, El.mul_one])
theorem zero_addL : ∀ a : List Rat, zeroB (addL a (negL a)) = true
 | [] => rfl
 | x :: a => by
  show (decide (x + -x = 0) && zeroB (addL a (negL a))) = true
  rw [zero_addL a, Rat.add_neg_cancel]
  rfl
theorem InB.add {m x m' x' : Nat} {a b : List Rat} (h : InB m x a) (k : InB m' x' b) : InB (m + m') (x + m' + (x' + m) + 1) (addL a b) := by
 obtain ⟨M, X, p1, p2, p3, p4⟩ := h;obtain ⟨M', X', q1, q2, q3, q4⟩ := k;have h1 : AllM (M * M') (X * M') a := fun q hq => InM.scale p1 M' q1 (p2 q hq)
 have h2 : AllM (M * M') (X' * M) b := fun q hq => by
  have := InM.scale q1 M p1 (q2 q hq)
  rwa [Nat.mul_comm M' M] at this
 refine ⟨M * M', X * M' + X' * M, Nat.mul_pos p1 q1, AllM.add (Nat.mul_pos p1 q1) h1 h2, ?_, ?_⟩
 ·rw [Nat.pow_add]; exact Nat.mul_le_mul p3 q3
 ·have a1 : X * M' <= W4 ^ (x + m' + (x' + m)) := by
   refine Nat.le_trans (Nat.mul_le_mul p4 q3) ?_;rw [<- Nat.pow_add];exact Nat.pow_le_pow_right W4_pos (by omega)
  have a2 : X' * M <= W4 ^ (x + m' + (x' + m)) := by
   refine Nat.le_trans (Nat.mul_le_mul q4 p3) ?_;rw [<- Nat.pow_add];exact Nat.pow_le_pow_right W4_pos (by omega)
  rw [Nat.pow_succ];generalize W4 ^ (x + m' + (x' + m)) = p at a1 a2;have h4 : p * 2 <= p * W4 := Nat.mul_le_mul_left _ (by decide +kernel);omega
section
variable {w : World} {A B D : Option Addr} {n c m d e0 l g L M : Nat} {T : List (List Rat)} {qs ps : List Rat} {u x u' x' : Nat}
theorem q_SameE (h : Pol w A n c qs L) (h' : Pol w B m d ps M) (e : qs = ps) (hL : L <= 1000) (hM : M <= 1000) (hn : n <= 100000) : Calls Tryz.prog 19 #[.slice A n c, .slice B m d] w fun e w' => e = .returned (.bool true) /\ Ext w w' := by
 subst e;exact q_SameT h h' hL hM hn
theorem p_rAdd (hbx : Box w g 22 #[.slice A n c]) (hp : PolT w A n c T 4) (ht : TowL T) (hn : n <= 4) (ha : Pol w B m d qs L) (hb : Pol w D m e0 ps M) (hm : m = 2 ^ n) (hLM : L + M <= 900) (hT : Tab w) :
  Calls Tryz.prog 38 #[.slice B m d, .slice D m e0, .pointer (some ⟨g, 0, Option.none⟩)] w (fun e w' => ∃ A' c', e = .returned (.slice A' m c') /\ Pol w' A' m c' (addL qs ps) (L + M + 1) /\ Ext w w') := by
 have x0 := hbx.cell 0 (.slice A n c) rfl;have HM := Lib.hid hm;have hml : (addL qs ps).length = m := addL_len ha.len hb.len;have HML := Lib.hid hml;clear hm hml
 go_enter Tryz.func38, Tryz.ntmps38
 go_wp2_with fail
 refine (p_AddT hp ht ha hb HM.out HM.out (by omega) hLM (by omega) hT).mono ?_;rintro e V ⟨A1, n1, c1, rfl, hr, hx⟩;have hn1 : n1 = m := by rw [<- hr.len]; exact HML.out
 subst hn1
 go_wp2_with fail
 go_ret
 exact ⟨_, _, rfl, hr, hx⟩
theorem p_rMul (hbx : Box w g 22 #[.slice A n c]) (hp : PolT w A n c T 4) (ht : TowL T) (hn : n <= 4) (ha : Pol w B m d qs L) (hb : Pol w D m e0 ps M) (hm : m = 2 ^ n) (hL : L <= 900) (hM : M <= 900) (h64 : min L M < 64) (ia : InB u x qs) (ib : InB u' x' ps) (hz : 4 * (u + u' + eF n) + 1 <= 400 /\ 4 * (x + x' + eYq n) + 1 <= 400) (hT : Tab w) :
  Calls Tryz.prog 39 #[.slice B m d, .slice D m e0, .pointer (some ⟨g, 0, Option.none⟩)] w (fun e w' => ∃ A' c', e = .returned (.slice A' m c') /\ Pol w' A' m c' (mulL (radQ T) n qs ps) 400 /\ Ext w w') := by
 have x0 := hbx.cell 0 (.slice A n c) rfl;have HM := Lib.hid hm;have HI := Lib.hid ((InB.mul (rad_few hp ht) n ia ib).words hz.2 hz.1);have HZ := Lib.hid hz;clear hm hz
 go_enter Tryz.func39, Tryz.ntmps39
 go_wp2_with fail
 refine (p_MulT hp ht hp.sm hn ha HM.out hb HM.out (by omega) (by omega) h64 ia.bd ib.bd (by have := HZ.out; omega) hT).mono ?_;rintro e V ⟨A1, n1, c1, rfl, hr, hx⟩;have hn1 : n1 = m := by rw [<- hr.len, mulL_len, HM.out]
 subst hn1
 go_wp2_with fail
 go_ret
 exact ⟨_, _, rfl, hr.tightG HI.out, hx⟩
end
set_option maxRecDepth 100000 in
theorem ring6_any {w : World} {A A1 A2 A3 : Option Addr} {n c n1 c1 n2 c2 n3 c3 : Nat} {ts : List (List RawR)} {r1 r2 r3 : List RawR} (hA : Awake6) (hT : Tab w) (h : RawT w A n c ts) (h1 : RawP w A1 n1 c1 r1) (h2 : RawP w A2 n2 c2 r2) (h3 : RawP w A3 n3 c3 r3) :
  Calls Tryz.prog 6 #[.agg #[.slice A n c, .slice A1 n1 c1, .slice A2 n2 c2, .slice A3 n3 c3]] w (fun e w' => e = .returned (.bool true) /\ Ext w w') := by
 have hmf : ∀ (fn : Fn) (first cap : Array Value) (w : World), (Instr.makeFunc fn first cap).run Tryz.prog w = .ok (.func fn first cap) w := fun _ _ _ _ => rfl
 go_enter Tryz.func6, Tryz.ntmps6
 go_upto_region 1 with (fail)
 obtain ⟨W, hW, EW, bx, hz⟩ := box1 w 25 #[.slice A n c, .slice A1 n1 c1, .slice A2 n2 c2, .slice A3 n3 c3];rw [<- hW];clear hW hz;have HA := Lib.hid hA;clear hA
 go_wp2_with fail
 refine (HA.out _ (hT.ext EW)).mono ?_;rintro e V1 ⟨rfl, hx⟩;replace bx := bx.ext hx;replace EW := EW.trans hx;clear hx;have x0 := bx.cell 0 (.slice A n c) rfl;have x1 := bx.cell 1 (.slice A1 n1 c1) rfl;have x2 := bx.cell 2 (.slice A2 n2 c2) rfl;have x3 := bx.cell 3 (.slice A3 n3 c3) rfl
 go_wp2_with fail
 refine (p_rightL (h.ext EW) (h1.ext EW) (h2.ext EW) (h3.ext EW)).mono ?_;rintro e V2 ⟨rfl, hx⟩;replace bx := bx.ext hx;replace EW := EW.trans hx;clear hx x0 x1 x2 x3
 cases hrb : rightB ts r1 r2 r3 with
 | false =>
  go_wp2_with fail
  refine (HA.out _ (hT.ext EW)).mono ?_;rintro e V3 ⟨rfl, hx⟩
  go_wp2_with fail
  go_ret
  exact ⟨rfl, EW.trans hx⟩
 | true =>
  obtain ⟨T, qa, qb, qc, hp, ht, hn4, ⟨ha, ha2⟩, ⟨hb, hb2⟩, ⟨hc, hc2⟩⟩ := right_bundle h h1 h2 h3 hrb;have HN1 := Lib.hid ha2;have HN2 := Lib.hid hb2;have HN3 := Lib.hid hc2;have hm1 : n1 <= 16 := by rw [ha2]; exact (m_few n (by omega)).2.2.2.2.2.2
  have hm2 : n2 <= 16 := by rw [hb2]; exact (m_few n (by omega)).2.2.2.2.2.2
  have hm3 : n3 <= 16 := by rw [hc2]; exact (m_few n (by omega)).2.2.2.2.2.2
  replace hp := hp.ext EW;replace ha := ha.ext EW;replace hb := hb.ext EW;replace hc := hc.ext EW;clear h h1 h2 h3 hrb ha2 hb2 hc2;obtain rfl : n2 = n1 := by rw [HN2.out, HN1.out]
  obtain rfl : n3 = n2 := by rw [HN3.out, HN1.out]
  clear HN2 HN3 hm2 hm3;have x0 := bx.cell 0 (.slice A n c) rfl
  by_cases h3 : n <= 3
  ·have g1 : decide ((3 : Int) < (n : Int)) = false := decide_eq_false (by omega)
   have HB := Lib.hid (low_few n (by omega));have HRL := Lib.hid (radQ_len ht);have HQA := Lib.hid (show qa.length = 2 ^ n by rw [ha.len, HN1.out]);have HQB := Lib.hid (show qb.length = 2 ^ n by rw [hb.len, HN1.out]);have HQC := Lib.hid (show qc.length = 2 ^ n by rw [hc.len, HN1.out]);have IA := Lib.hid (InB.few ha.sm HQA.out);have IB := Lib.hid (InB.few hb.sm HQB.out);have IC := Lib.hid (InB.few hc.sm HQC.out);have HRB := Lib.hid (rad_few hp ht);have IAB := Lib.hid (InB.mul HRB.out n IA.out IB.out);have IBC := Lib.hid (InB.mul HRB.out n IB.out IC.out);have ISM := Lib.hid (InB.add IB.out IC.out)
   have IQ := Lib.hid (InB.few (n := n) (qs := ((1 : Rat) :: List.replicate (2 ^ n - 1) 0)) (by
    intro q hq
    rcases List.mem_cons.1 hq with rfl | hq
    ·exact ⟨by decide +kernel, by decide +kernel⟩
    ·rw [List.eq_of_mem_replicate hq]
     exact ⟨Nat.zero_le _, W4_pos⟩) (one_len n _))
   clear h3
   go_upto_region 6 with (fail)
   clear x0;obtain ⟨V4, hV4, ex, bt, hz4⟩ := box1 V2 22 #[.slice A n c];rw [<- hV4];clear hV4 hz4;generalize V2.heap.size = gt at bt ⊢;replace bx := bx.ext ex;replace hp := hp.ext ex;replace ha := ha.ext ex;replace hb := hb.ext ex;replace hc := hc.ext ex;replace EW := EW.trans ex;clear ex;have ES0 := Ext.refl V4;refine wp_region_held_drew (S := Ext V4) (by as_aux_lemma => kernel_rfl) ES0.drew (fun ES => ?_);clear ES0;refine Late.s0 ES (fun hAl hQ => ?_);refine Late.ta 0 25 ?v_0 hQ ?y_0 ?_
   case y_0 => intro w' hSw;have k00 := (bt.ext hSw).cell 0 _ rfl;go_simp;try rfl
   try simp only [zP]
   refine Late.cla (i := 1) rfl hAl hQ (fun w1 e1 E1 K hK => ?_);go_simp
   (go_at_call 40; refine (q_FromIntR 1 (by omega) (by omega)).mono ?_; rintro e wk1 ⟨s20, A20, m20, c20, t20, B20, l20, d20, rfl, q1, hx1⟩)
   refine hK.out _ _ hx1 ?_;clear hK K
   try simp only [zP]
   refine Late.cla (i := 2) rfl hAl hQ (fun w2 e2 E2 K hK => ?_);go_simp
   (replace q1 := q1.ext e2; go_at_call 16; refine (p_FromRatT (hp.ext E2) ht q1 (by omega) (by omega) (by omega) (by omega) (hT.ext (EW.trans E2))).mono ?_; rintro e wk2 ⟨A19, m19, c19, rfl, o1, hx2⟩; replace q1 := q1.ext hx2)
   refine hK.out _ _ hx2 ?_;clear hK K
   try simp only [zP]
   refine Late.ua 3 6 hQ ?_
   try simp only [zP]
   refine Late.d0a (fun V6 ez hx => ?_);clear hAl hQ ES;replace o1 := o1.ext ez;clear ez;obtain rfl : n3 = m19 := by rw [<- o1.len, one_len, HN1.out]
   replace bx := bx.ext hx;replace bt := bt.ext hx;replace hp := hp.ext hx;replace ha := ha.ext hx;replace hb := hb.ext hx;replace hc := hc.ext hx;replace EW := EW.trans hx;rw [show ((1 : Int) : Rat) = 1 from rfl] at o1;clear hx
   go_upto_region 7 with (fail)
   have ES0 := Ext.refl V6;refine wp_region_held_drew (S := Ext V6) (by as_aux_lemma => kernel_rfl) ES0.drew (fun ES => ?_);clear ES0;refine Late.s0 ES (fun hAl hQ => ?_);refine Late.ta 0 28 ?v_2 hQ ?y_2 ?_
   case y_2 => intro w' hSw;have k00 := (bx.ext hSw).c4;have k10 := (bt.ext hSw).cell 0 _ rfl;go_simp;try rfl
   try simp only [zP]
   refine Late.ta 1 29 ?v_3 hQ ?y_3 ?_
   case y_3 => intro w' hSw;have k00 := (bx.ext hSw).c4;have k10 := (bt.ext hSw).cell 0 _ rfl;go_simp;try rfl
   try simp only [zP]
   refine Late.ta 2 30 ?v_4 hQ ?y_4 ?_
   case y_4 => intro w' hSw;have k00 := (bx.ext hSw).c4;have k10 := (bt.ext hSw).cell 0 _ rfl;go_simp;try rfl
   try simp only [zP]
   refine Late.ta 4 32 ?v_5 hQ ?y_5 ?_
   case y_5 => intro w' hSw;have k00 := (bx.ext hSw).c4;have k10 := (bt.ext hSw).cell 0 _ rfl;go_simp;try rfl
   try simp only [zP]
   refine Late.ta 7 35 ?v_6 hQ ?y_6 ?_
   case y_6 => intro w' hSw;have k00 := (bx.ext hSw).c4;have k10 := (bt.ext hSw).cell 0 _ rfl;go_simp;try rfl
   try simp only [zP]
   refine Late.ta 10 38 ?v_7 hQ ?y_7 ?_
   case y_7 => intro w' hSw;have k00 := (bx.ext hSw).c4;have k10 := (bt.ext hSw).cell 0 _ rfl;go_simp;try rfl
   try simp only [zP]
   refine Late.ta 11 39 ?v_8 hQ ?y_8 ?_
   case y_8 => intro w' hSw;have k00 := (bx.ext hSw).c4;have k10 := (bt.ext hSw).cell 0 _ rfl;go_simp;try rfl
   try simp only [zP]
   refine Late.ta 13 41 ?v_9 hQ ?y_9 ?_
   case y_9 => intro w' hSw;have k00 := (bx.ext hSw).c4;have k10 := (bt.ext hSw).cell 0 _ rfl;go_simp;try rfl
   try simp only [zP]
   refine Late.ta 14 42 ?v_a hQ ?y_a ?_
   case y_a => intro w' hSw;have k00 := (bx.ext hSw).c4;have k10 := (bt.ext hSw).cell 0 _ rfl;go_simp;try rfl
   try simp only [zP]
   refine Late.ta 16 44 ?v_b hQ ?y_b ?_
   case y_b => intro w' hSw;have k00 := (bx.ext hSw).c4;have k10 := (bt.ext hSw).cell 0 _ rfl;go_simp;try rfl
   try simp only [zP]
   refine Late.ta 3 31 ?v_c hQ ?y_c ?_
   case y_c => intro w' hSw;have k00 := (bx.ext hSw).c4;have k10 := (bt.ext hSw).cell 0 _ rfl;go_simp;try rfl
   try simp only [zP]
   refine Late.ta 5 33 ?v_d hQ ?y_d ?_
   case y_d => intro w' hSw;have k00 := (bx.ext hSw).c4;have k10 := (bt.ext hSw).cell 0 _ rfl;go_simp;try rfl
   try simp only [zP]
   refine Late.ta 8 36 ?v_e hQ ?y_e ?_
   case y_e => intro w' hSw;have k00 := (bx.ext hSw).c4;have k10 := (bt.ext hSw).cell 0 _ rfl;go_simp;try rfl
   try simp only [zP]
   refine Late.ta 12 40 ?v_f hQ ?y_f ?_
   case y_f => intro w' hSw;have k00 := (bx.ext hSw).c4;have k10 := (bt.ext hSw).cell 0 _ rfl;go_simp;try rfl
   try simp only [zP]
   refine Late.ta 15 43 ?v_g hQ ?y_g ?_
   case y_g => intro w' hSw;have k00 := (bx.ext hSw).c4;have k10 := (bt.ext hSw).cell 0 _ rfl;go_simp;try rfl
   try simp only [zP]
   refine Late.ta 17 45 ?v_h hQ ?y_h ?_
   case y_h => intro w' hSw;have k00 := (bx.ext hSw).c4;have k10 := (bt.ext hSw).cell 0 _ rfl;go_simp;try rfl
   try simp only [zP]
   refine Late.cla (i := 6) rfl hAl hQ (fun w6 e6 E6 K hK => ?_);go_simp
   (go_at_call 38; refine (p_rAdd (bt.ext E6) (hp.ext E6) ht (by omega) (ha.ext E6) (hb.ext E6) HN1.out (by omega) (hT.ext (EW.trans E6))).mono ?_; rintro e wk6 ⟨A21, c21, rfl, r1, hx6⟩)
   refine hK.out _ _ hx6 ?_;clear hK K
   try simp only [zP]
   refine Late.cla (i := 9) rfl hAl hQ (fun w9 e9 E9 K hK => ?_);go_simp
   (replace r1 := r1.ext e9; go_at_call 38; refine (p_rAdd (bt.ext E9) (hp.ext E9) ht (by omega) r1 (hc.ext E9) HN1.out (by omega) (hT.ext (EW.trans E9))).mono ?_; rintro e wk9 ⟨A22, c22, rfl, r2, hx9⟩; replace r1 := r1.ext hx9)
   refine hK.out _ _ hx9 ?_;clear hK K
   try simp only [zP]
   refine Late.cla (i := 18) rfl hAl hQ (fun w18 e18 E18 K hK => ?_);go_simp
   (replace r1 := r1.ext e18; replace r2 := r2.ext e18; go_at_call 38; refine (p_rAdd (bt.ext E18) (hp.ext E18) ht (by omega) (hb.ext E18) (hc.ext E18) HN1.out (by omega) (hT.ext (EW.trans E18))).mono ?_; rintro e wk18 ⟨A23, c23, rfl, r3, hx18⟩; replace r1 := r1.ext hx18; replace r2 := r2.ext hx18)
   refine hK.out _ _ hx18 ?_;clear hK K
   try simp only [zP]
   refine Late.cla (i := 19) rfl hAl hQ (fun w19 e19 E19 K hK => ?_);go_simp
   (replace r1 := r1.ext e19; replace r2 := r2.ext e19; replace r3 := r3.ext e19; go_at_call 38; refine (p_rAdd (bt.ext E19) (hp.ext E19) ht (by omega) (ha.ext E19) r3 HN1.out (by omega) (hT.ext (EW.trans E19))).mono ?_; rintro e wk19 ⟨A24, c24, rfl, r4, hx19⟩; replace r1 := r1.ext hx19; replace r2 := r2.ext hx19; replace r3 := r3.ext hx19)
   refine hK.out _ _ hx19 ?_;clear hK K
   try simp only [zP]
   refine Late.cla (i := 20) rfl hAl hQ (fun w20 e20 E20 K hK => ?_);go_simp
   (replace r1 := r1.ext e20; replace r2 := r2.ext e20; replace r3 := r3.ext e20; replace r4 := r4.ext e20; go_at_call 19; refine (q_SameE r2 r4 (add_assocL _ _ _) (by omega) (by omega) (by omega)).mono ?_; rintro e wk20 ⟨rfl, hx20⟩; replace r1 := r1.ext hx20; replace r2 := r2.ext hx20; replace r3 := r3.ext hx20; replace r4 := r4.ext hx20)
   refine hK.out _ _ hx20 ?_;clear hK K
   try simp only [zP]
   refine Late.ta 21 49 ?v_i hQ ?y_i ?_
   case y_i => intro w' hSw;have k00 := (bx.ext hSw).c4;have k10 := (bt.ext hSw).cell 0 _ rfl;go_simp;try rfl
   try simp only [zP]
   refine Late.ta 22 50 ?v_j hQ ?y_j ?_
   case y_j => intro w' hSw;have k00 := (bx.ext hSw).c4;have k10 := (bt.ext hSw).cell 0 _ rfl;go_simp;try rfl
   try simp only [zP]
   refine Late.ta 23 51 ?v_k hQ ?y_k ?_
   case y_k => intro w' hSw;have k00 := (bx.ext hSw).c4;have k10 := (bt.ext hSw).cell 0 _ rfl;go_simp;try rfl
   try simp only [zP]
   refine Late.ta 24 52 ?v_l hQ ?y_l ?_
   case y_l => intro w' hSw;have k00 := (bx.ext hSw).c4;have k10 := (bt.ext hSw).cell 0 _ rfl;go_simp;try rfl
   try simp only [zP]
   refine Late.ta 26 54 ?v_m hQ ?y_m ?_
   case y_m => intro w' hSw;have k00 := (bx.ext hSw).c4;have k10 := (bt.ext hSw).cell 0 _ rfl;go_simp;try rfl
   try simp only [zP]
   refine Late.ta 29 57 ?v_n hQ ?y_n ?_
   case y_n => intro w' hSw;have k00 := (bx.ext hSw).c4;have k10 := (bt.ext hSw).cell 0 _ rfl;go_simp;try rfl
   try simp only [zP]
   refine Late.ta 32 60 ?v_o hQ ?y_o ?_
   case y_o => intro w' hSw;have k00 := (bx.ext hSw).c4;have k10 := (bt.ext hSw).cell 0 _ rfl;go_simp;try rfl
   try simp only [zP]
   refine Late.ta 33 61 ?v_p hQ ?y_p ?_
   case y_p => intro w' hSw;have k00 := (bx.ext hSw).c4;have k10 := (bt.ext hSw).cell 0 _ rfl;go_simp;try rfl
   try simp only [zP]
   refine Late.ta 35 63 ?v_q hQ ?y_q ?_
   case y_q => intro w' hSw;have k00 := (bx.ext hSw).c4;have k10 := (bt.ext hSw).cell 0 _ rfl;go_simp;try rfl
   try simp only [zP]
   refine Late.ta 36 64 ?v_r hQ ?y_r ?_
   case y_r => intro w' hSw;have k00 := (bx.ext hSw).c4;have k10 := (bt.ext hSw).cell 0 _ rfl;go_simp;try rfl
   try simp only [zP]
   refine Late.ta 38 66 ?v_s hQ ?y_s ?_
   case y_s => intro w' hSw;have k00 := (bx.ext hSw).c4;have k10 := (bt.ext hSw).cell 0 _ rfl;go_simp;try rfl
   try simp only [zP]
   refine Late.ta 25 53 ?v_t hQ ?y_t ?_
   case y_t => intro w' hSw;have k00 := (bx.ext hSw).c4;have k10 := (bt.ext hSw).cell 0 _ rfl;go_simp;try rfl
   try simp only [zP]
   refine Late.ta 27 55 ?v_u hQ ?y_u ?_
   case y_u => intro w' hSw;have k00 := (bx.ext hSw).c4;have k10 := (bt.ext hSw).cell 0 _ rfl;go_simp;try rfl
   try simp only [zP]
   refine Late.ta 30 58 ?v_v hQ ?y_v ?_
   case y_v => intro w' hSw;have k00 := (bx.ext hSw).c4;have k10 := (bt.ext hSw).cell 0 _ rfl;go_simp;try rfl
   try simp only [zP]
   refine Late.ta 34 62 ?v_w hQ ?y_w ?_
   case y_w => intro w' hSw;have k00 := (bx.ext hSw).c4;have k10 := (bt.ext hSw).cell 0 _ rfl;go_simp;try rfl
   try simp only [zP]
   refine Late.ta 37 65 ?v_x hQ ?y_x ?_
   case y_x => intro w' hSw;have k00 := (bx.ext hSw).c4;have k10 := (bt.ext hSw).cell 0 _ rfl;go_simp;try rfl
   try simp only [zP]
   refine Late.ta 39 67 ?v_y hQ ?y_y ?_
   case y_y => intro w' hSw;have k00 := (bx.ext hSw).c4;have k10 := (bt.ext hSw).cell 0 _ rfl;go_simp;try rfl
   try simp only [zP]
   refine Late.cla (i := 28) rfl hAl hQ (fun w28 e28 E28 K hK => ?_);go_simp
   (replace r1 := r1.ext e28; replace r2 := r2.ext e28; replace r3 := r3.ext e28; replace r4 := r4.ext e28; go_at_call 39; refine (p_rMul (bt.ext E28) (hp.ext E28) ht (by omega) (ha.ext E28) (hb.ext E28) HN1.out (by omega) (by omega) (by omega) IA.out IB.out (by have := HB.out; omega) (hT.ext (EW.trans E28))).mono ?_; rintro e wk28 ⟨A26, c26, rfl, s1, hx28⟩; replace r1 := r1.ext hx28; replace r2 := r2.ext hx28; replace r3 := r3.ext hx28; replace r4 := r4.ext hx28)
   refine hK.out _ _ hx28 ?_;clear hK K
   try simp only [zP]
   refine Late.cla (i := 31) rfl hAl hQ (fun w31 e31 E31 K hK => ?_);go_simp
   (replace r1 := r1.ext e31; replace r2 := r2.ext e31; replace r3 := r3.ext e31; replace r4 := r4.ext e31; replace s1 := s1.ext e31; go_at_call 39; refine (p_rMul (bt.ext E31) (hp.ext E31) ht (by omega) s1 (hc.ext E31) HN1.out (by omega) (by omega) (by omega) IAB.out IC.out (by have := HB.out; omega) (hT.ext (EW.trans E31))).mono ?_; rintro e wk31 ⟨A27, c27, rfl, s2, hx31⟩; replace r1 := r1.ext hx31; replace r2 := r2.ext hx31; replace r3 := r3.ext hx31; replace r4 := r4.ext hx31; replace s1 := s1.ext hx31)
   refine hK.out _ _ hx31 ?_;clear hK K
   try simp only [zP]
   refine Late.cla (i := 40) rfl hAl hQ (fun w40 e40 E40 K hK => ?_);go_simp
   (replace r1 := r1.ext e40; replace r2 := r2.ext e40; replace r3 := r3.ext e40; replace r4 := r4.ext e40; replace s1 := s1.ext e40; replace s2 := s2.ext e40; go_at_call 39; refine (p_rMul (bt.ext E40) (hp.ext E40) ht (by omega) (hb.ext E40) (hc.ext E40) HN1.out (by omega) (by omega) (by omega) IB.out IC.out (by have := HB.out; omega) (hT.ext (EW.trans E40))).mono ?_; rintro e wk40 ⟨A28, c28, rfl, s3, hx40⟩; replace r1 := r1.ext hx40; replace r2 := r2.ext hx40; replace r3 := r3.ext hx40; replace r4 := r4.ext hx40; replace s1 := s1.ext hx40; replace s2 := s2.ext hx40)
   refine hK.out _ _ hx40 ?_;clear hK K
   try simp only [zP]
   refine Late.cla (i := 41) rfl hAl hQ (fun w41 e41 E41 K hK => ?_);go_simp
   (replace r1 := r1.ext e41; replace r2 := r2.ext e41; replace r3 := r3.ext e41; replace r4 := r4.ext e41; replace s1 := s1.ext e41; replace s2 := s2.ext e41; replace s3 := s3.ext e41; go_at_call 39; refine (p_rMul (bt.ext E41) (hp.ext E41) ht (by omega) (ha.ext E41) s3 HN1.out (by omega) (by omega) (by omega) IA.out IBC.out (by have := HB.out; omega) (hT.ext (EW.trans E41))).mono ?_; rintro e wk41 ⟨A29, c29, rfl, s4, hx41⟩; replace r1 := r1.ext hx41; replace r2 := r2.ext hx41; replace r3 := r3.ext hx41; replace r4 := r4.ext hx41; replace s1 := s1.ext hx41; replace s2 := s2.ext hx41; replace s3 := s3.ext hx41)
   refine hK.out _ _ hx41 ?_;clear hK K
   try simp only [zP]
   refine Late.cla (i := 42) rfl hAl hQ (fun w42 e42 E42 K hK => ?_);go_simp
   (replace r1 := r1.ext e42; replace r2 := r2.ext e42; replace r3 := r3.ext e42; replace r4 := r4.ext e42; replace s1 := s1.ext e42; replace s2 := s2.ext e42; replace s3 := s3.ext e42; replace s4 := s4.ext e42; go_at_call 19; refine (q_SameE s2 s4 (mulL_assoc HRL.out HQA.out HQB.out HQC.out) (by omega) (by omega) (by omega)).mono ?_; rintro e wk42 ⟨rfl, hx42⟩; replace r1 := r1.ext hx42; replace r2 := r2.ext hx42; replace r3 := r3.ext hx42; replace r4 := r4.ext hx42; replace s1 := s1.ext hx42; replace s2 := s2.ext hx42; replace s3 := s3.ext hx42; replace s4 := s4.ext hx42)
   refine hK.out _ _ hx42 ?_;clear hK K
   try simp only [zP]
   refine Late.ta 43 71 ?v_z hQ ?y_z ?_
   case y_z => intro w' hSw;have k00 := (bx.ext hSw).c4;have k10 := (bt.ext hSw).cell 0 _ rfl;go_simp;try rfl
   try simp only [zP]
   refine Late.ta 44 72 ?v_10 hQ ?y_10 ?_
   case y_10 => intro w' hSw;have k00 := (bx.ext hSw).c4;have k10 := (bt.ext hSw).cell 0 _ rfl;go_simp;try rfl
   try simp only [zP]
   refine Late.ta 45 73 ?v_11 hQ ?y_11 ?_
   case y_11 => intro w' hSw;have k00 := (bx.ext hSw).c4;have k10 := (bt.ext hSw).cell 0 _ rfl;go_simp;try rfl
   try simp only [zP]
   refine Late.ta 46 74 ?v_12 hQ ?y_12 ?_
   case y_12 => intro w' hSw;have k00 := (bx.ext hSw).c4;have k10 := (bt.ext hSw).cell 0 _ rfl;go_simp;try rfl
   try simp only [zP]
   refine Late.ta 48 76 ?v_13 hQ ?y_13 ?_
   case y_13 => intro w' hSw;have k00 := (bx.ext hSw).c4;have k10 := (bt.ext hSw).cell 0 _ rfl;go_simp;try rfl
   try simp only [zP]
   refine Late.ta 51 79 ?v_14 hQ ?y_14 ?_
   case y_14 => intro w' hSw;have k00 := (bx.ext hSw).c4;have k10 := (bt.ext hSw).cell 0 _ rfl;go_simp;try rfl
   try simp only [zP]
   refine Late.ta 52 80 ?v_15 hQ ?y_15 ?_
   case y_15 => intro w' hSw;have k00 := (bx.ext hSw).c4;have k10 := (bt.ext hSw).cell 0 _ rfl;go_simp;try rfl
   try simp only [zP]
   refine Late.ta 54 82 ?v_16 hQ ?y_16 ?_
   case y_16 => intro w' hSw;have k00 := (bx.ext hSw).c4;have k10 := (bt.ext hSw).cell 0 _ rfl;go_simp;try rfl
   try simp only [zP]
   refine Late.ta 47 75 ?v_17 hQ ?y_17 ?_
   case y_17 => intro w' hSw;have k00 := (bx.ext hSw).c4;have k10 := (bt.ext hSw).cell 0 _ rfl;go_simp;try rfl
   try simp only [zP]
   refine Late.ta 49 77 ?v_18 hQ ?y_18 ?_
   case y_18 => intro w' hSw;have k00 := (bx.ext hSw).c4;have k10 := (bt.ext hSw).cell 0 _ rfl;go_simp;try rfl
   try simp only [zP]
   refine Late.ta 53 81 ?v_19 hQ ?y_19 ?_
   case y_19 => intro w' hSw;have k00 := (bx.ext hSw).c4;have k10 := (bt.ext hSw).cell 0 _ rfl;go_simp;try rfl
   try simp only [zP]
   refine Late.ta 55 83 ?v_1a hQ ?y_1a ?_
   case y_1a => intro w' hSw;have k00 := (bx.ext hSw).c4;have k10 := (bt.ext hSw).cell 0 _ rfl;go_simp;try rfl
   try simp only [zP]
   refine Late.cla (i := 50) rfl hAl hQ (fun w50 e50 E50 K hK => ?_);go_simp
   (replace r1 := r1.ext e50; replace r2 := r2.ext e50; replace r3 := r3.ext e50; replace r4 := r4.ext e50; replace s1 := s1.ext e50; replace s2 := s2.ext e50; replace s3 := s3.ext e50; replace s4 := s4.ext e50; go_at_call 39; refine (p_rMul (bt.ext E50) (hp.ext E50) ht (by omega) (ha.ext E50) (hb.ext E50) HN1.out (by omega) (by omega) (by omega) IA.out IB.out (by have := HB.out; omega) (hT.ext (EW.trans E50))).mono ?_; rintro e wk50 ⟨A31, c31, rfl, s5, hx50⟩; replace r1 := r1.ext hx50; replace r2 := r2.ext hx50; replace r3 := r3.ext hx50; replace r4 := r4.ext hx50; replace s1 := s1.ext hx50; replace s2 := s2.ext hx50; replace s3 := s3.ext hx50; replace s4 := s4.ext hx50)
   refine hK.out _ _ hx50 ?_;clear hK K
   try simp only [zP]
   refine Late.cla (i := 56) rfl hAl hQ (fun w56 e56 E56 K hK => ?_);go_simp
   (replace r1 := r1.ext e56; replace r2 := r2.ext e56; replace r3 := r3.ext e56; replace r4 := r4.ext e56; replace s1 := s1.ext e56; replace s2 := s2.ext e56; replace s3 := s3.ext e56; replace s4 := s4.ext e56; replace s5 := s5.ext e56; go_at_call 39; refine (p_rMul (bt.ext E56) (hp.ext E56) ht (by omega) (hb.ext E56) (ha.ext E56) HN1.out (by omega) (by omega) (by omega) IB.out IA.out (by have := HB.out; omega) (hT.ext (EW.trans E56))).mono ?_; rintro e wk56 ⟨A32, c32, rfl, s6, hx56⟩; replace r1 := r1.ext hx56; replace r2 := r2.ext hx56; replace r3 := r3.ext hx56; replace r4 := r4.ext hx56; replace s1 := s1.ext hx56; replace s2 := s2.ext hx56; replace s3 := s3.ext hx56; replace s4 := s4.ext hx56; replace s5 := s5.ext hx56)
   refine hK.out _ _ hx56 ?_;clear hK K
   try simp only [zP]
   refine Late.cla (i := 57) rfl hAl hQ (fun w57 e57 E57 K hK => ?_);go_simp
   (replace r1 := r1.ext e57; replace r2 := r2.ext e57; replace r3 := r3.ext e57; replace r4 := r4.ext e57; replace s1 := s1.ext e57; replace s2 := s2.ext e57; replace s3 := s3.ext e57; replace s4 := s4.ext e57; replace s5 := s5.ext e57; replace s6 := s6.ext e57; go_at_call 19; refine (q_SameE s5 s6 (mulL_comm HRL.out HQA.out HQB.out) (by omega) (by omega) (by omega)).mono ?_; rintro e wk57 ⟨rfl, hx57⟩; replace r1 := r1.ext hx57; replace r2 := r2.ext hx57; replace r3 := r3.ext hx57; replace r4 := r4.ext hx57; replace s1 := s1.ext hx57; replace s2 := s2.ext hx57; replace s3 := s3.ext hx57; replace s4 := s4.ext hx57; replace s5 := s5.ext hx57; replace s6 := s6.ext hx57)
   refine hK.out _ _ hx57 ?_;clear hK K
   try simp only [zP]
   refine Late.ta 58 86 ?v_1b hQ ?y_1b ?_
   case y_1b => intro w' hSw;have k00 := (bx.ext hSw).c4;have k10 := (bt.ext hSw).cell 0 _ rfl;go_simp;try rfl
   try simp only [zP]
   refine Late.ta 59 87 ?v_1c hQ ?y_1c ?_
   case y_1c => intro w' hSw;have k00 := (bx.ext hSw).c4;have k10 := (bt.ext hSw).cell 0 _ rfl;go_simp;try rfl
   try simp only [zP]
   refine Late.ta 60 88 ?v_1d hQ ?y_1d ?_
   case y_1d => intro w' hSw;have k00 := (bx.ext hSw).c4;have k10 := (bt.ext hSw).cell 0 _ rfl;go_simp;try rfl
   try simp only [zP]
   refine Late.ta 61 89 ?v_1e hQ ?y_1e ?_
   case y_1e => intro w' hSw;have k00 := (bx.ext hSw).c4;have k10 := (bt.ext hSw).cell 0 _ rfl;go_simp;try rfl
   try simp only [zP]
   refine Late.ta 63 91 ?v_1f hQ ?y_1f ?_
   case y_1f => intro w' hSw;have k00 := (bx.ext hSw).c4;have k10 := (bt.ext hSw).cell 0 _ rfl;go_simp;try rfl
   try simp only [zP]
   refine Late.ta 64 92 ?v_1g hQ ?y_1g ?_
   case y_1g => intro w' hSw;have k00 := (bx.ext hSw).c4;have k10 := (bt.ext hSw).cell 0 _ rfl;go_simp;try rfl
   try simp only [zP]
   refine Late.ta 66 94 ?v_1h hQ ?y_1h ?_
   case y_1h => intro w' hSw;have k00 := (bx.ext hSw).c4;have k10 := (bt.ext hSw).cell 0 _ rfl;go_simp;try rfl
   try simp only [zP]
   refine Late.ta 70 98 ?v_1i hQ ?y_1i ?_
   case y_1i => intro w' hSw;have k00 := (bx.ext hSw).c4;have k10 := (bt.ext hSw).cell 0 _ rfl;go_simp;try rfl
   try simp only [zP]
   refine Late.ta 71 99 ?v_1j hQ ?y_1j ?_
   case y_1j => intro w' hSw;have k00 := (bx.ext hSw).c4;have k10 := (bt.ext hSw).cell 0 _ rfl;go_simp;try rfl
   try simp only [zP]
   refine Late.ta 72 100 ?v_1k hQ ?y_1k ?_
   case y_1k => intro w' hSw;have k00 := (bx.ext hSw).c4;have k10 := (bt.ext hSw).cell 0 _ rfl;go_simp;try rfl
   try simp only [zP]
   refine Late.ta 74 102 ?v_1l hQ ?y_1l ?_
   case y_1l => intro w' hSw;have k00 := (bx.ext hSw).c4;have k10 := (bt.ext hSw).cell 0 _ rfl;go_simp;try rfl
   try simp only [zP]
   refine Late.ta 77 105 ?v_1m hQ ?y_1m ?_
   case y_1m => intro w' hSw;have k00 := (bx.ext hSw).c4;have k10 := (bt.ext hSw).cell 0 _ rfl;go_simp;try rfl
   try simp only [zP]
   refine Late.ta 78 106 ?v_1n hQ ?y_1n ?_
   case y_1n => intro w' hSw;have k00 := (bx.ext hSw).c4;have k10 := (bt.ext hSw).cell 0 _ rfl;go_simp;try rfl
   try simp only [zP]
   refine Late.ta 80 108 ?v_1o hQ ?y_1o ?_
   case y_1o => intro w' hSw;have k00 := (bx.ext hSw).c4;have k10 := (bt.ext hSw).cell 0 _ rfl;go_simp;try rfl
   try simp only [zP]
   refine Late.ta 62 90 ?v_1p hQ ?y_1p ?_
   case y_1p => intro w' hSw;have k00 := (bx.ext hSw).c4;have k10 := (bt.ext hSw).cell 0 _ rfl;go_simp;try rfl
   try simp only [zP]
   refine Late.ta 65 93 ?v_1q hQ ?y_1q ?_
   case y_1q => intro w' hSw;have k00 := (bx.ext hSw).c4;have k10 := (bt.ext hSw).cell 0 _ rfl;go_simp;try rfl
   try simp only [zP]
   refine Late.ta 67 95 ?v_1r hQ ?y_1r ?_
   case y_1r => intro w' hSw;have k00 := (bx.ext hSw).c4;have k10 := (bt.ext hSw).cell 0 _ rfl;go_simp;try rfl
   try simp only [zP]
   refine Late.ta 73 101 ?v_1s hQ ?y_1s ?_
   case y_1s => intro w' hSw;have k00 := (bx.ext hSw).c4;have k10 := (bt.ext hSw).cell 0 _ rfl;go_simp;try rfl
   try simp only [zP]
   refine Late.ta 75 103 ?v_1t hQ ?y_1t ?_
   case y_1t => intro w' hSw;have k00 := (bx.ext hSw).c4;have k10 := (bt.ext hSw).cell 0 _ rfl;go_simp;try rfl
   try simp only [zP]
   refine Late.ta 79 107 ?v_1u hQ ?y_1u ?_
   case y_1u => intro w' hSw;have k00 := (bx.ext hSw).c4;have k10 := (bt.ext hSw).cell 0 _ rfl;go_simp;try rfl
   try simp only [zP]
   refine Late.ta 81 109 ?v_1v hQ ?y_1v ?_
   case y_1v => intro w' hSw;have k00 := (bx.ext hSw).c4;have k10 := (bt.ext hSw).cell 0 _ rfl;go_simp;try rfl
   try simp only [zP]
   refine Late.cla (i := 68) rfl hAl hQ (fun w68 e68 E68 K hK => ?_);go_simp
   (replace r1 := r1.ext e68; replace r2 := r2.ext e68; replace r3 := r3.ext e68; replace r4 := r4.ext e68; replace s1 := s1.ext e68; replace s2 := s2.ext e68; replace s3 := s3.ext e68; replace s4 := s4.ext e68; replace s5 := s5.ext e68; replace s6 := s6.ext e68; go_at_call 38; refine (p_rAdd (bt.ext E68) (hp.ext E68) ht (by omega) (hb.ext E68) (hc.ext E68) HN1.out (by omega) (hT.ext (EW.trans E68))).mono ?_; rintro e wk68 ⟨A34, c34, rfl, r5, hx68⟩; replace r1 := r1.ext hx68; replace r2 := r2.ext hx68; replace r3 := r3.ext hx68; replace r4 := r4.ext hx68; replace s1 := s1.ext hx68; replace s2 := s2.ext hx68; replace s3 := s3.ext hx68; replace s4 := s4.ext hx68; replace s5 := s5.ext hx68; replace s6 := s6.ext hx68)
   refine hK.out _ _ hx68 ?_;clear hK K
   try simp only [zP]
   refine Late.cla (i := 69) rfl hAl hQ (fun w69 e69 E69 K hK => ?_);go_simp
   (replace r1 := r1.ext e69; replace r2 := r2.ext e69; replace r3 := r3.ext e69; replace r4 := r4.ext e69; replace s1 := s1.ext e69; replace s2 := s2.ext e69; replace s3 := s3.ext e69; replace s4 := s4.ext e69; replace s5 := s5.ext e69; replace s6 := s6.ext e69; replace r5 := r5.ext e69; go_at_call 39; refine (p_rMul (bt.ext E69) (hp.ext E69) ht (by omega) (ha.ext E69) r5 HN1.out (by omega) (by omega) (by omega) IA.out ISM.out (by have := HB.out; omega) (hT.ext (EW.trans E69))).mono ?_; rintro e wk69 ⟨A35, c35, rfl, s7, hx69⟩; replace r1 := r1.ext hx69; replace r2 := r2.ext hx69; replace r3 := r3.ext hx69; replace r4 := r4.ext hx69; replace s1 := s1.ext hx69; replace s2 := s2.ext hx69; replace s3 := s3.ext hx69; replace s4 := s4.ext hx69; replace s5 := s5.ext hx69; replace s6 := s6.ext hx69; replace r5 := r5.ext hx69)
   refine hK.out _ _ hx69 ?_;clear hK K
   try simp only [zP]
   refine Late.cla (i := 76) rfl hAl hQ (fun w76 e76 E76 K hK => ?_);go_simp
   (replace r1 := r1.ext e76; replace r2 := r2.ext e76; replace r3 := r3.ext e76; replace r4 := r4.ext e76; replace s1 := s1.ext e76; replace s2 := s2.ext e76; replace s3 := s3.ext e76; replace s4 := s4.ext e76; replace s5 := s5.ext e76; replace s6 := s6.ext e76; replace r5 := r5.ext e76; replace s7 := s7.ext e76; go_at_call 39; refine (p_rMul (bt.ext E76) (hp.ext E76) ht (by omega) (ha.ext E76) (hb.ext E76) HN1.out (by omega) (by omega) (by omega) IA.out IB.out (by have := HB.out; omega) (hT.ext (EW.trans E76))).mono ?_; rintro e wk76 ⟨A36, c36, rfl, s8, hx76⟩; replace r1 := r1.ext hx76; replace r2 := r2.ext hx76; replace r3 := r3.ext hx76; replace r4 := r4.ext hx76; replace s1 := s1.ext hx76; replace s2 := s2.ext hx76; replace s3 := s3.ext hx76; replace s4 := s4.ext hx76; replace s5 := s5.ext hx76; replace s6 := s6.ext hx76; replace r5 := r5.ext hx76; replace s7 := s7.ext hx76)
   refine hK.out _ _ hx76 ?_;clear hK K
   try simp only [zP]
   refine Late.cla (i := 82) rfl hAl hQ (fun w82 e82 E82 K hK => ?_);go_simp
   (replace r1 := r1.ext e82; replace r2 := r2.ext e82; replace r3 := r3.ext e82; replace r4 := r4.ext e82; replace s1 := s1.ext e82; replace s2 := s2.ext e82; replace s3 := s3.ext e82; replace s4 := s4.ext e82; replace s5 := s5.ext e82; replace s6 := s6.ext e82; replace r5 := r5.ext e82; replace s7 := s7.ext e82; replace s8 := s8.ext e82; go_at_call 39; refine (p_rMul (bt.ext E82) (hp.ext E82) ht (by omega) (ha.ext E82) (hc.ext E82) HN1.out (by omega) (by omega) (by omega) IA.out IC.out (by have := HB.out; omega) (hT.ext (EW.trans E82))).mono ?_; rintro e wk82 ⟨A37, c37, rfl, s9, hx82⟩; replace r1 := r1.ext hx82; replace r2 := r2.ext hx82; replace r3 := r3.ext hx82; replace r4 := r4.ext hx82; replace s1 := s1.ext hx82; replace s2 := s2.ext hx82; replace s3 := s3.ext hx82; replace s4 := s4.ext hx82; replace s5 := s5.ext hx82; replace s6 := s6.ext hx82; replace r5 := r5.ext hx82; replace s7 := s7.ext hx82; replace s8 := s8.ext hx82)
   refine hK.out _ _ hx82 ?_;clear hK K
   try simp only [zP]
   refine Late.cla (i := 83) rfl hAl hQ (fun w83 e83 E83 K hK => ?_);go_simp
   (replace r1 := r1.ext e83; replace r2 := r2.ext e83; replace r3 := r3.ext e83; replace r4 := r4.ext e83; replace s1 := s1.ext e83; replace s2 := s2.ext e83; replace s3 := s3.ext e83; replace s4 := s4.ext e83; replace s5 := s5.ext e83; replace s6 := s6.ext e83; replace r5 := r5.ext e83; replace s7 := s7.ext e83; replace s8 := s8.ext e83; replace s9 := s9.ext e83; go_at_call 38; refine (p_rAdd (bt.ext E83) (hp.ext E83) ht (by omega) s8 s9 HN1.out (by omega) (hT.ext (EW.trans E83))).mono ?_; rintro e wk83 ⟨A38, c38, rfl, r6, hx83⟩; replace r1 := r1.ext hx83; replace r2 := r2.ext hx83; replace r3 := r3.ext hx83; replace r4 := r4.ext hx83; replace s1 := s1.ext hx83; replace s2 := s2.ext hx83; replace s3 := s3.ext hx83; replace s4 := s4.ext hx83; replace s5 := s5.ext hx83; replace s6 := s6.ext hx83; replace r5 := r5.ext hx83; replace s7 := s7.ext hx83; replace s8 := s8.ext hx83; replace s9 := s9.ext hx83)
   refine hK.out _ _ hx83 ?_;clear hK K
   try simp only [zP]
   refine Late.cla (i := 84) rfl hAl hQ (fun w84 e84 E84 K hK => ?_);go_simp
   (replace r1 := r1.ext e84; replace r2 := r2.ext e84; replace r3 := r3.ext e84; replace r4 := r4.ext e84; replace s1 := s1.ext e84; replace s2 := s2.ext e84; replace s3 := s3.ext e84; replace s4 := s4.ext e84; replace s5 := s5.ext e84; replace s6 := s6.ext e84; replace r5 := r5.ext e84; replace s7 := s7.ext e84; replace s8 := s8.ext e84; replace s9 := s9.ext e84; replace r6 := r6.ext e84; go_at_call 19; refine (q_SameE s7 r6 (mul_addL HRL.out HQA.out HQB.out HQC.out) (by omega) (by omega) (by omega)).mono ?_; rintro e wk84 ⟨rfl, hx84⟩; replace r1 := r1.ext hx84; replace r2 := r2.ext hx84; replace r3 := r3.ext hx84; replace r4 := r4.ext hx84; replace s1 := s1.ext hx84; replace s2 := s2.ext hx84; replace s3 := s3.ext hx84; replace s4 := s4.ext hx84; replace s5 := s5.ext hx84; replace s6 := s6.ext hx84; replace r5 := r5.ext hx84; replace s7 := s7.ext hx84; replace s8 := s8.ext hx84; replace s9 := s9.ext hx84; replace r6 := r6.ext hx84)
   refine hK.out _ _ hx84 ?_;clear hK K
   try simp only [zP]
   refine Late.ta 85 113 ?v_1w hQ ?y_1w ?_
   case y_1w => intro w' hSw;have k00 := (bx.ext hSw).c4;have k10 := (bt.ext hSw).cell 0 _ rfl;go_simp;try rfl
   try simp only [zP]
   refine Late.ta 86 114 ?v_1x hQ ?y_1x ?_
   case y_1x => intro w' hSw;have k00 := (bx.ext hSw).c4;have k10 := (bt.ext hSw).cell 0 _ rfl;go_simp;try rfl
   try simp only [zP]
   refine Late.ta 87 115 ?v_1y hQ ?y_1y ?_
   case y_1y => intro w' hSw;have k00 := (bx.ext hSw).c4;have k10 := (bt.ext hSw).cell 0 _ rfl;go_simp;try rfl
   try simp only [zP]
   refine Late.ta 88 116 ?v_1z hQ ?y_1z ?_
   case y_1z => intro w' hSw;have k00 := (bx.ext hSw).c4;have k10 := (bt.ext hSw).cell 0 _ rfl;go_simp;try rfl
   try simp only [zP]
   refine Late.ta 89 117 ?v_20 hQ ?y_20 ?_
   case y_20 => intro w' hSw;have k00 := (bx.ext hSw).c4;have k10 := (bt.ext hSw).cell 0 _ rfl;go_simp;try rfl
   try simp only [zP]
   refine Late.ta 92 120 ?v_21 hQ ?y_21 ?_
   case y_21 => intro w' hSw;have k00 := (bx.ext hSw).c4;have k10 := (bt.ext hSw).cell 0 _ rfl;go_simp;try rfl
   try simp only [zP]
   refine Late.ta 90 118 ?v_22 hQ ?y_22 ?_
   case y_22 => intro w' hSw;have k00 := (bx.ext hSw).c4;have k10 := (bt.ext hSw).cell 0 _ rfl;go_simp;try rfl
   try simp only [zP]
   refine Late.ta 93 121 ?v_23 hQ ?y_23 ?_
   case y_23 => intro w' hSw;have k00 := (bx.ext hSw).c4;have k10 := (bt.ext hSw).cell 0 _ rfl;go_simp;try rfl
   try simp only [zP]
   refine Late.cla (i := 91) rfl hAl hQ (fun w91 e91 E91 K hK => ?_);go_simp
   (replace r1 := r1.ext e91; replace r2 := r2.ext e91; replace r3 := r3.ext e91; replace r4 := r4.ext e91; replace s1 := s1.ext e91; replace s2 := s2.ext e91; replace s3 := s3.ext e91; replace s4 := s4.ext e91; replace s5 := s5.ext e91; replace s6 := s6.ext e91; replace r5 := r5.ext e91; replace s7 := s7.ext e91; replace s8 := s8.ext e91; replace s9 := s9.ext e91; replace r6 := r6.ext e91; go_at_call 39; refine (p_rMul (bt.ext E91) (hp.ext E91) ht (by omega) (o1.ext E91) (ha.ext E91) HN1.out (by omega) (by omega) (by omega) IQ.out IA.out (by have := HB.out; omega) (hT.ext (EW.trans E91))).mono ?_; rintro e wk91 ⟨A40, c40, rfl, t1, hx91⟩; replace r1 := r1.ext hx91; replace r2 := r2.ext hx91; replace r3 := r3.ext hx91; replace r4 := r4.ext hx91; replace s1 := s1.ext hx91; replace s2 := s2.ext hx91; replace s3 := s3.ext hx91; replace s4 := s4.ext hx91; replace s5 := s5.ext hx91; replace s6 := s6.ext hx91; replace r5 := r5.ext hx91; replace s7 := s7.ext hx91; replace s8 := s8.ext hx91; replace s9 := s9.ext hx91; replace r6 := r6.ext hx91)
   refine hK.out _ _ hx91 ?_;clear hK K
   try simp only [zP]
   refine Late.cla (i := 94) rfl hAl hQ (fun w94 e94 E94 K hK => ?_);go_simp
   (replace r1 := r1.ext e94; replace r2 := r2.ext e94; replace r3 := r3.ext e94; replace r4 := r4.ext e94; replace s1 := s1.ext e94; replace s2 := s2.ext e94; replace s3 := s3.ext e94; replace s4 := s4.ext e94; replace s5 := s5.ext e94; replace s6 := s6.ext e94; replace r5 := r5.ext e94; replace s7 := s7.ext e94; replace s8 := s8.ext e94; replace s9 := s9.ext e94; replace r6 := r6.ext e94; replace t1 := t1.ext e94; go_at_call 19; refine (q_SameE t1 (ha.ext E94) (one_mulL HRL.out HQA.out) (by omega) (by omega) (by omega)).mono ?_; rintro e wk94 ⟨rfl, hx94⟩; replace r1 := r1.ext hx94; replace r2 := r2.ext hx94; replace r3 := r3.ext hx94; replace r4 := r4.ext hx94; replace s1 := s1.ext hx94; replace s2 := s2.ext hx94; replace s3 := s3.ext hx94; replace s4 := s4.ext hx94; replace s5 := s5.ext hx94; replace s6 := s6.ext hx94; replace r5 := r5.ext hx94; replace s7 := s7.ext hx94; replace s8 := s8.ext hx94; replace s9 := s9.ext hx94; replace r6 := r6.ext hx94; replace t1 := t1.ext hx94)
   refine hK.out _ _ hx94 ?_;clear hK K
   try simp only [zP]
   refine Late.ta 95 123 ?v_24 hQ ?y_24 ?_
   case y_24 => intro w' hSw;have k00 := (bx.ext hSw).c4;have k10 := (bt.ext hSw).cell 0 _ rfl;go_simp;try rfl
   try simp only [zP]
   refine Late.ta 96 124 ?v_25 hQ ?y_25 ?_
   case y_25 => intro w' hSw;have k00 := (bx.ext hSw).c4;have k10 := (bt.ext hSw).cell 0 _ rfl;go_simp;try rfl
   try simp only [zP]
   refine Late.ta 97 125 ?v_26 hQ ?y_26 ?_
   case y_26 => intro w' hSw;have k00 := (bx.ext hSw).c4;have k10 := (bt.ext hSw).cell 0 _ rfl;go_simp;try rfl
   try simp only [zP]
   refine Late.ta 98 126 ?v_27 hQ ?y_27 ?_
   case y_27 => intro w' hSw;have k00 := (bx.ext hSw).c4;have k10 := (bt.ext hSw).cell 0 _ rfl;go_simp;try rfl
   try simp only [zP]
   refine Late.ta 100 128 ?v_28 hQ ?y_28 ?_
   case y_28 => intro w' hSw;have k00 := (bx.ext hSw).c4;have k10 := (bt.ext hSw).cell 0 _ rfl;go_simp;try rfl
   try simp only [zP]
   refine Late.ta 101 129 ?v_29 hQ ?y_29 ?_
   case y_29 => intro w' hSw;have k00 := (bx.ext hSw).c4;have k10 := (bt.ext hSw).cell 0 _ rfl;go_simp;try rfl
   try simp only [zP]
   refine Late.ta 99 127 ?v_2a hQ ?y_2a ?_
   case y_2a => intro w' hSw;have k00 := (bx.ext hSw).c4;have k10 := (bt.ext hSw).cell 0 _ rfl;go_simp;try rfl
   try simp only [zP]
   refine Late.ta 102 130 ?v_2b hQ ?y_2b ?_
   case y_2b => intro w' hSw;have k00 := (bx.ext hSw).c4;have k10 := (bt.ext hSw).cell 0 _ rfl;go_simp;try rfl
   try simp only [zP]
   refine Late.cla (i := 103) rfl hAl hQ (fun w103 e103 E103 K hK => ?_);go_simp
   (replace r1 := r1.ext e103; replace r2 := r2.ext e103; replace r3 := r3.ext e103; replace r4 := r4.ext e103; replace s1 := s1.ext e103; replace s2 := s2.ext e103; replace s3 := s3.ext e103; replace s4 := s4.ext e103; replace s5 := s5.ext e103; replace s6 := s6.ext e103; replace r5 := r5.ext e103; replace s7 := s7.ext e103; replace s8 := s8.ext e103; replace s9 := s9.ext e103; replace r6 := r6.ext e103; replace t1 := t1.ext e103; go_at_call 28; refine (p_NegT (hp.ext E103) ht (ha.ext E103) HN1.out (by omega) (by omega) (by omega) (hT.ext (EW.trans E103))).mono ?_; rintro e wk103 ⟨A18, n18, c18, rfl, u1, hx103⟩; replace r1 := r1.ext hx103; replace r2 := r2.ext hx103; replace r3 := r3.ext hx103; replace r4 := r4.ext hx103; replace s1 := s1.ext hx103; replace s2 := s2.ext hx103; replace s3 := s3.ext hx103; replace s4 := s4.ext hx103; replace s5 := s5.ext hx103; replace s6 := s6.ext hx103; replace r5 := r5.ext hx103; replace s7 := s7.ext hx103; replace s8 := s8.ext hx103; replace s9 := s9.ext hx103; replace r6 := r6.ext hx103; replace t1 := t1.ext hx103; obtain rfl : n3 = n18 := by rw [<- u1.len, negL_len, HQA.out, HN1.out])
   refine hK.out _ _ hx103 ?_;clear hK K
   try simp only [zP]
   refine Late.cla (i := 104) rfl hAl hQ (fun w104 e104 E104 K hK => ?_);go_simp
   (replace r1 := r1.ext e104; replace r2 := r2.ext e104; replace r3 := r3.ext e104; replace r4 := r4.ext e104; replace s1 := s1.ext e104; replace s2 := s2.ext e104; replace s3 := s3.ext e104; replace s4 := s4.ext e104; replace s5 := s5.ext e104; replace s6 := s6.ext e104; replace r5 := r5.ext e104; replace s7 := s7.ext e104; replace s8 := s8.ext e104; replace s9 := s9.ext e104; replace r6 := r6.ext e104; replace t1 := t1.ext e104; replace u1 := u1.ext e104; go_at_call 38; refine (p_rAdd (bt.ext E104) (hp.ext E104) ht (by omega) (ha.ext E104) u1 HN1.out (by omega) (hT.ext (EW.trans E104))).mono ?_; rintro e wk104 ⟨A43, c43, rfl, u2, hx104⟩; replace r1 := r1.ext hx104; replace r2 := r2.ext hx104; replace r3 := r3.ext hx104; replace r4 := r4.ext hx104; replace s1 := s1.ext hx104; replace s2 := s2.ext hx104; replace s3 := s3.ext hx104; replace s4 := s4.ext hx104; replace s5 := s5.ext hx104; replace s6 := s6.ext hx104; replace r5 := r5.ext hx104; replace s7 := s7.ext hx104; replace s8 := s8.ext hx104; replace s9 := s9.ext hx104; replace r6 := r6.ext hx104; replace t1 := t1.ext hx104; replace u1 := u1.ext hx104)
   refine hK.out _ _ hx104 ?_;clear hK K
   try simp only [zP]
   refine Late.cla (i := 105) rfl hAl hQ (fun w105 e105 E105 K hK => ?_);go_simp
   (replace r1 := r1.ext e105; replace r2 := r2.ext e105; replace r3 := r3.ext e105; replace r4 := r4.ext e105; replace s1 := s1.ext e105; replace s2 := s2.ext e105; replace s3 := s3.ext e105; replace s4 := s4.ext e105; replace s5 := s5.ext e105; replace s6 := s6.ext e105; replace r5 := r5.ext e105; replace s7 := s7.ext e105; replace s8 := s8.ext e105; replace s9 := s9.ext e105; replace r6 := r6.ext e105; replace t1 := t1.ext e105; replace u1 := u1.ext e105; replace u2 := u2.ext e105; go_at_call 35; refine (p_ZeroT u2 (by omega) (by omega)).mono ?_; rintro e wk105 ⟨rfl, hx105⟩; replace r1 := r1.ext hx105; replace r2 := r2.ext hx105; replace r3 := r3.ext hx105; replace r4 := r4.ext hx105; replace s1 := s1.ext hx105; replace s2 := s2.ext hx105; replace s3 := s3.ext hx105; replace s4 := s4.ext hx105; replace s5 := s5.ext hx105; replace s6 := s6.ext hx105; replace r5 := r5.ext hx105; replace s7 := s7.ext hx105; replace s8 := s8.ext hx105; replace s9 := s9.ext hx105; replace r6 := r6.ext hx105; replace t1 := t1.ext hx105; replace u1 := u1.ext hx105; replace u2 := u2.ext hx105; rw [zero_addL])
   refine hK.out _ _ hx105 ?_;clear hK K
   try simp only [zP]
   refine Late.ta 106 134 ?v_2c hQ ?y_2c ?_
   case y_2c => intro w' hSw;have k00 := (bx.ext hSw).c4;have k10 := (bt.ext hSw).cell 0 _ rfl;go_simp;try rfl
   try simp only [zP]
   refine Late.ta 107 2 ?v_2d hQ ?y_2d ?_
   case y_2d => intro w' hSw;have k00 := (bx.ext hSw).c4;have k10 := (bt.ext hSw).cell 0 _ rfl;go_simp;try rfl
   try simp only [zP]
   refine Late.d0a (fun wz ez Ez => ?_);clear hAl hQ ES
   go_wp2_with fail
   go_ret
   exact ⟨rfl, EW.trans Ez⟩
  ·have g1 : decide ((3 : Int) < (n : Int)) = true := decide_eq_true (by omega)
   clear h3
   go_wp2_with fail
   refine (HA.out _ (hT.ext EW)).mono ?_;rintro e V3 ⟨rfl, hx⟩
   go_wp2_with fail
   go_ret
   exact ⟨rfl, EW.trans hx⟩
end
section
open Go.ChangeShapes Go.WideShapes Go.ChangeAt Go.RowKit Go.Joins
set_option maxRecDepth 100000
theorem ring6_lifted (os : Os) (started : os.Started) (H : Type) (enc : TypeId × Value -> H) :
  ReturnsInHanded {} Tryz.checked os 6 .any (fun w args => (Rows.towerRingSpec.pre enc Tryz.prog Tryz.f6 [] false w args /\ laidMetH Tryz.prog laidI w) /\ sizedMet enc Tryz.prog Tryz.f6 (OpenSpec.ofChange Rows.towerRingSpec) false w args)
   (Rows.towerRingSpec.post enc Tryz.prog Tryz.f6 false true false false) := by
 refine returnsInHanded_of_change_and (C := Tryz.checked) (X := fun w _ => laidMetH Tryz.prog laidI w) (fun _ _ _ hh h => h.of_heap hh) Tryz.own started (by kernel_rfl) Tryz.func6
  (ChangeSpec.witness_shaped (enc := enc) (C := Tryz.checked) (os := os) (X := fun w _ => laidMetH Tryz.prog laidI w) false (World.doorLaid Tryz.prog 400 os) #[Value.agg #[Value.slice none 0 0, Value.slice none 0 0, Value.slice none 0 0, Value.slice none 0 0]] 8 rfl (World.shaped_of_RefB (by kernel_rfl) (by kernel_rfl)) (by kernel_rfl) (by kernel_rfl) (by kernel_rfl) (doorI_met os _)) ?_
 intro W base args ds gs before hval0 hW _ _ hL _;have hval : ∀ (j : Nat) t v, Tryz.f6.params[j]? = some t -> args[j]? = some v -> Value.okWide Tryz.prog W .any base t v := hval0;have hW' := hW;have hlt : ∀ p ∈ before, p.block < W.heap.size := fun p hp => hW.lt p hp
 obtain ⟨p, q, hA0, hV, rfl, _, _⟩ := hW;have hA : DataW.TrodAll enc Tryz.prog W 0 (fun _ => true) true Tryz.f6.params.toList args.toList ds p := hA0;rw [Tryz.params6] at hA hval;obtain ⟨v0, d0, rfl, rfl, h0⟩ := trodAll_one hA;obtain ⟨rfl, rfl⟩ := trodVars_none hV;simp only [List.append_nil] at hW' hlt;obtain ⟨A, n, c, A1, n1, c1, A2, n2, c2, A3, n3, c3, ts, r1, r2, r3, rfl, hr0, hr1, hr2, hr3⟩ := open_case (hval 0 25 v0 rfl rfl) h0;clear hA0 hval0;have hT := tab_of_laidH hL;refine (ring6_any awake6 hT hr0 hr1 hr2 hr3).mono fun e W' ⟨he, hext⟩ => ?_
 subst he;have hb : Below W.heap.size W W' := hext;have g0 := Below.trod Tryz.laidOut (by kernel_rfl) (of_decide_eq_true (by kernel_rfl)) h0 hb (fun p hp => hlt p hp);exact ⟨_, rfl, _, _, _, [], p, [], hW', trodAll_mk1 (shut_bool Tryz.underlying4 true), trodAll_mk1 g0, rfl, Below.frame hb _, fun h => by cases h⟩
theorem ring6_row_holds : Rows.TowerRingSaid :=
 OpenClaim.holds_of_wide 6 Tryz.f6 rfl rfl rfl rfl rfl rfl rfl ⟨rfl, rfl, rfl, rfl, rfl⟩ rfl rfl rfl rfl rfl (by kernel_rfl) Tryz.func6 (by kernel_rfl)
  (of_decide_eq_true (by kernel_rfl)) (by unfold Func.isWrapper; first | (rw [if_neg (of_decide_eq_false (by kernel_rfl))]; exact ⟨rfl, rfl⟩) | (rw [if_pos (by decide +kernel)]; kernel_rfl))
  (fun os started H enc _ => ring6_lifted os started H enc)
theorem ring6_holds : Rows.TowerRingCardSaid :=
 Claim7.holds_tied_plain_at .later [] [.data] true Rows.towerRingCard.stood.harness false
  ring6_row_holds (fun _ h => by cases h) (by kernel_rfl) (fun _ h => by cases h) towerRing_row_tie rfl ⟨rfl, rfl⟩ (by kernel_rfl) rfl
  (fun f fn hf hfn => by
   obtain rfl : f = 6 := Option.some.inj ((show Tryz.prog.funcNamed "setsquare/setsquarelaw06.TowerRing" = some 6 by kernel_rfl).symm.trans hf) |>.symm;obtain rfl : fn = Tryz.f6 := (Option.some.inj (Tryz.func6.symm.trans hfn)).symm
   exact ⟨by kernel_rfl, fun j t ht => by
    rw [Tryz.params6] at ht;have hm : t ∈ [25] := by simpa using Array.mem_of_getElem? ht
    have hall : ([25].all fun u => !Tryz.prog.wantsStandIn u) = true := by kernel_rfl
    exact (show Tryz.prog.wantsStandIn t = false by simpa using List.all_eq_true.1 hall t hm)⟩)
  (by kernel_rfl)
end
end Go.Proofs.YtgagcochepnelaaGreatDoor
