/- For every tower with three elements the law TowerNorm returns true: the norm of a product is the product of the norms, and the norm of an element of the tower below is its square, and the examples of the chapter hold. Condition: the table math/bits.deBruijn64tab holds what its initialiser lays (tied by the given card). -/
import Derived.Test.YtgagcochepnelaaGreatDoorP0
import Derived.Test.YtgagcochepnelaaGreatDoorP1
import Derived.Test.YtgagcochepnelaaGreatDoorP2
import Derived.Test.YtgagcochepnelaaGreatDoorP3
import Derived.Test.YtgagcochepnelaaGreatDoorP4
import Derived.Test.YtgagcochepnelaaGreatDoorP5
import Derived.Test.YtgagcochepnelaaGreatDoorP6
import Derived.Test.YtgagcochepnelaaGreatDoorP7
import Derived.Test.YtgagcochepnelaaGreatDoorP8
import Derived.Test.YtgagcochepnelaaGreatDoorP9
import Derived.Test.YtgagcochepnelaaGreatDoorP10
import Derived.Test.YtgagcochepnelaaGreatDoorP11
import Derived.Test.YtgagcochepnelaaGreatDoorP12
import Derived.Test.YtgagcochepnelaaGreatDoorP13
import Derived.Test.YtgagcochepnelaaGreatDoorP29
import Derived.Test.YtgagcochepnelaaGreatDoorP30
import Derived.Test.YtgagcochepnelaaGreatDoorCards
import Derived.Test.YtgagcochepnelaaGreatDoorTie
import Derived.LaidMore
import Derived.OpenShut
import Derived.Lib.SmallJoins
import Derived.LaidLaws
import Derived.Deep.Slices
import Derived.Lib.LaidTab
import Derived.SevenTiedAt
import Derived.Stop.Joined
set_option linter.unusedSimpArgs false
set_option linter.unusedVariables false
set_option maxHeartbeats 64000000
namespace Go.Proofs.YtgagcochepnelaaGreatDoor
section
open Go.RowKit
section
variable {K : Type} [Add K] [Mul K] [Neg K] [OfNat K 0] [OfNat K 1] [RingK K]
theorem El.neg_smul : (h : Nat) -> (a : El K h) -> El.neg h a = El.smul h (-1) a
 | 0, a => by
  have h : ∀ x : K, -x = (-1 : K) * x := fun x => RingK.neg_one (K := K) x
  exact h a
 | h + 1, a => El.ext (El.neg_smul h a.1) (El.neg_smul h a.2)
theorem El.neg_mul (R : (h : Nat) -> El K h) (h : Nat) (a b : El K h) : El.mul R h (El.neg h a) b = El.neg h (El.mul R h a b) := by
 rw [El.neg_smul, El.neg_smul, El.smul_mul]
end
theorem take_app {α : Type} {a b : List α} {n : Nat} (h : a.length = n) : (a ++ b).take n = a := by subst h; exact List.take_left
theorem drop_app {α : Type} {a b : List α} {n : Nat} (h : a.length = n) : (a ++ b).drop n = b := by subst h; exact List.drop_left
theorem mulL_negA {R : Nat -> List Rat} (hR : ∀ i, (R i).length = 2 ^ i) {h : Nat} {a b : List Rat} (ha : a.length = 2 ^ h) (hb : b.length = 2 ^ h) : mulL R h (negL a) b = negL (mulL R h a b) :=
 toE_inj mulL_len (by rw [negL_len, mulL_len]) (by rw [toE_mul hR (by rw [negL_len, ha]) hb, toE_neg ha, toE_neg mulL_len, toE_mul hR ha hb, El.neg_mul])
theorem mulL_negB {R : Nat -> List Rat} (hR : ∀ i, (R i).length = 2 ^ i) {h : Nat} {a b : List Rat} (ha : a.length = 2 ^ h) (hb : b.length = 2 ^ h) : mulL R h a (negL b) = negL (mulL R h a b) := by
 rw [mulL_comm hR ha (by rw [negL_len, hb]), mulL_negA hR hb ha, mulL_comm hR hb ha]
theorem negL_negL (a : List Rat) : negL (negL a) = a := by
 unfold negL;rw [List.map_map]
 conv => rhs; rw [<- List.map_id a]
 exact List.map_congr_left fun x _ => Rat.neg_neg x
theorem negL_addL : ∀ {a b : List Rat}, negL (addL a b) = addL (negL a) (negL b)
 | [], _ => rfl
 | _ :: _, [] => rfl
 | x :: a, y :: b => by
  have ih := negL_addL (a := a) (b := b);unfold negL addL at *;simp only [List.zipWith_cons_cons, List.map_cons];rw [ih, Rat.neg_add]
theorem flipL_len (i : Nat) (qs : List Rat) : (flipL i qs).length = qs.length := by unfold flipL; rw [List.length_mapIdx]
theorem flipL_at {i p : Nat} {qs : List Rat} (hp : p < (flipL i qs).length) : (flipL i qs)[p] = if belB p i = true then -(qs[p]'(by rw [flipL_len] at hp; exact hp)) else qs[p]'(by rw [flipL_len] at hp; exact hp) := by
 simp [flipL]
theorem bel_low {p i : Nat} (hp : p < 2 ^ i) : belB p i = false := by
 unfold belB;rw [Nat.div_eq_of_lt hp]
 rfl
theorem bel_mid {p i : Nat} (hp : p < 2 ^ i) : belB (2 ^ i + p) i = true := by
 unfold belB;rw [Nat.add_div_left _ (Nat.pow_pos (by omega)), Nat.div_eq_of_lt hp]
 rfl
theorem bel_high {p i h : Nat} (hi : i < h) : belB (2 ^ h + p) i = belB p i := by
 unfold belB;obtain ⟨j, rfl⟩ : ∃ j, h = i + (j + 1) := ⟨h - i - 1, by omega⟩;have e : 2 ^ (i + (j + 1)) = 2 ^ i * (2 * 2 ^ j) := by rw [Nat.pow_add, Nat.pow_succ]; congr 1; exact Nat.mul_comm _ _
 rw [e, Nat.mul_add_div (Nat.pow_pos (by omega))]
 congr 1
 rw [show 2 * 2 ^ j + p / 2 ^ i = p / 2 ^ i + 2 * 2 ^ j by omega, Nat.add_mul_mod_self_left]
theorem flip_low {i : Nat} {a : List Rat} (ha : a.length <= 2 ^ i) : flipL i a = a := by
 refine List.ext_getElem (flipL_len i a) fun p h1 h2 => ?_
 rw [flipL_at h1, bel_low (by omega)]
 rfl
theorem flip_mid {i : Nat} {a b : List Rat} (ha : a.length = 2 ^ i) (hb : b.length <= 2 ^ i) : flipL i (a ++ b) = a ++ negL b := by
 refine List.ext_getElem (by rw [flipL_len, List.length_append, List.length_append, negL_len]) fun p h1 h2 => ?_
 rw [flipL_at h1];have h3 : p < a.length + b.length := by rw [flipL_len, List.length_append] at h1; exact h1
 rcases Nat.lt_or_ge p (2 ^ i) with hp | hp
 ·rw [bel_low hp, List.getElem_append_left (by omega), List.getElem_append_left (by omega)]
  rfl
 ·obtain ⟨q, rfl⟩ : ∃ q, p = 2 ^ i + q := ⟨p - 2 ^ i, by omega⟩
  rw [bel_mid (by omega), if_pos rfl, List.getElem_append_right (by omega), List.getElem_append_right (by omega)];simp [negL]
theorem flip_high {i h : Nat} (hi : i < h) {a b : List Rat} (ha : a.length = 2 ^ h) : flipL i (a ++ b) = flipL i a ++ flipL i b := by
 refine List.ext_getElem (by rw [flipL_len, List.length_append, List.length_append, flipL_len, flipL_len]) fun p h1 h2 => ?_
 rw [flipL_at h1];have h3 : p < a.length + b.length := by rw [flipL_len, List.length_append] at h1; exact h1
 rcases Nat.lt_or_ge p (2 ^ h) with hp | hp
 ·rw [List.getElem_append_left (by omega), List.getElem_append_left (by rw [flipL_len]; omega), flipL_at (by rw [flipL_len]; omega)]
 ·obtain ⟨q, rfl⟩ : ∃ q, p = 2 ^ h + q := ⟨p - 2 ^ h, by omega⟩
  rw [bel_high hi, List.getElem_append_right (by omega), List.getElem_append_right (by rw [flipL_len]; omega), flipL_at (by rw [flipL_len, flipL_len]; omega)];simp only [flipL_len, ha, Nat.add_sub_cancel_left]
theorem flip_add {i : Nat} {a b : List Rat} (h : a.length = b.length) : flipL i (addL a b) = addL (flipL i a) (flipL i b) := by
 have l1 : (addL a b).length = a.length := addL_len rfl h.symm;have l2 : (addL (flipL i a) (flipL i b)).length = a.length := addL_len (flipL_len i a) (by rw [flipL_len, h]);refine List.ext_getElem (by rw [flipL_len, l1, l2]) fun p h1 h2 => ?_
 have hp : p < a.length := by rw [flipL_len, l1] at h1; exact h1
 have e2 : (addL (flipL i a) (flipL i b))[p] = (flipL i a)[p]'(by rw [flipL_len]; exact hp) + (flipL i b)[p]'(by rw [flipL_len, <- h]; exact hp) := by simp [addL]
 have e1 : (addL a b)[p]'(by rw [l1]; exact hp) = a[p] + b[p] := by simp [addL]
 rw [e2, flipL_at h1, flipL_at (by rw [flipL_len]; exact hp), flipL_at (by rw [flipL_len, <- h]; exact hp), e1]
 split
 ·exact Rat.neg_add
 ·rfl
theorem flip_mul {R : Nat -> List Rat} (hR : ∀ i, (R i).length = 2 ^ i) {i : Nat} : ∀ (h : Nat) {a b : List Rat}, a.length = 2 ^ h -> b.length = 2 ^ h -> (∀ k, i < k -> k < h -> flipL i (R k) = R k) -> flipL i (mulL R h a b) = mulL R h (flipL i a) (flipL i b)
 | 0, a, b, ha, hb, _ => by
  have h1 : 1 <= 2 ^ i := Nat.pow_pos (by omega);rw [flip_low (by rw [mulL_len]; exact h1), flip_low (by rw [ha]; exact h1), flip_low (by rw [hb]; exact h1)]
 | h + 1, a, b, ha, hb, hf => by
  have l0 := take_len ha;have l1 := drop_len ha;have k0 := take_len hb;have k1 := drop_len hb
  rcases Nat.lt_trichotomy h i with hi | hi | hi
  ·have h1 : 2 ^ (h + 1) <= 2 ^ i := Nat.pow_le_pow_right (by omega) (by omega)
   rw [flip_low (by rw [mulL_len]; exact h1), flip_low (by rw [ha]; exact h1), flip_low (by rw [hb]; exact h1)]
  ·subst hi
   have ea : flipL h a = a.take (2 ^ h) ++ negL (a.drop (2 ^ h)) := by
    conv => lhs; rw [<- List.take_append_drop (2 ^ h) a]
    exact flip_mid l0 (Nat.le_of_eq l1)
   have eb : flipL h b = b.take (2 ^ h) ++ negL (b.drop (2 ^ h)) := by
    conv => lhs; rw [<- List.take_append_drop (2 ^ h) b]
    exact flip_mid k0 (Nat.le_of_eq k1)
   have ta : (a.take (2 ^ h) ++ negL (a.drop (2 ^ h))).take (2 ^ h) = a.take (2 ^ h) := take_app l0;have da : (a.take (2 ^ h) ++ negL (a.drop (2 ^ h))).drop (2 ^ h) = negL (a.drop (2 ^ h)) := drop_app l0;have tb : (b.take (2 ^ h) ++ negL (b.drop (2 ^ h))).take (2 ^ h) = b.take (2 ^ h) := take_app k0;have db : (b.take (2 ^ h) ++ negL (b.drop (2 ^ h))).drop (2 ^ h) = negL (b.drop (2 ^ h)) := drop_app k0;rw [ea, eb, mulL, mulL, ta, da, tb, db, flip_mid (addL_len mulL_len mulL_len) (Nat.le_of_eq (addL_len mulL_len mulL_len))];rw [mulL_negA hR l1 (by rw [negL_len, k1]), mulL_negB hR l1 k1, negL_negL, mulL_negB hR l0 k1, mulL_negA hR l1 k0, negL_addL]
  ·have ea : flipL i a = flipL i (a.take (2 ^ h)) ++ flipL i (a.drop (2 ^ h)) := by
    conv => lhs; rw [<- List.take_append_drop (2 ^ h) a]
    exact flip_high hi l0
   have eb : flipL i b = flipL i (b.take (2 ^ h)) ++ flipL i (b.drop (2 ^ h)) := by
    conv => lhs; rw [<- List.take_append_drop (2 ^ h) b]
    exact flip_high hi k0
   have fa0 : (flipL i (a.take (2 ^ h))).length = 2 ^ h := by rw [flipL_len, l0]
   have fb0 : (flipL i (b.take (2 ^ h))).length = 2 ^ h := by rw [flipL_len, k0]
   have ta : (flipL i (a.take (2 ^ h)) ++ flipL i (a.drop (2 ^ h))).take (2 ^ h) = flipL i (a.take (2 ^ h)) := take_app fa0;have da : (flipL i (a.take (2 ^ h)) ++ flipL i (a.drop (2 ^ h))).drop (2 ^ h) = flipL i (a.drop (2 ^ h)) := drop_app fa0;have tb : (flipL i (b.take (2 ^ h)) ++ flipL i (b.drop (2 ^ h))).take (2 ^ h) = flipL i (b.take (2 ^ h)) := take_app fb0;have db : (flipL i (b.take (2 ^ h)) ++ flipL i (b.drop (2 ^ h))).drop (2 ^ h) = flipL i (b.drop (2 ^ h)) := drop_app fb0;have hf' : ∀ k, i < k -> k < h -> flipL i (R k) = R k := fun k h1 h2 => hf k h1 (by omega)
   rw [ea, eb, mulL, mulL, ta, da, tb, db, flip_high hi (addL_len mulL_len mulL_len), flip_add (by rw [mulL_len, mulL_len]), flip_add (by rw [mulL_len, mulL_len])];rw [flip_mul hR h l0 k0 hf', flip_mul hR h mulL_len (hR h) hf', flip_mul hR h l1 k1 hf', flip_mul hR h l0 k1 hf', flip_mul hR h l1 k0 hf', hf h hi (by omega)]
end
section
open Go.RowKit
attribute [local go_sem ↓] Go.wp_at_zero Go.wp_at_succ
section
variable {w w' : World} {A A1 A2 A3 : Option Addr} {n c n1 c1 n2 c2 n3 c3 L : Nat} {qs : List Rat} {ts : List (List RawR)} {r1 r2 r3 : List RawR}
theorem NR.sm {q : Rat} {s t : Bool} {B : Option Addr} {m d : Nat} (h : NR w q 4 s A n c t B m d) : SmQ q := ⟨h.num.le_pow, by have := h.den.le_pow; rw [Int.natAbs_natCast] at this; exact this⟩
theorem Pol.sm (h : Pol w A n c qs 4) : ∀ q ∈ qs, SmQ q := by
 intro q hq;obtain ⟨i, hi, rfl⟩ := List.getElem_of_mem hq;obtain ⟨b, off, _, h2⟩ := h.at_ (fun e => by subst e; exact absurd hi (Nat.not_lt_zero _));obtain ⟨_, _, _, _, _, _, _, _, _, _, _, _, hx⟩ := h2.at_ i hi;exact hx.sm
theorem PolT.sm {T : List (List Rat)} (h : PolT w A n c T 4) : ∀ r ∈ T, ∀ q ∈ r, SmQ q := by
 intro r hr;obtain ⟨i, hi, rfl⟩ := List.getElem_of_mem hr;obtain ⟨b, off, _, h2⟩ := h.at_ (fun e => by subst e; exact absurd hi (Nat.not_lt_zero _));obtain ⟨_, _, _, _, hp⟩ := h2 i hi;exact hp.sm
theorem formed_bundle (h : RawT w A n c ts) (h1 : RawP w A1 n1 c1 r1) (hf : formedB ts [r1] = true) (l4 : ∀ l ∈ ts, l.all (fun r => r.le L) = true) (k4 : r1.all (fun r => r.le L) = true) :
  PolT w A n c (ts.map fun l => l.map RawR.q) L /\ TowL (ts.map fun l => l.map RawR.q) /\ Pol w A1 n1 c1 (r1.map RawR.q) L /\ n1 = 2 ^ n := by
 unfold formedB at hf;rw [Bool.and_eq_true] at hf;obtain ⟨f1, f2⟩ := hf;have f3 := towerB_at ts 0 f1;simp only [List.all_cons, List.all_nil, Bool.and_true] at f2;obtain ⟨g1, g2⟩ := validL_parts f2;refine ⟨h.polT (fun l hl => ?_) l4, fun i hi => ?_, h1.polV g2 k4, ?_⟩
 ·obtain ⟨i, hi, rfl⟩ := List.getElem_of_mem hl
  exact (validL_parts (f3 i hi)).2
 ·rw [List.length_map] at hi
  rw [List.getElem_map, List.length_map, (validL_parts (f3 i hi)).1, Nat.zero_add]
 ·rw [<- h1.len, g1, h.len]
theorem right_bundle (h : RawT w A n c ts) (h1 : RawP w A1 n1 c1 r1) (h2 : RawP w A2 n2 c2 r2) (h3 : RawP w A3 n3 c3 r3) (hr : rightB ts r1 r2 r3 = true) :
  ∃ T qa qb qc, PolT w A n c T 4 /\ TowL T /\ n <= 4 /\ (Pol w A1 n1 c1 qa 4 /\ n1 = 2 ^ n) /\ (Pol w A2 n2 c2 qb 4 /\ n2 = 2 ^ n) /\ (Pol w A3 n3 c3 qc 4 /\ n3 = 2 ^ n) := by
 unfold rightB at hr;simp only [Bool.and_eq_true] at hr;obtain ⟨f0, f1, f2, f3⟩ := hr;obtain ⟨p0, p1, p2, p3, p4⟩ := fewB4_parts f0;have l4 : ∀ l ∈ ts, l.all (fun r => r.le 4) = true := fun l hl => (p1 l hl).2
 obtain ⟨a1, a2, a3, a4⟩ := formed_bundle h h1 f1 l4 p2.2;obtain ⟨_, _, b3, b4⟩ := formed_bundle h h2 f2 l4 p3.2;obtain ⟨_, _, c3, c4⟩ := formed_bundle h h3 f3 l4 p4.2;exact ⟨_, _, _, _, a1, a2, by rw [<- h.len]; exact p0, ⟨a3, a4⟩, ⟨b3, b4⟩, ⟨c3, c4⟩⟩
end
def eYq : Nat -> Nat
 | 0 => 0
 | h + 1 => eYq h + eYq h + 2 ^ h + 2
theorem eF_le : ∀ h, eF h <= eYq h
 | 0 => Nat.le_refl _
 | h + 1 => by
  have := eF_le h
  show eF h + (2 ^ h + eF h) <= eYq h + eYq h + 2 ^ h + 2
  omega
theorem in_few {qs : List Rat} (h : ∀ q ∈ qs, SmQ q) : 0 < prodD qs /\ prodD qs <= W4 ^ qs.length /\ AllM (prodD qs) (W4 * prodD qs) qs := by
 obtain ⟨h1, h2⟩ := prodD_le h;refine ⟨h1, h2, fun q hq => ?_⟩;obtain ⟨k, hk⟩ := prodD_dvd q hq;have h3 : k <= prodD qs := by rw [hk]; exact Nat.le_mul_of_pos_left _ q.den_pos
 refine ⟨q.num * (k : Int), ?_, ?_⟩
 ·have h4 : 0 < k := by
   rcases Nat.eq_zero_or_pos k with h0 | h0
   ·rw [h0, Nat.mul_zero] at hk; omega
   ·exact h0
  have h5 := nat_ne h4;have h6 := nat_ne q.den_pos;have h7 := rat_quo q;rw [Rat.intCast_natCast] at h7;rw [hk, Rat.mkRat_eq_div, Rat.intCast_mul, Rat.natCast_mul, Rat.intCast_natCast]
  conv => lhs; rw [h7]
  grind
 ·rw [Int.natAbs_mul, Int.natAbs_natCast]
  exact Nat.mul_le_mul (h q hq).1 h3
theorem pr_bd {Mr Xr : Nat -> Nat} {n : Nat} (hM : ∀ i, i < n -> Mr i <= W4 ^ 2 ^ i) (hX : ∀ i, i < n -> Xr i <= W4 ^ (1 + 2 ^ i)) : ∀ h, h <= n -> prQ Mr h <= W4 ^ eF h /\ prY Mr Xr h <= W4 ^ eYq h
 | 0, _ => ⟨Nat.le_refl _, Nat.le_refl _⟩
 | h + 1, hh => by
  obtain ⟨i1, i2⟩ := pr_bd hM hX h (by omega);have hm := hM h (by omega);have hx := hX h (by omega);have hq : Mr h * prQ Mr h <= W4 ^ (2 ^ h + eF h) := by rw [Nat.pow_add]; exact Nat.mul_le_mul hm i1
  constructor
  ·show prQ Mr h * (Mr h * prQ Mr h) <= W4 ^ (eF h + (2 ^ h + eF h))
   rw [Nat.pow_add];exact Nat.mul_le_mul i1 hq
  ·have e := eF_le h
   have a1 : prY Mr Xr h * (Mr h * prQ Mr h) <= W4 ^ (eYq h + eYq h + 2 ^ h + 1) := by
    refine Nat.le_trans (Nat.mul_le_mul i2 hq) ?_;rw [<- Nat.pow_add];exact Nat.pow_le_pow_right W4_pos (by omega)
   have a2 : prY Mr Xr h * (Xr h * prY Mr Xr h) <= W4 ^ (eYq h + eYq h + 2 ^ h + 1) := by
    refine Nat.le_trans (Nat.mul_le_mul i2 (Nat.mul_le_mul hx i2)) ?_;rw [<- Nat.pow_add, <- Nat.pow_add];exact Nat.pow_le_pow_right W4_pos (by omega)
   show prY Mr Xr h * (Mr h * prQ Mr h) + prY Mr Xr h * (Mr h * prQ Mr h) + prY Mr Xr h * (Xr h * prY Mr Xr h) <= W4 ^ (eYq h + eYq h + 2 ^ h + 1 + 1)
   rw [Nat.pow_succ W4 (eYq h + eYq h + 2 ^ h + 1)];generalize W4 ^ (eYq h + eYq h + 2 ^ h + 1) = p at a1 a2;have h4 : p * 3 <= p * W4 := Nat.mul_le_mul_left _ (by decide +kernel);omega
section
variable {w : World} {Tt A B : Option Addr} {n ct m c d : Nat} {T : List (List Rat)} {qs ps : List Rat}
theorem q_MulF (hp : PolT w Tt n ct T 4) (ht : TowL T) (hn : n <= 4) (ha : Pol w A m c qs 4) (hb : Pol w B m d ps 4) (hm : m = 2 ^ n) :
  Calls Tryz.prog 44 #[.slice Tt n ct, .slice A m c, .slice B m d] w (fun e w' => ∃ A' c', e = .returned (.slice A' m c') /\ Pol w' A' m c' (mulL (radQ T) n qs ps) 400 /\ Ext w w') := by
 obtain ⟨S, hS⟩ : ∃ S : Nat, S = 400 := ⟨_, rfl⟩;have hl := hp.len;have hsm := hp.sm
 have hR : ∀ i q, q ∈ radQ T i -> SmQ q := by
  intro i q hq
  rcases Nat.lt_or_ge i T.length with hi | hi
  ·rw [radQ_at hi] at hq
   exact hsm _ (List.getElem_mem hi) q hq
  ·unfold radQ at hq
   rw [List.getD_eq_getElem?_getD, List.getElem?_eq_none hi] at hq;rw [List.eq_of_mem_replicate hq];exact ⟨Nat.zero_le _, W4_pos⟩
 have hM : ∀ i, 0 < prodD (radQ T i) := fun i => (in_few (hR i)).1
 have hMb : ∀ i, prodD (radQ T i) <= W4 ^ 2 ^ i := fun i => by have := (in_few (hR i)).2.1; rwa [radQ_len ht] at this
 obtain ⟨b1, b2⟩ := pr_bd (Mr := fun i => prodD (radQ T i)) (Xr := fun i => W4 * prodD (radQ T i)) (n := n) (fun i _ => hMb i) (fun i _ => by rw [Nat.pow_add, Nat.pow_one]; exact Nat.mul_le_mul_left _ (hMb i)) n (Nat.le_refl _);obtain ⟨p1, p2, p3⟩ := in_few ha.sm;obtain ⟨q1, q2, q3⟩ := in_few hb.sm;have hm16 : 2 ^ n <= 16 := (m_few n (by omega)).2.2.2.2.2.2;rw [ha.len, hm] at p2;rw [hb.len, hm] at q2
 have hfe : ∀ n, n < 5 -> eF n <= 32 /\ eYq n <= 62 := by
  intro n hn
  match n, hn with
  | 0, _ => decide
  | 1, _ => decide
  | 2, _ => decide
  | 3, _ => decide
  | 4, _ => decide
 have hf := hfe n (by omega)
 have z1 : prodD qs * prodD ps * prQ (fun i => prodD (radQ T i)) n < 4294967296 ^ S := by
  refine Nat.lt_of_lt_of_le (W4_words (e := 2 ^ n + 2 ^ n + eF n) ?_) (Nat.pow_le_pow_right (by omega) (by omega));rw [Nat.pow_add, Nat.pow_add];exact Nat.mul_le_mul (Nat.mul_le_mul p2 q2) b1
 have z2 : W4 * prodD qs * (W4 * prodD ps) * prY (fun i => prodD (radQ T i)) (fun i => W4 * prodD (radQ T i)) n < 4294967296 ^ S := by
  refine Nat.lt_of_lt_of_le (W4_words (e := (1 + 2 ^ n) + (1 + 2 ^ n) + eYq n) ?_) (Nat.pow_le_pow_right (by omega) (by omega));rw [Nat.pow_add, Nat.pow_add, Nat.pow_add, Nat.pow_one];exact Nat.mul_le_mul (Nat.mul_le_mul (Nat.mul_le_mul_left _ p2) (Nat.mul_le_mul_left _ q2)) b2
 refine (q_MulT (S := S) (R := radQ T) (radQ_len ht) hM (fun i => (in_few (hR i)).2.2) (by omega) (by omega) n ht hl (fun i _ => rfl) hp (ha.le (by omega)) (hb.le (by omega)) hm ⟨p1, p3⟩ ⟨q1, q3⟩ ⟨by omega, z1, z2⟩).mono ?_;rintro e w' ⟨A', c', rfl, h1, h2⟩;exact ⟨A', c', rfl, hS ▸ h1.pl, h2⟩
end
end
section
open Go.ChangeShapes Go.WideShapes Go.ChangeAt Go.RowKit Go.Joins
section
variable {H : Type} {enc : TypeId × Value -> H} {W : World} {base : Nat} {held : Bool}
set_option maxRecDepth 100000 in
theorem open_case {r : Reach} {b0 : Nat} {v : Value} {d : DataW H} {p : List MemPlace} (hv : Value.okWide Tryz.prog W r b0 25 v) (h : DataW.Trod enc Tryz.prog W base (fun _ => true) held 25 v d p) :
  ∃ A n c A1 n1 c1 A2 n2 c2 A3 n3 c3 ts r1 r2 r3, v = .agg #[.slice A n c, .slice A1 n1 c1, .slice A2 n2 c2, .slice A3 n3 c3] /\ RawT W A n c ts /\ RawP W A1 n1 c1 r1 /\ RawP W A2 n2 c2 r2 /\ RawP W A3 n3 c3 r3 := by
 obtain ⟨v0, v1, v2, v3, y0, y1, y2, y3, n, rfl, _, _, h0, h1, h2, h3⟩ := open_agg4 Tryz.underlying25 (by kernel_rfl) (by kernel_rfl) hv h;obtain ⟨A, n, c, ts, rfl, g⟩ := open_ratss h0;obtain ⟨A1, n1, c1, r1, rfl, g1⟩ := open_ratsc h1;obtain ⟨A2, n2, c2, r2, rfl, g2⟩ := open_ratsc h2;obtain ⟨A3, n3, c3, r3, rfl, g3⟩ := open_ratsc h3;exact ⟨A, n, c, A1, n1, c1, A2, n2, c2, A3, n3, c3, ts, r1, r2, r3, rfl, g, g1, g2, g3⟩
end
end
section
open Go.RowKit
def normQ (R : Nat -> List Rat) (h : Nat) (a : List Rat) : List Rat := addL (mulL R h (a.take (2 ^ h)) (a.take (2 ^ h))) (negL (mulL R h (mulL R h (a.drop (2 ^ h)) (a.drop (2 ^ h))) (R h)))
theorem normQ_len {R : Nat -> List Rat} {h : Nat} {a : List Rat} : (normQ R h a).length = 2 ^ h := addL_len mulL_len (by rw [negL_len, mulL_len])
theorem ring_take2 (ts : List (List Rat)) (ht : TowL ts) (k : Nat) : ∀ j, k + j <= ts.length -> (ringR (ts.take (k + j))).2.take (2 ^ k) = (ringR (ts.take k)).2
 | 0, hk => by
  rw [Nat.add_zero];exact List.take_of_length_le (Nat.le_of_eq (ringR_take ht k (by omega)).2.1)
 | j + 1, hk => by
  have ih := ring_take2 ts ht k j (by omega);have hj : k + j < ts.length := by omega
  have hl := (ringR_take ht (k + j) (by omega)).2.1;rw [<- Nat.add_assoc, List.take_succ_eq_append_getElem hj, ringR_snoc];simp only;rw [List.take_append_of_le_length (by rw [hl]; exact Nat.pow_le_pow_right (by omega) (by omega)), ih]
theorem El.psi_congr {K : Type} [Add K] [Mul K] [Neg K] [OfNat K 0] [OfNat K 1] [RingK K] {D D' : Nat -> K} : ∀ (h : Nat), (∀ i, i < h -> D i = D' i) -> ∀ a : El K h, El.psi D h a = El.psi D' h a
 | 0, _, _ => rfl
 | h + 1, e, a => by
  simp only [El.psi];rw [El.psi_congr h (fun i hi => e i (by omega)), El.psi_congr h (fun i hi => e i (by omega)), e h (by omega)]
theorem denK_take {ts : List (List Rat)} {h i : Nat} (hi : i < h) (hh : h <= ts.length) : denK (ts.take h) i = denK ts i := by
 unfold denK;rw [radQ_take hi hh, List.take_take, Nat.min_eq_left (by omega)]
theorem zip_take {f : Int -> Int -> Rat} : ∀ {a b : List Int} {n : Nat}, a.length = n -> List.zipWith f a b = List.zipWith f a (b.take n)
 | [], b, n, h => by
  simp at h;subst h;simp
 | x :: a, b, n, h => by
  cases b with
  | nil => simp
  | cons y b =>
   rw [List.length_cons] at h;subst h;simp only [List.take_succ_cons, List.zipWith_cons_cons];rw [zip_take rfl]
theorem norm_mean {ts : List (List Rat)} (ht : TowL ts) {h : Nat} (hn : ts.length = h + 1) {qs : List Rat} (hq : qs.length = 2 ^ (h + 1)) :
  List.zipWith (fun z f : Int => mkQ (z * f) (((denP (partL qs (ringR ts).2) : Nat) : Int) * ((denP (partL qs (ringR ts).2) : Nat) : Int))) (normLI (radI (ringR ts).1) h (numsP (partL qs (ringR ts).2))) (ringR ts).2 = normQ (radQ ts) h qs := by
 have hg := (ringR_take ht ts.length (Nat.le_refl _)).2.1;rw [List.take_length, hn] at hg
 have hnl : (numsP (partL qs (ringR ts).2)).length = 2 ^ (h + 1) := by
  rw [numsP_len];unfold partL;rw [List.length_zipWith, hq, hg, Nat.min_self]
 have d1 := denP_pos (partL qs (ringR ts).2);have hd : ((denP (partL qs (ringR ts).2) : Nat) : Int) * ((denP (partL qs (ringR ts).2) : Nat) : Int) ≠ 0 := Int.mul_ne_zero (by omega) (by omega);have hu : (ts.take h).length = h := by rw [List.length_take]; omega
 have h2 := ring_take2 ts ht h 1 (by omega);rw [show ts.take (h + 1) = ts from List.take_of_length_le (by omega)] at h2;rw [zip_take normLI_len, h2];have hs := split_elem ht (qs := qs) (by rw [hn, hq]);rw [hn] at hs;have l0 := take_len hnl;have l1 := drop_len hnl;have e0 := congrArg Prod.fst hs;have e1 := congrArg Prod.snd hs;simp only [toE, El.psi, El.smul, <- castL_take, <- castL_drop] at e0 e1;have hr := rad_mean ht h (by omega);generalize hdd : ((denP (partL qs (ringR ts).2) : Nat) : Int) = dd at *;generalize hnu : numsP (partL qs (ringR ts).2) = nu at *;refine (join_elem (take_TowL ht h) (zs := normLI (radI (ringR ts).1) h nu) hd (by rw [hu]; exact normLI_len) (os := normQ (radQ ts) h qs) (by rw [hu]; exact normQ_len) ?_);rw [hu, El.psi_congr h (D' := fun i => ((denK ts i : Int) : Rat)) (fun i hi => by rw [denK_take hi (by omega)])];have q0 := take_len hq;have q1 := drop_len hq;unfold normLI normQ;rw [subI_eq, castL_add, castL_neg, toE_add (by rw [castL_len, mulL_len]) (by rw [negL_len, castL_len, mulL_len]), toE_neg (by rw [castL_len, mulL_len]), El.psi_add, El.psi_neg];rw [mul_psi ht (by omega) l0 l0, mul_psi ht (by omega) mulL_len (by rw [<- castL_len]; exact radI_ring_len ht h), mul_psi ht (by omega) l1 l1, hr, e0];rw [toE_add mulL_len (by rw [negL_len, mulL_len]), toE_neg mulL_len, toE_mul (radQ_len ht) q0 q0, toE_mul (radQ_len ht) mulL_len (radQ_len ht h), toE_mul (radQ_len ht) q1 q1]
 have key : El.mul (fun i => toE i (radQ ts i)) h (El.mul (fun i => toE i (radQ ts i)) h (El.psi (fun i => ((denK ts i : Int) : Rat)) h (toE h (castL (nu.drop (2 ^ h))))) (El.psi (fun i => ((denK ts i : Int) : Rat)) h (toE h (castL (nu.drop (2 ^ h)))))) (El.smul h (((denK ts h : Int) : Rat) * ((denK ts h : Int) : Rat)) (toE h (radQ ts h))) = El.smul h (((dd : Int) : Rat) * ((dd : Int) : Rat)) (El.mul (fun i => toE i (radQ ts i)) h (El.mul (fun i => toE i (radQ ts i)) h (toE h (qs.drop (2 ^ h))) (toE h (qs.drop (2 ^ h)))) (toE h (radQ ts h))) := by
  rw [El.mul_smul, <- El.smul_mul, <- El.smul_smul, <- El.smul_mul, <- El.mul_smul, e1, El.smul_mul, El.mul_smul, El.smul_smul, El.smul_mul]
 rw [key, El.smul_mul, El.mul_smul, El.smul_smul, El.smul_add, Rat.intCast_mul]
 congr 1
 rw [El.neg_smul, El.neg_smul, El.smul_smul, El.smul_smul]
 congr 1
 exact Rat.mul_comm _ _
theorem mulL_assoc {R : Nat -> List Rat} (hR : ∀ i, (R i).length = 2 ^ i) {h : Nat} {a b c : List Rat} (ha : a.length = 2 ^ h) (hb : b.length = 2 ^ h) (hc : c.length = 2 ^ h) : mulL R h (mulL R h a b) c = mulL R h a (mulL R h b c) :=
 toE_inj mulL_len mulL_len (by rw [toE_mul hR mulL_len hc, toE_mul hR ha hb, toE_mul hR ha mulL_len, toE_mul hR hb hc, El.mul_assoc])
theorem add_neg_zero : ∀ a : List Rat, addL (negL a) a = List.replicate a.length 0
 | [] => rfl
 | x :: a => by
  show (-x + x) :: addL (negL a) a = _
  rw [add_neg_zero a, List.length_cons, List.replicate_succ, Rat.neg_add_cancel]
theorem mul_conj {R : Nat -> List Rat} (hR : ∀ i, (R i).length = 2 ^ i) {h : Nat} {a : List Rat} (ha : a.length = 2 ^ (h + 1)) : mulL R (h + 1) a (flipL h a) = normQ R h a ++ List.replicate (2 ^ h) 0 := by
 have l0 := take_len ha;have l1 := drop_len ha
 have e : flipL h a = a.take (2 ^ h) ++ negL (a.drop (2 ^ h)) := by
  rw [<- flip_mid l0 (Nat.le_of_eq l1), List.take_append_drop]
 rw [mulL, e, take_app l0, drop_app l0];unfold normQ;rw [mulL_negB hR l1 l1, mulL_negA hR mulL_len (hR h), mulL_negB hR l0 l1, mulL_comm hR l1 l0, add_neg_zero, mulL_len]
theorem norm_mul {R : Nat -> List Rat} (hR : ∀ i, (R i).length = 2 ^ i) {h : Nat} {a b : List Rat} (ha : a.length = 2 ^ (h + 1)) (hb : b.length = 2 ^ (h + 1)) : normQ R h (mulL R (h + 1) a b) = mulL R h (normQ R h a) (normQ R h b) := by
 have fa : (flipL h a).length = 2 ^ (h + 1) := by rw [flipL_len, ha]
 have fb : (flipL h b).length = 2 ^ (h + 1) := by rw [flipL_len, hb]
 have e : normQ R h (mulL R (h + 1) a b) ++ List.replicate (2 ^ h) 0 = mulL R h (normQ R h a) (normQ R h b) ++ List.replicate (2 ^ h) 0 := by
  rw [<- mul_conj hR mulL_len, <- mulL_low hR normQ_len normQ_len, <- mul_conj hR ha, <- mul_conj hR hb, flip_mul hR (h + 1) ha hb (fun k h1 h2 => by omega)];rw [mulL_assoc hR ha hb mulL_len, <- mulL_assoc hR hb fa fb, mulL_comm hR hb fa, mulL_assoc hR fa hb fb, <- mulL_assoc hR ha fa mulL_len]
 exact List.append_cancel_right e
theorem norm_low {R : Nat -> List Rat} (hR : ∀ i, (R i).length = 2 ^ i) {h : Nat} {a : List Rat} (ha : a.length = 2 ^ h) : normQ R h (a ++ List.replicate (2 ^ h) 0) = mulL R h a a := by
 unfold normQ;rw [take_app ha, drop_app ha, mulL_zero_left hR List.length_replicate, mulL_zero_left hR (hR h)]
 have e : negL (List.replicate (2 ^ h) (0 : Rat)) = List.replicate (2 ^ h) 0 := by
  unfold negL;rw [List.map_replicate, Rat.neg_zero]
 rw [e, addL_zero_right mulL_len]
theorem AllM.neg {M X : Nat} {a : List Rat} (h : AllM M X a) : AllM M X (negL a) := by
 intro q hq;unfold negL at hq;obtain ⟨p, hp, rfl⟩ := List.mem_map.1 hq;obtain ⟨z, rfl, h2⟩ := h p hp;exact ⟨-z, (Rat.neg_mkRat z M), by rw [Int.natAbs_neg]; exact h2⟩
theorem norm_in {R : Nat -> List Rat} {Mr Xr : Nat -> Nat} (hM : ∀ i, 0 < Mr i) (hR : ∀ i, AllM (Mr i) (Xr i) (R i)) {h : Nat} {a : List Rat} {M X : Nat} (pM : 0 < M) (ha : AllM M X a) :
  AllM (M * M * prQ Mr h * (Mr h * prQ Mr h)) (X * X * prY Mr Xr h * (Mr h * prQ Mr h) + X * X * prY Mr Xr h * (Xr h * prY Mr Xr h)) (normQ R h a) := by
 have hq := prQ_pos hM h;have hk : 0 < Mr h * prQ Mr h := Nat.mul_pos (hM h) hq;have pm : 0 < M * M * prQ Mr h := Nat.mul_pos (Nat.mul_pos pM pM) hq;have i0 := mulL_in hM hR h pM pM (ha.take (2 ^ h)) (ha.take (2 ^ h));have i1 := mulL_in hM hR h pM pM (ha.drop (2 ^ h)) (ha.drop (2 ^ h));have i2 := mulL_in hM hR h pm (hM h) i1 (hR h);rw [Nat.mul_assoc _ (Mr h), Nat.mul_assoc _ (Xr h)] at i2;exact AllM.add (Nat.mul_pos pm hk) (fun q hq => (i0 q hq).scale pm _ hk) i2.neg
end
section
open Go.RowKit
attribute [local go_sem ↓] Go.wp_at_zero Go.wp_at_succ
section
variable {w : World} {A B : Option Addr} {n c m d h L u v : Nat} {ts : List (List Rat)} {qs : List Rat}
set_option maxRecDepth 100000 in
theorem p_NormG (hp : PolT w A n c ts 4) (ht : TowL ts) (hs : ∀ r ∈ ts, ∀ q ∈ r, SmQ q) (hn : n = h + 1) (hn4 : n <= 4) (ha : Pol w B m d qs L) (hL : L <= 1000) (hm : m = 2 ^ n) (hq : BdQ u v qs) (huv : u + v <= 250) (hT : Tab w) : Calls Tryz.prog 29 #[.slice A n c, .slice B m d] w (fun e w' => ∃ A' c', e = .returned (.slice A' (2 ^ h) c') /\ Pol w' A' (2 ^ h) c' (normQ (radQ ts) h qs) (8 * (u + v) + 970) /\ Ext w w') := by
 have hfew := m_few n (by omega);have hl := hp.len;have hG := ringR_take ht ts.length (Nat.le_refl _);rw [List.take_length, hl] at hG;obtain ⟨G1, G2, G3, _, G5⟩ := hG;have HNM := Lib.hid (norm_mean ht (h := h) (by rw [hl, hn]) (qs := qs) (by rw [ha.len, hm, hn]));have hSA := split_bd ht hs hq;rw [hl] at hSA;have hNA := norm_abs ht hs (h := h) hSA.1;rw [<- hn] at hNA;have hND := denP_pos (partL qs (ringR ts).2);have HSV := Lib.hid (W4_abs hSA.1);have HDV := Lib.hid (W4_words hSA.2);have HNV := Lib.hid (W4_abs hNA);have HD0 := Lib.hid (show ((denP (partL qs (ringR ts).2) : Nat) : Int) * ((denP (partL qs (ringR ts).2) : Nat) : Int) ≠ 0 from Int.mul_ne_zero (by omega) (by omega));have Hm := Lib.hid (show m = 2 ^ (h + 1) by rw [hm, hn]);have HM := Lib.hid hm;have HG3 := Lib.hid G3;have h2h : 2 ^ h <= 8 := Nat.le_trans (Nat.pow_le_pow_right (by omega) (show h <= 3 by omega)) (by decide);have h2n : 2 ^ n = 2 ^ h + 2 ^ h := by rw [hn, two_pow_s]
 have hm16 : m <= 16 := by omega
 have hm0 : 0 < m := by rw [hm]; exact Nat.pow_pos (by omega)
 rw [hn] at hfew;rw [<- hm] at G2;have hsp := hfew.2.2.2.2.1;rw [<- hn] at hfew;have HFW := Lib.hid (And.intro hfew hsp);have HG2 := Lib.hid G2;have HG1 := Lib.hid G1;have HG5 := Lib.hid G5;have hh : h + 1 <= n := by omega
 have HHM := Lib.hid (show 2 ^ h <= m by rw [hm, h2n]; omega);clear hSA hNA hND hm hn hl h2n hfew hsp G1 G2 G3 G5;have g1 : ((n : Int) == 0) = false := beq_eq_false_iff_ne.2 (by omega);have hnb := Box.new w 23 #[.slice B m d];have e1 := (Ext.refl w).alloc (.cells #[.slice B m d] 23)
 go_enter Tryz.func29, Tryz.ntmps29
 go_wp2_with fail
 refine (p_formed1 (L := 1000) ((hp.le (by omega)).ext e1) ht hnb ((ha.le hL).ext e1) HM.out (by omega) (by omega) (hT.ext e1)).mono ?_;rintro e V ⟨rfl, hxt⟩;have EW := e1.trans hxt;clear hnb e1 hxt
 go_wp2_with fail
 refine (p_ringOf (hp.ext EW) ht hs hn4 (hT.ext EW)).mono ?_;rintro e V1 ⟨Ar, cr, Af, cf, rfl, hir, hfp, hx1⟩;rw [<- HM.out] at hfp;replace EW := EW.trans hx1
 go_upto_region 4 with (fail)
 rw [show (2 : Nat) ^ n = m from HM.out.symm];obtain ⟨V2, hV2, ex2, b5, hz2⟩ := box1 V1 72 #[.slice Ar n cr, .slice Af m cf];rw [<- hV2];clear hV2 hz2 hx1;replace hir := hir.ext ex2;replace hfp := hfp.ext ex2;replace EW := EW.trans ex2;clear ex2;have x0 := b5.cell 0 (.slice Ar n cr) rfl;have x1 := b5.cell 1 (.slice Af m cf) rfl
 go_wp2_with fail
 refine (p_splitT (ha.ext EW) hfp rfl HG3.out rfl (by have := HFW.out; omega) (by have := HFW.out; omega) hm0 (by omega) (Nat.lt_of_lt_of_le HDV.out (Nat.pow_le_pow_right (by omega) (Nat.le_succ _))) (by have := HFW.out; omega) (by omega) (hT.ext EW)).mono ?_;rintro e V3 ⟨g6, s7, B7, m7, d7, rfl, hg6, hz, hy, hx1⟩
 go_upto_region 5 with (fail)
 obtain ⟨V4, hV4, ex4, b7, hz4⟩ := box1 V3 28 #[.bool s7, .slice B7 m7 d7];rw [<- hV4];clear hV4 hz4 x0 x1 hg6;replace hz := (hz.ext ex4).tight HSV.out;replace hy := (hy.ext ex4).tight' (M := 4 * (v + eF n) + 1) (by rw [Int.natAbs_natCast]; exact HDV.out);replace ex4 := hx1.trans ex4;replace hir := hir.ext ex4;replace hfp := hfp.ext ex4;replace b5 := b5.ext ex4;replace EW := EW.trans ex4;clear ex4 hx1;have hdr := (Ext.refl V4).drew;replace hir := hir.ext hdr;replace hfp := hfp.ext hdr;replace hz := hz.ext hdr;replace hy := hy.ext hdr;clear hdr;have ES0 := Ext.refl V4;refine wp_region_held_drew (S := Ext V4) (by kernel_rfl) ES0.drew (fun ES => ?_);clear ES0;refine Late.s0 ES (fun hAl hQ => ?_);refine Late.t 0 26 ?v_0 hQ ?y_0 ?_
 case y_0 => intro w' hSw;have k00 := (b5.ext hSw).c2;have k10 := (b7.ext hSw).c2;go_simp;try rfl
 try simp only [zP]
 refine Late.t 1 27 ?v_1 hQ ?y_1 ?_
 case y_1 => intro w' hSw;have k00 := (b5.ext hSw).c2;have k10 := (b7.ext hSw).c2;go_simp;try rfl
 try simp only [zP]
 refine Late.u 2 28 hQ ?_
 try simp only [zP]
 refine Late.t 4 30 ?v_3 hQ ?y_3 ?_
 case y_3 => intro w' hSw;have k00 := (b5.ext hSw).c2;have k10 := (b7.ext hSw).c2;go_simp;try rfl
 try simp only [zP]
 refine Late.t 5 31 ?v_4 hQ ?y_4 ?_
 case y_4 => intro w' hSw;have k00 := (b5.ext hSw).c2;have k10 := (b7.ext hSw).c2;go_simp;try rfl
 try simp only [zP]
 refine Late.cl (i := 3) rfl hAl hQ (fun w3 e3 E3 K hK => ?_);go_simp
 (replace hir := hir.ext e3; replace hz := hz.ext e3; replace hy := hy.ext e3; replace hfp := hfp.ext e3; go_at_call 77; refine (p_normT HG5.out (by omega) hir hz Hm.out hh (by have := HFW.out; omega)).mono ?_; rintro e wk3 ⟨A8, c8, rfl, hnm, hx3⟩; replace hir := hir.ext hx3; replace hz := hz.ext hx3; replace hy := hy.ext hx3; replace hfp := hfp.ext hx3)
 refine hK.out _ _ hx3 ?_;clear hK K
 try simp only [zP]
 refine Late.cl (i := 6) rfl hAl hQ (fun w6 e6 E6 K hK => ?_);go_simp
 (replace hir := hir.ext e6; replace hz := hz.ext e6; replace hy := hy.ext e6; replace hfp := hfp.ext e6; replace hnm := hnm.ext e6; go_at_call 70; refine (p_MulG hy hy (by have := HFW.out; omega) (by have := HFW.out; omega)).mono ?_; rintro e wk6 ⟨s9, A9, n9, c9, rfl, hdd, hx6⟩; replace hir := hir.ext hx6; replace hz := hz.ext hx6; replace hy := hy.ext hx6; replace hfp := hfp.ext hx6; replace hnm := hnm.ext hx6)
 refine hK.out _ _ hx6 ?_;clear hK K
 try simp only [zP]
 refine Late.cl (i := 7) rfl hAl hQ (fun w7 e7 E7 K hK => ?_);go_simp
 (replace hir := hir.ext e7; replace hz := hz.ext e7; replace hy := hy.ext e7; replace hfp := hfp.ext e7; replace hnm := hnm.ext e7; replace hdd := hdd.ext e7; go_at_call 68; refine (p_joinT (hnm.tight HNV.out) hfp HHM.out (by omega) hdd HD0.out (by have := HFW.out; omega) (by have := HFW.out; omega) (by omega) (hT.ext (EW.trans E7))).mono ?_; rintro e wk7 ⟨g8, rfl, hg8, hjr, hjl, hx7⟩; replace hir := hir.ext hx7; replace hz := hz.ext hx7; replace hy := hy.ext hx7; replace hfp := hfp.ext hx7; replace hnm := hnm.ext hx7; replace hdd := hdd.ext hx7)
 refine hK.out _ _ hx7 ?_;clear hK K
 try simp only [zP]
 refine Late.u 8 4 hQ ?_
 try simp only [zP]
 refine Late.d0 (fun wz ez Ez => ?_);clear hAl hQ ES
 go_wp2_with fail
 go_ret
 rw [<- HNM.out];have hpj := ((hjr.pol hjl (by unfold maxLen; omega)).ext ez).le (M := 8 * (u + v) + 970) (by have := HFW.out; omega);exact ⟨_, _, rfl, hpj, EW.trans Ez⟩
end
end
section
open Go.RowKit
def InB (m x : Nat) (qs : List Rat) : Prop := ∃ M X, 0 < M /\ AllM M X qs /\ M <= W4 ^ m /\ X <= W4 ^ x
section
variable {m x m' x' n h S : Nat} {qs a b : List Rat}
theorem InB.few (hs : ∀ q ∈ qs, SmQ q) (hl : qs.length = 2 ^ n) : InB (2 ^ n) (1 + 2 ^ n) qs := by
 obtain ⟨h1, h2, h3⟩ := in_few hs;rw [hl] at h2;exact ⟨_, _, h1, h3, h2, by rw [Nat.pow_add, Nat.pow_one]; exact Nat.mul_le_mul_left _ h2⟩
theorem InB.words (hb : InB m x qs) (hx : 4 * x + 1 <= S) (hm : 4 * m + 1 <= S) : ∀ q ∈ qs, q.num.natAbs < 4294967296 ^ S /\ q.den < 4294967296 ^ S := by
 obtain ⟨M, X, h1, h2, h3, h4⟩ := hb;intro q hq;obtain ⟨k1, k2⟩ := (h2 q hq).size h1;exact ⟨Nat.lt_of_lt_of_le (W4_words (Nat.le_trans k1 h4)) (Nat.pow_le_pow_right (by omega) hx), Nat.lt_of_lt_of_le (W4_words (Nat.le_trans k2 h3)) (Nat.pow_le_pow_right (by omega) hm)⟩
theorem InB.bd (hb : InB m x qs) : BdQ x m qs := by
 obtain ⟨M, X, h1, h2, h3, h4⟩ := hb;refine ⟨fun q hq => Nat.le_trans ((h2 q hq).size h1).1 h4, M, h1, h3, fun q hq => ?_⟩;obtain ⟨z, rfl, _⟩ := h2 q hq;exact (mkRat_sizes z M (by omega)).1
structure RadB (R : Nat -> List Rat) (Mr Xr : Nat -> Nat) : Prop where
 len : ∀ i, (R i).length = 2 ^ i
 pos : ∀ i, 0 < Mr i
 all : ∀ i, AllM (Mr i) (Xr i) (R i)
 mb : ∀ i, Mr i <= W4 ^ 2 ^ i
 xb : ∀ i, Xr i <= W4 ^ (1 + 2 ^ i)
variable {R : Nat -> List Rat} {Mr Xr : Nat -> Nat}
theorem InB.mul (hR : RadB R Mr Xr) (h : Nat) (ha : InB m x a) (hb : InB m' x' b) : InB (m + m' + eF h) (x + x' + eYq h) (mulL R h a b) := by
 obtain ⟨Ma, Xa, p1, p2, p3, p4⟩ := ha;obtain ⟨Mb, Xb, q1, q2, q3, q4⟩ := hb;obtain ⟨b1, b2⟩ := pr_bd (n := h) (fun i _ => hR.mb i) (fun i _ => hR.xb i) h (Nat.le_refl _);refine ⟨_, _, Nat.mul_pos (Nat.mul_pos p1 q1) (prQ_pos hR.pos h), mulL_in hR.pos hR.all h p1 q1 p2 q2, ?_, ?_⟩
 ·rw [Nat.pow_add, Nat.pow_add]
  exact Nat.mul_le_mul (Nat.mul_le_mul p3 q3) b1
 ·rw [Nat.pow_add, Nat.pow_add]
  exact Nat.mul_le_mul (Nat.mul_le_mul p4 q4) b2
theorem InB.norm (hR : RadB R Mr Xr) (h : Nat) (ha : InB m x a) : InB (m + m + eF h + (2 ^ h + eF h)) (x + x + eYq h + (1 + 2 ^ h + eYq h) + 1) (normQ R h a) := by
 obtain ⟨M, X, p1, p2, p3, p4⟩ := ha;obtain ⟨b1, b2⟩ := pr_bd (n := h + 1) (fun i _ => hR.mb i) (fun i _ => hR.xb i) h (by omega);have k1 : Mr h * prQ Mr h <= W4 ^ (2 ^ h + eF h) := by rw [Nat.pow_add]; exact Nat.mul_le_mul (hR.mb h) b1
 have k2 : Xr h * prY Mr Xr h <= W4 ^ (1 + 2 ^ h + eYq h) := by rw [Nat.pow_add]; exact Nat.mul_le_mul (hR.xb h) b2
 have k3 : X * X * prY Mr Xr h <= W4 ^ (x + x + eYq h) := by rw [Nat.pow_add, Nat.pow_add]; exact Nat.mul_le_mul (Nat.mul_le_mul p4 p4) b2
 have hle := eF_le h;refine ⟨_, _, Nat.mul_pos (Nat.mul_pos (Nat.mul_pos p1 p1) (prQ_pos hR.pos h)) (Nat.mul_pos (hR.pos h) (prQ_pos hR.pos h)), norm_in hR.pos hR.all p1 p2, ?_, ?_⟩
 ·rw [Nat.pow_add _ (m + m + eF h), Nat.pow_add, Nat.pow_add]
  exact Nat.mul_le_mul (Nat.mul_le_mul (Nat.mul_le_mul p3 p3) b1) k1
 ·have t1 : X * X * prY Mr Xr h * (Mr h * prQ Mr h) <= W4 ^ (x + x + eYq h + (1 + 2 ^ h + eYq h)) := by
   rw [Nat.pow_add _ (x + x + eYq h)];exact Nat.mul_le_mul k3 (Nat.le_trans k1 (Nat.pow_le_pow_right W4_pos (by omega)))
  have t2 : X * X * prY Mr Xr h * (Xr h * prY Mr Xr h) <= W4 ^ (x + x + eYq h + (1 + 2 ^ h + eYq h)) := by
   rw [Nat.pow_add _ (x + x + eYq h)];exact Nat.mul_le_mul k3 k2
  rw [Nat.pow_succ];generalize W4 ^ (x + x + eYq h + (1 + 2 ^ h + eYq h)) = p at t1 t2;have h4 : p * 2 <= p * W4 := Nat.mul_le_mul_left _ (by decide +kernel);omega
theorem low_few : ∀ h, h < 4 -> eF h <= 12 /\ eYq h <= 26 /\ 2 ^ h <= 8 /\ eF (h + 1) <= 32 /\ eYq (h + 1) <= 62 /\ 2 ^ (h + 1) <= 16 := by
 intro h hh
 match h, hh with
 | 0, _ => decide
 | 1, _ => decide
 | 2, _ => decide
 | 3, _ => decide
end
section
variable {w : World} {Tt A B : Option Addr} {n ct m c d h : Nat} {T : List (List Rat)} {qs ps : List Rat}
theorem rad_few (hp : PolT w Tt n ct T 4) (ht : TowL T) : RadB (radQ T) (fun i => prodD (radQ T i)) (fun i => W4 * prodD (radQ T i)) := by
 have hR : ∀ i q, q ∈ radQ T i -> SmQ q := by
  intro i q hq
  rcases Nat.lt_or_ge i T.length with hi | hi
  ·rw [radQ_at hi] at hq
   exact hp.sm _ (List.getElem_mem hi) q hq
  ·unfold radQ at hq
   rw [List.getD_eq_getElem?_getD, List.getElem?_eq_none hi] at hq;rw [List.eq_of_mem_replicate hq];exact ⟨Nat.zero_le _, W4_pos⟩
 have hb : ∀ i, prodD (radQ T i) <= W4 ^ 2 ^ i := fun i => by have := (in_few (hR i)).2.1; rwa [radQ_len ht] at this
 exact ⟨radQ_len ht, fun i => (in_few (hR i)).1, fun i => (in_few (hR i)).2.2, hb, fun i => by rw [Nat.pow_add, Nat.pow_one]; exact Nat.mul_le_mul_left _ (hb i)⟩
theorem p_NormA (hp : PolT w Tt n ct T 4) (ht : TowL T) (hn : n = h + 1) (hn4 : n <= 4) (ha : Pol w B m d qs 4) (hm : m = 2 ^ n) (hT : Tab w) :
  Calls Tryz.prog 29 #[.slice Tt n ct, .slice B m d] w (fun e w' => ∃ A' c', e = .returned (.slice A' (2 ^ h) c') /\ Pol w' A' (2 ^ h) c' (normQ (radQ T) h qs) 400 /\ Ext w w') := by
 have hi := InB.few ha.sm (n := n) (by rw [ha.len, hm]);have hw := InB.norm (rad_few hp ht) h hi;have hf := low_few h (by omega);rw [<- hn] at hf;refine (p_NormG hp ht hp.sm hn hn4 ha (by omega) hm hi.bd (by omega) hT).mono ?_;rintro e w' ⟨A', c', rfl, h1, h2⟩;obtain ⟨S, hS⟩ : ∃ S : Nat, S = 400 := ⟨_, rfl⟩;exact ⟨A', c', rfl, hS ▸ h1.tightG (M := S) (hw.words (by omega) (by omega)), h2⟩
theorem p_NormP2 (hp : PolT w Tt n ct T 4) (ht : TowL T) (hn : n = h + 1) (hn4 : n <= 4) (ha : Pol w A m c (mulL (radQ T) n qs ps) 400) (hq : qs.length = 2 ^ n) (hqs : ∀ q ∈ qs, SmQ q) (hp' : ps.length = 2 ^ n) (hps : ∀ q ∈ ps, SmQ q) (hm : m = 2 ^ n) (hT : Tab w) :
  Calls Tryz.prog 29 #[.slice Tt n ct, .slice A m c] w (fun e w' => ∃ A' c', e = .returned (.slice A' (2 ^ h) c') /\ Pol w' A' (2 ^ h) c' (mulL (radQ T) h (normQ (radQ T) h qs) (normQ (radQ T) h ps)) 960 /\ Ext w w') := by
 have hR := rad_few hp ht;have i1 := InB.few hqs hq;have i2 := InB.few hps hp';have hi := i1.mul hR n i2;have hw := (InB.norm hR h i1).mul hR h (InB.norm hR h i2);have hf := low_few h (by omega);have hf1 := hf.2.2.2;rw [<- hn] at hf1;have hN := norm_mul hR.len (h := h) (a := qs) (b := ps) (by rw [hq, hn]) (by rw [hp', hn]);rw [<- hn] at hN;refine (p_NormG hp ht hp.sm hn hn4 ha (by omega) hm hi.bd (by omega) hT).mono ?_;rintro e w' ⟨A', c', rfl, h1, h2⟩;rw [hN] at h1;obtain ⟨S, hS⟩ : ∃ S : Nat, S = 960 := ⟨_, rfl⟩;exact ⟨A', c', rfl, hS ▸ h1.tightG (M := S) (hw.words (by omega) (by omega)), h2⟩
theorem q_MulN (hp : PolT w Tt n ct T 4) (ht : TowL T) (hn : n = h + 1) (hn4 : n <= 4) {k : Nat} (hk : k = 2 ^ h) (ha : Pol w A k c (normQ (radQ T) h qs) 400) (hb : Pol w B k d (normQ (radQ T) h ps) 400) (hq : qs.length = 2 ^ n) (hqs : ∀ q ∈ qs, SmQ q) (hp' : ps.length = 2 ^ n) (hps : ∀ q ∈ ps, SmQ q) :
  Calls Tryz.prog 44 #[.slice Tt h ct, .slice A k c, .slice B k d] w (fun e w' => ∃ A' c', e = .returned (.slice A' k c') /\ Pol w' A' k c' (mulL (radQ T) h (normQ (radQ T) h qs) (normQ (radQ T) h ps)) 960 /\ Ext w w') := by
 obtain ⟨S, hS⟩ : ∃ S : Nat, S = 960 := ⟨_, rfl⟩;have hR := rad_few hp ht;have hl := hp.len;obtain ⟨Ma, Xa, p1, p2, p3, p4⟩ := InB.norm hR h (InB.few hqs hq);obtain ⟨Mb, Xb, q1, q2, q3, q4⟩ := InB.norm hR h (InB.few hps hp');obtain ⟨b1, b2⟩ := pr_bd (n := h) (fun i _ => hR.mb i) (fun i _ => hR.xb i) h (Nat.le_refl _);have hf := low_few h (by omega);have hf1 := hf.2.2.2;rw [<- hn] at hf1;refine (q_MulT (S := S) hR.len hR.pos hR.all (by omega) (by omega) h (take_TowL ht h) (by rw [List.length_take, hl]; omega) (fun i hi => radQ_take hi (by omega)) (hp.take (by omega)) (ha.le (by omega)) (hb.le (by omega)) hk ⟨p1, p2⟩ ⟨q1, q2⟩ ⟨by omega, ?_, ?_⟩).mono ?_
 ·refine Nat.lt_of_lt_of_le (W4_words (e := (2 ^ n + 2 ^ n + eF h + (2 ^ h + eF h)) + (2 ^ n + 2 ^ n + eF h + (2 ^ h + eF h)) + eF h) ?_) (Nat.pow_le_pow_right (by omega) (by omega))
  rw [Nat.pow_add _ _ (eF h), Nat.pow_add _ (2 ^ n + 2 ^ n + eF h + (2 ^ h + eF h))];exact Nat.mul_le_mul (Nat.mul_le_mul p3 q3) b1
 ·refine Nat.lt_of_lt_of_le (W4_words (e := (1 + 2 ^ n + (1 + 2 ^ n) + eYq h + (1 + 2 ^ h + eYq h) + 1) + (1 + 2 ^ n + (1 + 2 ^ n) + eYq h + (1 + 2 ^ h + eYq h) + 1) + eYq h) ?_) (Nat.pow_le_pow_right (by omega) (by omega))
  rw [Nat.pow_add _ _ (eYq h), Nat.pow_add _ (1 + 2 ^ n + (1 + 2 ^ n) + eYq h + (1 + 2 ^ h + eYq h) + 1)];exact Nat.mul_le_mul (Nat.mul_le_mul p4 q4) b2
 rintro e w' ⟨A', c', rfl, h1, h2⟩;exact ⟨A', c', rfl, hS ▸ h1.pl, h2⟩
theorem p_NormLow (hp : PolT w Tt n ct T 4) (ht : TowL T) (hn : n = h + 1) (hn4 : n <= 4) {k N : Nat} (hk : k = 2 ^ h) (hN : N = k * 2 ^ 1) (ha : Pol w A m c (qs ++ List.replicate (N - k) 0) 4) (hq : qs.length = 2 ^ h) (hT : Tab w) :
  Calls Tryz.prog 29 #[.slice Tt n ct, .slice A m c] w (fun e w' => ∃ A' c', e = .returned (.slice A' (2 ^ h) c') /\ Pol w' A' (2 ^ h) c' (mulL (radQ T) h qs qs) 400 /\ Ext w w') := by
 subst hk;have e : N - 2 ^ h = 2 ^ h := by rw [hN]; omega
 have hm : m = 2 ^ n := by
  have := ha.len;rw [List.length_append, List.length_replicate, hq, e] at this;rw [<- this, hn, two_pow_s]
 rw [e] at ha;have hl := norm_low (radQ_len ht) (h := h) (a := qs) hq;have := p_NormA hp ht hn hn4 ha hm hT;rw [hl] at this;exact this
theorem q_MulLow (hp : PolT w Tt n ct T 4) (ht : TowL T) (hn : n = h + 1) (hn4 : n <= 4) {k : Nat} (hk : k = 2 ^ h) (ha : Pol w A k c qs 4) :
  Calls Tryz.prog 44 #[.slice Tt h ct, .slice A k c, .slice A k c] w (fun e w' => ∃ A' c', e = .returned (.slice A' k c') /\ Pol w' A' k c' (mulL (radQ T) h qs qs) 400 /\ Ext w w') := by
 have hl := hp.len;have := q_MulF (hp.take (k := h) (by omega)) (take_TowL ht h) (by omega) ha ha hk;rw [mulL_congr (fun i hi => radQ_take hi (by omega))] at this;exact this
end
end
section
open Go.RowKit
attribute [local go_sem ↓] Go.wp_at_zero Go.wp_at_succ
section
variable {w w' : World} {q x : Rat} {L M : Nat} {s t : Bool} {A B : Option Addr} {n c m d : Nat} {sx tx : Bool} {Ax Bx : Option Addr} {nx cx mx dx : Nat} {qs ps : List Rat} {rs : List RawR} {ts us : List (List RawR)}
set_option maxRecDepth 100000 in
theorem q_LiftT {k N : Nat} (h : Pol w A n c qs L) (hL : 2 <= L) (hn0 : 0 < n) (hN : N = n * 2 ^ k) (hN1 : N <= 64) (hk : k <= 16) : Calls Tryz.prog 41 #[.slice A n c, .int .i64 (k : Int)] w (RetPol (qs ++ List.replicate (N - n) 0) L w) := by
 have hW2 : wrap64 ((n : Int) * (2 : Int) ^ k) = (N : Int) := by
  have e1 : ((n : Int) * (2 : Int) ^ k) = ((n * 2 ^ k : Nat) : Int) := by push_cast; rfl
  rw [e1, <- hN];unfold wrap64;omega
 have hnN : n <= N := by rw [hN]; exact Nat.le_mul_of_pos_right _ (Nat.pow_pos (by omega))
 have hql := h.len;have HQL := Lib.hid hql;clear hN hql;have hR0 : Row4 (w.alloc (.cells #[] 30)) w.heap.size (.slice (some ⟨w.heap.size, 0, Option.none⟩) 0 0) [] L := RRow.row4 ⟨[], Box.new w _ _, .nil⟩ (Nat.le_refl _) rfl (by omega);have hE0 := (Ext.refl w).alloc (.cells #[] 30)
 go_enter Tryz.func41, Tryz.ntmps41
 go_wp2_with (at_builtin; refine wpList_append_row rfl _ _ rfl rfl rfl hR0 (h.ext hE0) (by simp) (by omega) hE0.size hE0 (Nat.le_refl _) ?_; intro v1 W1 hrow1 extr1)
 rw [List.nil_append] at hrow1
 have hv1 : lenS v1 = n + 0 := by
  obtain ⟨g5, cap5, e5, _⟩ := hrow1.shape (fun e => by have := HQL.out; rw [e] at this; simp at this; omega);rw [e5];simp only [lenS];rw [HQL.out]
  rfl
 go_loopw [5] (fun v wr => ∃ j : Nat, n + j <= N /\ Ext w wr /\ lenS v = n + j /\ Row4 wr w.heap.size v (qs ++ List.replicate j 0) L) (fun v _ => N - lenS v)
 case atStart => exact ⟨0, by omega, extr1, hv1, by rw [List.replicate_zero, List.append_nil]; exact hrow1⟩
 case round =>
  clear hR0 hE0 hrow1 extr1 hv1;obtain ⟨j, hk1, extr, hlv, hrow⟩ := hrel;have hlq : (qs ++ List.replicate j (0 : Rat)).length = n + j := by rw [List.length_append, List.length_replicate, HQL.out]
  obtain ⟨g5, cap5, rfl, _⟩ := hrow.shape (fun e => by rw [e] at hlq; simp at hlq; omega);rw [hlq] at hrow ⊢;have HLQ := Lib.hid hlq;clear hlv hlq
  by_cases hlt : n + j < N
  ·have hkI : ((n + j : Nat) : Int) < (N : Int) := by omega
   have hkJ : (n : Int) + (j : Int) < (N : Int) := by omega
   go_wp2_with fail
   refine (q_FromIntR 0 (by omega) (by omega)).mono ?_;rintro e W5 ⟨s7, A7, n7, c7, t7, B7, m7, d7, rfl, h7, ext5⟩;have ha5 := (ext5).alloc (.cells #[.bool s7, .slice A7 n7 c7, .bool t7, .slice B7 m7 d7] 30);replace extr := extr.trans ha5;replace hrow := hrow.ext ha5;replace h7 := (h7.ext ((Ext.refl W5).alloc (.cells #[.bool s7, .slice A7 n7 c7, .bool t7, .slice B7 m7 d7] 30))).le hL;clear ext5 ha5;have hlen : (qs ++ List.replicate j (0 : Rat)).length <= 1000 := by rw [HLQ.out]; omega
   go_wp2_with (at_builtin; refine wpList_append_rat rfl _ _ rfl rfl rfl hrow h7 (Box.new W5 _ _) hlen extr.size ?_; intro v6 W6 hrow6 hgr hob)
   have hl6 : (qs ++ List.replicate j (0 : Rat)) ++ [((0 : Int) : Rat)] = qs ++ List.replicate (j + 1) 0 := by
    rw [List.replicate_succ', List.append_assoc]
    rfl
   rw [hl6] at hrow6;have hl8 : (qs ++ List.replicate (j + 1) (0 : Rat)).length = n + (j + 1) := by rw [List.length_append, List.length_replicate, HQL.out]
   obtain ⟨g6, cap6, e6, _⟩ := hrow6.shape (fun e => by rw [e] at hl8; simp at hl8);have hl7 : lenS v6 = n + (j + 1) := by rw [e6]; simp only [lenS]; exact hl8
   clear hl8
   go_roundw
   case rel => exact ⟨j + 1, by omega, Below.grown extr hgr extr.size (fun k hk => (hrow.block k hk).1), hl7, hrow6⟩
   case measure => rw [hl7]; simp only [lenS]; omega
  ·have hkI : (N : Int) <= ((n + j : Nat) : Int) := by omega
   have hkJ : (N : Int) <= (n : Int) + (j : Int) := by omega
   obtain ⟨A9, n9, c9, e9, hp⟩ := hrow.polT
   injection e9 with e1 e2 e3
   subst e1 e2 e3;have hkP : j = N - n := by omega
   go_wp2_with fail
   go_ret
   rw [<- hkP];exact ⟨_, _, _, rfl, hp, extr⟩
end
set_option maxRecDepth 100000 in
theorem norm6_any {w : World} {A A1 A2 A3 : Option Addr} {n c n1 c1 n2 c2 n3 c3 : Nat} {ts : List (List RawR)} {r1 r2 r3 : List RawR} (hA : Awake6) (hT : Tab w) (h : RawT w A n c ts) (h1 : RawP w A1 n1 c1 r1) (h2 : RawP w A2 n2 c2 r2) (h3 : RawP w A3 n3 c3 r3) :
  Calls Tryz.prog 10 #[.agg #[.slice A n c, .slice A1 n1 c1, .slice A2 n2 c2, .slice A3 n3 c3]] w (fun e w' => e = .returned (.bool true) /\ Ext w w') := by
 go_enter Tryz.func10, Tryz.ntmps10
 go_upto_region 1 with (fail)
 obtain ⟨W, hW, EW, bx, hz⟩ := box1 w 25 #[.slice A n c, .slice A1 n1 c1, .slice A2 n2 c2, .slice A3 n3 c3];rw [<- hW];clear hW hz;have HA := Lib.hid hA;clear hA
 go_wp2_with fail
 refine (HA.out _ (hT.ext EW)).mono ?_;rintro e V1 ⟨rfl, hx⟩;replace bx := bx.ext hx;replace EW := EW.trans hx;clear hx;have x0 := bx.cell 0 (.slice A n c) rfl;have x1 := bx.cell 1 (.slice A1 n1 c1) rfl;have x2 := bx.cell 2 (.slice A2 n2 c2) rfl;have x3 := bx.cell 3 (.slice A3 n3 c3) rfl
 go_wp2_with fail
 refine (p_rightL (h.ext EW) (h1.ext EW) (h2.ext EW) (h3.ext EW)).mono ?_;rintro e V2 ⟨rfl, hx⟩;replace bx := bx.ext hx;replace EW := EW.trans hx;clear hx x0 x1 x2 x3
 cases hrb : rightB ts r1 r2 r3 with
 | false =>
  go_wp2_with fail
  refine (HA.out _ (hT.ext EW)).mono ?_;rintro e V3 ⟨rfl, hx⟩
  go_wp2_with fail
  go_ret
  exact ⟨rfl, EW.trans hx⟩
 | true =>
  obtain ⟨T, qa, qb, qc, hp, ht, hn4, ⟨ha, ha2⟩, ⟨hb, hb2⟩, ⟨hc, hc2⟩⟩ := right_bundle h h1 h2 h3 hrb;have HN1 := Lib.hid ha2;have HN2 := Lib.hid hb2;have HN3 := Lib.hid hc2;have hm1 : n1 <= 16 := by rw [ha2]; exact (m_few n (by omega)).2.2.2.2.2.2
  have hm2 : n2 <= 16 := by rw [hb2]; exact (m_few n (by omega)).2.2.2.2.2.2
  have hm3 : n3 <= 16 := by rw [hc2]; exact (m_few n (by omega)).2.2.2.2.2.2
  replace hp := hp.ext EW;replace ha := ha.ext EW;replace hb := hb.ext EW;replace hc := hc.ext EW;clear h h1 h2 h3 hrb ha2 hb2 hc2;clear hc HN3 hm3;obtain rfl : n2 = n1 := by rw [HN2.out, HN1.out]
  clear HN2 hm2;have x0 := bx.cell 0 (.slice A n c) rfl
  by_cases h0 : n = 0
  ·have g1 : ((n : Int) == 0) = true := by rw [h0]; rfl
   clear h0
   go_wp2_with fail
   refine (HA.out _ (hT.ext EW)).mono ?_;rintro e V3 ⟨rfl, hx⟩
   go_wp2_with fail
   go_ret
   exact ⟨rfl, EW.trans hx⟩
  ·have g1 : ((n : Int) == 0) = false := beq_eq_false_iff_ne.2 (by omega)
   obtain ⟨h, hh_⟩ : ∃ h, n = h + 1 := ⟨n - 1, by omega⟩;have HH := Lib.hid hh_;clear hh_;have hw1 : IntKind.i64.wrap ((n : Int) - 1) = (h : Int) := by rw [IntWalk.i64_in _ (by omega)]; have := HH.out; omega
   have hw2 : wrap64 ((n : Int) - 1) = (h : Int) := by have := HH.out; unfold wrap64; omega
   have hcp := hp.cap;have i1 : (h : Int) <= (c : Int) := by have := HH.out; omega
   have i2 : (h : Int) <= (n : Int) := by have := HH.out; omega
   have HLF := Lib.hid (show 0 < 2 ^ h /\ 2 ^ h <= 8 /\ n2 = 2 ^ h + 2 ^ h from ⟨Nat.pow_pos (by omega), (low_few h (by have := HH.out; omega)).2.2.1, by rw [HN1.out, HH.out, two_pow_s]⟩);have HQA := Lib.hid (show qa.length = 2 ^ n by rw [ha.len, HN1.out]);have HQB := Lib.hid (show qb.length = 2 ^ n by rw [hb.len, HN1.out]);have HSA := Lib.hid ha.sm;have HSB := Lib.hid hb.sm;clear h0 x0;have x0 := bx.cell 0 (.slice A n c) rfl;have x1 := bx.cell 1 (.slice A1 n2 c1) rfl;have x2 := bx.cell 2 (.slice A2 n2 c2) rfl
   go_upto_region 4 with (fail)
   clear x0 x1 x2;have ES0 := Ext.refl V2;refine wp_region_held_drew (S := Ext V2) (by kernel_rfl) ES0.drew (fun ES => ?_);clear ES0;refine Late.s0 ES (fun hAl hQ => ?_);refine Late.u 0 26 hQ ?_
   try simp only [zP]
   refine Late.u 2 28 hQ ?_
   try simp only [zP]
   refine Late.u 4 30 hQ ?_
   try simp only [zP]
   refine Late.u 6 32 hQ ?_
   try simp only [zP]
   refine Late.u 10 36 hQ ?_
   try simp only [zP]
   refine Late.u 11 37 hQ ?_
   try simp only [zP]
   refine Late.u 13 39 hQ ?_
   try simp only [zP]
   refine Late.u 16 42 hQ ?_
   try simp only [zP]
   refine Late.u 18 44 hQ ?_
   try simp only [zP]
   refine Late.t 1 27 ?v_9 hQ ?y_9 ?_
   case y_9 => intro w' hSw;have k00 := (bx.ext hSw).c4;go_simp;try rfl
   try simp only [zP]
   refine Late.t 3 29 ?v_a hQ ?y_a ?_
   case y_a => intro w' hSw;have k00 := (bx.ext hSw).c4;go_simp;try rfl
   try simp only [zP]
   refine Late.t 5 31 ?v_b hQ ?y_b ?_
   case y_b => intro w' hSw;have k00 := (bx.ext hSw).c4;go_simp;try rfl
   try simp only [zP]
   refine Late.t 7 33 ?v_c hQ ?y_c ?_
   case y_c => intro w' hSw;have k00 := (bx.ext hSw).c4;go_simp;try rfl
   try simp only [zP]
   refine Late.t 12 38 ?v_d hQ ?y_d ?_
   case y_d => intro w' hSw;have k00 := (bx.ext hSw).c4;go_simp;try rfl
   try simp only [zP]
   refine Late.t 14 40 ?v_e hQ ?y_e ?_
   case y_e => intro w' hSw;have k00 := (bx.ext hSw).c4;go_simp;try rfl
   try simp only [zP]
   refine Late.t 17 43 ?v_f hQ ?y_f ?_
   case y_f => intro w' hSw;have k00 := (bx.ext hSw).c4;go_simp;try rfl
   try simp only [zP]
   refine Late.t 19 45 ?v_g hQ ?y_g ?_
   case y_g => intro w' hSw;have k00 := (bx.ext hSw).c4;go_simp;try rfl
   try simp only [zP]
   refine Late.cl (i := 8) rfl hAl hQ (fun w8 e8 E8 K hK => ?_);go_simp
   (go_at_call 44; refine (q_MulF (hp.ext E8) ht hn4 (ha.ext E8) (hb.ext E8) HN1.out).mono ?_; rintro e wk8 ⟨A5, c5, rfl, pm, hx8⟩)
   refine hK.out _ _ hx8 ?_;clear hK K
   try simp only [zP]
   refine Late.cl (i := 9) rfl hAl hQ (fun w9 e9 E9 K hK => ?_);go_simp
   (replace pm := pm.ext e9; go_at_call 29; refine (p_NormP2 (hp.ext E9) ht HH.out hn4 pm HQA.out HSA.out HQB.out HSB.out HN1.out (hT.ext (EW.trans E9))).mono ?_; rintro e wk9 ⟨A6, c6, rfl, pn, hx9⟩; replace pm := pm.ext hx9)
   refine hK.out _ _ hx9 ?_;clear hK K
   try simp only [zP]
   refine Late.cl (i := 15) rfl hAl hQ (fun w15 e15 E15 K hK => ?_);go_simp
   (replace pm := pm.ext e15; replace pn := pn.ext e15; go_at_call 29; refine (p_NormA (hp.ext E15) ht HH.out hn4 (ha.ext E15) HN1.out (hT.ext (EW.trans E15))).mono ?_; rintro e wk15 ⟨A7, c7, rfl, pa, hx15⟩; replace pm := pm.ext hx15; replace pn := pn.ext hx15)
   refine hK.out _ _ hx15 ?_;clear hK K
   try simp only [zP]
   refine Late.cl (i := 20) rfl hAl hQ (fun w20 e20 E20 K hK => ?_);go_simp
   (replace pm := pm.ext e20; replace pn := pn.ext e20; replace pa := pa.ext e20; go_at_call 29; refine (p_NormA (hp.ext E20) ht HH.out hn4 (hb.ext E20) HN1.out (hT.ext (EW.trans E20))).mono ?_; rintro e wk20 ⟨A8, c8, rfl, pb, hx20⟩; replace pm := pm.ext hx20; replace pn := pn.ext hx20; replace pa := pa.ext hx20)
   refine hK.out _ _ hx20 ?_;clear hK K
   try simp only [zP]
   refine Late.cl (i := 21) rfl hAl hQ (fun w21 e21 E21 K hK => ?_);go_simp
   (replace pm := pm.ext e21; replace pn := pn.ext e21; replace pa := pa.ext e21; replace pb := pb.ext e21; go_at_call 44; refine (q_MulN (hp.ext E21) ht HH.out hn4 rfl pa pb HQA.out HSA.out HQB.out HSB.out).mono ?_; rintro e wk21 ⟨A9, c9, rfl, pq, hx21⟩; replace pm := pm.ext hx21; replace pn := pn.ext hx21; replace pa := pa.ext hx21; replace pb := pb.ext hx21)
   refine hK.out _ _ hx21 ?_;clear hK K
   try simp only [zP]
   refine Late.cl (i := 22) rfl hAl hQ (fun w22 e22 E22 K hK => ?_);go_simp
   (replace pm := pm.ext e22; replace pn := pn.ext e22; replace pa := pa.ext e22; replace pb := pb.ext e22; replace pq := pq.ext e22; go_at_call 19; refine (q_SameT pn pq (by omega) (by omega) (by have := HLF.out; omega)).mono ?_; rintro e wk22 ⟨rfl, hx22⟩; replace pm := pm.ext hx22; replace pn := pn.ext hx22; replace pa := pa.ext hx22; replace pb := pb.ext hx22; replace pq := pq.ext hx22)
   refine hK.out _ _ hx22 ?_;clear hK K
   try simp only [zP]
   refine Late.u 23 49 hQ ?_
   try simp only [zP]
   refine Late.d0 (fun U1 ez Ez => ?_);clear hAl hQ ES;replace bx := bx.ext Ez;replace hp := hp.ext Ez;replace ha := ha.ext Ez;replace hb := hb.ext Ez;replace EW := EW.trans Ez;clear ez Ez;have x0 := bx.cell 0 (.slice A n c) rfl;have x1 := bx.cell 1 (.slice A1 n2 c1) rfl;have x2 := bx.cell 2 (.slice A2 n2 c2) rfl;obtain ⟨k, hk⟩ : ∃ k, k = 2 ^ h := ⟨_, rfl⟩;have hkn : k <= n2 := by have := HLF.out; omega
   have hlo := ha.take hkn;have HQL := Lib.hid (show (qa.take k).length = 2 ^ h by rw [List.length_take, HQA.out, hk, HH.out, two_pow_s]; omega);rw [<- hk] at HLF HQL;have qd1 : Int.tdiv (n2 : Int) 2 = (k : Int) := by have := HLF.out; rw [Int.tdiv_eq_ediv_of_nonneg (by omega)]; omega
   have qd2 : (n2 : Int) / 2 = (k : Int) := by have := HLF.out; omega
   have qd3 : IntKind.i64.wrap (k : Int) = (k : Int) := IntWalk.i64_in _ (by omega);have hcq := ha.cap;have i3 : (k : Int) <= (c1 : Int) := by omega
   have i4 : (k : Int) <= (n2 : Int) := by omega
   have HK := Lib.hid hk;clear hk;have x0 := bx.cell 0 (.slice A n c) rfl;have x1 := bx.cell 1 (.slice A1 n2 c1) rfl;have x2 := bx.cell 2 (.slice A2 n2 c2) rfl
   go_upto_region 7 with (fail)
   clear x0 x1 x2;have ES0 := Ext.refl U1;refine wp_region_held_drew (S := Ext U1) (by kernel_rfl) ES0.drew (fun ES => ?_);clear ES0;refine Late.s0 ES (fun hAl hQ => ?_);refine Late.u 0 57 hQ ?_
   try simp only [zP]
   refine Late.u 2 59 hQ ?_
   try simp only [zP]
   refine Late.u 5 62 hQ ?_
   try simp only [zP]
   refine Late.u 6 63 hQ ?_
   try simp only [zP]
   refine Late.u 7 64 hQ ?_
   try simp only [zP]
   refine Late.t 1 58 ?v_n hQ ?y_n ?_
   case y_n => intro w' hSw;have k00 := (bx.ext hSw).c4;go_simp;try rfl
   try simp only [zP]
   refine Late.cl (i := 3) rfl hAl hQ (fun w3 e3 E3 K hK => ?_);go_simp
   (go_at_call 41; refine (q_LiftT (k := 1) (N := k * 2 ^ 1) (hlo.ext E3) (by omega) (by have := HLF.out; omega) rfl (by have := HLF.out; omega) (by omega)).mono ?_; rintro e wk3 ⟨A15, n15, c15, rfl, pl, hx3⟩)
   refine hK.out _ _ hx3 ?_;clear hK K
   try simp only [zP]
   refine Late.cl (i := 4) rfl hAl hQ (fun w4 e4 E4 K hK => ?_);go_simp
   (replace pl := pl.ext e4; go_at_call 29; refine (p_NormLow (hp.ext E4) ht HH.out hn4 HK.out rfl pl (HQL.out.trans HK.out) (hT.ext (EW.trans E4))).mono ?_; rintro e wk4 ⟨A16, c16, rfl, pn, hx4⟩; replace pl := pl.ext hx4)
   refine hK.out _ _ hx4 ?_;clear hK K
   try simp only [zP]
   refine Late.cl (i := 8) rfl hAl hQ (fun w8 e8 E8 K hK => ?_);go_simp
   (replace pl := pl.ext e8; replace pn := pn.ext e8; go_at_call 44; refine (q_MulLow (hp.ext E8) ht HH.out hn4 HK.out (hlo.ext E8)).mono ?_; rintro e wk8 ⟨A17, c17, rfl, pq, hx8⟩; replace pl := pl.ext hx8; replace pn := pn.ext hx8)
   refine hK.out _ _ hx8 ?_;clear hK K
   try simp only [zP]
   refine Late.cl (i := 9) rfl hAl hQ (fun w9 e9 E9 K hK => ?_);go_simp
   (replace pl := pl.ext e9; replace pn := pn.ext e9; replace pq := pq.ext e9; go_at_call 19; refine (q_SameT pn pq (by omega) (by omega) (by rw [<- HK.out]; have := HLF.out; omega)).mono ?_; rintro e wk9 ⟨rfl, hx9⟩; replace pl := pl.ext hx9; replace pn := pn.ext hx9; replace pq := pq.ext hx9)
   refine hK.out _ _ hx9 ?_;clear hK K
   try simp only [zP]
   refine Late.u 10 2 hQ ?_
   try simp only [zP]
   refine Late.d0 (fun U2 ez Ez => ?_);clear hAl hQ ES;replace bx := bx.ext Ez;replace hp := hp.ext Ez;replace ha := ha.ext Ez;replace hb := hb.ext Ez;replace hlo := hlo.ext Ez;replace EW := EW.trans Ez;clear ez Ez;have x0 := bx.cell 0 (.slice A n c) rfl;have x1 := bx.cell 1 (.slice A1 n2 c1) rfl;have x2 := bx.cell 2 (.slice A2 n2 c2) rfl
   go_wp2_with fail
   go_ret
   exact ⟨rfl, EW⟩
end
section
open Go.ChangeShapes Go.WideShapes Go.ChangeAt Go.RowKit Go.Joins
set_option maxRecDepth 100000
theorem norm6_lifted (os : Os) (started : os.Started) (H : Type) (enc : TypeId × Value -> H) :
  ReturnsInHanded {} Tryz.checked os 10 .any (fun w args => (Rows.towerNormSpec.pre enc Tryz.prog Tryz.f10 [] false w args /\ laidMetH Tryz.prog laidI w) /\ sizedMet enc Tryz.prog Tryz.f10 (OpenSpec.ofChange Rows.towerNormSpec) false w args)
   (Rows.towerNormSpec.post enc Tryz.prog Tryz.f10 false true false false) := by
 refine returnsInHanded_of_change_and (C := Tryz.checked) (X := fun w _ => laidMetH Tryz.prog laidI w) (fun _ _ _ hh h => h.of_heap hh) Tryz.own started (by kernel_rfl) Tryz.func10
  (ChangeSpec.witness_shaped (enc := enc) (C := Tryz.checked) (os := os) (X := fun w _ => laidMetH Tryz.prog laidI w) false (World.doorLaid Tryz.prog 400 os) #[Value.agg #[Value.slice none 0 0, Value.slice none 0 0, Value.slice none 0 0, Value.slice none 0 0]] 8 rfl (World.shaped_of_RefB (by kernel_rfl) (by kernel_rfl)) (by kernel_rfl) (by kernel_rfl) (by kernel_rfl) (doorI_met os _)) ?_
 intro W base args ds gs before hval0 hW _ _ hL _;have hval : ∀ (j : Nat) t v, Tryz.f10.params[j]? = some t -> args[j]? = some v -> Value.okWide Tryz.prog W .any base t v := hval0;have hW' := hW;have hlt : ∀ p ∈ before, p.block < W.heap.size := fun p hp => hW.lt p hp
 obtain ⟨p, q, hA0, hV, rfl, _, _⟩ := hW;have hA : DataW.TrodAll enc Tryz.prog W 0 (fun _ => true) true Tryz.f10.params.toList args.toList ds p := hA0;rw [Tryz.params10] at hA hval;obtain ⟨v0, d0, rfl, rfl, h0⟩ := trodAll_one hA;obtain ⟨rfl, rfl⟩ := trodVars_none hV;simp only [List.append_nil] at hW' hlt;obtain ⟨A, n, c, A1, n1, c1, A2, n2, c2, A3, n3, c3, ts, r1, r2, r3, rfl, hr0, hr1, hr2, hr3⟩ := open_case (hval 0 25 v0 rfl rfl) h0;clear hA0 hval0;have hT := tab_of_laidH hL;refine (norm6_any awake6 hT hr0 hr1 hr2 hr3).mono fun e W' ⟨he, hext⟩ => ?_
 subst he;have hb : Below W.heap.size W W' := hext;have g0 := Below.trod Tryz.laidOut (by kernel_rfl) (of_decide_eq_true (by kernel_rfl)) h0 hb (fun p hp => hlt p hp);exact ⟨_, rfl, _, _, _, [], p, [], hW', trodAll_mk1 (shut_bool Tryz.underlying4 true), trodAll_mk1 g0, rfl, Below.frame hb _, fun h => by cases h⟩
theorem norm6_row_holds : Rows.TowerNormSaid :=
 OpenClaim.holds_of_wide 10 Tryz.f10 rfl rfl rfl rfl rfl rfl rfl ⟨rfl, rfl, rfl, rfl, rfl⟩ rfl rfl rfl rfl rfl (by kernel_rfl) Tryz.func10 (by kernel_rfl)
  (of_decide_eq_true (by kernel_rfl)) (by unfold Func.isWrapper; first | (rw [if_neg (of_decide_eq_false (by kernel_rfl))]; exact ⟨rfl, rfl⟩) | (rw [if_pos (by decide +kernel)]; kernel_rfl))
  (fun os started H enc _ => norm6_lifted os started H enc)
theorem norm6_holds : Rows.TowerNormCardSaid :=
 Claim7.holds_tied_plain_at .later [] [.data] true Rows.towerNormCard.stood.harness false
  norm6_row_holds (fun _ h => by cases h) (by kernel_rfl) (fun _ h => by cases h) towerNorm_row_tie rfl ⟨rfl, rfl⟩ (by kernel_rfl) rfl
  (fun f fn hf hfn => by
   obtain rfl : f = 10 := Option.some.inj ((show Tryz.prog.funcNamed "setsquare/setsquarelaw06.TowerNorm" = some 10 by kernel_rfl).symm.trans hf) |>.symm;obtain rfl : fn = Tryz.f10 := (Option.some.inj (Tryz.func10.symm.trans hfn)).symm
   exact ⟨by kernel_rfl, fun j t ht => by
    rw [Tryz.params10] at ht;have hm : t ∈ [25] := by simpa using Array.mem_of_getElem? ht
    have hall : ([25].all fun u => !Tryz.prog.wantsStandIn u) = true := by kernel_rfl
    exact (show Tryz.prog.wantsStandIn t = false by simpa using List.all_eq_true.1 hall t hm)⟩)
  (by kernel_rfl)
end
end Go.Proofs.YtgagcochepnelaaGreatDoor
