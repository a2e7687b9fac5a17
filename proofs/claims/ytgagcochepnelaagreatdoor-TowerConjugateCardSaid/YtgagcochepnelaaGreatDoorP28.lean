/- For every tower with three elements and every number of a radicand the law TowerConjugate returns true: Conjugate returns the specified element or none, respects sums and products, and changes nothing when done twice, and the examples of the chapter hold. Condition: the table math/bits.deBruijn64tab holds what its initialiser lays (tied by the given card). -/
import Derived.Test.YtgagcochepnelaaGreatDoorP0
import Derived.Test.YtgagcochepnelaaGreatDoorP1
import Derived.Test.YtgagcochepnelaaGreatDoorP2
import Derived.Test.YtgagcochepnelaaGreatDoorP3
import Derived.Test.YtgagcochepnelaaGreatDoorP4
import Derived.Test.YtgagcochepnelaaGreatDoorP5
import Derived.Test.YtgagcochepnelaaGreatDoorP6
import Derived.Test.YtgagcochepnelaaGreatDoorP7
import Derived.Test.YtgagcochepnelaaGreatDoorP8
import Derived.Test.YtgagcochepnelaaGreatDoorP9
import Derived.Test.YtgagcochepnelaaGreatDoorP10
import Derived.Test.YtgagcochepnelaaGreatDoorP11
import Derived.Test.YtgagcochepnelaaGreatDoorP12
import Derived.Test.YtgagcochepnelaaGreatDoorP13
import Derived.Test.YtgagcochepnelaaGreatDoorP25
import Derived.Test.YtgagcochepnelaaGreatDoorP26
import Derived.Test.YtgagcochepnelaaGreatDoorP27
import Derived.Test.YtgagcochepnelaaGreatDoorCards
import Derived.Test.YtgagcochepnelaaGreatDoorTie
import Derived.LaidMore
import Derived.OpenShut
import Derived.Lib.SmallJoins
import Derived.LaidLaws
import Derived.Deep.Slices
import Derived.Lib.LaidTab
import Derived.SevenTiedAt
import Derived.Stop.Joined
set_option linter.unusedSimpArgs false
set_option linter.unusedVariables false
set_option maxHeartbeats 64000000
namespace Go.Proofs.YtgagcochepnelaaGreatDoor
section
open Go.RowKit
section
variable {K : Type} [Add K] [Mul K] [Neg K] [OfNat K 0] [OfNat K 1] [RingK K]
theorem El.neg_smul : (h : Nat) -> (a : El K h) -> El.neg h a = El.smul h (-1) a
 | 0, a => by
  have h : ∀ x : K, -x = (-1 : K) * x := fun x => RingK.neg_one (K := K) x
  exact h a
 | h + 1, a => El.ext (El.neg_smul h a.1) (El.neg_smul h a.2)
theorem El.neg_mul (R : (h : Nat) -> El K h) (h : Nat) (a b : El K h) : El.mul R h (El.neg h a) b = El.neg h (El.mul R h a b) := by
 rw [El.neg_smul, El.neg_smul, El.smul_mul]
end
theorem take_app {α : Type} {a b : List α} {n : Nat} (h : a.length = n) : (a ++ b).take n = a := by subst h; exact List.take_left
theorem drop_app {α : Type} {a b : List α} {n : Nat} (h : a.length = n) : (a ++ b).drop n = b := by subst h; exact List.drop_left
theorem mulL_negA {R : Nat -> List Rat} (hR : ∀ i, (R i).length = 2 ^ i) {h : Nat} {a b : List Rat} (ha : a.length = 2 ^ h) (hb : b.length = 2 ^ h) : mulL R h (negL a) b = negL (mulL R h a b) :=
 toE_inj mulL_len (by rw [negL_len, mulL_len]) (by rw [toE_mul hR (by rw [negL_len, ha]) hb, toE_neg ha, toE_neg mulL_len, toE_mul hR ha hb, El.neg_mul])
theorem mulL_negB {R : Nat -> List Rat} (hR : ∀ i, (R i).length = 2 ^ i) {h : Nat} {a b : List Rat} (ha : a.length = 2 ^ h) (hb : b.length = 2 ^ h) : mulL R h a (negL b) = negL (mulL R h a b) := by
 rw [mulL_comm hR ha (by rw [negL_len, hb]), mulL_negA hR hb ha, mulL_comm hR hb ha]
theorem negL_negL (a : List Rat) : negL (negL a) = a := by
 unfold negL;rw [List.map_map]
 conv => rhs; rw [<- List.map_id a]
 exact List.map_congr_left fun x _ => Rat.neg_neg x
theorem negL_addL : ∀ {a b : List Rat}, negL (addL a b) = addL (negL a) (negL b)
 | [], _ => rfl
 | _ :: _, [] => rfl
 | x :: a, y :: b => by
  have ih := negL_addL (a := a) (b := b);unfold negL addL at *;simp only [List.zipWith_cons_cons, List.map_cons];rw [ih, Rat.neg_add]
theorem flipL_len (i : Nat) (qs : List Rat) : (flipL i qs).length = qs.length := by unfold flipL; rw [List.length_mapIdx]
theorem flipL_at {i p : Nat} {qs : List Rat} (hp : p < (flipL i qs).length) : (flipL i qs)[p] = if belB p i = true then -(qs[p]'(by rw [flipL_len] at hp; exact hp)) else qs[p]'(by rw [flipL_len] at hp; exact hp) := by
 simp [flipL]
theorem bel_low {p i : Nat} (hp : p < 2 ^ i) : belB p i = false := by
 unfold belB;rw [Nat.div_eq_of_lt hp]
 rfl
theorem bel_mid {p i : Nat} (hp : p < 2 ^ i) : belB (2 ^ i + p) i = true := by
 unfold belB;rw [Nat.add_div_left _ (Nat.pow_pos (by omega)), Nat.div_eq_of_lt hp]
 rfl
theorem bel_high {p i h : Nat} (hi : i < h) : belB (2 ^ h + p) i = belB p i := by
 unfold belB;obtain ⟨j, rfl⟩ : ∃ j, h = i + (j + 1) := ⟨h - i - 1, by omega⟩;have e : 2 ^ (i + (j + 1)) = 2 ^ i * (2 * 2 ^ j) := by rw [Nat.pow_add, Nat.pow_succ]; congr 1; exact Nat.mul_comm _ _
 rw [e, Nat.mul_add_div (Nat.pow_pos (by omega))]
 congr 1
 rw [show 2 * 2 ^ j + p / 2 ^ i = p / 2 ^ i + 2 * 2 ^ j by omega, Nat.add_mul_mod_self_left]
theorem flip_low {i : Nat} {a : List Rat} (ha : a.length <= 2 ^ i) : flipL i a = a := by
 refine List.ext_getElem (flipL_len i a) fun p h1 h2 => ?_
 rw [flipL_at h1, bel_low (by omega)]
 rfl
theorem flip_mid {i : Nat} {a b : List Rat} (ha : a.length = 2 ^ i) (hb : b.length <= 2 ^ i) : flipL i (a ++ b) = a ++ negL b := by
 refine List.ext_getElem (by rw [flipL_len, List.length_append, List.length_append, negL_len]) fun p h1 h2 => ?_
 rw [flipL_at h1];have h3 : p < a.length + b.length := by rw [flipL_len, List.length_append] at h1; exact h1
 rcases Nat.lt_or_ge p (2 ^ i) with hp | hp
 ·rw [bel_low hp, List.getElem_append_left (by omega), List.getElem_append_left (by omega)]
  rfl
 ·obtain ⟨q, rfl⟩ : ∃ q, p = 2 ^ i + q := ⟨p - 2 ^ i, by omega⟩
  rw [bel_mid (by omega), if_pos rfl, List.getElem_append_right (by omega), List.getElem_append_right (by omega)];simp [negL]
theorem flip_high {i h : Nat} (hi : i < h) {a b : List Rat} (ha : a.length = 2 ^ h) : flipL i (a ++ b) = flipL i a ++ flipL i b := by
 refine List.ext_getElem (by rw [flipL_len, List.length_append, List.length_append, flipL_len, flipL_len]) fun p h1 h2 => ?_
 rw [flipL_at h1];have h3 : p < a.length + b.length := by rw [flipL_len, List.length_append] at h1; exact h1
 rcases Nat.lt_or_ge p (2 ^ h) with hp | hp
 ·rw [List.getElem_append_left (by omega), List.getElem_append_left (by rw [flipL_len]; omega), flipL_at (by rw [flipL_len]; omega)]
 ·obtain ⟨q, rfl⟩ : ∃ q, p = 2 ^ h + q := ⟨p - 2 ^ h, by omega⟩
  rw [bel_high hi, List.getElem_append_right (by omega), List.getElem_append_right (by rw [flipL_len]; omega), flipL_at (by rw [flipL_len, flipL_len]; omega)];simp only [flipL_len, ha, Nat.add_sub_cancel_left]
theorem flip_add {i : Nat} {a b : List Rat} (h : a.length = b.length) : flipL i (addL a b) = addL (flipL i a) (flipL i b) := by
 have l1 : (addL a b).length = a.length := addL_len rfl h.symm;have l2 : (addL (flipL i a) (flipL i b)).length = a.length := addL_len (flipL_len i a) (by rw [flipL_len, h]);refine List.ext_getElem (by rw [flipL_len, l1, l2]) fun p h1 h2 => ?_
 have hp : p < a.length := by rw [flipL_len, l1] at h1; exact h1
 have e2 : (addL (flipL i a) (flipL i b))[p] = (flipL i a)[p]'(by rw [flipL_len]; exact hp) + (flipL i b)[p]'(by rw [flipL_len, <- h]; exact hp) := by simp [addL]
 have e1 : (addL a b)[p]'(by rw [l1]; exact hp) = a[p] + b[p] := by simp [addL]
 rw [e2, flipL_at h1, flipL_at (by rw [flipL_len]; exact hp), flipL_at (by rw [flipL_len, <- h]; exact hp), e1]
 split
 ·exact Rat.neg_add
 ·rfl
theorem flip_flip (i : Nat) (a : List Rat) : flipL i (flipL i a) = a := by
 refine List.ext_getElem (by rw [flipL_len, flipL_len]) fun p h1 h2 => ?_
 rw [flipL_at h1, flipL_at (by rw [flipL_len]; exact h2)]
 split
 ·exact Rat.neg_neg _
 ·rfl
theorem flip_mul {R : Nat -> List Rat} (hR : ∀ i, (R i).length = 2 ^ i) {i : Nat} : ∀ (h : Nat) {a b : List Rat}, a.length = 2 ^ h -> b.length = 2 ^ h -> (∀ k, i < k -> k < h -> flipL i (R k) = R k) -> flipL i (mulL R h a b) = mulL R h (flipL i a) (flipL i b)
 | 0, a, b, ha, hb, _ => by
  have h1 : 1 <= 2 ^ i := Nat.pow_pos (by omega);rw [flip_low (by rw [mulL_len]; exact h1), flip_low (by rw [ha]; exact h1), flip_low (by rw [hb]; exact h1)]
 | h + 1, a, b, ha, hb, hf => by
  have l0 := take_len ha;have l1 := drop_len ha;have k0 := take_len hb;have k1 := drop_len hb
  rcases Nat.lt_trichotomy h i with hi | hi | hi
  ·have h1 : 2 ^ (h + 1) <= 2 ^ i := Nat.pow_le_pow_right (by omega) (by omega)
   rw [flip_low (by rw [mulL_len]; exact h1), flip_low (by rw [ha]; exact h1), flip_low (by rw [hb]; exact h1)]
  ·subst hi
   have ea : flipL h a = a.take (2 ^ h) ++ negL (a.drop (2 ^ h)) := by
    conv => lhs; rw [<- List.take_append_drop (2 ^ h) a]
    exact flip_mid l0 (Nat.le_of_eq l1)
   have eb : flipL h b = b.take (2 ^ h) ++ negL (b.drop (2 ^ h)) := by
    conv => lhs; rw [<- List.take_append_drop (2 ^ h) b]
    exact flip_mid k0 (Nat.le_of_eq k1)
   have ta : (a.take (2 ^ h) ++ negL (a.drop (2 ^ h))).take (2 ^ h) = a.take (2 ^ h) := take_app l0;have da : (a.take (2 ^ h) ++ negL (a.drop (2 ^ h))).drop (2 ^ h) = negL (a.drop (2 ^ h)) := drop_app l0;have tb : (b.take (2 ^ h) ++ negL (b.drop (2 ^ h))).take (2 ^ h) = b.take (2 ^ h) := take_app k0;have db : (b.take (2 ^ h) ++ negL (b.drop (2 ^ h))).drop (2 ^ h) = negL (b.drop (2 ^ h)) := drop_app k0;rw [ea, eb, mulL, mulL, ta, da, tb, db, flip_mid (addL_len mulL_len mulL_len) (Nat.le_of_eq (addL_len mulL_len mulL_len))];rw [mulL_negA hR l1 (by rw [negL_len, k1]), mulL_negB hR l1 k1, negL_negL, mulL_negB hR l0 k1, mulL_negA hR l1 k0, negL_addL]
  ·have ea : flipL i a = flipL i (a.take (2 ^ h)) ++ flipL i (a.drop (2 ^ h)) := by
    conv => lhs; rw [<- List.take_append_drop (2 ^ h) a]
    exact flip_high hi l0
   have eb : flipL i b = flipL i (b.take (2 ^ h)) ++ flipL i (b.drop (2 ^ h)) := by
    conv => lhs; rw [<- List.take_append_drop (2 ^ h) b]
    exact flip_high hi k0
   have fa0 : (flipL i (a.take (2 ^ h))).length = 2 ^ h := by rw [flipL_len, l0]
   have fb0 : (flipL i (b.take (2 ^ h))).length = 2 ^ h := by rw [flipL_len, k0]
   have ta : (flipL i (a.take (2 ^ h)) ++ flipL i (a.drop (2 ^ h))).take (2 ^ h) = flipL i (a.take (2 ^ h)) := take_app fa0;have da : (flipL i (a.take (2 ^ h)) ++ flipL i (a.drop (2 ^ h))).drop (2 ^ h) = flipL i (a.drop (2 ^ h)) := drop_app fa0;have tb : (flipL i (b.take (2 ^ h)) ++ flipL i (b.drop (2 ^ h))).take (2 ^ h) = flipL i (b.take (2 ^ h)) := take_app fb0;have db : (flipL i (b.take (2 ^ h)) ++ flipL i (b.drop (2 ^ h))).drop (2 ^ h) = flipL i (b.drop (2 ^ h)) := drop_app fb0;have hf' : ∀ k, i < k -> k < h -> flipL i (R k) = R k := fun k h1 h2 => hf k h1 (by omega)
   rw [ea, eb, mulL, mulL, ta, da, tb, db, flip_high hi (addL_len mulL_len mulL_len), flip_add (by rw [mulL_len, mulL_len]), flip_add (by rw [mulL_len, mulL_len])];rw [flip_mul hR h l0 k0 hf', flip_mul hR h mulL_len (hR h) hf', flip_mul hR h l1 k1 hf', flip_mul hR h l0 k1 hf', flip_mul hR h l1 k0 hf', hf h hi (by omega)]
theorem cha_flip (r : List Rat) (i : Nat) : chaB r i = false ↔ flipL i r = r := by
 unfold chaB;rw [List.any_eq_false]
 constructor
 ·intro h
  refine List.ext_getElem (flipL_len i r) fun p h1 h2 => ?_
  rw [flipL_at h1]
  split
  ·rename_i hb
   have := h p (List.mem_range.2 h2);rw [hb, Bool.true_and] at this;simp only [Bool.not_eq_true', Bool.not_eq_false, decide_eq_true_eq, List.getD_eq_getElem?_getD, List.getElem?_eq_getElem h2, Option.getD_some] at this;rw [this];exact Rat.neg_zero
  ·rfl
 ·intro h p hp
  have h2 := List.mem_range.1 hp;have h3 := List.getElem_of_eq h (show p < (flipL i r).length by rw [flipL_len]; exact h2);rw [flipL_at (by rw [flipL_len]; exact h2)] at h3
  cases hb : belB p i with
  | false => simp
  | true =>
   rw [hb, if_pos rfl] at h3;have h4 : r[p] = 0 := by grind
   simp [List.getD_eq_getElem?_getD, List.getElem?_eq_getElem h2, h4]
theorem conjC_eq (ts : List (List Rat)) (i : Nat) : conjC (ts.drop (i + 1)) i = conjB ts i := by
 unfold conjC conjB
 congr 1
 funext r
 cases hc : chaB r i with
 | false => rw [decide_eq_true ((cha_flip r i).1 hc)]; rfl
 | true =>
  rw [decide_eq_false]
  ·rfl
  ·intro h
   rw [(cha_flip r i).2 h] at hc
   cases hc
theorem conjB_rad {ts : List (List Rat)} {i : Nat} (h : conjB ts i = true) : ∀ k, i < k -> k < ts.length -> flipL i (radQ ts k) = radQ ts k := by
 intro k hk hl;unfold conjB at h;rw [List.all_eq_true] at h;rw [radQ_at hl];refine of_decide_eq_true (h _ ?_)
 have : ts[k] = (ts.drop (i + 1))[k - (i + 1)]'(by rw [List.length_drop]; omega) := by
  rw [List.getElem_drop]
  congr 1
  omega
 rw [this];exact List.getElem_mem _
end
section
open Go.RowKit
attribute [local go_sem ↓] Go.wp_at_zero Go.wp_at_succ
section
variable {w w' : World} {A A1 A2 A3 : Option Addr} {n c n1 c1 n2 c2 n3 c3 L : Nat} {qs : List Rat} {ts : List (List RawR)} {r1 r2 r3 : List RawR}
theorem NR.sm {q : Rat} {s t : Bool} {B : Option Addr} {m d : Nat} (h : NR w q 4 s A n c t B m d) : SmQ q := ⟨h.num.le_pow, by have := h.den.le_pow; rw [Int.natAbs_natCast] at this; exact this⟩
theorem Pol.sm (h : Pol w A n c qs 4) : ∀ q ∈ qs, SmQ q := by
 intro q hq;obtain ⟨i, hi, rfl⟩ := List.getElem_of_mem hq;obtain ⟨b, off, _, h2⟩ := h.at_ (fun e => by subst e; exact absurd hi (Nat.not_lt_zero _));obtain ⟨_, _, _, _, _, _, _, _, _, _, _, _, hx⟩ := h2.at_ i hi;exact hx.sm
theorem PolT.sm {T : List (List Rat)} (h : PolT w A n c T 4) : ∀ r ∈ T, ∀ q ∈ r, SmQ q := by
 intro r hr;obtain ⟨i, hi, rfl⟩ := List.getElem_of_mem hr;obtain ⟨b, off, _, h2⟩ := h.at_ (fun e => by subst e; exact absurd hi (Nat.not_lt_zero _));obtain ⟨_, _, _, _, hp⟩ := h2 i hi;exact hp.sm
theorem formed_bundle (h : RawT w A n c ts) (h1 : RawP w A1 n1 c1 r1) (hf : formedB ts [r1] = true) (l4 : ∀ l ∈ ts, l.all (fun r => r.le L) = true) (k4 : r1.all (fun r => r.le L) = true) :
  PolT w A n c (ts.map fun l => l.map RawR.q) L /\ TowL (ts.map fun l => l.map RawR.q) /\ Pol w A1 n1 c1 (r1.map RawR.q) L /\ n1 = 2 ^ n := by
 unfold formedB at hf;rw [Bool.and_eq_true] at hf;obtain ⟨f1, f2⟩ := hf;have f3 := towerB_at ts 0 f1;simp only [List.all_cons, List.all_nil, Bool.and_true] at f2;obtain ⟨g1, g2⟩ := validL_parts f2;refine ⟨h.polT (fun l hl => ?_) l4, fun i hi => ?_, h1.polV g2 k4, ?_⟩
 ·obtain ⟨i, hi, rfl⟩ := List.getElem_of_mem hl
  exact (validL_parts (f3 i hi)).2
 ·rw [List.length_map] at hi
  rw [List.getElem_map, List.length_map, (validL_parts (f3 i hi)).1, Nat.zero_add]
 ·rw [<- h1.len, g1, h.len]
theorem right_bundle (h : RawT w A n c ts) (h1 : RawP w A1 n1 c1 r1) (h2 : RawP w A2 n2 c2 r2) (h3 : RawP w A3 n3 c3 r3) (hr : rightB ts r1 r2 r3 = true) :
  ∃ T qa qb qc, PolT w A n c T 4 /\ TowL T /\ n <= 4 /\ (Pol w A1 n1 c1 qa 4 /\ n1 = 2 ^ n) /\ (Pol w A2 n2 c2 qb 4 /\ n2 = 2 ^ n) /\ (Pol w A3 n3 c3 qc 4 /\ n3 = 2 ^ n) := by
 unfold rightB at hr;simp only [Bool.and_eq_true] at hr;obtain ⟨f0, f1, f2, f3⟩ := hr;obtain ⟨p0, p1, p2, p3, p4⟩ := fewB4_parts f0;have l4 : ∀ l ∈ ts, l.all (fun r => r.le 4) = true := fun l hl => (p1 l hl).2
 obtain ⟨a1, a2, a3, a4⟩ := formed_bundle h h1 f1 l4 p2.2;obtain ⟨_, _, b3, b4⟩ := formed_bundle h h2 f2 l4 p3.2;obtain ⟨_, _, c3, c4⟩ := formed_bundle h h3 f3 l4 p4.2;exact ⟨_, _, _, _, a1, a2, by rw [<- h.len]; exact p0, ⟨a3, a4⟩, ⟨b3, b4⟩, ⟨c3, c4⟩⟩
end
def eYq : Nat -> Nat
 | 0 => 0
 | h + 1 => eYq h + eYq h + 2 ^ h + 2
theorem eF_le : ∀ h, eF h <= eYq h
 | 0 => Nat.le_refl _
 | h + 1 => by
  have := eF_le h
  show eF h + (2 ^ h + eF h) <= eYq h + eYq h + 2 ^ h + 2
  omega
theorem in_few {qs : List Rat} (h : ∀ q ∈ qs, SmQ q) : 0 < prodD qs /\ prodD qs <= W4 ^ qs.length /\ AllM (prodD qs) (W4 * prodD qs) qs := by
 obtain ⟨h1, h2⟩ := prodD_le h;refine ⟨h1, h2, fun q hq => ?_⟩;obtain ⟨k, hk⟩ := prodD_dvd q hq;have h3 : k <= prodD qs := by rw [hk]; exact Nat.le_mul_of_pos_left _ q.den_pos
 refine ⟨q.num * (k : Int), ?_, ?_⟩
 ·have h4 : 0 < k := by
   rcases Nat.eq_zero_or_pos k with h0 | h0
   ·rw [h0, Nat.mul_zero] at hk; omega
   ·exact h0
  have h5 := nat_ne h4;have h6 := nat_ne q.den_pos;have h7 := rat_quo q;rw [Rat.intCast_natCast] at h7;rw [hk, Rat.mkRat_eq_div, Rat.intCast_mul, Rat.natCast_mul, Rat.intCast_natCast]
  conv => lhs; rw [h7]
  grind
 ·rw [Int.natAbs_mul, Int.natAbs_natCast]
  exact Nat.mul_le_mul (h q hq).1 h3
theorem pr_bd {Mr Xr : Nat -> Nat} {n : Nat} (hM : ∀ i, i < n -> Mr i <= W4 ^ 2 ^ i) (hX : ∀ i, i < n -> Xr i <= W4 ^ (1 + 2 ^ i)) : ∀ h, h <= n -> prQ Mr h <= W4 ^ eF h /\ prY Mr Xr h <= W4 ^ eYq h
 | 0, _ => ⟨Nat.le_refl _, Nat.le_refl _⟩
 | h + 1, hh => by
  obtain ⟨i1, i2⟩ := pr_bd hM hX h (by omega);have hm := hM h (by omega);have hx := hX h (by omega);have hq : Mr h * prQ Mr h <= W4 ^ (2 ^ h + eF h) := by rw [Nat.pow_add]; exact Nat.mul_le_mul hm i1
  constructor
  ·show prQ Mr h * (Mr h * prQ Mr h) <= W4 ^ (eF h + (2 ^ h + eF h))
   rw [Nat.pow_add];exact Nat.mul_le_mul i1 hq
  ·have e := eF_le h
   have a1 : prY Mr Xr h * (Mr h * prQ Mr h) <= W4 ^ (eYq h + eYq h + 2 ^ h + 1) := by
    refine Nat.le_trans (Nat.mul_le_mul i2 hq) ?_;rw [<- Nat.pow_add];exact Nat.pow_le_pow_right W4_pos (by omega)
   have a2 : prY Mr Xr h * (Xr h * prY Mr Xr h) <= W4 ^ (eYq h + eYq h + 2 ^ h + 1) := by
    refine Nat.le_trans (Nat.mul_le_mul i2 (Nat.mul_le_mul hx i2)) ?_;rw [<- Nat.pow_add, <- Nat.pow_add];exact Nat.pow_le_pow_right W4_pos (by omega)
   show prY Mr Xr h * (Mr h * prQ Mr h) + prY Mr Xr h * (Mr h * prQ Mr h) + prY Mr Xr h * (Xr h * prY Mr Xr h) <= W4 ^ (eYq h + eYq h + 2 ^ h + 1 + 1)
   rw [Nat.pow_succ W4 (eYq h + eYq h + 2 ^ h + 1)];generalize W4 ^ (eYq h + eYq h + 2 ^ h + 1) = p at a1 a2;have h4 : p * 3 <= p * W4 := Nat.mul_le_mul_left _ (by decide +kernel);omega
section
variable {w : World} {Tt A B : Option Addr} {n ct m c d : Nat} {T : List (List Rat)} {qs ps : List Rat}
theorem q_MulF (hp : PolT w Tt n ct T 4) (ht : TowL T) (hn : n <= 4) (ha : Pol w A m c qs 4) (hb : Pol w B m d ps 4) (hm : m = 2 ^ n) :
  Calls Tryz.prog 44 #[.slice Tt n ct, .slice A m c, .slice B m d] w (fun e w' => ∃ A' c', e = .returned (.slice A' m c') /\ Pol w' A' m c' (mulL (radQ T) n qs ps) 400 /\ Ext w w') := by
 obtain ⟨S, hS⟩ : ∃ S : Nat, S = 400 := ⟨_, rfl⟩;have hl := hp.len;have hsm := hp.sm
 have hR : ∀ i q, q ∈ radQ T i -> SmQ q := by
  intro i q hq
  rcases Nat.lt_or_ge i T.length with hi | hi
  ·rw [radQ_at hi] at hq
   exact hsm _ (List.getElem_mem hi) q hq
  ·unfold radQ at hq
   rw [List.getD_eq_getElem?_getD, List.getElem?_eq_none hi] at hq;rw [List.eq_of_mem_replicate hq];exact ⟨Nat.zero_le _, W4_pos⟩
 have hM : ∀ i, 0 < prodD (radQ T i) := fun i => (in_few (hR i)).1
 have hMb : ∀ i, prodD (radQ T i) <= W4 ^ 2 ^ i := fun i => by have := (in_few (hR i)).2.1; rwa [radQ_len ht] at this
 obtain ⟨b1, b2⟩ := pr_bd (Mr := fun i => prodD (radQ T i)) (Xr := fun i => W4 * prodD (radQ T i)) (n := n) (fun i _ => hMb i) (fun i _ => by rw [Nat.pow_add, Nat.pow_one]; exact Nat.mul_le_mul_left _ (hMb i)) n (Nat.le_refl _);obtain ⟨p1, p2, p3⟩ := in_few ha.sm;obtain ⟨q1, q2, q3⟩ := in_few hb.sm;have hm16 : 2 ^ n <= 16 := (m_few n (by omega)).2.2.2.2.2.2;rw [ha.len, hm] at p2;rw [hb.len, hm] at q2
 have hfe : ∀ n, n < 5 -> eF n <= 32 /\ eYq n <= 62 := by
  intro n hn
  match n, hn with
  | 0, _ => decide
  | 1, _ => decide
  | 2, _ => decide
  | 3, _ => decide
  | 4, _ => decide
 have hf := hfe n (by omega)
 have z1 : prodD qs * prodD ps * prQ (fun i => prodD (radQ T i)) n < 4294967296 ^ S := by
  refine Nat.lt_of_lt_of_le (W4_words (e := 2 ^ n + 2 ^ n + eF n) ?_) (Nat.pow_le_pow_right (by omega) (by omega));rw [Nat.pow_add, Nat.pow_add];exact Nat.mul_le_mul (Nat.mul_le_mul p2 q2) b1
 have z2 : W4 * prodD qs * (W4 * prodD ps) * prY (fun i => prodD (radQ T i)) (fun i => W4 * prodD (radQ T i)) n < 4294967296 ^ S := by
  refine Nat.lt_of_lt_of_le (W4_words (e := (1 + 2 ^ n) + (1 + 2 ^ n) + eYq n) ?_) (Nat.pow_le_pow_right (by omega) (by omega));rw [Nat.pow_add, Nat.pow_add, Nat.pow_add, Nat.pow_one];exact Nat.mul_le_mul (Nat.mul_le_mul (Nat.mul_le_mul_left _ p2) (Nat.mul_le_mul_left _ q2)) b2
 refine (q_MulT (S := S) (R := radQ T) (radQ_len ht) hM (fun i => (in_few (hR i)).2.2) (by omega) (by omega) n ht hl (fun i _ => rfl) hp (ha.le (by omega)) (hb.le (by omega)) hm ⟨p1, p3⟩ ⟨q1, q3⟩ ⟨by omega, z1, z2⟩).mono ?_;rintro e w' ⟨A', c', rfl, h1, h2⟩;exact ⟨A', c', rfl, hS ▸ h1.pl, h2⟩
end
theorem p_ConjT_bad {w : World} {T A : Option Addr} {nt ct n c : Nat} {z : Int} (hz : z < 0 \/ (nt : Int) <= z) : Calls Tryz.prog 27 #[.slice T nt ct, .slice A n c, .int .i64 z] w (fun e w' => e = .returned (.tuple #[.slice Option.none 0 0, .bool false]) /\ Ext w w') := by
 by_cases h0 : z < 0
 ·have g0 : decide (z < 0) = true := decide_eq_true h0
  clear hz
  go_enter Tryz.func27, Tryz.ntmps27
  go_wp2_with fail
  exact bodyPost_ret (v := .tuple #[.slice Option.none 0 0, .bool false]) (by simp [results, Tryz.results27, go_sem]) rfl ⟨rfl, Ext.refl _⟩
 ·have g0 : decide (z < 0) = false := decide_eq_false h0
  have h1 : (nt : Int) <= z := by omega
  have g1 : decide ((nt : Int) <= z) = true := decide_eq_true h1;clear hz
  go_enter Tryz.func27, Tryz.ntmps27
  go_wp2_with fail
  exact bodyPost_ret (v := .tuple #[.slice Option.none 0 0, .bool false]) (by simp [results, Tryz.results27, go_sem]) rfl ⟨rfl, Ext.refl _⟩
theorem q_ConjT_bad {w : World} {T A : Option Addr} {nt ct n c : Nat} {z : Int} (hz : z < 0 \/ (nt : Int) <= z) : Calls Tryz.prog 42 #[.slice T nt ct, .slice A n c, .int .i64 z] w (fun e w' => e = .returned (.tuple #[.slice Option.none 0 0, .bool false]) /\ Ext w w') := by
 by_cases h0 : z < 0
 ·have g0 : decide (z < 0) = true := decide_eq_true h0
  clear hz
  go_enter Tryz.func42, Tryz.ntmps42
  go_wp2_with fail
  exact bodyPost_ret (v := .tuple #[.slice Option.none 0 0, .bool false]) (by simp [results, Tryz.results42, go_sem]) rfl ⟨rfl, Ext.refl _⟩
 ·have g0 : decide (z < 0) = false := decide_eq_false h0
  have h1 : (nt : Int) <= z := by omega
  have g1 : decide ((nt : Int) <= z) = true := decide_eq_true h1;clear hz
  go_enter Tryz.func42, Tryz.ntmps42
  go_wp2_with fail
  exact bodyPost_ret (v := .tuple #[.slice Option.none 0 0, .bool false]) (by simp [results, Tryz.results42, go_sem]) rfl ⟨rfl, Ext.refl _⟩
end
section
open Go.ChangeShapes Go.WideShapes Go.ChangeAt Go.RowKit Go.Joins
section
variable {H : Type} {enc : TypeId × Value -> H} {W : World} {base : Nat} {held : Bool}
set_option maxRecDepth 100000 in
theorem open_case {r : Reach} {b0 : Nat} {v : Value} {d : DataW H} {p : List MemPlace} (hv : Value.okWide Tryz.prog W r b0 25 v) (h : DataW.Trod enc Tryz.prog W base (fun _ => true) held 25 v d p) :
  ∃ A n c A1 n1 c1 A2 n2 c2 A3 n3 c3 ts r1 r2 r3, v = .agg #[.slice A n c, .slice A1 n1 c1, .slice A2 n2 c2, .slice A3 n3 c3] /\ RawT W A n c ts /\ RawP W A1 n1 c1 r1 /\ RawP W A2 n2 c2 r2 /\ RawP W A3 n3 c3 r3 := by
 obtain ⟨v0, v1, v2, v3, y0, y1, y2, y3, n, rfl, _, _, h0, h1, h2, h3⟩ := open_agg4 Tryz.underlying25 (by kernel_rfl) (by kernel_rfl) hv h;obtain ⟨A, n, c, ts, rfl, g⟩ := open_ratss h0;obtain ⟨A1, n1, c1, r1, rfl, g1⟩ := open_ratsc h1;obtain ⟨A2, n2, c2, r2, rfl, g2⟩ := open_ratsc h2;obtain ⟨A3, n3, c3, r3, rfl, g3⟩ := open_ratsc h3;exact ⟨A, n, c, A1, n1, c1, A2, n2, c2, A3, n3, c3, ts, r1, r2, r3, rfl, g, g1, g2, g3⟩
end
end
section
open Go.RowKit
attribute [local go_sem ↓] Go.wp_at_zero Go.wp_at_succ
section
variable {w : World} {Tt B : Option Addr} {n ct m d i0 L : Nat} {T : List (List Rat)} {qs : List Rat}
theorem cj (hp : PolT w Tt n ct T 4) (ht : TowL T) (hq : Pol w B m d qs L) (hm : m = 2 ^ n) (hL : L <= 900) (hn : n <= 4) (hi : i0 < n) (hc : conjB T i0 = true) (hT : Tab w) :
  Calls Tryz.prog 27 #[.slice Tt n ct, .slice B m d, .int .i64 (i0 : Int)] w (fun e w' => ∃ A' c', e = .returned (.tuple #[.slice A' m c', .bool true]) /\ Pol w' A' m c' (flipL i0 qs) L /\ Ext w w') := by
 have h := p_ConjT hp ht hq hm hL (by omega) (by omega) hi hT;rw [conjC_eq, hc] at h;refine h.mono ?_;rintro e w' ⟨A', n', c', rfl, h1, h2⟩;obtain rfl : m = n' := by rw [<- h1.len, flipL_len, hq.len]
 exact ⟨A', c', rfl, h1, h2⟩
theorem cj_no (hp : PolT w Tt n ct T 4) (ht : TowL T) (hq : Pol w B m d qs 4) (hm : m = 2 ^ n) (hn : n <= 4) (hi : i0 < n) (hc : conjB T i0 = false) (hT : Tab w) :
  Calls Tryz.prog 27 #[.slice Tt n ct, .slice B m d, .int .i64 (i0 : Int)] w (fun e w' => e = .returned (.tuple #[.slice Option.none 0 0, .bool false]) /\ Ext w w') := by
 have h := p_ConjT hp ht hq hm (by omega) (by omega) (by omega) hi hT;rw [conjC_eq, hc] at h;exact h
theorem T_len (ht : TowL T) (hl : T.length <= 4) : ∀ r ∈ T, r.length <= 100 := by
 intro r hr;obtain ⟨i, hi, rfl⟩ := List.getElem_of_mem hr;rw [ht i hi];exact Nat.le_trans (m_few i (by omega)).2.2.2.2.2.2 (by omega)
theorem qj (hp : PolT w Tt n ct T 4) (ht : TowL T) (hq : Pol w B m d qs L) (hL : L <= 1000) (hm : m <= 100) (hn : n <= 4) (hi : i0 < n) (hc : conjB T i0 = true) :
  Calls Tryz.prog 42 #[.slice Tt n ct, .slice B m d, .int .i64 (i0 : Int)] w (fun e w' => ∃ A' n' c', e = .returned (.tuple #[.slice A' n' c', .bool true]) /\ Pol w' A' n' c' (flipL i0 qs) L /\ Ext w w') := by
 have h := q_ConjT hp hq (T_len ht (by rw [hp.len]; exact hn)) hL (by omega) hm (by omega) hi;rw [hc] at h;exact h
theorem qj_no (hp : PolT w Tt n ct T 4) (ht : TowL T) (hq : Pol w B m d qs 4) (hm : m <= 100) (hn : n <= 4) (hi : i0 < n) (hc : conjB T i0 = false) :
  Calls Tryz.prog 42 #[.slice Tt n ct, .slice B m d, .int .i64 (i0 : Int)] w (fun e w' => e = .returned (.tuple #[.slice Option.none 0 0, .bool false]) /\ Ext w w') := by
 have h := q_ConjT hp hq (T_len ht (by rw [hp.len]; exact hn)) (by omega) (by omega) hm (by omega) hi;rw [hc] at h;exact h
end
set_option maxRecDepth 100000 in
theorem conj6_any {w : World} {A A1 A2 A3 : Option Addr} {n c n1 c1 n2 c2 n3 c3 : Nat} {ts : List (List RawR)} {r1 r2 r3 : List RawR} (hA : Awake6) (hT : Tab w) (h : RawT w A n c ts) (h1 : RawP w A1 n1 c1 r1) (h2 : RawP w A2 n2 c2 r2) (h3 : RawP w A3 n3 c3 r3) {z : Int} (hz0 : -9223372036854775808 <= z) (hz1 : z < 9223372036854775808) :
  Calls Tryz.prog 9 #[.agg #[.slice A n c, .slice A1 n1 c1, .slice A2 n2 c2, .slice A3 n3 c3], .int .i64 z] w (fun e w' => e = .returned (.bool true) /\ Ext w w') := by
 go_enter Tryz.func9, Tryz.ntmps9
 go_upto_region 1 with (fail)
 obtain ⟨W, hW, EW, bx, hz⟩ := box1 w 25 #[.slice A n c, .slice A1 n1 c1, .slice A2 n2 c2, .slice A3 n3 c3];rw [<- hW];clear hW hz;have HA := Lib.hid hA;clear hA
 go_wp2_with fail
 refine (HA.out _ (hT.ext EW)).mono ?_;rintro e V1 ⟨rfl, hx⟩;replace bx := bx.ext hx;replace EW := EW.trans hx;clear hx;have x0 := bx.cell 0 (.slice A n c) rfl;have x1 := bx.cell 1 (.slice A1 n1 c1) rfl;have x2 := bx.cell 2 (.slice A2 n2 c2) rfl;have x3 := bx.cell 3 (.slice A3 n3 c3) rfl
 go_wp2_with fail
 refine (p_rightL (h.ext EW) (h1.ext EW) (h2.ext EW) (h3.ext EW)).mono ?_;rintro e V2 ⟨rfl, hx⟩;replace bx := bx.ext hx;replace EW := EW.trans hx;clear hx x0 x1 x2 x3
 cases hrb : rightB ts r1 r2 r3 with
 | false =>
  go_wp2_with fail
  refine (HA.out _ (hT.ext EW)).mono ?_;rintro e V3 ⟨rfl, hx⟩
  go_wp2_with fail
  go_ret
  exact ⟨rfl, EW.trans hx⟩
 | true =>
  obtain ⟨T, qa, qb, qc, hp, ht, hn4, ⟨ha, ha2⟩, ⟨hb, hb2⟩, ⟨hc, hc2⟩⟩ := right_bundle h h1 h2 h3 hrb;have HN1 := Lib.hid ha2;have HN2 := Lib.hid hb2;have HN3 := Lib.hid hc2;have hm1 : n1 <= 16 := by rw [ha2]; exact (m_few n (by omega)).2.2.2.2.2.2
  have hm2 : n2 <= 16 := by rw [hb2]; exact (m_few n (by omega)).2.2.2.2.2.2
  have hm3 : n3 <= 16 := by rw [hc2]; exact (m_few n (by omega)).2.2.2.2.2.2
  replace hp := hp.ext EW;replace ha := ha.ext EW;replace hb := hb.ext EW;replace hc := hc.ext EW;clear h h1 h2 h3 hrb ha2 hb2 hc2;clear hc HN3 hm3;obtain rfl : n2 = n1 := by rw [HN2.out, HN1.out]
  clear HN2 hm2
  by_cases hz : z < 0 \/ (n : Int) <= z
  ·have x0 := bx.cell 0 (.slice A n c) rfl
   have x1 := bx.cell 1 (.slice A1 n2 c1) rfl;have x2 := bx.cell 2 (.slice A2 n2 c2) rfl
   go_wp2_with fail
   refine (p_ConjT_bad hz).mono ?_;rintro e U1 ⟨rfl, hx⟩;clear x0 x1 x2;replace bx := bx.ext hx;replace EW := EW.trans hx;clear hx;have x0 := bx.cell 0 (.slice A n c) rfl;have x1 := bx.cell 1 (.slice A1 n2 c1) rfl;have x2 := bx.cell 2 (.slice A2 n2 c2) rfl
   go_wp2_with fail
   refine (q_ConjT_bad hz).mono ?_;rintro e U2 ⟨rfl, hx⟩;clear x0 x1 x2;replace bx := bx.ext hx;replace EW := EW.trans hx;clear hx;have x0 := bx.cell 0 (.slice A n c) rfl;have x1 := bx.cell 1 (.slice A1 n2 c1) rfl;have x2 := bx.cell 2 (.slice A2 n2 c2) rfl
   go_wp2_with fail
   refine (q_SameT (Pol.nilT _ _ _ 2 (Nat.zero_le _)) (Pol.nilT _ _ _ 2 (Nat.zero_le _)) (by omega) (by omega) (by omega)).mono ?_;rintro e U8 ⟨rfl, hx8⟩
   go_wp2_with fail
   refine (q_SameT (Pol.nilT _ _ _ 2 (Nat.zero_le _)) (Pol.nilT _ _ _ 2 (Nat.zero_le _)) (by omega) (by omega) (by omega)).mono ?_;rintro e U9 ⟨rfl, hx9⟩
   go_wp2_with fail
   go_ret
   exact ⟨rfl, EW.trans (hx8.trans hx9)⟩
  ·obtain ⟨i0, rfl⟩ : ∃ i0 : Nat, z = (i0 : Int) := ⟨z.toNat, by omega⟩
   have hi0 : i0 < n := by omega
   clear hz;have HQA := Lib.hid ha.len;have HQB := Lib.hid hb.len;have HTL := Lib.hid hp.len
   cases hc : conjB T i0 with
   | false =>
    have HC := Lib.hid hc;clear hc;have x0 := bx.cell 0 (.slice A n c) rfl;have x1 := bx.cell 1 (.slice A1 n2 c1) rfl;have x2 := bx.cell 2 (.slice A2 n2 c2) rfl
    go_wp2_with fail
    refine (cj_no hp ht ha HN1.out hn4 hi0 HC.out (hT.ext EW)).mono ?_;rintro e U1 ⟨rfl, hx⟩;clear x0 x1 x2;replace bx := bx.ext hx;replace hp := hp.ext hx;replace ha := ha.ext hx;replace EW := EW.trans hx;clear hx;have x0 := bx.cell 0 (.slice A n c) rfl;have x1 := bx.cell 1 (.slice A1 n2 c1) rfl;have x2 := bx.cell 2 (.slice A2 n2 c2) rfl
    go_wp2_with fail
    refine (qj_no hp ht ha (by omega) hn4 hi0 HC.out).mono ?_;rintro e U2 ⟨rfl, hx⟩;clear x0 x1 x2;replace bx := bx.ext hx;replace hp := hp.ext hx;replace ha := ha.ext hx;replace EW := EW.trans hx;clear hx;have x0 := bx.cell 0 (.slice A n c) rfl;have x1 := bx.cell 1 (.slice A1 n2 c1) rfl;have x2 := bx.cell 2 (.slice A2 n2 c2) rfl
    go_wp2_with fail
    refine (q_SameT (Pol.nilT _ _ _ 2 (Nat.zero_le _)) (Pol.nilT _ _ _ 2 (Nat.zero_le _)) (by omega) (by omega) (by omega)).mono ?_;rintro e U8 ⟨rfl, hx8⟩
    go_wp2_with fail
    refine (q_SameT (Pol.nilT _ _ _ 2 (Nat.zero_le _)) (Pol.nilT _ _ _ 2 (Nat.zero_le _)) (by omega) (by omega) (by omega)).mono ?_;rintro e U9 ⟨rfl, hx9⟩
    go_wp2_with fail
    go_ret
    exact ⟨rfl, EW.trans (hx8.trans hx9)⟩
   | true =>
    have HC := Lib.hid hc;have HFA := Lib.hid (show flipL i0 (List.zipWith (fun x y : Rat => x + y) qa qb) = List.zipWith (fun x y : Rat => x + y) (flipL i0 qa) (flipL i0 qb) from flip_add (by rw [HQA.out, HQB.out]));have HFM := Lib.hid (flip_mul (radQ_len ht) (i := i0) n (a := qa) (b := qb) (by rw [HQA.out, HN1.out]) (by rw [HQB.out, HN1.out]) (fun k h1 h2 => conjB_rad hc k h1 (by rw [HTL.out]; exact h2)));have HFF := Lib.hid (flip_flip i0 qa);clear hc;have x0 := bx.cell 0 (.slice A n c) rfl;have x1 := bx.cell 1 (.slice A1 n2 c1) rfl;have x2 := bx.cell 2 (.slice A2 n2 c2) rfl
    go_wp2_with fail
    refine (cj hp ht ha HN1.out (by omega) hn4 hi0 HC.out (hT.ext EW)).mono ?_;rintro e U1 ⟨A5, c5, rfl, p5, hx⟩;clear x0 x1 x2;replace bx := bx.ext hx;replace hp := hp.ext hx;replace ha := ha.ext hx;replace hb := hb.ext hx;replace EW := EW.trans hx;clear hx;have x0 := bx.cell 0 (.slice A n c) rfl;have x1 := bx.cell 1 (.slice A1 n2 c1) rfl;have x2 := bx.cell 2 (.slice A2 n2 c2) rfl
    go_wp2_with fail
    refine (qj hp ht ha (by omega) (by omega) hn4 hi0 HC.out).mono ?_;rintro e U2 ⟨A6, n6, c6, rfl, p6, hx⟩;clear x0 x1 x2;replace bx := bx.ext hx;replace hp := hp.ext hx;replace ha := ha.ext hx;replace hb := hb.ext hx;replace p5 := p5.ext hx;replace EW := EW.trans hx;clear hx;have x0 := bx.cell 0 (.slice A n c) rfl;have x1 := bx.cell 1 (.slice A1 n2 c1) rfl;have x2 := bx.cell 2 (.slice A2 n2 c2) rfl
    go_wp2_with fail
    refine (q_SameT p5 p6 (by omega) (by omega) (by omega)).mono ?_;rintro e U3 ⟨rfl, hx⟩;clear x0 x1 x2;replace bx := bx.ext hx;replace hp := hp.ext hx;replace ha := ha.ext hx;replace hb := hb.ext hx;replace p5 := p5.ext hx;replace p6 := p6.ext hx;replace EW := EW.trans hx;clear hx;have x0 := bx.cell 0 (.slice A n c) rfl;have x1 := bx.cell 1 (.slice A1 n2 c1) rfl;have x2 := bx.cell 2 (.slice A2 n2 c2) rfl
    go_wp2_with fail
    refine (cj hp ht hb HN1.out (by omega) hn4 hi0 HC.out (hT.ext EW)).mono ?_;rintro e U4 ⟨A7, c7, rfl, p7, hx⟩;clear x0 x1 x2;replace bx := bx.ext hx;replace hp := hp.ext hx;replace ha := ha.ext hx;replace hb := hb.ext hx;replace p5 := p5.ext hx;replace p6 := p6.ext hx;replace EW := EW.trans hx;clear hx;have x0 := bx.cell 0 (.slice A n c) rfl;have x1 := bx.cell 1 (.slice A1 n2 c1) rfl;have x2 := bx.cell 2 (.slice A2 n2 c2) rfl;clear x0 x1 x2
    go_upto_region 8 with (fail)
    have ES0 := Ext.refl U4;refine wp_region_held_drew (S := Ext U4) (by kernel_rfl) ES0.drew (fun ES => ?_);clear ES0;refine Late.s0 ES (fun hAl hQ => ?_);refine Late.u 0 74 hQ ?_
    try simp only [zP]
    refine Late.u 2 76 hQ ?_
    try simp only [zP]
    refine Late.u 4 78 hQ ?_
    try simp only [zP]
    refine Late.u 6 80 hQ ?_
    try simp only [zP]
    refine Late.u 9 83 hQ ?_
    try simp only [zP]
    refine Late.t 1 75 ?v_5 hQ ?y_5 ?_
    case y_5 => intro w' hSw;have k00 := (bx.ext hSw).c4;go_simp;try rfl
    try simp only [zP]
    refine Late.t 3 77 ?v_6 hQ ?y_6 ?_
    case y_6 => intro w' hSw;have k00 := (bx.ext hSw).c4;go_simp;try rfl
    try simp only [zP]
    refine Late.t 5 79 ?v_7 hQ ?y_7 ?_
    case y_7 => intro w' hSw;have k00 := (bx.ext hSw).c4;go_simp;try rfl
    try simp only [zP]
    refine Late.t 7 81 ?v_8 hQ ?y_8 ?_
    case y_8 => intro w' hSw;have k00 := (bx.ext hSw).c4;go_simp;try rfl
    try simp only [zP]
    refine Late.cl (i := 8) rfl hAl hQ (fun w8 e8 E8 K hK => ?_);go_simp
    (go_at_call 43; refine (q_AddT (ha.ext E8) (hb.ext E8) (by omega) (by omega) (by omega)).mono ?_; rintro e wk8 ⟨A8, n8, c8, rfl, ps, hx8⟩; obtain rfl : n2 = n8 := by rw [<- ps.len, List.length_zipWith, HQA.out, HQB.out, Nat.min_self])
    refine hK.out _ _ hx8 ?_;clear hK K
    try simp only [zP]
    refine Late.cl (i := 10) rfl hAl hQ (fun w10 e10 E10 K hK => ?_);go_simp
    (replace ps := ps.ext e10; go_at_call 27; refine (cj (hp.ext E10) ht ps HN1.out (by omega) hn4 hi0 HC.out (hT.ext (EW.trans E10))).mono ?_; rintro e wk10 ⟨A9, c9, rfl, pcs, hx10⟩; replace ps := ps.ext hx10)
    refine hK.out _ _ hx10 ?_;clear hK K
    try simp only [zP]
    refine Late.u 11 73 hQ ?_
    try simp only [zP]
    refine Late.u 12 85 hQ ?_
    try simp only [zP]
    refine Late.u 13 86 hQ ?_
    try simp only [zP]
    refine Late.u 14 11 hQ ?_
    try simp only [zP]
    refine Late.u 15 12 hQ ?_
    try simp only [zP]
    refine Late.d0 (fun U5 ez Ez => ?_);clear hAl hQ ES;replace pcs := pcs.ext ez;replace bx := bx.ext Ez;replace hp := hp.ext Ez;replace ha := ha.ext Ez;replace hb := hb.ext Ez;replace p5 := p5.ext Ez;replace p6 := p6.ext Ez;replace p7 := p7.ext Ez;replace EW := EW.trans Ez;clear ez Ez;have x0 := bx.cell 0 (.slice A n c) rfl;have x1 := bx.cell 1 (.slice A1 n2 c1) rfl;have x2 := bx.cell 2 (.slice A2 n2 c2) rfl;clear x0 x1 x2
    go_upto_region 9 with (fail)
    have ES0 := Ext.refl U5;refine wp_region_held_drew (S := Ext U5) (by kernel_rfl) ES0.drew (fun ES => ?_);clear ES0;refine Late.s0 ES (fun hAl hQ => ?_);refine Late.u 0 88 hQ ?_
    try simp only [zP]
    refine Late.u 2 90 hQ ?_
    try simp only [zP]
    refine Late.u 4 92 hQ ?_
    try simp only [zP]
    refine Late.u 6 94 hQ ?_
    try simp only [zP]
    refine Late.u 9 97 hQ ?_
    try simp only [zP]
    refine Late.t 1 89 ?v_j hQ ?y_j ?_
    case y_j => intro w' hSw;have k00 := (bx.ext hSw).c4;go_simp;try rfl
    try simp only [zP]
    refine Late.t 3 91 ?v_k hQ ?y_k ?_
    case y_k => intro w' hSw;have k00 := (bx.ext hSw).c4;go_simp;try rfl
    try simp only [zP]
    refine Late.t 5 93 ?v_l hQ ?y_l ?_
    case y_l => intro w' hSw;have k00 := (bx.ext hSw).c4;go_simp;try rfl
    try simp only [zP]
    refine Late.t 7 95 ?v_m hQ ?y_m ?_
    case y_m => intro w' hSw;have k00 := (bx.ext hSw).c4;go_simp;try rfl
    try simp only [zP]
    refine Late.cl (i := 8) rfl hAl hQ (fun w8 e8 E8 K hK => ?_);go_simp
    (go_at_call 44; refine (q_MulF (hp.ext E8) ht hn4 (ha.ext E8) (hb.ext E8) HN1.out).mono ?_; rintro e wk8 ⟨A10, c10, rfl, pm, hx8⟩)
    refine hK.out _ _ hx8 ?_;clear hK K
    try simp only [zP]
    refine Late.cl (i := 10) rfl hAl hQ (fun w10 e10 E10 K hK => ?_);go_simp
    (replace pm := pm.ext e10; go_at_call 27; refine (cj (hp.ext E10) ht pm HN1.out (by omega) hn4 hi0 HC.out (hT.ext (EW.trans E10))).mono ?_; rintro e wk10 ⟨A11, c11, rfl, pcm, hx10⟩; replace pm := pm.ext hx10)
    refine hK.out _ _ hx10 ?_;clear hK K
    try simp only [zP]
    refine Late.u 11 87 hQ ?_
    try simp only [zP]
    refine Late.u 12 99 hQ ?_
    try simp only [zP]
    refine Late.u 13 100 hQ ?_
    try simp only [zP]
    refine Late.u 14 13 hQ ?_
    try simp only [zP]
    refine Late.u 15 14 hQ ?_
    try simp only [zP]
    refine Late.d0 (fun U6 ez Ez => ?_);clear hAl hQ ES;replace pcm := pcm.ext ez;replace bx := bx.ext Ez;replace hp := hp.ext Ez;replace ha := ha.ext Ez;replace hb := hb.ext Ez;replace p5 := p5.ext Ez;replace p6 := p6.ext Ez;replace p7 := p7.ext Ez;replace pcs := pcs.ext Ez;replace EW := EW.trans Ez;clear ez Ez;have x0 := bx.cell 0 (.slice A n c) rfl;have x1 := bx.cell 1 (.slice A1 n2 c1) rfl;have x2 := bx.cell 2 (.slice A2 n2 c2) rfl
    go_wp2_with fail
    refine (cj hp ht p5 HN1.out (by omega) hn4 hi0 HC.out (hT.ext EW)).mono ?_;rintro e U7 ⟨A12, c12, rfl, p12, hx⟩;clear x0 x1 x2;replace bx := bx.ext hx;replace hp := hp.ext hx;replace ha := ha.ext hx;replace hb := hb.ext hx;replace p5 := p5.ext hx;replace p6 := p6.ext hx;replace p7 := p7.ext hx;replace pcs := pcs.ext hx;replace pcm := pcm.ext hx;replace EW := EW.trans hx;clear hx;have x0 := bx.cell 0 (.slice A n c) rfl;have x1 := bx.cell 1 (.slice A1 n2 c1) rfl;have x2 := bx.cell 2 (.slice A2 n2 c2) rfl
    go_wp2_with fail
    refine (q_AddT p5 p7 (by omega) (by omega) (by omega)).mono ?_;rintro e U8 ⟨A13, n13, c13, rfl, p13, hx⟩;clear x0 x1 x2;replace bx := bx.ext hx;replace hp := hp.ext hx;replace ha := ha.ext hx;replace hb := hb.ext hx;replace p5 := p5.ext hx;replace p6 := p6.ext hx;replace p7 := p7.ext hx;replace pcs := pcs.ext hx;replace pcm := pcm.ext hx;replace p12 := p12.ext hx;replace EW := EW.trans hx;clear hx;have x0 := bx.cell 0 (.slice A n c) rfl;have x1 := bx.cell 1 (.slice A1 n2 c1) rfl;have x2 := bx.cell 2 (.slice A2 n2 c2) rfl
    go_wp2_with fail
    refine (q_SameT (HFA.out ▸ pcs) p13 (by omega) (by omega) (by omega)).mono ?_;rintro e U9 ⟨rfl, hx⟩;clear x0 x1 x2;replace bx := bx.ext hx;replace hp := hp.ext hx;replace ha := ha.ext hx;replace hb := hb.ext hx;replace p5 := p5.ext hx;replace p6 := p6.ext hx;replace p7 := p7.ext hx;replace pcs := pcs.ext hx;replace pcm := pcm.ext hx;replace p12 := p12.ext hx;replace p13 := p13.ext hx;replace EW := EW.trans hx;clear hx;have x0 := bx.cell 0 (.slice A n c) rfl;have x1 := bx.cell 1 (.slice A1 n2 c1) rfl;have x2 := bx.cell 2 (.slice A2 n2 c2) rfl
    go_wp2_with fail
    refine (q_MulF hp ht hn4 p5 p7 HN1.out).mono ?_;rintro e U10 ⟨A14, c14, rfl, p14, hx⟩;clear x0 x1 x2;replace bx := bx.ext hx;replace hp := hp.ext hx;replace ha := ha.ext hx;replace hb := hb.ext hx;replace p5 := p5.ext hx;replace p6 := p6.ext hx;replace p7 := p7.ext hx;replace pcs := pcs.ext hx;replace pcm := pcm.ext hx;replace p12 := p12.ext hx;replace p13 := p13.ext hx;replace EW := EW.trans hx;clear hx;have x0 := bx.cell 0 (.slice A n c) rfl;have x1 := bx.cell 1 (.slice A1 n2 c1) rfl;have x2 := bx.cell 2 (.slice A2 n2 c2) rfl
    go_wp2_with fail
    refine (q_SameT (HFM.out ▸ pcm) p14 (by omega) (by omega) (by omega)).mono ?_;rintro e U11 ⟨rfl, hx⟩;clear x0 x1 x2;replace bx := bx.ext hx;replace hp := hp.ext hx;replace ha := ha.ext hx;replace hb := hb.ext hx;replace p5 := p5.ext hx;replace p6 := p6.ext hx;replace p7 := p7.ext hx;replace pcs := pcs.ext hx;replace pcm := pcm.ext hx;replace p12 := p12.ext hx;replace p13 := p13.ext hx;replace p14 := p14.ext hx;replace EW := EW.trans hx;clear hx;have x0 := bx.cell 0 (.slice A n c) rfl;have x1 := bx.cell 1 (.slice A1 n2 c1) rfl;have x2 := bx.cell 2 (.slice A2 n2 c2) rfl
    go_wp2_with fail
    refine (q_SameT (HFF.out ▸ p12) ha (by omega) (by omega) (by omega)).mono ?_;rintro e U12 ⟨rfl, hx⟩;clear x0 x1 x2;replace bx := bx.ext hx;replace hp := hp.ext hx;replace ha := ha.ext hx;replace hb := hb.ext hx;replace p5 := p5.ext hx;replace p6 := p6.ext hx;replace p7 := p7.ext hx;replace pcs := pcs.ext hx;replace pcm := pcm.ext hx;replace p12 := p12.ext hx;replace p13 := p13.ext hx;replace p14 := p14.ext hx;replace EW := EW.trans hx;clear hx
    go_wp2_with fail
    go_ret
    exact ⟨rfl, EW⟩
end
section
open Go.ChangeShapes Go.WideShapes Go.ChangeAt Go.RowKit Go.Joins
set_option maxRecDepth 100000
theorem conj6_lifted (os : Os) (started : os.Started) (H : Type) (enc : TypeId × Value -> H) :
  ReturnsInHanded {} Tryz.checked os 9 .any (fun w args => (Rows.towerConjugateSpec.pre enc Tryz.prog Tryz.f9 [] false w args /\ laidMetH Tryz.prog laidI w) /\ sizedMet enc Tryz.prog Tryz.f9 (OpenSpec.ofChange Rows.towerConjugateSpec) false w args)
   (Rows.towerConjugateSpec.post enc Tryz.prog Tryz.f9 false true false false) := by
 refine returnsInHanded_of_change_and (C := Tryz.checked) (X := fun w _ => laidMetH Tryz.prog laidI w) (fun _ _ _ hh h => h.of_heap hh) Tryz.own started (by kernel_rfl) Tryz.func9
  (ChangeSpec.witness_shaped (enc := enc) (C := Tryz.checked) (os := os) (X := fun w _ => laidMetH Tryz.prog laidI w) false (World.doorLaid Tryz.prog 400 os) #[Value.agg #[Value.slice none 0 0, Value.slice none 0 0, Value.slice none 0 0, Value.slice none 0 0], .int .i64 0] 8 rfl (World.shaped_of_RefB (by kernel_rfl) (by kernel_rfl)) (by kernel_rfl) (by kernel_rfl) (by kernel_rfl) (doorI_met os _)) ?_
 intro W base args ds gs before hval0 hW _ _ hL _;have hval : ∀ (j : Nat) t v, Tryz.f9.params[j]? = some t -> args[j]? = some v -> Value.okWide Tryz.prog W .any base t v := hval0;have hW' := hW;have hlt : ∀ p ∈ before, p.block < W.heap.size := fun p hp => hW.lt p hp
 obtain ⟨p, q, hA0, hV, rfl, _, _⟩ := hW;have hA : DataW.TrodAll enc Tryz.prog W 0 (fun _ => true) true Tryz.f9.params.toList args.toList ds p := hA0;rw [Tryz.params9] at hA hval;obtain ⟨v0, v1, d0, d1, p0, p1, rfl, rfl, rfl, h0, h1⟩ := trodAll_two hA;obtain ⟨rfl, rfl⟩ := trodVars_none hV;simp only [List.append_nil] at hW' hlt;obtain ⟨A, n, c, A1, n1, c1, A2, n2, c2, A3, n3, c3, ts, r1, r2, r3, rfl, hr0, hr1, hr2, hr3⟩ := open_case (hval 0 25 v0 rfl rfl) h0;obtain ⟨z, rfl, _, _, hwf⟩ := open_int Tryz.underlying3 (hval 1 3 v1 rfl rfl) h1;simp [Lit.wf, IntKind.min, IntKind.max, IntKind.bits, IntKind.signed] at hwf;clear hA0 hval0;have hT := tab_of_laidH hL;refine (conj6_any awake6 hT hr0 hr1 hr2 hr3 (by omega) (by omega)).mono fun e W' ⟨he, hext⟩ => ?_
 subst he;have hb : Below W.heap.size W W' := hext;have g0 := Below.trod Tryz.laidOut (by kernel_rfl) (of_decide_eq_true (by kernel_rfl)) h0 hb (fun p hp => hlt p (List.mem_append.2 (.inl hp)));have g1 := Below.trod Tryz.laidOut (by kernel_rfl) (of_decide_eq_true (by kernel_rfl)) h1 hb (fun p hp => hlt p (List.mem_append.2 (.inr hp)));exact ⟨_, rfl, _, _, _, [], (p0 ++ p1), [], hW', trodAll_mk1 (shut_bool Tryz.underlying4 true), trodAll_mk2 g0 g1, rfl, Below.frame hb _, fun h => by cases h⟩
theorem conj6_row_holds : Rows.TowerConjugateSaid :=
 OpenClaim.holds_of_wide 9 Tryz.f9 rfl rfl rfl rfl rfl rfl rfl ⟨rfl, rfl, rfl, rfl, rfl⟩ rfl rfl rfl rfl rfl (by kernel_rfl) Tryz.func9 (by kernel_rfl)
  (of_decide_eq_true (by kernel_rfl)) (by unfold Func.isWrapper; first | (rw [if_neg (of_decide_eq_false (by kernel_rfl))]; exact ⟨rfl, rfl⟩) | (rw [if_pos (by decide +kernel)]; kernel_rfl))
  (fun os started H enc _ => conj6_lifted os started H enc)
theorem conj6_holds : Rows.TowerConjugateCardSaid :=
 Claim7.holds_tied_plain_at .later [] [.data] true Rows.towerConjugateCard.stood.harness false
  conj6_row_holds (fun _ h => by cases h) (by kernel_rfl) (fun _ h => by cases h) towerConjugate_row_tie rfl ⟨rfl, rfl⟩ (by kernel_rfl) rfl
  (fun f fn hf hfn => by
   obtain rfl : f = 9 := Option.some.inj ((show Tryz.prog.funcNamed "setsquare/setsquarelaw06.TowerConjugate" = some 9 by kernel_rfl).symm.trans hf) |>.symm;obtain rfl : fn = Tryz.f9 := (Option.some.inj (Tryz.func9.symm.trans hfn)).symm
   exact ⟨by kernel_rfl, fun j t ht => by
    rw [Tryz.params9] at ht;have hm : t ∈ [25, 3] := by simpa using Array.mem_of_getElem? ht
    have hall : ([25, 3].all fun u => !Tryz.prog.wantsStandIn u) = true := by kernel_rfl
    exact (show Tryz.prog.wantsStandIn t = false by simpa using List.all_eq_true.1 hall t hm)⟩)
  (by kernel_rfl)
end
end Go.Proofs.YtgagcochepnelaaGreatDoor
