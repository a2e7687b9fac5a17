/- For every tower with three elements the law TowerInverse returns true: the product of an element and its inverse is 1, and where an element has no inverse, it is 0 or its norm has none, and the examples of the chapter hold. Condition: the table math/bits.deBruijn64tab holds what its initialiser lays (tied by the given card). -/
import Derived.Test.YtgagcochepnelaaGreatDoorP0
import Derived.Test.YtgagcochepnelaaGreatDoorP1
import Derived.Test.YtgagcochepnelaaGreatDoorP2
import Derived.Test.YtgagcochepnelaaGreatDoorP3
import Derived.Test.YtgagcochepnelaaGreatDoorP4
import Derived.Test.YtgagcochepnelaaGreatDoorP5
import Derived.Test.YtgagcochepnelaaGreatDoorP6
import Derived.Test.YtgagcochepnelaaGreatDoorP7
import Derived.Test.YtgagcochepnelaaGreatDoorP8
import Derived.Test.YtgagcochepnelaaGreatDoorP9
import Derived.Test.YtgagcochepnelaaGreatDoorP10
import Derived.Test.YtgagcochepnelaaGreatDoorP11
import Derived.Test.YtgagcochepnelaaGreatDoorP12
import Derived.Test.YtgagcochepnelaaGreatDoorP13
import Derived.Laws.BytesArg
import Derived.Maps.AppendAt
import Derived.Test.YtgagcochepnelaaGreatDoorCards
import Derived.Test.YtgagcochepnelaaGreatDoorTie
import Derived.LaidMore
import Derived.OpenShut
import Derived.Lib.SmallJoins
import Derived.LaidLaws
import Derived.Deep.Slices
import Derived.Lib.LaidTab
import Derived.SevenTiedAt
import Derived.Stop.Joined
set_option linter.unusedSimpArgs false
set_option linter.unusedVariables false
set_option maxHeartbeats 64000000
namespace Go.Proofs.YtgagcochepnelaaGreatDoor
section
open Go.RowKit
attribute [local go_sem ↓] Go.wp_at_zero Go.wp_at_succ
theorem NI.le_pow {w : World} {z : Int} {L : Nat} {s : Bool} {A : Option Addr} {n c : Nat} (h : NI w z L s A n c) : z.natAbs <= 4294967296 ^ L := by
 obtain ⟨xs, h1, h2, h3, h4, h5, h6⟩ := h.out;rw [<- h5.abs];exact Nat.le_trans (Nat.le_of_lt (val_lt h5.w32)) (Nat.pow_le_pow_right (by omega) (by omega))
section
variable {w w' : World} {z y : Int} {L M : Nat} {s t : Bool} {A B : Option Addr} {n c m d : Nat} {zs ys : List Int}
theorem gcdL_zero : ∀ (zs : List Int) (g : Nat), gcdL g zs = 0 -> g = 0 /\ ∀ z ∈ zs, z = 0
 | [], g, h => ⟨h, fun z hz => by cases hz⟩
 | y :: zs, g, h => by
  have ih := gcdL_zero zs (Nat.gcd g y.natAbs) h;obtain ⟨h1, h2⟩ := Nat.gcd_eq_zero_iff.1 ih.1;refine ⟨h1, fun z hz => ?_⟩
  rcases List.mem_cons.1 hz with rfl | hz
  ·exact Int.natAbs_eq_zero.1 h2
  ·exact ih.2 z hz
end
section
variable {w : World} {L n : Nat}
def lenS : Value -> Nat
 | .slice _ n _ => n
 | _ => 0
set_option maxRecDepth 100000 in
theorem q_FromRatO {q : Rat} {T : Option Addr} {ct : Nat} {sx tx : Bool} {Ax Bx : Option Addr} {nx cx mx dx : Nat} (hk : NR w q L sx Ax nx cx tx Bx mx dx) (hL : 2 <= L) (hn : n <= 6) : Calls Tryz.prog 20 #[.slice T n ct, .agg #[.bool sx, .slice Ax nx cx, .bool tx, .slice Bx mx dx]] w (fun e w' => ∃ A n' c, e = .returned (.slice A n' c) /\ Row4 w' w.heap.size (.slice A n' c) (q :: List.replicate (2 ^ n - 1) 0) L /\ Ext w w') := by
 obtain ⟨P, hP⟩ : ∃ P, P = 2 ^ n := ⟨_, rfl⟩;have hP1 : P <= 64 := by rw [hP]; exact Nat.le_trans (Nat.pow_le_pow_right (by omega) hn) (by decide)
 have hP0 : 0 < P := by rw [hP]; exact Nat.pow_pos (by omega)
 have hW2 : wrap64 ((2 : Int) ^ n) = (P : Int) := by
  rw [hP];have e1 : ((2 : Int) ^ n) = ((2 ^ n : Nat) : Int) := by push_cast; rfl
  rw [e1];unfold wrap64;omega
 have HP := Lib.hid hP;clear hP
 go_enter Tryz.func20, Tryz.ntmps20
 go_upto_region 1 with (fail)
 obtain ⟨W, hW, extW, bx, hz⟩ := box1 w 30 #[.bool sx, .slice Ax nx cx, .bool tx, .slice Bx mx dx];rw [<- hW];clear hW;have x0 := bx.cell 0 (.bool sx) rfl;have x1 := bx.cell 1 (.slice Ax nx cx) rfl;have x2 := bx.cell 2 (.bool tx) rfl;have x3 := bx.cell 3 (.slice Bx mx dx) rfl
 have hR0 : Row4 (W.alloc (.cells #[.bool sx, .slice Ax nx cx, .bool tx, .slice Bx mx dx] 30)) w.heap.size (.slice (some ⟨W.heap.size, 0, Option.none⟩) 1 1) [q] L := by
  have ha := (Ext.refl W).alloc (.cells #[.bool sx, .slice Ax nx cx, .bool tx, .slice Bx mx dx] 30);exact RRow.row4 ⟨_, Box.new W _ _, .cons ((hk.ext extW).ext ha) .nil⟩ extW.size rfl (by omega)
 have hE0 := extW.alloc (.cells #[.bool sx, .slice Ax nx cx, .bool tx, .slice Bx mx dx] 30)
 go_wp2_with fail
 go_loopw [5] (fun v wr => ∃ k : Nat, k < P /\ Ext w wr /\ lenS v = k + 1 /\ Row4 wr w.heap.size v (q :: List.replicate k 0) L) (fun v _ => P - lenS v)
 case atStart => exact ⟨0, hP0, hE0, rfl, hR0⟩
 case round =>
  clear hR0 hE0 bx x0 x1 x2 x3;obtain ⟨k, hk1, extr, hlv, hrow⟩ := hrel;obtain ⟨g5, cap5, rfl, _⟩ := hrow.shape (by simp);rw [show (q :: List.replicate k (0 : Rat)).length = k + 1 by simp] at hrow ⊢;have HLV := Lib.hid hlv;clear hlv
  by_cases hlt : k + 1 < P
  ·have hkI : ((k + 1 : Nat) : Int) < (P : Int) := by omega
   have hkJ : (k : Int) + 1 < (P : Int) := by omega
   go_wp2_with fail
   refine (q_FromIntR 0 (by omega) (by omega)).mono ?_;rintro e W5 ⟨s7, A7, n7, c7, t7, B7, m7, d7, rfl, h7, ext5⟩;have ha5 := (ext5).alloc (.cells #[.bool s7, .slice A7 n7 c7, .bool t7, .slice B7 m7 d7] 30);replace extr := extr.trans ha5;replace hrow := hrow.ext ha5;replace h7 := (h7.ext ((Ext.refl W5).alloc (.cells #[.bool s7, .slice A7 n7 c7, .bool t7, .slice B7 m7 d7] 30))).le hL;clear ext5 ha5;have hlen : (q :: List.replicate k (0 : Rat)).length <= 1000 := by simp; omega
   go_wp2_with (at_builtin; refine wpList_append_rat rfl _ _ rfl rfl rfl hrow h7 (Box.new W5 _ _) hlen extr.size ?_; intro v6 W6 hrow6 hgr hob)
   have hl6 : (q :: List.replicate k (0 : Rat)) ++ [((0 : Int) : Rat)] = q :: List.replicate (k + 1) 0 := by
    rw [List.replicate_succ']
    rfl
   rw [hl6] at hrow6;obtain ⟨g6, cap6, e6, _⟩ := hrow6.shape (by simp);have hl7 : lenS v6 = k + 1 + 1 := by rw [e6]; simp [lenS]
   go_roundw
   case rel => exact ⟨k + 1, hlt, Below.grown extr hgr extr.size (fun k hk => (hrow.block k hk).1), hl7, hrow6⟩
   case measure => simp [lenS] at *; omega
  ·have hkI : (P : Int) <= ((k + 1 : Nat) : Int) := by omega
   have hkJ : (P : Int) <= (k : Int) + 1 := by omega
   have hkP : k = P - 1 := by omega
   go_wp2_with fail
   go_ret
   rw [<- HP.out, <- hkP];exact ⟨_, _, _, rfl, hrow, extr⟩
theorem q_FromRatT {q : Rat} {T : Option Addr} {ct : Nat} {sx tx : Bool} {Ax Bx : Option Addr} {nx cx mx dx : Nat} (hk : NR w q L sx Ax nx cx tx Bx mx dx) (hL : 2 <= L) (hn : n <= 6) : Calls Tryz.prog 20 #[.slice T n ct, .agg #[.bool sx, .slice Ax nx cx, .bool tx, .slice Bx mx dx]] w (RetPol (q :: List.replicate (2 ^ n - 1) 0) L w) := by
 refine (q_FromRatO hk hL hn).mono ?_;rintro e w' ⟨A, n', c, rfl, h1, h2⟩;obtain ⟨A9, n9, c9, e9, hp⟩ := h1.polT
 injection e9 with e1 e2 e3
 subst e1 e2 e3;exact ⟨_, _, _, rfl, hp, h2⟩
end
end
section
open Go.RowKit
section
variable {K : Type} [Add K] [Mul K] [Neg K] [OfNat K 0] [OfNat K 1] [RingK K]
theorem El.psi_neg (D : Nat -> K) : (h : Nat) -> (a : El K h) -> El.psi D h (El.neg h a) = El.neg h (El.psi D h a)
 | 0, _ => rfl
 | h + 1, a => by
  have e : ∀ (j : Nat) (k : K) (x : El K j), El.smul j k (El.neg j x) = El.neg j (El.smul j k x) := by
   intro j
   induction j with
   | zero => intro k x; exact RingK.mul_neg (K := K) k x
   | succ j ih => intro k x; exact El.ext (ih k x.1) (ih k x.2)
  simp only [El.psi, El.neg, El.psi_neg D h, e];exact El.ext rfl rfl
end
theorem castL_neg (a : List Int) : castL (negL a) = negL (castL a) := by
 unfold castL negL;rw [List.map_map, List.map_map];exact List.map_congr_left fun x _ => Rat.intCast_neg x
theorem denK_pos (ts : List (List Rat)) (k : Nat) : 0 < denK ts k := by
 have := denP_pos (partL (radQ ts k) (ringR (ts.take k)).2);unfold denK;omega
def InM (M X : Nat) (q : Rat) : Prop := ∃ z : Int, q = mkRat z M /\ z.natAbs <= X
theorem InM.zero {M X : Nat} : InM M X 0 := ⟨0, (Rat.zero_mkRat M).symm, Nat.zero_le _⟩
theorem nat_ne {M : Nat} (h : 0 < M) : ((M : Nat) : Rat) ≠ 0 := by
 have := int_ne (z := ((M : Nat) : Int)) (by omega)
 rwa [Rat.intCast_natCast] at this
theorem InM.mul {M X M' X' : Nat} {p q : Rat} (h : InM M X p) (k : InM M' X' q) : InM (M * M') (X * X') (p * q) := by
 obtain ⟨z, rfl, h2⟩ := h;obtain ⟨y, rfl, k2⟩ := k;refine ⟨z * y, Rat.mkRat_mul_mkRat _ _ _ _, ?_⟩;rw [Int.natAbs_mul];exact Nat.mul_le_mul h2 k2
theorem InM.add {M X X' : Nat} {p q : Rat} (hM : 0 < M) (h : InM M X p) (k : InM M X' q) : InM M (X + X') (p + q) := by
 obtain ⟨z, rfl, h2⟩ := h;obtain ⟨y, rfl, k2⟩ := k;refine ⟨z + y, ?_, Nat.le_trans (Int.natAbs_add_le _ _) (Nat.add_le_add h2 k2)⟩;have := nat_ne hM;rw [Rat.mkRat_eq_div, Rat.mkRat_eq_div, Rat.mkRat_eq_div, Rat.intCast_add]
 grind
theorem InM.scale {M X : Nat} {q : Rat} (hM : 0 < M) (k : Nat) (hk : 0 < k) (h : InM M X q) : InM (M * k) (X * k) q := by
 obtain ⟨z, rfl, h2⟩ := h;refine ⟨z * (k : Int), ?_, by rw [Int.natAbs_mul, Int.natAbs_natCast]; exact Nat.mul_le_mul_right _ h2⟩;have h3 := nat_ne hM;have h4 := nat_ne hk;rw [Rat.mkRat_eq_div, Rat.mkRat_eq_div, Rat.intCast_mul, Rat.natCast_mul, Rat.intCast_natCast]
 grind
theorem InM.le {M X X' : Nat} {q : Rat} (h : InM M X q) (hx : X <= X') : InM M X' q := by
 obtain ⟨z, h1, h2⟩ := h;exact ⟨z, h1, Nat.le_trans h2 hx⟩
theorem InM.size {M X : Nat} {q : Rat} (hM : 0 < M) (h : InM M X q) : q.num.natAbs <= X /\ q.den <= M := by
 obtain ⟨z, rfl, h2⟩ := h;obtain ⟨h3, h4⟩ := mkRat_sizes z M (by omega);exact ⟨Nat.le_trans h4 h2, Nat.le_of_dvd hM h3⟩
def AllM (M X : Nat) (qs : List Rat) : Prop := ∀ q ∈ qs, InM M X q
theorem AllM.take {M X : Nat} {qs : List Rat} (h : AllM M X qs) (n : Nat) : AllM M X (qs.take n) := fun q hq => h q (List.mem_of_mem_take hq)
theorem AllM.drop {M X : Nat} {qs : List Rat} (h : AllM M X qs) (n : Nat) : AllM M X (qs.drop n) := fun q hq => h q (List.mem_of_mem_drop hq)
theorem AllM.append {M X : Nat} {qs ps : List Rat} (h : AllM M X qs) (k : AllM M X ps) : AllM M X (qs ++ ps) := fun q hq => (List.mem_append.1 hq).elim (h q) (k q)
theorem AllM.headD {M X : Nat} {qs : List Rat} (h : AllM M X qs) : InM M X (qs.headD 0) := by
 cases qs with
 | nil => exact InM.zero
 | cons q qs => exact h q List.mem_cons_self
theorem AllM.add {M X X' : Nat} (hM : 0 < M) : ∀ {a b : List Rat}, AllM M X a -> AllM M X' b -> AllM M (X + X') (addL a b)
 | [], _, _, _ => fun q hq => by cases hq
 | _ :: _, [], _, _ => fun q hq => by cases hq
 | p :: a, q :: b, ha, hb => by
  intro x hx
  rcases List.mem_cons.1 hx with rfl | hx
  ·exact InM.add hM (ha p List.mem_cons_self) (hb q List.mem_cons_self)
  ·exact AllM.add hM (a := a) (b := b) (fun y hy => ha y (List.mem_cons_of_mem _ hy)) (fun y hy => hb y (List.mem_cons_of_mem _ hy)) x hx
def prQ (Mr : Nat -> Nat) : Nat -> Nat
 | 0 => 1
 | h + 1 => prQ Mr h * (Mr h * prQ Mr h)
def prY (Mr Xr : Nat -> Nat) : Nat -> Nat
 | 0 => 1
 | h + 1 => prY Mr Xr h * (Mr h * prQ Mr h) + prY Mr Xr h * (Mr h * prQ Mr h) + prY Mr Xr h * (Xr h * prY Mr Xr h)
theorem prQ_pos {Mr : Nat -> Nat} (hM : ∀ i, 0 < Mr i) : ∀ h, 0 < prQ Mr h
 | 0 => Nat.one_pos
 | h + 1 => Nat.mul_pos (prQ_pos hM h) (Nat.mul_pos (hM h) (prQ_pos hM h))
theorem mulL_in {R : Nat -> List Rat} {Mr Xr : Nat -> Nat} (hM : ∀ i, 0 < Mr i) (hR : ∀ i, AllM (Mr i) (Xr i) (R i)) : ∀ (h : Nat) {a b : List Rat} {Ma Xa Mb Xb : Nat}, 0 < Ma -> 0 < Mb -> AllM Ma Xa a -> AllM Mb Xb b -> AllM (Ma * Mb * prQ Mr h) (Xa * Xb * prY Mr Xr h) (mulL R h a b)
 | 0, a, b, Ma, Xa, Mb, Xb, _, _, ha, hb => by
  intro q hq;rw [mulL, List.mem_singleton] at hq;rw [hq, prQ, prY, Nat.mul_one, Nat.mul_one];exact ha.headD.mul hb.headD
 | h + 1, a, b, Ma, Xa, Mb, Xb, pa, pb, ha, hb => by
  have hq := prQ_pos hM h;have hk : 0 < Mr h * prQ Mr h := Nat.mul_pos (hM h) hq;have pm : 0 < Ma * Mb * prQ Mr h := Nat.mul_pos (Nat.mul_pos pa pb) hq;have i0 := mulL_in hM hR h pa pb (ha.take (2 ^ h)) (hb.take (2 ^ h));have i1 := mulL_in hM hR h pa pb (ha.drop (2 ^ h)) (hb.drop (2 ^ h));have i2 := mulL_in hM hR h pm (hM h) i1 (hR h);have i3 := mulL_in hM hR h pa pb (ha.take (2 ^ h)) (hb.drop (2 ^ h));have i4 := mulL_in hM hR h pa pb (ha.drop (2 ^ h)) (hb.take (2 ^ h));have eM : Ma * Mb * prQ Mr (h + 1) = Ma * Mb * prQ Mr h * (Mr h * prQ Mr h) := by rw [prQ]; simp only [Nat.mul_assoc]
  have e2 : Ma * Mb * prQ Mr h * Mr h * prQ Mr h = Ma * Mb * prQ Mr h * (Mr h * prQ Mr h) := by rw [Nat.mul_assoc]
  have eX : Xa * Xb * prY Mr Xr (h + 1) = Xa * Xb * prY Mr Xr h * (Mr h * prQ Mr h) + Xa * Xb * prY Mr Xr h * (Mr h * prQ Mr h) + Xa * Xb * prY Mr Xr h * Xr h * prY Mr Xr h := by
   rw [prY];simp only [Nat.mul_add, Nat.mul_assoc]
  rw [e2] at i2;rw [eM, eX, mulL];have sc : ∀ {c : List Rat} {X : Nat}, AllM (Ma * Mb * prQ Mr h) X c -> AllM (Ma * Mb * prQ Mr h * (Mr h * prQ Mr h)) (X * (Mr h * prQ Mr h)) c := fun hc q hq => (hc q hq).scale pm _ hk
  have p2 := Nat.mul_pos pm hk;refine AllM.append (fun q hq => ((AllM.add p2 (sc i0) i2) q hq).le ?_) (fun q hq => ((AllM.add p2 (sc i3) (sc i4)) q hq).le ?_)
  ·generalize Xa * Xb * prY Mr Xr h * (Mr h * prQ Mr h) = u
   generalize Xa * Xb * prY Mr Xr h * Xr h * prY Mr Xr h = v;omega
  ·generalize Xa * Xb * prY Mr Xr h * (Mr h * prQ Mr h) = u
   generalize Xa * Xb * prY Mr Xr h * Xr h * prY Mr Xr h = v;omega
theorem addL_zero_right {n : Nat} {c : List Rat} (hc : c.length = n) : addL c (List.replicate n 0) = c := by
 refine List.ext_getElem (by rw [addL_len hc List.length_replicate, hc]) fun i h1 h2 => ?_
 simp [addL, Rat.add_zero]
theorem addL_zero_left {n : Nat} {c : List Rat} (hc : c.length = n) : addL (List.replicate n 0) c = c := by
 refine List.ext_getElem (by rw [addL_len List.length_replicate hc, hc]) fun i h1 h2 => ?_
 simp [addL, Rat.zero_add]
section
variable {w : World} {base L : Nat} {v : Value} {qs ps : List Rat} {A : Option Addr} {n c : Nat}
theorem Row4.mono {base2 : Nat} (h : Row4 w base v qs L) (hb : base2 <= base) : Row4 w base2 v qs L := by
 obtain ⟨cs, h1, h2⟩ := h.own;refine ⟨⟨cs, ⟨h1.1, ?_⟩, h2⟩, h.nwb⟩
 rcases h1.2 with q | ⟨g, cap, cur, q1, q2, q3⟩
 ·exact Or.inl q
 ·exact Or.inr ⟨g, cap, cur, q1, Nat.le_trans hb q2, q3⟩
end
end
section
open Go.RowKit
attribute [local go_sem ↓] Go.wp_at_zero Go.wp_at_succ
section
variable {w w' : World} {q x : Rat} {L M : Nat} {s t : Bool} {A B : Option Addr} {n c m d : Nat} {sx tx : Bool} {Ax Bx : Option Addr} {nx cx mx dx : Nat} {qs ps : List Rat} {rs : List RawR} {ts us : List (List RawR)}
def rightB (ts : List (List RawR)) (a b c : List RawR) : Bool := fewB4 ts [a, b, c] && (formedB ts [a] && (formedB ts [b] && formedB ts [c]))
theorem fewB4_parts {ts : List (List RawR)} {a b c : List RawR} (h : fewB4 ts [a, b, c] = true) : ts.length <= 4 /\ (∀ l ∈ ts, l.length <= 16 /\ l.all (fun r => r.le 4) = true) /\ (a.length <= 16 /\ a.all (fun r => r.le 4) = true) /\ (b.length <= 16 /\ b.all (fun r => r.le 4) = true) /\ (c.length <= 16 /\ c.all (fun r => r.le 4) = true) := by
 unfold fewB4 fewL at h;rw [Bool.and_eq_true, decide_eq_true_eq, List.all_eq_true] at h
 have hp : ∀ l ∈ ts ++ [a, b, c], l.length <= 16 /\ l.all (fun r => r.le 4) = true := fun l hl => by
  have := h.2 l hl;rw [Bool.and_eq_true, decide_eq_true_eq] at this;exact this
 exact ⟨h.1, fun l hl => hp l (List.mem_append_left _ hl), hp a (by simp), hp b (by simp), hp c (by simp)⟩
theorem RawT.three {g : Nat} {T : TypeId} {D : Option Addr} {l e : Nat} {r1 r2 r3 : List RawR} (hb : Box w g T #[.slice A n c, .slice B m d, .slice D l e]) (h : RawP w A n c r1) (h' : RawP w B m d r2) (h'' : RawP w D l e r3) : RawT w (some ⟨g, 0, .none⟩) 3 3 [r1, r2, r3] :=
 ⟨rfl, Nat.le_refl _, by unfold maxLen; omega, fun _ => ⟨g, 0, rfl, fun i hi => by
  have hi' : i = 0 \/ i = 1 \/ i = 2 := by simp at hi; omega
  rcases hi' with rfl | rfl | rfl
  ·exact ⟨A, n, c, hb.cell 0 _ rfl, h⟩
  ·exact ⟨B, m, d, hb.cell 1 _ rfl, h'⟩
  ·exact ⟨D, l, e, hb.cell 2 _ rfl, h''⟩⟩⟩
theorem p_rightL {A1 A2 A3 : Option Addr} {n1 c1 n2 c2 n3 c3 : Nat} {r1 r2 r3 : List RawR} (h : RawT w A n c ts) (h1 : RawP w A1 n1 c1 r1) (h2 : RawP w A2 n2 c2 r2) (h3 : RawP w A3 n3 c3 r3) :
  Calls Tryz.prog 32 #[.agg #[.slice A n c, .slice A1 n1 c1, .slice A2 n2 c2, .slice A3 n3 c3]] w fun e w' => e = .returned (.bool (rightB ts r1 r2 r3)) /\ Ext w w' := by
 have hsz := World.size_alloc w (.cells #[.slice A n c, .slice A1 n1 c1, .slice A2 n2 c2, .slice A3 n3 c3] 25)
 go_enter Tryz.func32, Tryz.ntmps32
 go_upto_region 1 with (fail)
 obtain ⟨W, hW, EW, bx, hz⟩ := box1 w 25 #[.slice A n c, .slice A1 n1 c1, .slice A2 n2 c2, .slice A3 n3 c3];rw [<- hW];clear hW hz hsz;have hnb := Box.new W 23 #[.slice A1 n1 c1, .slice A2 n2 c2, .slice A3 n3 c3];have e1 := (Ext.refl W).alloc (.cells #[.slice A1 n1 c1, .slice A2 n2 c2, .slice A3 n3 c3] 23);have x0 := bx.cell 0 (.slice A n c) rfl;have x1 := bx.cell 1 (.slice A1 n1 c1) rfl;have x2 := bx.cell 2 (.slice A2 n2 c2) rfl;have x3 := bx.cell 3 (.slice A3 n3 c3) rfl
 go_wp2_with fail
 refine (q_FewT (h.ext (EW.trans e1)) (RawT.three hnb (h1.ext (EW.trans e1)) (h2.ext (EW.trans e1)) (h3.ext (EW.trans e1))) (by omega)).mono ?_;rintro e V ⟨rfl, hx⟩;clear x0 x1 x2 x3 hnb;replace EW := EW.trans (e1.trans hx);replace bx := bx.ext (e1.trans hx);clear e1 hx
 cases hf : fewB4 ts [r1, r2, r3] with
 | false =>
  have HF := Lib.hid hf;clear hf
  go_wp2_with fail
  go_ret
  exact ⟨by unfold rightB; rw [HF.out]; rfl, EW⟩
 | true =>
  obtain ⟨p0, p1, p2, p3, p4⟩ := fewB4_parts hf;have HF := Lib.hid hf;have hn4 : n <= 16 := by rw [<- h.len]; omega
  have hr : ∀ l ∈ ts, l.all (fun r => r.le 1000) = true := fun l hl => le_1000 (p1 l hl).2
  have hrl : ∀ l ∈ ts, l.length <= 100000 := fun l hl => Nat.le_trans (p1 l hl).1 (by omega)
  have q1 := le_1000 p2.2;have q2 := le_1000 p3.2;have q3 := le_1000 p4.2;have m1 : n1 <= 16 := by rw [<- h1.len]; exact p2.1
  have m2 : n2 <= 16 := by rw [<- h2.len]; exact p3.1
  have m3 : n3 <= 16 := by rw [<- h3.len]; exact p4.1
  clear hf p0 p1 p2 p3 p4;have x0 := bx.cell 0 (.slice A n c) rfl;have x1 := bx.cell 1 (.slice A1 n1 c1) rfl
  go_wp2_with fail
  refine (q_FormedT (h.ext EW) (h1.ext EW) hn4 (by omega) hr hrl q1).mono ?_;rintro e V2 ⟨rfl, hx⟩;clear x0 x1;replace EW := EW.trans hx;replace bx := bx.ext hx;clear hx
  cases hf1 : formedB ts [r1] with
  | false =>
   have H1 := Lib.hid hf1;clear hf1
   go_wp2_with fail
   go_ret
   exact ⟨by unfold rightB; rw [HF.out, H1.out]; rfl, EW⟩
  | true =>
   have H1 := Lib.hid hf1;clear hf1;have x0 := bx.cell 0 (.slice A n c) rfl;have x2 := bx.cell 2 (.slice A2 n2 c2) rfl
   go_wp2_with fail
   refine (q_FormedT (h.ext EW) (h2.ext EW) hn4 (by omega) hr hrl q2).mono ?_;rintro e V3 ⟨rfl, hx⟩;clear x0 x2;replace EW := EW.trans hx;replace bx := bx.ext hx;clear hx
   cases hf2 : formedB ts [r2] with
   | false =>
    have H2 := Lib.hid hf2;clear hf2
    go_wp2_with fail
    go_ret
    exact ⟨by unfold rightB; rw [HF.out, H1.out, H2.out]; rfl, EW⟩
   | true =>
    have H2 := Lib.hid hf2;clear hf2;have x0 := bx.cell 0 (.slice A n c) rfl;have x3 := bx.cell 3 (.slice A3 n3 c3) rfl
    go_wp2_with fail
    refine (q_FormedT (h.ext EW) (h3.ext EW) hn4 (by omega) hr hrl q3).mono ?_;rintro e V4 ⟨rfl, hx⟩
    go_wp2_with fail
    go_ret
    exact ⟨by unfold rightB; rw [HF.out, H1.out, H2.out]; rfl, EW.trans hx⟩
end
theorem Row4.tightG {w : World} {base L M : Nat} {v : Value} {qs : List Rat} (h : Row4 w base v qs L) (hb : ∀ q ∈ qs, q.num.natAbs < 4294967296 ^ M /\ q.den < 4294967296 ^ M) : Row4 w base v qs M := by
 obtain ⟨⟨cs, h1, h2⟩, hw⟩ := h;refine ⟨⟨cs, h1, ?_⟩, hw⟩;clear h1 hw
 induction h2 with
 | nil => exact .nil
 | cons hq _ ih => exact .cons (hq.tightR (hb _ List.mem_cons_self).1 (hb _ List.mem_cons_self).2) (ih (fun q hq => hb q (List.mem_cons_of_mem _ hq)))
end
section
open Go.RowKit
section
variable {K : Type} [Add K] [Mul K] [Neg K] [OfNat K 0] [OfNat K 1] [RingK K]
theorem El.neg_smul : (h : Nat) -> (a : El K h) -> El.neg h a = El.smul h (-1) a
 | 0, a => by
  have h : ∀ x : K, -x = (-1 : K) * x := fun x => RingK.neg_one (K := K) x
  exact h a
 | h + 1, a => El.ext (El.neg_smul h a.1) (El.neg_smul h a.2)
theorem El.neg_mul (R : (h : Nat) -> El K h) (h : Nat) (a b : El K h) : El.mul R h (El.neg h a) b = El.neg h (El.mul R h a b) := by
 rw [El.neg_smul, El.neg_smul, El.smul_mul]
end
theorem take_app {α : Type} {a b : List α} {n : Nat} (h : a.length = n) : (a ++ b).take n = a := by subst h; exact List.take_left
theorem drop_app {α : Type} {a b : List α} {n : Nat} (h : a.length = n) : (a ++ b).drop n = b := by subst h; exact List.drop_left
theorem mulL_negA {R : Nat -> List Rat} (hR : ∀ i, (R i).length = 2 ^ i) {h : Nat} {a b : List Rat} (ha : a.length = 2 ^ h) (hb : b.length = 2 ^ h) : mulL R h (negL a) b = negL (mulL R h a b) :=
 toE_inj mulL_len (by rw [negL_len, mulL_len]) (by rw [toE_mul hR (by rw [negL_len, ha]) hb, toE_neg ha, toE_neg mulL_len, toE_mul hR ha hb, El.neg_mul])
theorem mulL_negB {R : Nat -> List Rat} (hR : ∀ i, (R i).length = 2 ^ i) {h : Nat} {a b : List Rat} (ha : a.length = 2 ^ h) (hb : b.length = 2 ^ h) : mulL R h a (negL b) = negL (mulL R h a b) := by
 rw [mulL_comm hR ha (by rw [negL_len, hb]), mulL_negA hR hb ha, mulL_comm hR hb ha]
theorem negL_negL (a : List Rat) : negL (negL a) = a := by
 unfold negL;rw [List.map_map]
 conv => rhs; rw [<- List.map_id a]
 exact List.map_congr_left fun x _ => Rat.neg_neg x
theorem negL_addL : ∀ {a b : List Rat}, negL (addL a b) = addL (negL a) (negL b)
 | [], _ => rfl
 | _ :: _, [] => rfl
 | x :: a, y :: b => by
  have ih := negL_addL (a := a) (b := b);unfold negL addL at *;simp only [List.zipWith_cons_cons, List.map_cons];rw [ih, Rat.neg_add]
theorem flipL_len (i : Nat) (qs : List Rat) : (flipL i qs).length = qs.length := by unfold flipL; rw [List.length_mapIdx]
theorem flipL_at {i p : Nat} {qs : List Rat} (hp : p < (flipL i qs).length) : (flipL i qs)[p] = if belB p i = true then -(qs[p]'(by rw [flipL_len] at hp; exact hp)) else qs[p]'(by rw [flipL_len] at hp; exact hp) := by
 simp [flipL]
theorem bel_low {p i : Nat} (hp : p < 2 ^ i) : belB p i = false := by
 unfold belB;rw [Nat.div_eq_of_lt hp]
 rfl
theorem bel_mid {p i : Nat} (hp : p < 2 ^ i) : belB (2 ^ i + p) i = true := by
 unfold belB;rw [Nat.add_div_left _ (Nat.pow_pos (by omega)), Nat.div_eq_of_lt hp]
 rfl
theorem bel_high {p i h : Nat} (hi : i < h) : belB (2 ^ h + p) i = belB p i := by
 unfold belB;obtain ⟨j, rfl⟩ : ∃ j, h = i + (j + 1) := ⟨h - i - 1, by omega⟩;have e : 2 ^ (i + (j + 1)) = 2 ^ i * (2 * 2 ^ j) := by rw [Nat.pow_add, Nat.pow_succ]; congr 1; exact Nat.mul_comm _ _
 rw [e, Nat.mul_add_div (Nat.pow_pos (by omega))]
 congr 1
 rw [show 2 * 2 ^ j + p / 2 ^ i = p / 2 ^ i + 2 * 2 ^ j by omega, Nat.add_mul_mod_self_left]
theorem flip_low {i : Nat} {a : List Rat} (ha : a.length <= 2 ^ i) : flipL i a = a := by
 refine List.ext_getElem (flipL_len i a) fun p h1 h2 => ?_
 rw [flipL_at h1, bel_low (by omega)]
 rfl
theorem flip_mid {i : Nat} {a b : List Rat} (ha : a.length = 2 ^ i) (hb : b.length <= 2 ^ i) : flipL i (a ++ b) = a ++ negL b := by
 refine List.ext_getElem (by rw [flipL_len, List.length_append, List.length_append, negL_len]) fun p h1 h2 => ?_
 rw [flipL_at h1];have h3 : p < a.length + b.length := by rw [flipL_len, List.length_append] at h1; exact h1
 rcases Nat.lt_or_ge p (2 ^ i) with hp | hp
 ·rw [bel_low hp, List.getElem_append_left (by omega), List.getElem_append_left (by omega)]
  rfl
 ·obtain ⟨q, rfl⟩ : ∃ q, p = 2 ^ i + q := ⟨p - 2 ^ i, by omega⟩
  rw [bel_mid (by omega), if_pos rfl, List.getElem_append_right (by omega), List.getElem_append_right (by omega)];simp [negL]
theorem flip_high {i h : Nat} (hi : i < h) {a b : List Rat} (ha : a.length = 2 ^ h) : flipL i (a ++ b) = flipL i a ++ flipL i b := by
 refine List.ext_getElem (by rw [flipL_len, List.length_append, List.length_append, flipL_len, flipL_len]) fun p h1 h2 => ?_
 rw [flipL_at h1];have h3 : p < a.length + b.length := by rw [flipL_len, List.length_append] at h1; exact h1
 rcases Nat.lt_or_ge p (2 ^ h) with hp | hp
 ·rw [List.getElem_append_left (by omega), List.getElem_append_left (by rw [flipL_len]; omega), flipL_at (by rw [flipL_len]; omega)]
 ·obtain ⟨q, rfl⟩ : ∃ q, p = 2 ^ h + q := ⟨p - 2 ^ h, by omega⟩
  rw [bel_high hi, List.getElem_append_right (by omega), List.getElem_append_right (by rw [flipL_len]; omega), flipL_at (by rw [flipL_len, flipL_len]; omega)];simp only [flipL_len, ha, Nat.add_sub_cancel_left]
theorem flip_add {i : Nat} {a b : List Rat} (h : a.length = b.length) : flipL i (addL a b) = addL (flipL i a) (flipL i b) := by
 have l1 : (addL a b).length = a.length := addL_len rfl h.symm;have l2 : (addL (flipL i a) (flipL i b)).length = a.length := addL_len (flipL_len i a) (by rw [flipL_len, h]);refine List.ext_getElem (by rw [flipL_len, l1, l2]) fun p h1 h2 => ?_
 have hp : p < a.length := by rw [flipL_len, l1] at h1; exact h1
 have e2 : (addL (flipL i a) (flipL i b))[p] = (flipL i a)[p]'(by rw [flipL_len]; exact hp) + (flipL i b)[p]'(by rw [flipL_len, <- h]; exact hp) := by simp [addL]
 have e1 : (addL a b)[p]'(by rw [l1]; exact hp) = a[p] + b[p] := by simp [addL]
 rw [e2, flipL_at h1, flipL_at (by rw [flipL_len]; exact hp), flipL_at (by rw [flipL_len, <- h]; exact hp), e1]
 split
 ·exact Rat.neg_add
 ·rfl
theorem flip_mul {R : Nat -> List Rat} (hR : ∀ i, (R i).length = 2 ^ i) {i : Nat} : ∀ (h : Nat) {a b : List Rat}, a.length = 2 ^ h -> b.length = 2 ^ h -> (∀ k, i < k -> k < h -> flipL i (R k) = R k) -> flipL i (mulL R h a b) = mulL R h (flipL i a) (flipL i b)
 | 0, a, b, ha, hb, _ => by
  have h1 : 1 <= 2 ^ i := Nat.pow_pos (by omega);rw [flip_low (by rw [mulL_len]; exact h1), flip_low (by rw [ha]; exact h1), flip_low (by rw [hb]; exact h1)]
 | h + 1, a, b, ha, hb, hf => by
  have l0 := take_len ha;have l1 := drop_len ha;have k0 := take_len hb;have k1 := drop_len hb
  rcases Nat.lt_trichotomy h i with hi | hi | hi
  ·have h1 : 2 ^ (h + 1) <= 2 ^ i := Nat.pow_le_pow_right (by omega) (by omega)
   rw [flip_low (by rw [mulL_len]; exact h1), flip_low (by rw [ha]; exact h1), flip_low (by rw [hb]; exact h1)]
  ·subst hi
   have ea : flipL h a = a.take (2 ^ h) ++ negL (a.drop (2 ^ h)) := by
    conv => lhs; rw [<- List.take_append_drop (2 ^ h) a]
    exact flip_mid l0 (Nat.le_of_eq l1)
   have eb : flipL h b = b.take (2 ^ h) ++ negL (b.drop (2 ^ h)) := by
    conv => lhs; rw [<- List.take_append_drop (2 ^ h) b]
    exact flip_mid k0 (Nat.le_of_eq k1)
   have ta : (a.take (2 ^ h) ++ negL (a.drop (2 ^ h))).take (2 ^ h) = a.take (2 ^ h) := take_app l0;have da : (a.take (2 ^ h) ++ negL (a.drop (2 ^ h))).drop (2 ^ h) = negL (a.drop (2 ^ h)) := drop_app l0;have tb : (b.take (2 ^ h) ++ negL (b.drop (2 ^ h))).take (2 ^ h) = b.take (2 ^ h) := take_app k0;have db : (b.take (2 ^ h) ++ negL (b.drop (2 ^ h))).drop (2 ^ h) = negL (b.drop (2 ^ h)) := drop_app k0;rw [ea, eb, mulL, mulL, ta, da, tb, db, flip_mid (addL_len mulL_len mulL_len) (Nat.le_of_eq (addL_len mulL_len mulL_len))];rw [mulL_negA hR l1 (by rw [negL_len, k1]), mulL_negB hR l1 k1, negL_negL, mulL_negB hR l0 k1, mulL_negA hR l1 k0, negL_addL]
  ·have ea : flipL i a = flipL i (a.take (2 ^ h)) ++ flipL i (a.drop (2 ^ h)) := by
    conv => lhs; rw [<- List.take_append_drop (2 ^ h) a]
    exact flip_high hi l0
   have eb : flipL i b = flipL i (b.take (2 ^ h)) ++ flipL i (b.drop (2 ^ h)) := by
    conv => lhs; rw [<- List.take_append_drop (2 ^ h) b]
    exact flip_high hi k0
   have fa0 : (flipL i (a.take (2 ^ h))).length = 2 ^ h := by rw [flipL_len, l0]
   have fb0 : (flipL i (b.take (2 ^ h))).length = 2 ^ h := by rw [flipL_len, k0]
   have ta : (flipL i (a.take (2 ^ h)) ++ flipL i (a.drop (2 ^ h))).take (2 ^ h) = flipL i (a.take (2 ^ h)) := take_app fa0;have da : (flipL i (a.take (2 ^ h)) ++ flipL i (a.drop (2 ^ h))).drop (2 ^ h) = flipL i (a.drop (2 ^ h)) := drop_app fa0;have tb : (flipL i (b.take (2 ^ h)) ++ flipL i (b.drop (2 ^ h))).take (2 ^ h) = flipL i (b.take (2 ^ h)) := take_app fb0;have db : (flipL i (b.take (2 ^ h)) ++ flipL i (b.drop (2 ^ h))).drop (2 ^ h) = flipL i (b.drop (2 ^ h)) := drop_app fb0;have hf' : ∀ k, i < k -> k < h -> flipL i (R k) = R k := fun k h1 h2 => hf k h1 (by omega)
   rw [ea, eb, mulL, mulL, ta, da, tb, db, flip_high hi (addL_len mulL_len mulL_len), flip_add (by rw [mulL_len, mulL_len]), flip_add (by rw [mulL_len, mulL_len])];rw [flip_mul hR h l0 k0 hf', flip_mul hR h mulL_len (hR h) hf', flip_mul hR h l1 k1 hf', flip_mul hR h l0 k1 hf', flip_mul hR h l1 k0 hf', hf h hi (by omega)]
end
section
open Go.RowKit
attribute [local go_sem ↓] Go.wp_at_zero Go.wp_at_succ
section
variable {w w' : World} {A A1 A2 A3 : Option Addr} {n c n1 c1 n2 c2 n3 c3 L : Nat} {qs : List Rat} {ts : List (List RawR)} {r1 r2 r3 : List RawR}
theorem NR.sm {q : Rat} {s t : Bool} {B : Option Addr} {m d : Nat} (h : NR w q 4 s A n c t B m d) : SmQ q := ⟨h.num.le_pow, by have := h.den.le_pow; rw [Int.natAbs_natCast] at this; exact this⟩
theorem Pol.sm (h : Pol w A n c qs 4) : ∀ q ∈ qs, SmQ q := by
 intro q hq;obtain ⟨i, hi, rfl⟩ := List.getElem_of_mem hq;obtain ⟨b, off, _, h2⟩ := h.at_ (fun e => by subst e; exact absurd hi (Nat.not_lt_zero _));obtain ⟨_, _, _, _, _, _, _, _, _, _, _, _, hx⟩ := h2.at_ i hi;exact hx.sm
theorem PolT.sm {T : List (List Rat)} (h : PolT w A n c T 4) : ∀ r ∈ T, ∀ q ∈ r, SmQ q := by
 intro r hr;obtain ⟨i, hi, rfl⟩ := List.getElem_of_mem hr;obtain ⟨b, off, _, h2⟩ := h.at_ (fun e => by subst e; exact absurd hi (Nat.not_lt_zero _));obtain ⟨_, _, _, _, hp⟩ := h2 i hi;exact hp.sm
theorem formed_bundle (h : RawT w A n c ts) (h1 : RawP w A1 n1 c1 r1) (hf : formedB ts [r1] = true) (l4 : ∀ l ∈ ts, l.all (fun r => r.le L) = true) (k4 : r1.all (fun r => r.le L) = true) :
  PolT w A n c (ts.map fun l => l.map RawR.q) L /\ TowL (ts.map fun l => l.map RawR.q) /\ Pol w A1 n1 c1 (r1.map RawR.q) L /\ n1 = 2 ^ n := by
 unfold formedB at hf;rw [Bool.and_eq_true] at hf;obtain ⟨f1, f2⟩ := hf;have f3 := towerB_at ts 0 f1;simp only [List.all_cons, List.all_nil, Bool.and_true] at f2;obtain ⟨g1, g2⟩ := validL_parts f2;refine ⟨h.polT (fun l hl => ?_) l4, fun i hi => ?_, h1.polV g2 k4, ?_⟩
 ·obtain ⟨i, hi, rfl⟩ := List.getElem_of_mem hl
  exact (validL_parts (f3 i hi)).2
 ·rw [List.length_map] at hi
  rw [List.getElem_map, List.length_map, (validL_parts (f3 i hi)).1, Nat.zero_add]
 ·rw [<- h1.len, g1, h.len]
theorem right_bundle (h : RawT w A n c ts) (h1 : RawP w A1 n1 c1 r1) (h2 : RawP w A2 n2 c2 r2) (h3 : RawP w A3 n3 c3 r3) (hr : rightB ts r1 r2 r3 = true) :
  ∃ T qa qb qc, PolT w A n c T 4 /\ TowL T /\ n <= 4 /\ (Pol w A1 n1 c1 qa 4 /\ n1 = 2 ^ n) /\ (Pol w A2 n2 c2 qb 4 /\ n2 = 2 ^ n) /\ (Pol w A3 n3 c3 qc 4 /\ n3 = 2 ^ n) := by
 unfold rightB at hr;simp only [Bool.and_eq_true] at hr;obtain ⟨f0, f1, f2, f3⟩ := hr;obtain ⟨p0, p1, p2, p3, p4⟩ := fewB4_parts f0;have l4 : ∀ l ∈ ts, l.all (fun r => r.le 4) = true := fun l hl => (p1 l hl).2
 obtain ⟨a1, a2, a3, a4⟩ := formed_bundle h h1 f1 l4 p2.2;obtain ⟨_, _, b3, b4⟩ := formed_bundle h h2 f2 l4 p3.2;obtain ⟨_, _, c3, c4⟩ := formed_bundle h h3 f3 l4 p4.2;exact ⟨_, _, _, _, a1, a2, by rw [<- h.len]; exact p0, ⟨a3, a4⟩, ⟨b3, b4⟩, ⟨c3, c4⟩⟩
end
def eYq : Nat -> Nat
 | 0 => 0
 | h + 1 => eYq h + eYq h + 2 ^ h + 2
theorem eF_le : ∀ h, eF h <= eYq h
 | 0 => Nat.le_refl _
 | h + 1 => by
  have := eF_le h
  show eF h + (2 ^ h + eF h) <= eYq h + eYq h + 2 ^ h + 2
  omega
theorem in_few {qs : List Rat} (h : ∀ q ∈ qs, SmQ q) : 0 < prodD qs /\ prodD qs <= W4 ^ qs.length /\ AllM (prodD qs) (W4 * prodD qs) qs := by
 obtain ⟨h1, h2⟩ := prodD_le h;refine ⟨h1, h2, fun q hq => ?_⟩;obtain ⟨k, hk⟩ := prodD_dvd q hq;have h3 : k <= prodD qs := by rw [hk]; exact Nat.le_mul_of_pos_left _ q.den_pos
 refine ⟨q.num * (k : Int), ?_, ?_⟩
 ·have h4 : 0 < k := by
   rcases Nat.eq_zero_or_pos k with h0 | h0
   ·rw [h0, Nat.mul_zero] at hk; omega
   ·exact h0
  have h5 := nat_ne h4;have h6 := nat_ne q.den_pos;have h7 := rat_quo q;rw [Rat.intCast_natCast] at h7;rw [hk, Rat.mkRat_eq_div, Rat.intCast_mul, Rat.natCast_mul, Rat.intCast_natCast]
  conv => lhs; rw [h7]
  grind
 ·rw [Int.natAbs_mul, Int.natAbs_natCast]
  exact Nat.mul_le_mul (h q hq).1 h3
theorem pr_bd {Mr Xr : Nat -> Nat} {n : Nat} (hM : ∀ i, i < n -> Mr i <= W4 ^ 2 ^ i) (hX : ∀ i, i < n -> Xr i <= W4 ^ (1 + 2 ^ i)) : ∀ h, h <= n -> prQ Mr h <= W4 ^ eF h /\ prY Mr Xr h <= W4 ^ eYq h
 | 0, _ => ⟨Nat.le_refl _, Nat.le_refl _⟩
 | h + 1, hh => by
  obtain ⟨i1, i2⟩ := pr_bd hM hX h (by omega);have hm := hM h (by omega);have hx := hX h (by omega);have hq : Mr h * prQ Mr h <= W4 ^ (2 ^ h + eF h) := by rw [Nat.pow_add]; exact Nat.mul_le_mul hm i1
  constructor
  ·show prQ Mr h * (Mr h * prQ Mr h) <= W4 ^ (eF h + (2 ^ h + eF h))
   rw [Nat.pow_add];exact Nat.mul_le_mul i1 hq
  ·have e := eF_le h
   have a1 : prY Mr Xr h * (Mr h * prQ Mr h) <= W4 ^ (eYq h + eYq h + 2 ^ h + 1) := by
    refine Nat.le_trans (Nat.mul_le_mul i2 hq) ?_;rw [<- Nat.pow_add];exact Nat.pow_le_pow_right W4_pos (by omega)
   have a2 : prY Mr Xr h * (Xr h * prY Mr Xr h) <= W4 ^ (eYq h + eYq h + 2 ^ h + 1) := by
    refine Nat.le_trans (Nat.mul_le_mul i2 (Nat.mul_le_mul hx i2)) ?_;rw [<- Nat.pow_add, <- Nat.pow_add];exact Nat.pow_le_pow_right W4_pos (by omega)
   show prY Mr Xr h * (Mr h * prQ Mr h) + prY Mr Xr h * (Mr h * prQ Mr h) + prY Mr Xr h * (Xr h * prY Mr Xr h) <= W4 ^ (eYq h + eYq h + 2 ^ h + 1 + 1)
   rw [Nat.pow_succ W4 (eYq h + eYq h + 2 ^ h + 1)];generalize W4 ^ (eYq h + eYq h + 2 ^ h + 1) = p at a1 a2;have h4 : p * 3 <= p * W4 := Nat.mul_le_mul_left _ (by decide +kernel);omega
end
section
open Go.ChangeShapes Go.WideShapes Go.ChangeAt Go.RowKit Go.Joins
section
variable {H : Type} {enc : TypeId × Value -> H} {W : World} {base : Nat} {held : Bool}
set_option maxRecDepth 100000 in
theorem open_case {r : Reach} {b0 : Nat} {v : Value} {d : DataW H} {p : List MemPlace} (hv : Value.okWide Tryz.prog W r b0 25 v) (h : DataW.Trod enc Tryz.prog W base (fun _ => true) held 25 v d p) :
  ∃ A n c A1 n1 c1 A2 n2 c2 A3 n3 c3 ts r1 r2 r3, v = .agg #[.slice A n c, .slice A1 n1 c1, .slice A2 n2 c2, .slice A3 n3 c3] /\ RawT W A n c ts /\ RawP W A1 n1 c1 r1 /\ RawP W A2 n2 c2 r2 /\ RawP W A3 n3 c3 r3 := by
 obtain ⟨v0, v1, v2, v3, y0, y1, y2, y3, n, rfl, _, _, h0, h1, h2, h3⟩ := open_agg4 Tryz.underlying25 (by kernel_rfl) (by kernel_rfl) hv h;obtain ⟨A, n, c, ts, rfl, g⟩ := open_ratss h0;obtain ⟨A1, n1, c1, r1, rfl, g1⟩ := open_ratsc h1;obtain ⟨A2, n2, c2, r2, rfl, g2⟩ := open_ratsc h2;obtain ⟨A3, n3, c3, r3, rfl, g3⟩ := open_ratsc h3;exact ⟨A, n, c, A1, n1, c1, A2, n2, c2, A3, n3, c3, ts, r1, r2, r3, rfl, g, g1, g2, g3⟩
end
end
section
open Go.RowKit
def normQ (R : Nat -> List Rat) (h : Nat) (a : List Rat) : List Rat := addL (mulL R h (a.take (2 ^ h)) (a.take (2 ^ h))) (negL (mulL R h (mulL R h (a.drop (2 ^ h)) (a.drop (2 ^ h))) (R h)))
theorem normQ_len {R : Nat -> List Rat} {h : Nat} {a : List Rat} : (normQ R h a).length = 2 ^ h := addL_len mulL_len (by rw [negL_len, mulL_len])
theorem ring_take2 (ts : List (List Rat)) (ht : TowL ts) (k : Nat) : ∀ j, k + j <= ts.length -> (ringR (ts.take (k + j))).2.take (2 ^ k) = (ringR (ts.take k)).2
 | 0, hk => by
  rw [Nat.add_zero];exact List.take_of_length_le (Nat.le_of_eq (ringR_take ht k (by omega)).2.1)
 | j + 1, hk => by
  have ih := ring_take2 ts ht k j (by omega);have hj : k + j < ts.length := by omega
  have hl := (ringR_take ht (k + j) (by omega)).2.1;rw [<- Nat.add_assoc, List.take_succ_eq_append_getElem hj, ringR_snoc];simp only;rw [List.take_append_of_le_length (by rw [hl]; exact Nat.pow_le_pow_right (by omega) (by omega)), ih]
theorem El.psi_congr {K : Type} [Add K] [Mul K] [Neg K] [OfNat K 0] [OfNat K 1] [RingK K] {D D' : Nat -> K} : ∀ (h : Nat), (∀ i, i < h -> D i = D' i) -> ∀ a : El K h, El.psi D h a = El.psi D' h a
 | 0, _, _ => rfl
 | h + 1, e, a => by
  simp only [El.psi];rw [El.psi_congr h (fun i hi => e i (by omega)), El.psi_congr h (fun i hi => e i (by omega)), e h (by omega)]
theorem denK_take {ts : List (List Rat)} {h i : Nat} (hi : i < h) (hh : h <= ts.length) : denK (ts.take h) i = denK ts i := by
 unfold denK;rw [radQ_take hi hh, List.take_take, Nat.min_eq_left (by omega)]
theorem zip_take {f : Int -> Int -> Rat} : ∀ {a b : List Int} {n : Nat}, a.length = n -> List.zipWith f a b = List.zipWith f a (b.take n)
 | [], b, n, h => by
  simp at h;subst h;simp
 | x :: a, b, n, h => by
  cases b with
  | nil => simp
  | cons y b =>
   rw [List.length_cons] at h;subst h;simp only [List.take_succ_cons, List.zipWith_cons_cons];rw [zip_take rfl]
theorem norm_mean {ts : List (List Rat)} (ht : TowL ts) {h : Nat} (hn : ts.length = h + 1) {qs : List Rat} (hq : qs.length = 2 ^ (h + 1)) :
  List.zipWith (fun z f : Int => mkQ (z * f) (((denP (partL qs (ringR ts).2) : Nat) : Int) * ((denP (partL qs (ringR ts).2) : Nat) : Int))) (normLI (radI (ringR ts).1) h (numsP (partL qs (ringR ts).2))) (ringR ts).2 = normQ (radQ ts) h qs := by
 have hg := (ringR_take ht ts.length (Nat.le_refl _)).2.1;rw [List.take_length, hn] at hg
 have hnl : (numsP (partL qs (ringR ts).2)).length = 2 ^ (h + 1) := by
  rw [numsP_len];unfold partL;rw [List.length_zipWith, hq, hg, Nat.min_self]
 have d1 := denP_pos (partL qs (ringR ts).2);have hd : ((denP (partL qs (ringR ts).2) : Nat) : Int) * ((denP (partL qs (ringR ts).2) : Nat) : Int) ≠ 0 := Int.mul_ne_zero (by omega) (by omega);have hu : (ts.take h).length = h := by rw [List.length_take]; omega
 have h2 := ring_take2 ts ht h 1 (by omega);rw [show ts.take (h + 1) = ts from List.take_of_length_le (by omega)] at h2;rw [zip_take normLI_len, h2];have hs := split_elem ht (qs := qs) (by rw [hn, hq]);rw [hn] at hs;have l0 := take_len hnl;have l1 := drop_len hnl;have e0 := congrArg Prod.fst hs;have e1 := congrArg Prod.snd hs;simp only [toE, El.psi, El.smul, <- castL_take, <- castL_drop] at e0 e1;have hr := rad_mean ht h (by omega);generalize hdd : ((denP (partL qs (ringR ts).2) : Nat) : Int) = dd at *;generalize hnu : numsP (partL qs (ringR ts).2) = nu at *;refine (join_elem (take_TowL ht h) (zs := normLI (radI (ringR ts).1) h nu) hd (by rw [hu]; exact normLI_len) (os := normQ (radQ ts) h qs) (by rw [hu]; exact normQ_len) ?_);rw [hu, El.psi_congr h (D' := fun i => ((denK ts i : Int) : Rat)) (fun i hi => by rw [denK_take hi (by omega)])];have q0 := take_len hq;have q1 := drop_len hq;unfold normLI normQ;rw [subI_eq, castL_add, castL_neg, toE_add (by rw [castL_len, mulL_len]) (by rw [negL_len, castL_len, mulL_len]), toE_neg (by rw [castL_len, mulL_len]), El.psi_add, El.psi_neg];rw [mul_psi ht (by omega) l0 l0, mul_psi ht (by omega) mulL_len (by rw [<- castL_len]; exact radI_ring_len ht h), mul_psi ht (by omega) l1 l1, hr, e0];rw [toE_add mulL_len (by rw [negL_len, mulL_len]), toE_neg mulL_len, toE_mul (radQ_len ht) q0 q0, toE_mul (radQ_len ht) mulL_len (radQ_len ht h), toE_mul (radQ_len ht) q1 q1]
 have key : El.mul (fun i => toE i (radQ ts i)) h (El.mul (fun i => toE i (radQ ts i)) h (El.psi (fun i => ((denK ts i : Int) : Rat)) h (toE h (castL (nu.drop (2 ^ h))))) (El.psi (fun i => ((denK ts i : Int) : Rat)) h (toE h (castL (nu.drop (2 ^ h)))))) (El.smul h (((denK ts h : Int) : Rat) * ((denK ts h : Int) : Rat)) (toE h (radQ ts h))) = El.smul h (((dd : Int) : Rat) * ((dd : Int) : Rat)) (El.mul (fun i => toE i (radQ ts i)) h (El.mul (fun i => toE i (radQ ts i)) h (toE h (qs.drop (2 ^ h))) (toE h (qs.drop (2 ^ h)))) (toE h (radQ ts h))) := by
  rw [El.mul_smul, <- El.smul_mul, <- El.smul_smul, <- El.smul_mul, <- El.mul_smul, e1, El.smul_mul, El.mul_smul, El.smul_smul, El.smul_mul]
 rw [key, El.smul_mul, El.mul_smul, El.smul_smul, El.smul_add, Rat.intCast_mul]
 congr 1
 rw [El.neg_smul, El.neg_smul, El.smul_smul, El.smul_smul]
 congr 1
 exact Rat.mul_comm _ _
theorem mulL_assoc {R : Nat -> List Rat} (hR : ∀ i, (R i).length = 2 ^ i) {h : Nat} {a b c : List Rat} (ha : a.length = 2 ^ h) (hb : b.length = 2 ^ h) (hc : c.length = 2 ^ h) : mulL R h (mulL R h a b) c = mulL R h a (mulL R h b c) :=
 toE_inj mulL_len mulL_len (by rw [toE_mul hR mulL_len hc, toE_mul hR ha hb, toE_mul hR ha mulL_len, toE_mul hR hb hc, El.mul_assoc])
theorem add_neg_zero : ∀ a : List Rat, addL (negL a) a = List.replicate a.length 0
 | [] => rfl
 | x :: a => by
  show (-x + x) :: addL (negL a) a = _
  rw [add_neg_zero a, List.length_cons, List.replicate_succ, Rat.neg_add_cancel]
theorem mul_conj {R : Nat -> List Rat} (hR : ∀ i, (R i).length = 2 ^ i) {h : Nat} {a : List Rat} (ha : a.length = 2 ^ (h + 1)) : mulL R (h + 1) a (flipL h a) = normQ R h a ++ List.replicate (2 ^ h) 0 := by
 have l0 := take_len ha;have l1 := drop_len ha
 have e : flipL h a = a.take (2 ^ h) ++ negL (a.drop (2 ^ h)) := by
  rw [<- flip_mid l0 (Nat.le_of_eq l1), List.take_append_drop]
 rw [mulL, e, take_app l0, drop_app l0];unfold normQ;rw [mulL_negB hR l1 l1, mulL_negA hR mulL_len (hR h), mulL_negB hR l0 l1, mulL_comm hR l1 l0, add_neg_zero, mulL_len]
theorem norm_mul {R : Nat -> List Rat} (hR : ∀ i, (R i).length = 2 ^ i) {h : Nat} {a b : List Rat} (ha : a.length = 2 ^ (h + 1)) (hb : b.length = 2 ^ (h + 1)) : normQ R h (mulL R (h + 1) a b) = mulL R h (normQ R h a) (normQ R h b) := by
 have fa : (flipL h a).length = 2 ^ (h + 1) := by rw [flipL_len, ha]
 have fb : (flipL h b).length = 2 ^ (h + 1) := by rw [flipL_len, hb]
 have e : normQ R h (mulL R (h + 1) a b) ++ List.replicate (2 ^ h) 0 = mulL R h (normQ R h a) (normQ R h b) ++ List.replicate (2 ^ h) 0 := by
  rw [<- mul_conj hR mulL_len, <- mulL_low hR normQ_len normQ_len, <- mul_conj hR ha, <- mul_conj hR hb, flip_mul hR (h + 1) ha hb (fun k h1 h2 => by omega)];rw [mulL_assoc hR ha hb mulL_len, <- mulL_assoc hR hb fa fb, mulL_comm hR hb fa, mulL_assoc hR fa hb fb, <- mulL_assoc hR ha fa mulL_len]
 exact List.append_cancel_right e
theorem norm_low {R : Nat -> List Rat} (hR : ∀ i, (R i).length = 2 ^ i) {h : Nat} {a : List Rat} (ha : a.length = 2 ^ h) : normQ R h (a ++ List.replicate (2 ^ h) 0) = mulL R h a a := by
 unfold normQ;rw [take_app ha, drop_app ha, mulL_zero_left hR List.length_replicate, mulL_zero_left hR (hR h)]
 have e : negL (List.replicate (2 ^ h) (0 : Rat)) = List.replicate (2 ^ h) 0 := by
  unfold negL;rw [List.map_replicate, Rat.neg_zero]
 rw [e, addL_zero_right mulL_len]
theorem AllM.neg {M X : Nat} {a : List Rat} (h : AllM M X a) : AllM M X (negL a) := by
 intro q hq;unfold negL at hq;obtain ⟨p, hp, rfl⟩ := List.mem_map.1 hq;obtain ⟨z, rfl, h2⟩ := h p hp;exact ⟨-z, (Rat.neg_mkRat z M), by rw [Int.natAbs_neg]; exact h2⟩
theorem norm_in {R : Nat -> List Rat} {Mr Xr : Nat -> Nat} (hM : ∀ i, 0 < Mr i) (hR : ∀ i, AllM (Mr i) (Xr i) (R i)) {h : Nat} {a : List Rat} {M X : Nat} (pM : 0 < M) (ha : AllM M X a) :
  AllM (M * M * prQ Mr h * (Mr h * prQ Mr h)) (X * X * prY Mr Xr h * (Mr h * prQ Mr h) + X * X * prY Mr Xr h * (Xr h * prY Mr Xr h)) (normQ R h a) := by
 have hq := prQ_pos hM h;have hk : 0 < Mr h * prQ Mr h := Nat.mul_pos (hM h) hq;have pm : 0 < M * M * prQ Mr h := Nat.mul_pos (Nat.mul_pos pM pM) hq;have i0 := mulL_in hM hR h pM pM (ha.take (2 ^ h)) (ha.take (2 ^ h));have i1 := mulL_in hM hR h pM pM (ha.drop (2 ^ h)) (ha.drop (2 ^ h));have i2 := mulL_in hM hR h pm (hM h) i1 (hR h);rw [Nat.mul_assoc _ (Mr h), Nat.mul_assoc _ (Xr h)] at i2;exact AllM.add (Nat.mul_pos pm hk) (fun q hq => (i0 q hq).scale pm _ hk) i2.neg
end
section
open Go.RowKit
attribute [local go_sem ↓] Go.wp_at_zero Go.wp_at_succ
section
variable {w : World} {A B : Option Addr} {n c m d h L u v : Nat} {ts : List (List Rat)} {qs : List Rat}
set_option maxRecDepth 100000 in
theorem p_NormG (hp : PolT w A n c ts 4) (ht : TowL ts) (hs : ∀ r ∈ ts, ∀ q ∈ r, SmQ q) (hn : n = h + 1) (hn4 : n <= 4) (ha : Pol w B m d qs L) (hL : L <= 1000) (hm : m = 2 ^ n) (hq : BdQ u v qs) (huv : u + v <= 250) (hT : Tab w) : Calls Tryz.prog 29 #[.slice A n c, .slice B m d] w (fun e w' => ∃ A' c', e = .returned (.slice A' (2 ^ h) c') /\ Pol w' A' (2 ^ h) c' (normQ (radQ ts) h qs) (8 * (u + v) + 970) /\ Ext w w') := by
 have hfew := m_few n (by omega);have hl := hp.len;have hG := ringR_take ht ts.length (Nat.le_refl _);rw [List.take_length, hl] at hG;obtain ⟨G1, G2, G3, _, G5⟩ := hG;have HNM := Lib.hid (norm_mean ht (h := h) (by rw [hl, hn]) (qs := qs) (by rw [ha.len, hm, hn]));have hSA := split_bd ht hs hq;rw [hl] at hSA;have hNA := norm_abs ht hs (h := h) hSA.1;rw [<- hn] at hNA;have hND := denP_pos (partL qs (ringR ts).2);have HSV := Lib.hid (W4_abs hSA.1);have HDV := Lib.hid (W4_words hSA.2);have HNV := Lib.hid (W4_abs hNA);have HD0 := Lib.hid (show ((denP (partL qs (ringR ts).2) : Nat) : Int) * ((denP (partL qs (ringR ts).2) : Nat) : Int) ≠ 0 from Int.mul_ne_zero (by omega) (by omega));have Hm := Lib.hid (show m = 2 ^ (h + 1) by rw [hm, hn]);have HM := Lib.hid hm;have HG3 := Lib.hid G3;have h2h : 2 ^ h <= 8 := Nat.le_trans (Nat.pow_le_pow_right (by omega) (show h <= 3 by omega)) (by decide);have h2n : 2 ^ n = 2 ^ h + 2 ^ h := by rw [hn, two_pow_s]
 have hm16 : m <= 16 := by omega
 have hm0 : 0 < m := by rw [hm]; exact Nat.pow_pos (by omega)
 rw [hn] at hfew;rw [<- hm] at G2;have hsp := hfew.2.2.2.2.1;rw [<- hn] at hfew;have HFW := Lib.hid (And.intro hfew hsp);have HG2 := Lib.hid G2;have HG1 := Lib.hid G1;have HG5 := Lib.hid G5;have hh : h + 1 <= n := by omega
 have HHM := Lib.hid (show 2 ^ h <= m by rw [hm, h2n]; omega);clear hSA hNA hND hm hn hl h2n hfew hsp G1 G2 G3 G5;have g1 : ((n : Int) == 0) = false := beq_eq_false_iff_ne.2 (by omega);have hnb := Box.new w 23 #[.slice B m d];have e1 := (Ext.refl w).alloc (.cells #[.slice B m d] 23)
 go_enter Tryz.func29, Tryz.ntmps29
 go_wp2_with fail
 refine (p_formed1 (L := 1000) ((hp.le (by omega)).ext e1) ht hnb ((ha.le hL).ext e1) HM.out (by omega) (by omega) (hT.ext e1)).mono ?_;rintro e V ⟨rfl, hxt⟩;have EW := e1.trans hxt;clear hnb e1 hxt
 go_wp2_with fail
 refine (p_ringOf (hp.ext EW) ht hs hn4 (hT.ext EW)).mono ?_;rintro e V1 ⟨Ar, cr, Af, cf, rfl, hir, hfp, hx1⟩;rw [<- HM.out] at hfp;replace EW := EW.trans hx1
 go_upto_region 4 with (fail)
 rw [show (2 : Nat) ^ n = m from HM.out.symm];obtain ⟨V2, hV2, ex2, b5, hz2⟩ := box1 V1 72 #[.slice Ar n cr, .slice Af m cf];rw [<- hV2];clear hV2 hz2 hx1;replace hir := hir.ext ex2;replace hfp := hfp.ext ex2;replace EW := EW.trans ex2;clear ex2;have x0 := b5.cell 0 (.slice Ar n cr) rfl;have x1 := b5.cell 1 (.slice Af m cf) rfl
 go_wp2_with fail
 refine (p_splitT (ha.ext EW) hfp rfl HG3.out rfl (by have := HFW.out; omega) (by have := HFW.out; omega) hm0 (by omega) (Nat.lt_of_lt_of_le HDV.out (Nat.pow_le_pow_right (by omega) (Nat.le_succ _))) (by have := HFW.out; omega) (by omega) (hT.ext EW)).mono ?_;rintro e V3 ⟨g6, s7, B7, m7, d7, rfl, hg6, hz, hy, hx1⟩
 go_upto_region 5 with (fail)
 obtain ⟨V4, hV4, ex4, b7, hz4⟩ := box1 V3 28 #[.bool s7, .slice B7 m7 d7];rw [<- hV4];clear hV4 hz4 x0 x1 hg6;replace hz := (hz.ext ex4).tight HSV.out;replace hy := (hy.ext ex4).tight' (M := 4 * (v + eF n) + 1) (by rw [Int.natAbs_natCast]; exact HDV.out);replace ex4 := hx1.trans ex4;replace hir := hir.ext ex4;replace hfp := hfp.ext ex4;replace b5 := b5.ext ex4;replace EW := EW.trans ex4;clear ex4 hx1;have hdr := (Ext.refl V4).drew;replace hir := hir.ext hdr;replace hfp := hfp.ext hdr;replace hz := hz.ext hdr;replace hy := hy.ext hdr;clear hdr;have ES0 := Ext.refl V4;refine wp_region_held_drew (S := Ext V4) (by kernel_rfl) ES0.drew (fun ES => ?_);clear ES0;refine Late.s0 ES (fun hAl hQ => ?_);refine Late.t 0 26 ?v_0 hQ ?y_0 ?_
 case y_0 => intro w' hSw;have k00 := (b5.ext hSw).c2;have k10 := (b7.ext hSw).c2;go_simp;try rfl
 try simp only [zP]
 refine Late.t 1 27 ?v_1 hQ ?y_1 ?_
 case y_1 => intro w' hSw;have k00 := (b5.ext hSw).c2;have k10 := (b7.ext hSw).c2;go_simp;try rfl
 try simp only [zP]
 refine Late.u 2 28 hQ ?_
 try simp only [zP]
 refine Late.t 4 30 ?v_3 hQ ?y_3 ?_
 case y_3 => intro w' hSw;have k00 := (b5.ext hSw).c2;have k10 := (b7.ext hSw).c2;go_simp;try rfl
 try simp only [zP]
 refine Late.t 5 31 ?v_4 hQ ?y_4 ?_
 case y_4 => intro w' hSw;have k00 := (b5.ext hSw).c2;have k10 := (b7.ext hSw).c2;go_simp;try rfl
 try simp only [zP]
 refine Late.cl (i := 3) rfl hAl hQ (fun w3 e3 E3 K hK => ?_);go_simp
 (replace hir := hir.ext e3; replace hz := hz.ext e3; replace hy := hy.ext e3; replace hfp := hfp.ext e3; go_at_call 77; refine (p_normT HG5.out (by omega) hir hz Hm.out hh (by have := HFW.out; omega)).mono ?_; rintro e wk3 ⟨A8, c8, rfl, hnm, hx3⟩; replace hir := hir.ext hx3; replace hz := hz.ext hx3; replace hy := hy.ext hx3; replace hfp := hfp.ext hx3)
 refine hK.out _ _ hx3 ?_;clear hK K
 try simp only [zP]
 refine Late.cl (i := 6) rfl hAl hQ (fun w6 e6 E6 K hK => ?_);go_simp
 (replace hir := hir.ext e6; replace hz := hz.ext e6; replace hy := hy.ext e6; replace hfp := hfp.ext e6; replace hnm := hnm.ext e6; go_at_call 70; refine (p_MulG hy hy (by have := HFW.out; omega) (by have := HFW.out; omega)).mono ?_; rintro e wk6 ⟨s9, A9, n9, c9, rfl, hdd, hx6⟩; replace hir := hir.ext hx6; replace hz := hz.ext hx6; replace hy := hy.ext hx6; replace hfp := hfp.ext hx6; replace hnm := hnm.ext hx6)
 refine hK.out _ _ hx6 ?_;clear hK K
 try simp only [zP]
 refine Late.cl (i := 7) rfl hAl hQ (fun w7 e7 E7 K hK => ?_);go_simp
 (replace hir := hir.ext e7; replace hz := hz.ext e7; replace hy := hy.ext e7; replace hfp := hfp.ext e7; replace hnm := hnm.ext e7; replace hdd := hdd.ext e7; go_at_call 68; refine (p_joinT (hnm.tight HNV.out) hfp HHM.out (by omega) hdd HD0.out (by have := HFW.out; omega) (by have := HFW.out; omega) (by omega) (hT.ext (EW.trans E7))).mono ?_; rintro e wk7 ⟨g8, rfl, hg8, hjr, hjl, hx7⟩; replace hir := hir.ext hx7; replace hz := hz.ext hx7; replace hy := hy.ext hx7; replace hfp := hfp.ext hx7; replace hnm := hnm.ext hx7; replace hdd := hdd.ext hx7)
 refine hK.out _ _ hx7 ?_;clear hK K
 try simp only [zP]
 refine Late.u 8 4 hQ ?_
 try simp only [zP]
 refine Late.d0 (fun wz ez Ez => ?_);clear hAl hQ ES
 go_wp2_with fail
 go_ret
 rw [<- HNM.out];have hpj := ((hjr.pol hjl (by unfold maxLen; omega)).ext ez).le (M := 8 * (u + v) + 970) (by have := HFW.out; omega);exact ⟨_, _, rfl, hpj, EW.trans Ez⟩
end
end
section
open Go.RowKit
def InB (m x : Nat) (qs : List Rat) : Prop := ∃ M X, 0 < M /\ AllM M X qs /\ M <= W4 ^ m /\ X <= W4 ^ x
section
variable {m x m' x' n h S : Nat} {qs a b : List Rat}
theorem InB.few (hs : ∀ q ∈ qs, SmQ q) (hl : qs.length = 2 ^ n) : InB (2 ^ n) (1 + 2 ^ n) qs := by
 obtain ⟨h1, h2, h3⟩ := in_few hs;rw [hl] at h2;exact ⟨_, _, h1, h3, h2, by rw [Nat.pow_add, Nat.pow_one]; exact Nat.mul_le_mul_left _ h2⟩
theorem InB.words (hb : InB m x qs) (hx : 4 * x + 1 <= S) (hm : 4 * m + 1 <= S) : ∀ q ∈ qs, q.num.natAbs < 4294967296 ^ S /\ q.den < 4294967296 ^ S := by
 obtain ⟨M, X, h1, h2, h3, h4⟩ := hb;intro q hq;obtain ⟨k1, k2⟩ := (h2 q hq).size h1;exact ⟨Nat.lt_of_lt_of_le (W4_words (Nat.le_trans k1 h4)) (Nat.pow_le_pow_right (by omega) hx), Nat.lt_of_lt_of_le (W4_words (Nat.le_trans k2 h3)) (Nat.pow_le_pow_right (by omega) hm)⟩
theorem InB.bd (hb : InB m x qs) : BdQ x m qs := by
 obtain ⟨M, X, h1, h2, h3, h4⟩ := hb;refine ⟨fun q hq => Nat.le_trans ((h2 q hq).size h1).1 h4, M, h1, h3, fun q hq => ?_⟩;obtain ⟨z, rfl, _⟩ := h2 q hq;exact (mkRat_sizes z M (by omega)).1
structure RadB (R : Nat -> List Rat) (Mr Xr : Nat -> Nat) : Prop where
 len : ∀ i, (R i).length = 2 ^ i
 pos : ∀ i, 0 < Mr i
 all : ∀ i, AllM (Mr i) (Xr i) (R i)
 mb : ∀ i, Mr i <= W4 ^ 2 ^ i
 xb : ∀ i, Xr i <= W4 ^ (1 + 2 ^ i)
variable {R : Nat -> List Rat} {Mr Xr : Nat -> Nat}
theorem InB.mul (hR : RadB R Mr Xr) (h : Nat) (ha : InB m x a) (hb : InB m' x' b) : InB (m + m' + eF h) (x + x' + eYq h) (mulL R h a b) := by
 obtain ⟨Ma, Xa, p1, p2, p3, p4⟩ := ha;obtain ⟨Mb, Xb, q1, q2, q3, q4⟩ := hb;obtain ⟨b1, b2⟩ := pr_bd (n := h) (fun i _ => hR.mb i) (fun i _ => hR.xb i) h (Nat.le_refl _);refine ⟨_, _, Nat.mul_pos (Nat.mul_pos p1 q1) (prQ_pos hR.pos h), mulL_in hR.pos hR.all h p1 q1 p2 q2, ?_, ?_⟩
 ·rw [Nat.pow_add, Nat.pow_add]
  exact Nat.mul_le_mul (Nat.mul_le_mul p3 q3) b1
 ·rw [Nat.pow_add, Nat.pow_add]
  exact Nat.mul_le_mul (Nat.mul_le_mul p4 q4) b2
theorem InB.norm (hR : RadB R Mr Xr) (h : Nat) (ha : InB m x a) : InB (m + m + eF h + (2 ^ h + eF h)) (x + x + eYq h + (1 + 2 ^ h + eYq h) + 1) (normQ R h a) := by
 obtain ⟨M, X, p1, p2, p3, p4⟩ := ha;obtain ⟨b1, b2⟩ := pr_bd (n := h + 1) (fun i _ => hR.mb i) (fun i _ => hR.xb i) h (by omega);have k1 : Mr h * prQ Mr h <= W4 ^ (2 ^ h + eF h) := by rw [Nat.pow_add]; exact Nat.mul_le_mul (hR.mb h) b1
 have k2 : Xr h * prY Mr Xr h <= W4 ^ (1 + 2 ^ h + eYq h) := by rw [Nat.pow_add]; exact Nat.mul_le_mul (hR.xb h) b2
 have k3 : X * X * prY Mr Xr h <= W4 ^ (x + x + eYq h) := by rw [Nat.pow_add, Nat.pow_add]; exact Nat.mul_le_mul (Nat.mul_le_mul p4 p4) b2
 have hle := eF_le h;refine ⟨_, _, Nat.mul_pos (Nat.mul_pos (Nat.mul_pos p1 p1) (prQ_pos hR.pos h)) (Nat.mul_pos (hR.pos h) (prQ_pos hR.pos h)), norm_in hR.pos hR.all p1 p2, ?_, ?_⟩
 ·rw [Nat.pow_add _ (m + m + eF h), Nat.pow_add, Nat.pow_add]
  exact Nat.mul_le_mul (Nat.mul_le_mul (Nat.mul_le_mul p3 p3) b1) k1
 ·have t1 : X * X * prY Mr Xr h * (Mr h * prQ Mr h) <= W4 ^ (x + x + eYq h + (1 + 2 ^ h + eYq h)) := by
   rw [Nat.pow_add _ (x + x + eYq h)];exact Nat.mul_le_mul k3 (Nat.le_trans k1 (Nat.pow_le_pow_right W4_pos (by omega)))
  have t2 : X * X * prY Mr Xr h * (Xr h * prY Mr Xr h) <= W4 ^ (x + x + eYq h + (1 + 2 ^ h + eYq h)) := by
   rw [Nat.pow_add _ (x + x + eYq h)];exact Nat.mul_le_mul k3 k2
  rw [Nat.pow_succ];generalize W4 ^ (x + x + eYq h + (1 + 2 ^ h + eYq h)) = p at t1 t2;have h4 : p * 2 <= p * W4 := Nat.mul_le_mul_left _ (by decide +kernel);omega
theorem low_few : ∀ h, h < 4 -> eF h <= 12 /\ eYq h <= 26 /\ 2 ^ h <= 8 /\ eF (h + 1) <= 32 /\ eYq (h + 1) <= 62 /\ 2 ^ (h + 1) <= 16 := by
 intro h hh
 match h, hh with
 | 0, _ => decide
 | 1, _ => decide
 | 2, _ => decide
 | 3, _ => decide
end
section
variable {w : World} {Tt A B : Option Addr} {n ct m c d h : Nat} {T : List (List Rat)} {qs ps : List Rat}
theorem rad_few (hp : PolT w Tt n ct T 4) (ht : TowL T) : RadB (radQ T) (fun i => prodD (radQ T i)) (fun i => W4 * prodD (radQ T i)) := by
 have hR : ∀ i q, q ∈ radQ T i -> SmQ q := by
  intro i q hq
  rcases Nat.lt_or_ge i T.length with hi | hi
  ·rw [radQ_at hi] at hq
   exact hp.sm _ (List.getElem_mem hi) q hq
  ·unfold radQ at hq
   rw [List.getD_eq_getElem?_getD, List.getElem?_eq_none hi] at hq;rw [List.eq_of_mem_replicate hq];exact ⟨Nat.zero_le _, W4_pos⟩
 have hb : ∀ i, prodD (radQ T i) <= W4 ^ 2 ^ i := fun i => by have := (in_few (hR i)).2.1; rwa [radQ_len ht] at this
 exact ⟨radQ_len ht, fun i => (in_few (hR i)).1, fun i => (in_few (hR i)).2.2, hb, fun i => by rw [Nat.pow_add, Nat.pow_one]; exact Nat.mul_le_mul_left _ (hb i)⟩
theorem p_NormA (hp : PolT w Tt n ct T 4) (ht : TowL T) (hn : n = h + 1) (hn4 : n <= 4) (ha : Pol w B m d qs 4) (hm : m = 2 ^ n) (hT : Tab w) :
  Calls Tryz.prog 29 #[.slice Tt n ct, .slice B m d] w (fun e w' => ∃ A' c', e = .returned (.slice A' (2 ^ h) c') /\ Pol w' A' (2 ^ h) c' (normQ (radQ T) h qs) 400 /\ Ext w w') := by
 have hi := InB.few ha.sm (n := n) (by rw [ha.len, hm]);have hw := InB.norm (rad_few hp ht) h hi;have hf := low_few h (by omega);rw [<- hn] at hf;refine (p_NormG hp ht hp.sm hn hn4 ha (by omega) hm hi.bd (by omega) hT).mono ?_;rintro e w' ⟨A', c', rfl, h1, h2⟩;obtain ⟨S, hS⟩ : ∃ S : Nat, S = 400 := ⟨_, rfl⟩;exact ⟨A', c', rfl, hS ▸ h1.tightG (M := S) (hw.words (by omega) (by omega)), h2⟩
end
end
section
open Go.RowKit
attribute [local go_sem ↓] Go.wp_at_zero Go.wp_at_succ
theorem one_len (h : Nat) (q : Rat) : (q :: List.replicate (2 ^ h - 1) (0 : Rat)).length = 2 ^ h := by
 have := Nat.pow_pos (n := h) (show 0 < 2 by omega);rw [List.length_cons, List.length_replicate];omega
theorem one_mulL {R : Nat -> List Rat} (hR : ∀ i, (R i).length = 2 ^ i) {h : Nat} {a : List Rat} (ha : a.length = 2 ^ h) : mulL R h (1 :: List.replicate (2 ^ h - 1) 0) a = a :=
 toE_inj mulL_len ha (by rw [mulL_comm hR (one_len h 1) ha, toE_mul hR ha (one_len h 1), toE_const, El.smul_one, El.mul_one])
section
variable {w : World} {A B D : Option Addr} {n c m d e0 l g L M : Nat} {T : List (List Rat)} {qs ps : List Rat} {u x u' x' : Nat}
theorem q_SameE (h : Pol w A n c qs L) (h' : Pol w B m d ps M) (e : qs = ps) (hL : L <= 1000) (hM : M <= 1000) (hn : n <= 100000) : Calls Tryz.prog 19 #[.slice A n c, .slice B m d] w fun e w' => e = .returned (.bool true) /\ Ext w w' := by
 subst e;exact q_SameT h h' hL hM hn
end
end
section
open Go.RowKit
def RQ (R : Nat -> List Int) (i : Nat) : List Rat := castL (R i)
def oneL (h : Nat) (k : Rat) : List Rat := k :: List.replicate (2 ^ h - 1) 0
def smulL (k : Rat) (l : List Rat) : List Rat := l.map (k * ·)
theorem smulL_len (k : Rat) (l : List Rat) : (smulL k l).length = l.length := List.length_map _
theorem oneL_len (h : Nat) (k : Rat) : (oneL h k).length = 2 ^ h := one_len h k
theorem oneL_app (h : Nat) (k : Rat) : oneL h k ++ List.replicate (2 ^ h) 0 = oneL (h + 1) k := by
 have := Nat.pow_pos (n := h) (show 0 < 2 by omega);have e := two_pow_s h;unfold oneL;rw [List.cons_append, List.replicate_append_replicate]
 congr 2
 omega
theorem smul_oneL (h : Nat) (k x : Rat) : smulL k (oneL h x) = oneL h (k * x) := by
 unfold smulL oneL;rw [List.map_cons, List.map_replicate, Rat.mul_zero]
theorem smul_smulL (k x : Rat) (l : List Rat) : smulL k (smulL x l) = smulL (k * x) l := by
 unfold smulL;rw [List.map_map];exact List.map_congr_left fun q _ => (Rat.mul_assoc k x q).symm
theorem smul_one_L (l : List Rat) : smulL 1 l = l := by
 unfold smulL
 conv => rhs; rw [<- List.map_id l]
 exact List.map_congr_left fun q _ => Rat.one_mul q
section
variable {R : Nat -> List Rat} (hR : ∀ i, (R i).length = 2 ^ i) {h : Nat} {a b : List Rat}
include hR
theorem smul_mulL (k : Rat) (ha : a.length = 2 ^ h) (hb : b.length = 2 ^ h) : mulL R h (smulL k a) b = smulL k (mulL R h a b) :=
 toE_inj mulL_len (by rw [smulL_len, mulL_len]) (by
  unfold smulL;rw [toE_mul hR (by rw [List.length_map, ha]) hb, map_toE ha, map_toE mulL_len, toE_mul hR ha hb, El.smul_mul])
theorem mulL_smul (k : Rat) (ha : a.length = 2 ^ h) (hb : b.length = 2 ^ h) : mulL R h a (smulL k b) = smulL k (mulL R h a b) := by
 rw [mulL_comm hR ha (by rw [smulL_len, hb]), smul_mulL hR k hb ha, mulL_comm hR hb ha]
theorem conj_low {c : List Rat} (ha : a.length = 2 ^ (h + 1)) (hc : c.length = 2 ^ h) : mulL R (h + 1) (flipL h a) (c ++ List.replicate (2 ^ h) 0) = mulL R h (a.take (2 ^ h)) c ++ mulL R h (negL (a.drop (2 ^ h))) c := by
 have l0 := take_len ha;have l1 := drop_len ha
 have e : flipL h a = a.take (2 ^ h) ++ negL (a.drop (2 ^ h)) := by
  rw [<- flip_mid l0 (Nat.le_of_eq l1), List.take_append_drop]
 have ln : (negL (a.drop (2 ^ h))).length = 2 ^ h := by rw [negL_len, l1]
 rw [mulL, e, take_app l0, drop_app l0, take_app hc, drop_app hc, mulL_zero_right hR ln, mulL_zero_left hR (hR h), mulL_zero_right hR l0, addL_zero_right mulL_len, addL_zero_left mulL_len]
theorem conj_right {c : List Rat} (ha : a.length = 2 ^ (h + 1)) (hc : c.length = 2 ^ h) : mulL R (h + 1) (mulL R (h + 1) (flipL h a) (c ++ List.replicate (2 ^ h) 0)) a = mulL R h c (normQ R h a) ++ List.replicate (2 ^ h) 0 := by
 have fa : (flipL h a).length = 2 ^ (h + 1) := by rw [flipL_len, ha]
 have lc : (c ++ List.replicate (2 ^ h) (0 : Rat)).length = 2 ^ (h + 1) := by rw [List.length_append, List.length_replicate, hc, two_pow_s]
 rw [mulL_comm hR fa lc, mulL_assoc hR lc fa ha, mulL_comm hR fa ha, mul_conj hR ha, mulL_low hR hc normQ_len]
theorem norm_one : normQ R h (oneL (h + 1) 1) = oneL h 1 := by
 rw [<- oneL_app, norm_low hR (oneL_len h 1)];exact one_mulL hR (oneL_len h 1)
theorem mul_firstA (hb : b.length = 2 ^ (h + 1)) (ha : a.length = 2 ^ h) : (mulL R (h + 1) b (a ++ List.replicate (2 ^ h) 0)).take (2 ^ h) = mulL R h (b.take (2 ^ h)) a := by
 rw [mulL, take_app (addL_len mulL_len mulL_len), take_app ha, drop_app ha, mulL_zero_right hR (drop_len hb), mulL_zero_left hR (hR h), addL_zero_right mulL_len]
theorem mul_firstB (hb : b.length = 2 ^ (h + 1)) (ha : a.length = 2 ^ h) : (mulL R (h + 1) b (List.replicate (2 ^ h) 0 ++ a)).take (2 ^ h) = mulL R h (b.drop (2 ^ h)) (mulL R h a (R h)) := by
 rw [mulL, take_app (addL_len mulL_len mulL_len), take_app List.length_replicate, drop_app List.length_replicate, mulL_zero_right hR (take_len hb), addL_zero_left mulL_len, mulL_assoc hR (drop_len hb) ha (hR h)]
theorem mul_upper (ha : a.length = 2 ^ h) (hb : b.length = 2 ^ h) : mulL R (h + 1) (List.replicate (2 ^ h) 0 ++ a) (List.replicate (2 ^ h) 0 ++ b) = mulL R h a (mulL R h b (R h)) ++ List.replicate (2 ^ h) 0 := by
 rw [mulL, take_app List.length_replicate, drop_app List.length_replicate, take_app List.length_replicate, drop_app List.length_replicate, mulL_zero_left hR hb, mulL_zero_right hR ha, mulL_zero_left hR List.length_replicate, addL_zero_left mulL_len, addL_zero_right List.length_replicate, mulL_assoc hR ha hb (hR h)]
end
theorem oneL_take (h : Nat) (k : Rat) : (oneL (h + 1) k).take (2 ^ h) = oneL h k := by
 rw [<- oneL_app, take_app (oneL_len h k)]
theorem castL_zero (n : Nat) : castL (List.replicate n 0) = List.replicate n 0 := by
 unfold castL;rw [List.map_replicate]
 rfl
theorem castL_div {zs : List Int} {g : Int} (hg : g ≠ 0) (hd : ∀ z ∈ zs, g ∣ z) : castL (zs.map (· / g)) = smulL ((g : Rat)⁻¹) (castL zs) := by
 unfold castL smulL;rw [List.map_map, List.map_map];refine List.map_congr_left fun z hz => ?_
 obtain ⟨c, rfl⟩ := hd z hz
 show (((g * c / g : Int)) : Rat) = (g : Rat)⁻¹ * ((g * c : Int) : Rat)
 rw [Int.mul_ediv_cancel_left _ hg, Rat.intCast_mul, <- Rat.mul_assoc, Rat.inv_mul_cancel _ (int_ne hg), Rat.one_mul]
theorem castL_norm (R : Nat -> List Int) (h : Nat) (a : List Int) : castL (normLI R h a) = normQ (RQ R) h (castL a) := by
 unfold normLI normQ;rw [subI_eq, castL_add, castL_neg, castL_mul, castL_mul, castL_mul, castL_take, castL_drop]
 rfl
theorem castL_mulR (R : Nat -> List Int) (h : Nat) (a b : List Int) : castL (mulL R h a b) = mulL (RQ R) h (castL a) (castL b) := castL_mul R h a b
theorem castL_subz {n : Nat} {a : List Int} (ha : a.length = n) : castL (subI (List.replicate n 0) a) = negL (castL a) := by
 rw [subI_eq, castL_add, castL_zero, castL_neg, addL_zero_left (by rw [negL_len, castL_len, ha])]
theorem invL_gen {R : Nat -> List Int} {h : Nat} {a : List Int} {g k : Nat} {r : List Int × Int} (c1 : ¬ noneB (a.drop (2 ^ h)) = true) (c2 : ¬ noneB (a.take (2 ^ h)) = true) (hg : gcdL 0 (normLI R h a) = g) (c3 : g ≠ 0) (hr : invL R h ((normLI R h a).map (· / ((g : Nat) : Int))) = r) (c4 : r.2 ≠ 0)
  (hk : gcdL (r.2 * ((g : Nat) : Int)).natAbs (mulL R h (a.take (2 ^ h)) r.1 ++ mulL R h (subI (List.replicate (2 ^ h) 0) (a.drop (2 ^ h))) r.1) = k) :
  invL R (h + 1) a = ((mulL R h (a.take (2 ^ h)) r.1 ++ mulL R h (subI (List.replicate (2 ^ h) 0) (a.drop (2 ^ h))) r.1).map (· / ((k : Nat) : Int)), r.2 * ((g : Nat) : Int) / ((k : Nat) : Int)) := by
 rw [invL, if_neg c1, if_neg c2, hg, if_neg c3, hr, if_neg c4, hk]
theorem invL_none {R : Nat -> List Int} {h : Nat} {a : List Int} {g : Nat} {r : List Int × Int} (c1 : ¬ noneB (a.drop (2 ^ h)) = true) (c2 : ¬ noneB (a.take (2 ^ h)) = true) (hg : gcdL 0 (normLI R h a) = g) (hr : invL R h ((normLI R h a).map (· / ((g : Nat) : Int))) = r) (c : g = 0 \/ r.2 = 0) : invL R (h + 1) a = ([], 0) := by
 rw [invL, if_neg c1, if_neg c2, hg]
 by_cases h0 : g = 0
 ·rw [if_pos h0]
 ·rw [if_neg h0, hr, if_pos (c.resolve_left h0)]
section
variable {R : Nat -> List Int} (hR : ∀ i, (RQ R i).length = 2 ^ i)
include hR
theorem invL_right : ∀ (h : Nat) {a : List Int}, a.length = 2 ^ h -> (invL R h a).2 ≠ 0 -> mulL (RQ R) h (castL (invL R h a).1) (castL a) = oneL h (((invL R h a).2 : Int) : Rat)
 | 0, a, hl, _ => by
  match a, hl with
  | [x], _ =>
   show [((1 : Int) : Rat) * (x : Rat)] = [(x : Rat)]
   rw [Rat.intCast_one, Rat.one_mul]
 | h + 1, a, hl, hp => by
  have l0 := take_len hl;have l1 := drop_len hl;have ea : a = a.take (2 ^ h) ++ a.drop (2 ^ h) := (List.take_append_drop _ _).symm;have la : (castL a).length = 2 ^ (h + 1) := by rw [castL_len, hl]
  by_cases c1 : noneB (a.drop (2 ^ h)) = true
  ·have e : invL R (h + 1) a = ((invL R h (a.take (2 ^ h))).1 ++ List.replicate (2 ^ h) 0, (invL R h (a.take (2 ^ h))).2) := by rw [invL, if_pos c1]
   rw [e] at hp ⊢;have ih := invL_right h l0 hp;have lr := (invL_len R h (a.take (2 ^ h))).2 hp;have ez := noneB_repl l1 c1;rw [castL_app, castL_zero]
   conv => lhs; arg 4; rw [ea, ez, castL_app, castL_zero]
   rw [mulL_low hR (by rw [castL_len, lr]) (by rw [castL_len, l0]), ih, oneL_app]
  ·by_cases c2 : noneB (a.take (2 ^ h)) = true
   ·have e : invL R (h + 1) a = (List.replicate (2 ^ h) 0 ++ (invL R h (mulL R h (a.drop (2 ^ h)) (R h))).1, (invL R h (mulL R h (a.drop (2 ^ h)) (R h))).2) := by rw [invL, if_neg c1, if_pos c2]
    rw [e] at hp ⊢;have ih := invL_right h mulL_len hp;have lr := (invL_len R h (mulL R h (a.drop (2 ^ h)) (R h))).2 hp;have ez := noneB_repl l0 c2;rw [castL_app, castL_zero]
    conv => lhs; arg 4; rw [ea, ez, castL_app, castL_zero]
    rw [mul_upper hR (by rw [castL_len, lr]) (by rw [castL_len, l1])];rw [castL_mulR] at ih;have ih' : mulL (RQ R) h (castL (invL R h (mulL R h (a.drop (2 ^ h)) (R h))).1) (mulL (RQ R) h (castL (a.drop (2 ^ h))) (RQ R h)) = _ := ih;rw [ih', oneL_app]
   ·obtain ⟨g, hg⟩ : ∃ g, gcdL 0 (normLI R h a) = g := ⟨_, rfl⟩
    obtain ⟨r, hr⟩ : ∃ r, invL R h ((normLI R h a).map (· / ((g : Nat) : Int))) = r := ⟨_, rfl⟩
    by_cases hc : g = 0 \/ r.2 = 0
    ·rw [invL_none c1 c2 hg hr hc] at hp
     exact absurd rfl hp
    ·obtain ⟨c3, c4⟩ := not_or.1 hc
     obtain ⟨k, hk⟩ : ∃ k, gcdL (r.2 * ((g : Nat) : Int)).natAbs (mulL R h (a.take (2 ^ h)) r.1 ++ mulL R h (subI (List.replicate (2 ^ h) 0) (a.drop (2 ^ h))) r.1) = k := ⟨_, rfl⟩;have e := invL_gen c1 c2 hg c3 hr c4 hk;rw [e];have hgz : ((g : Nat) : Int) ≠ 0 := by omega
     have hpg : r.2 * ((g : Nat) : Int) ≠ 0 := Int.mul_ne_zero c4 hgz;obtain ⟨d1, d2⟩ := gcdL_dvd (mulL R h (a.take (2 ^ h)) r.1 ++ mulL R h (subI (List.replicate (2 ^ h) 0) (a.drop (2 ^ h))) r.1) (r.2 * ((g : Nat) : Int)).natAbs;rw [hk] at d1 d2
     have hkz : ((k : Nat) : Int) ≠ 0 := by
      intro h0;have h1 : k = 0 := by omega
      subst h1;exact hpg (Int.natAbs_eq_zero.1 (Nat.eq_zero_of_zero_dvd d1))
     have d3 : ((k : Nat) : Int) ∣ r.2 * ((g : Nat) : Int) := Int.ofNat_dvd_left.2 d1;have hNd := (gcdL_dvd (normLI R h a) 0).2;rw [hg] at hNd;have lN : ((normLI R h a).map (· / ((g : Nat) : Int))).length = 2 ^ h := by rw [List.length_map, normLI_len]
     have ih := invL_right h lN (by rw [hr]; exact c4);have lr := (invL_len R h ((normLI R h a).map (· / ((g : Nat) : Int)))).2 (by rw [hr]; exact c4);rw [hr] at ih lr;have hcN := castL_div hgz hNd;rw [castL_norm] at hcN;rw [hcN, mulL_smul hR _ (by rw [castL_len, lr]) normQ_len] at ih
     have ih2 : mulL (RQ R) h (castL r.1) (normQ (RQ R) h (castL a)) = oneL h (((g : Nat) : Int) * ((r.2 : Int) : Rat)) := by
      have := congrArg (smulL ((((g : Nat) : Int)) : Rat)) ih;rw [smul_smulL, Rat.mul_inv_cancel _ (int_ne hgz), smul_one_L, smul_oneL] at this;exact this
     have h0 : castL (mulL R h (a.take (2 ^ h)) r.1 ++ mulL R h (subI (List.replicate (2 ^ h) 0) (a.drop (2 ^ h))) r.1) = mulL (RQ R) (h + 1) (flipL h (castL a)) (castL r.1 ++ List.replicate (2 ^ h) 0) := by
      rw [conj_low hR la (by rw [castL_len, lr]), castL_app, castL_mulR, castL_mulR, castL_subz l1, castL_take, castL_drop]
     show mulL (RQ R) (h + 1) (castL ((mulL R h (a.take (2 ^ h)) r.1 ++ mulL R h (subI (List.replicate (2 ^ h) 0) (a.drop (2 ^ h))) r.1).map (· / ((k : Nat) : Int)))) (castL a) = oneL (h + 1) (((r.2 * ((g : Nat) : Int) / ((k : Nat) : Int) : Int)) : Rat)
     rw [castL_div hkz d2, h0, smul_mulL hR _ mulL_len la, conj_right hR la (by rw [castL_len, lr]), ih2, oneL_app, smul_oneL]
     congr 1
     obtain ⟨c, hc⟩ := d3;rw [hc, Int.mul_ediv_cancel_left _ hkz];have h2 := congrArg (fun z : Int => (z : Rat)) hc;simp only [Rat.intCast_mul] at h2;rw [Rat.mul_comm ((((g : Nat) : Int)) : Rat), h2, <- Rat.mul_assoc, Rat.inv_mul_cancel _ (int_ne hkz), Rat.one_mul]
theorem invL_finds : ∀ (h : Nat) {a : List Int}, a.length = 2 ^ h -> (∃ b : List Rat, b.length = 2 ^ h /\ mulL (RQ R) h b (castL a) = oneL h 1) -> (invL R h a).2 ≠ 0
 | 0, a, hl, ⟨b, hb, he⟩ => by
  match a, hl, b, hb with
  | [x], _, [y], _ =>
   have he' : [y * ((x : Int) : Rat)] = [(1 : Rat)] := he
   injection he' with h1 _
   intro h0;have hx : x = 0 := h0;rw [hx, Rat.intCast_zero, Rat.mul_zero] at h1;exact absurd h1 (by decide)
 | h + 1, a, hl, ⟨b, hb, he⟩ => by
  have l0 := take_len hl;have l1 := drop_len hl;have ea : a = a.take (2 ^ h) ++ a.drop (2 ^ h) := (List.take_append_drop _ _).symm;have la : (castL a).length = 2 ^ (h + 1) := by rw [castL_len, hl]
  have he1 := congrArg (List.take (2 ^ h)) he;rw [oneL_take] at he1
  by_cases c1 : noneB (a.drop (2 ^ h)) = true
  ·have e : invL R (h + 1) a = ((invL R h (a.take (2 ^ h))).1 ++ List.replicate (2 ^ h) 0, (invL R h (a.take (2 ^ h))).2) := by rw [invL, if_pos c1]
   rw [e];have ez := noneB_repl l1 c1;rw [ea, ez, castL_app, castL_zero, mul_firstA hR hb (by rw [castL_len, l0])] at he1;exact invL_finds h l0 ⟨_, take_len hb, he1⟩
  ·by_cases c2 : noneB (a.take (2 ^ h)) = true
   ·have e : invL R (h + 1) a = (List.replicate (2 ^ h) 0 ++ (invL R h (mulL R h (a.drop (2 ^ h)) (R h))).1, (invL R h (mulL R h (a.drop (2 ^ h)) (R h))).2) := by rw [invL, if_neg c1, if_pos c2]
    rw [e];have ez := noneB_repl l0 c2;rw [ea, ez, castL_app, castL_zero, mul_firstB hR hb (by rw [castL_len, l1])] at he1;exact invL_finds h mulL_len ⟨_, drop_len hb, by rw [castL_mulR]; exact he1⟩
   ·obtain ⟨g, hg⟩ : ∃ g, gcdL 0 (normLI R h a) = g := ⟨_, rfl⟩
    obtain ⟨r, hr⟩ : ∃ r, invL R h ((normLI R h a).map (· / ((g : Nat) : Int))) = r := ⟨_, rfl⟩;have hn := congrArg (normQ (RQ R) h) he;rw [norm_one hR, norm_mul hR hb la, <- castL_norm] at hn
    have c3 : g ≠ 0 := by
     intro h0;rw [h0] at hg;have hz := (gcdL_zero _ _ hg).2
     have hz2 : castL (normLI R h a) = List.replicate (2 ^ h) 0 := by
      refine List.eq_replicate_iff.2 ⟨by rw [castL_len, normLI_len], fun q hq => ?_⟩;unfold castL at hq;obtain ⟨z, h1, rfl⟩ := List.mem_map.1 hq;rw [hz z h1]
      rfl
     rw [hz2, mulL_zero_right hR normQ_len] at hn;have h1 := congrArg (fun l : List Rat => l.headD 5) hn;have h2 := Nat.pow_pos (n := h) (show 0 < 2 by omega);obtain ⟨m, hm⟩ : ∃ m, 2 ^ h = m + 1 := ⟨2 ^ h - 1, by omega⟩;rw [hm, List.replicate_succ] at h1;exact absurd (show (0 : Rat) = 1 from h1) (by decide)
    have hgz : ((g : Nat) : Int) ≠ 0 := by omega
    have hNd := (gcdL_dvd (normLI R h a) 0).2;rw [hg] at hNd;have lN : ((normLI R h a).map (· / ((g : Nat) : Int))).length = 2 ^ h := by rw [List.length_map, normLI_len]
    have lc : (castL (normLI R h a)).length = 2 ^ h := by rw [castL_len, normLI_len]
    have c4 := invL_finds h lN ⟨smulL (((g : Nat) : Int) : Rat) (normQ (RQ R) h b), by rw [smulL_len, normQ_len], by
     rw [castL_div hgz hNd, smul_mulL hR _ normQ_len (by rw [smulL_len, lc]), mulL_smul hR _ normQ_len lc, hn, smul_smulL, Rat.mul_inv_cancel _ (int_ne hgz), smul_one_L]⟩
    rw [hr] at c4;obtain ⟨k, hk⟩ : ∃ k, gcdL (r.2 * ((g : Nat) : Int)).natAbs (mulL R h (a.take (2 ^ h)) r.1 ++ mulL R h (subI (List.replicate (2 ^ h) 0) (a.drop (2 ^ h))) r.1) = k := ⟨_, rfl⟩;rw [invL_gen c1 c2 hg c3 hr c4 hk];have hpg : r.2 * ((g : Nat) : Int) ≠ 0 := Int.mul_ne_zero c4 hgz;obtain ⟨d1, _⟩ := gcdL_dvd (mulL R h (a.take (2 ^ h)) r.1 ++ mulL R h (subI (List.replicate (2 ^ h) 0) (a.drop (2 ^ h))) r.1) (r.2 * ((g : Nat) : Int)).natAbs;rw [hk] at d1;have d3 : ((k : Nat) : Int) ∣ r.2 * ((g : Nat) : Int) := Int.ofNat_dvd_left.2 d1;obtain ⟨c, hc⟩ := d3;intro h0;have h1 : r.2 * ((g : Nat) : Int) / ((k : Nat) : Int) = 0 := h0
    by_cases hkz : ((k : Nat) : Int) = 0
    ·rw [hkz, Int.zero_mul] at hc
     exact hpg hc
    ·rw [hc, Int.mul_ediv_cancel_left _ hkz] at h1
     rw [h1, Int.mul_zero] at hc;exact hpg hc
end
theorem El.psi_zero (D : Nat -> Rat) : (h : Nat) -> El.psi D h (El.zero h : El Rat h) = El.zero h
 | 0 => rfl
 | h + 1 => by
  simp only [El.psi, El.zero, El.psi_zero D h, El.smul_zero];exact El.ext rfl rfl
theorem El.psi_one (D : Nat -> Rat) : (h : Nat) -> El.psi D h (El.one h : El Rat h) = El.one h
 | 0 => rfl
 | h + 1 => by
  simp only [El.psi, El.one, El.psi_one D h, El.psi_zero D h, El.smul_zero];exact El.ext rfl rfl
theorem El.psi_inj {D : Nat -> Rat} : (h : Nat) -> (∀ i, i < h -> D i ≠ 0) -> {a b : El Rat h} -> El.psi D h a = El.psi D h b -> a = b
 | 0, _, _, _, e => e
 | h + 1, hD, a, b, e => by
  have e1 : El.psi D h a.1 = El.psi D h b.1 := congrArg Prod.fst e;have e2 : El.smul h (D h) (El.psi D h a.2) = El.smul h (D h) (El.psi D h b.2) := congrArg Prod.snd e;have e3 := congrArg (El.smul h (D h)⁻¹) e2;rw [El.smul_smul, El.smul_smul, Rat.inv_mul_cancel _ (hD h (by omega)), El.smul_one, El.smul_one] at e3;exact El.ext (El.psi_inj h (fun i hi => hD i (by omega)) e1) (El.psi_inj h (fun i hi => hD i (by omega)) e3)
theorem toE_one (h : Nat) (k : Rat) : toE h (oneL h k) = El.smul h k (El.one h) := toE_const k h
theorem toE_smul {h : Nat} {a : List Rat} (ha : a.length = 2 ^ h) (k : Rat) : toE h (smulL k a) = El.smul h k (toE h a) := map_toE ha k
theorem castL_mulc (y : Int) (zs : List Int) : castL (zs.map (· * y)) = smulL ((y : Int) : Rat) (castL zs) := by
 unfold castL smulL;rw [List.map_map, List.map_map];refine List.map_congr_left fun z _ => ?_
 show ((z * y : Int) : Rat) = (y : Rat) * (z : Rat)
 rw [Rat.intCast_mul, Rat.mul_comm]
section
variable {ts : List (List Rat)} (ht : TowL ts) {qs : List Rat} (hq : qs.length = 2 ^ ts.length)
include ht
theorem RQ_len (i : Nat) : (RQ (radI (ringR ts).1) i).length = 2 ^ i := radI_ring_len ht i
theorem nums_len (hq : qs.length = 2 ^ ts.length) : (numsP (partL qs (ringR ts).2)).length = 2 ^ ts.length := by
 have g2 := (ringR_take ht ts.length (Nat.le_refl _)).2.1;rw [List.take_length] at g2;rw [numsP_len];unfold partL;rw [List.length_zipWith, hq, g2, Nat.min_self]
theorem psi_rq {a b : List Int} (ha : a.length = 2 ^ ts.length) (hb : b.length = 2 ^ ts.length) :
  El.psi (fun i => ((denK ts i : Int) : Rat)) ts.length (toE ts.length (mulL (RQ (radI (ringR ts).1)) ts.length (castL a) (castL b))) = El.mul (fun i => toE i (radQ ts i)) ts.length (El.psi (fun i => ((denK ts i : Int) : Rat)) ts.length (toE ts.length (castL a))) (El.psi (fun i => ((denK ts i : Int) : Rat)) ts.length (toE ts.length (castL b))) := by
 rw [<- castL_mulR];exact mul_psi ht (Nat.le_refl _) ha hb
theorem inv_join (hq : qs.length = 2 ^ ts.length) {r : List Int × Int} (hr : r.1.length = 2 ^ ts.length) (hp : r.2 ≠ 0)
  (hm : mulL (RQ (radI (ringR ts).1)) ts.length (castL r.1) (castL (numsP (partL qs (ringR ts).2))) = oneL ts.length ((r.2 : Int) : Rat)) :
  (List.zipWith (fun z f : Int => mkQ (z * f) r.2) (r.1.map (· * ((denP (partL qs (ringR ts).2) : Nat) : Int))) (ringR ts).2).length = 2 ^ ts.length /\
  mulL (radQ ts) ts.length (List.zipWith (fun z f : Int => mkQ (z * f) r.2) (r.1.map (· * ((denP (partL qs (ringR ts).2) : Nat) : Int))) (ringR ts).2) qs = oneL ts.length 1 := by
 obtain ⟨D, hD⟩ : ∃ D : Int, ((denP (partL qs (ringR ts).2) : Nat) : Int) = D := ⟨_, rfl⟩;have hD0 : D ≠ 0 := by have := denP_pos (partL qs (ringR ts).2); omega
 have hs := split_elem ht hq;rw [hD] at hs ⊢;have hf := fac_ring ts ts.length (Nat.le_refl _);rw [List.take_length] at hf;have hg := (ringR_take ht ts.length (Nat.le_refl _)).2.1;rw [List.take_length] at hg;have hlz : (r.1.map (· * D)).length = 2 ^ ts.length := by rw [List.length_map, hr]
 have hl : (timesL (castL (r.1.map (· * D))) (castL (ringR ts).2)).length = 2 ^ ts.length := timesL_len (by rw [castL_len, hlz]) (by rw [castL_len, hg]);rw [join_mean hp];refine ⟨by rw [List.length_map, hl], toE_inj mulL_len (oneL_len _ _) ?_⟩;rw [toE_mul (radQ_len ht) (by rw [List.length_map, hl]) hq, map_toE hl, hf, toE_fac _ (by rw [castL_len, hlz]), castL_mulc, toE_smul (by rw [castL_len, hr]), El.psi_smul]
 have h3 : toE ts.length qs = El.smul ts.length ((D : Rat)⁻¹) (El.psi (fun i => ((denK ts i : Int) : Rat)) ts.length (toE ts.length (castL (numsP (partL qs (ringR ts).2))))) := by
  rw [hs, El.smul_smul, Rat.inv_mul_cancel _ (int_ne hD0), El.smul_one]
 rw [h3, El.smul_mul, El.smul_mul, El.mul_smul, <- psi_rq ht hr (nums_len ht hq), hm, toE_one, El.psi_smul, El.psi_one, El.smul_smul, El.smul_smul, El.smul_smul, toE_one]
 congr 1
 have i1 := int_ne hD0;have i2 := int_ne hp
 grind
theorem inv_split (hq : qs.length = 2 ^ ts.length) {b : List Rat} (hb : b.length = 2 ^ ts.length) (hm : mulL (radQ ts) ts.length b qs = oneL ts.length 1) :
  ∃ c : List Rat, c.length = 2 ^ ts.length /\ mulL (RQ (radI (ringR ts).1)) ts.length c (castL (numsP (partL qs (ringR ts).2))) = oneL ts.length 1 := by
 have d1 := denP_pos (partL qs (ringR ts).2);have d2 := denP_pos (partL b (ringR ts).2);obtain ⟨D, hD⟩ : ∃ D : Int, ((denP (partL qs (ringR ts).2) : Nat) : Int) = D := ⟨_, rfl⟩;obtain ⟨E, hE⟩ : ∃ E : Int, ((denP (partL b (ringR ts).2) : Nat) : Int) = E := ⟨_, rfl⟩;have s1 := split_elem ht hq;have s2 := split_elem ht hb;rw [hD] at s1;rw [hE] at s2;have i1 : ((D : Int) : Rat) ≠ 0 := int_ne (by omega);have i2 : ((E : Int) : Rat) ≠ 0 := int_ne (by omega);have ln := nums_len ht hq;have lb := nums_len ht hb
 have hp : mulL (RQ (radI (ringR ts).1)) ts.length (castL (numsP (partL b (ringR ts).2))) (castL (numsP (partL qs (ringR ts).2))) = oneL ts.length ((E : Rat) * (D : Rat)) := by
  refine toE_inj mulL_len (oneL_len _ _) (El.psi_inj (D := fun i => ((denK ts i : Int) : Rat)) ts.length (fun i _ => int_ne (by have := denK_pos ts i; omega)) ?_);rw [psi_rq ht lb ln, s1, s2, El.smul_mul, El.mul_smul, <- toE_mul (radQ_len ht) hb hq, hm, toE_one, toE_one, El.psi_smul, El.psi_one, El.smul_one, El.smul_smul]
 refine ⟨smulL (((E : Rat) * (D : Rat))⁻¹) (castL (numsP (partL b (ringR ts).2))), by rw [smulL_len, castL_len, lb], ?_⟩;rw [smul_mulL (RQ_len ht) _ (by rw [castL_len, lb]) (by rw [castL_len, ln]), hp, smul_oneL, Rat.inv_mul_cancel _ (by grind)]
end
theorem mul_first_up {R : Nat -> List Rat} (hR : ∀ i, (R i).length = 2 ^ i) {h : Nat} {a : List Rat} (ha : a.length = 2 ^ h) : ∀ (j : Nat) {b : List Rat}, b.length = 2 ^ (h + j) -> (mulL R (h + j) b (a ++ List.replicate (2 ^ (h + j) - 2 ^ h) 0)).take (2 ^ h) = mulL R h (b.take (2 ^ h)) a
 | 0, b, hb => by
  rw [Nat.add_zero] at hb ⊢;rw [Nat.sub_self, List.replicate_zero, List.append_nil, List.take_of_length_le (Nat.le_of_eq mulL_len), List.take_of_length_le (Nat.le_of_eq hb)]
 | j + 1, b, hb => by
  have hle : 2 ^ h <= 2 ^ (h + j) := Nat.pow_le_pow_right (by omega) (by omega);have e2 : 2 ^ (h + (j + 1)) = 2 ^ (h + j) + 2 ^ (h + j) := two_pow_s (h + j)
  have e : a ++ List.replicate (2 ^ (h + (j + 1)) - 2 ^ h) (0 : Rat) = (a ++ List.replicate (2 ^ (h + j) - 2 ^ h) 0) ++ List.replicate (2 ^ (h + j)) 0 := by
   rw [List.append_assoc, List.replicate_append_replicate]
   congr 2
   omega
  have la : (a ++ List.replicate (2 ^ (h + j) - 2 ^ h) (0 : Rat)).length = 2 ^ (h + j) := by rw [List.length_append, List.length_replicate, ha]; omega
  have hb' : b.length = 2 ^ (h + j + 1) := hb;have h1 := mul_firstA hR hb' la;rw [e];have h2 := mul_first_up hR ha j (take_len hb');rw [List.take_take, Nat.min_eq_left hle] at h2;rw [<- h2, <- h1, List.take_take, Nat.min_eq_left hle]
  rfl
theorem oneL_up {h n : Nat} (hh : h <= n) (k : Rat) : oneL h k ++ List.replicate (2 ^ n - 2 ^ h) 0 = oneL n k := by
 have h1 := Nat.pow_pos (n := h) (show 0 < 2 by omega);have h2 : 2 ^ h <= 2 ^ n := Nat.pow_le_pow_right (by omega) hh;unfold oneL;rw [List.cons_append, List.replicate_append_replicate]
 congr 2
 omega
theorem low_list {h n : Nat} {qs : List Rat} (hq : qs.length = 2 ^ n) (hh : h <= n) (hz : zeroB (qs.drop (2 ^ h)) = true) : qs = qs.take (2 ^ h) ++ List.replicate (2 ^ n - 2 ^ h) 0 := by
 have e := zeroB_repl hz;rw [List.length_drop, hq] at e;rw [<- e, List.take_append_drop]
section
variable {ts : List (List Rat)} (ht : TowL ts) {qs : List Rat} {n h : Nat} (hn : ts.length = n) (hq : qs.length = 2 ^ n) (hh : h <= n) (hz : zeroB (qs.drop (2 ^ h)) = true)
include ht hn hq hh hz
theorem invT_right {os : List Rat} (ho : invT ts n h qs = some os) : os.length = 2 ^ n /\ mulL (radQ ts) n os qs = oneL n 1 := by
 have hle : 2 ^ h <= 2 ^ n := Nat.pow_le_pow_right (by omega) hh;have lt : (ts.take h).length = h := by rw [List.length_take, hn]; omega
 have tt := take_TowL ht h;have lq : (qs.take (2 ^ h)).length = 2 ^ (ts.take h).length := by rw [List.length_take, hq, lt]; omega
 rw [invT_eq] at ho;obtain ⟨r, hr⟩ : ∃ r, invL (radI (ringR (ts.take h)).1) h (numsP (partL (qs.take (2 ^ h)) (ringR (ts.take h)).2)) = r := ⟨_, rfl⟩;rw [hr] at ho;have ln := nums_len tt lq;rw [lt] at ln
 by_cases hp : r.2 = 0
 ·rw [if_pos hp] at ho
  cases ho
 ·rw [if_neg hp] at ho
  injection ho with ho
  have h1 := invL_right (RQ_len tt) h ln (by rw [hr]; exact hp);have h2 := (invL_len (radI (ringR (ts.take h)).1) h (numsP (partL (qs.take (2 ^ h)) (ringR (ts.take h)).2))).2 (by rw [hr]; exact hp);rw [hr] at h1 h2;obtain ⟨k1, k2⟩ := inv_join tt lq (r := r) (by rw [lt]; exact h2) hp (by rw [lt]; exact h1);rw [lt] at k1 k2;rw [mulL_congr (S := radQ ts) (fun i hi => radQ_take hi (by omega))] at k2;obtain ⟨j, rfl⟩ : ∃ j, n = h + j := ⟨n - h, by omega⟩;rw [lt] at lq;refine ⟨by rw [<- ho, List.length_append, k1, List.length_replicate]; omega, ?_⟩;have e := low_list hq hh hz;rw [<- ho]
  conv => lhs; arg 4; rw [e]
  rw [mulL_up (radQ_len ht) k1 lq j, k2, oneL_up (by omega)]
theorem invT_finds {b : List Rat} (hb : b.length = 2 ^ n) (hm : mulL (radQ ts) n b qs = oneL n 1) : invT ts n h qs ≠ Option.none := by
 have lt : (ts.take h).length = h := by rw [List.length_take, hn]; omega
 have hle : 2 ^ h <= 2 ^ n := Nat.pow_le_pow_right (by omega) hh;have tt := take_TowL ht h;have lq : (qs.take (2 ^ h)).length = 2 ^ (ts.take h).length := by rw [List.length_take, hq, lt]; omega
 have ln := nums_len tt lq;rw [lt] at ln;obtain ⟨j, rfl⟩ : ∃ j, n = h + j := ⟨n - h, by omega⟩;have lq' := lq;rw [lt] at lq';have e := low_list hq hh hz;have h1 := congrArg (List.take (2 ^ h)) hm
 conv at h1 => lhs; arg 2; arg 4; rw [e]
 rw [mul_first_up (radQ_len ht) lq' j hb, <- oneL_up (h := h) (by omega), take_app (oneL_len h 1)] at h1;rw [<- mulL_congr (R := radQ (ts.take h)) (fun i hi => radQ_take hi (by omega))] at h1;obtain ⟨c, c1, c2⟩ := inv_split tt lq (b := b.take (2 ^ h)) (by rw [List.length_take, hb, lt]; omega) (by rw [lt]; exact h1);rw [lt] at c1 c2;have h3 := invL_finds (RQ_len tt) h ln ⟨c, c1, c2⟩;rw [invT_eq, if_neg h3];exact fun h => by cases h
end
def nM (h m : Nat) : Nat := m + m + eF h + (2 ^ h + eF h)
def nX (h x : Nat) : Nat := x + x + eYq h + (1 + 2 ^ h + eYq h) + 1
def vB : Nat -> Nat -> Nat -> Nat × Nat
 | 0, m, x => (x, m)
 | h + 1, m, x => (m + (vB h (nM h m) (nX h x)).1 + eF (h + 1), x + (vB h (nM h m) (nX h x)).2 + eYq (h + 1))
theorem InM.neg {M X : Nat} {q : Rat} (h : InM M X q) : InM M X (-q) := by
 obtain ⟨z, rfl, h2⟩ := h;exact ⟨-z, by rw [Rat.mkRat_eq_div, Rat.mkRat_eq_div, Rat.intCast_neg, Rat.div_def, Rat.div_def, Rat.neg_mul], by rw [Int.natAbs_neg]; exact h2⟩
theorem InB.flip {m x h : Nat} {a : List Rat} (ha : a.length = 2 ^ (h + 1)) (i : InB m x a) : InB m x (flipL h a) := by
 obtain ⟨M, X, h1, h2, h3, h4⟩ := i;refine ⟨M, X, h1, fun q hq => ?_, h3, h4⟩;have l0 := take_len ha;have l1 := drop_len ha;rw [show flipL h a = a.take (2 ^ h) ++ negL (a.drop (2 ^ h)) by rw [<- flip_mid l0 (Nat.le_of_eq l1), List.take_append_drop]] at hq
 rcases List.mem_append.1 hq with hq | hq
 ·exact h2 q (List.mem_of_mem_take hq)
 ·unfold negL at hq
  obtain ⟨p, hp, rfl⟩ := List.mem_map.1 hq;exact (h2 p (List.mem_of_mem_drop hp)).neg
theorem InB.pad {m x k : Nat} {a : List Rat} (i : InB m x a) : InB m x (a ++ List.replicate k 0) := by
 obtain ⟨M, X, h1, h2, h3, h4⟩ := i;refine ⟨M, X, h1, fun q hq => ?_, h3, h4⟩
 rcases List.mem_append.1 hq with hq | hq
 ·exact h2 q hq
 ·rw [List.eq_of_mem_replicate hq]
  exact InM.zero
theorem InB.inv1 {m x : Nat} {q : Rat} (hq : q ≠ 0) (i : InB m x [q]) : InB x m [q⁻¹] := by
 obtain ⟨M, X, h1, h2, h3, h4⟩ := i;obtain ⟨z, hz, hzX⟩ := h2 q List.mem_cons_self
 have hz0 : z ≠ 0 := by
  intro h0;rw [h0, Rat.zero_mkRat] at hz;exact hq hz
 have hM := nat_ne h1;have hza : 0 < z.natAbs := by omega
 refine ⟨z.natAbs, M, hza, fun p hp => ?_, Nat.le_trans hzX h4, h3⟩;rw [List.mem_singleton.1 hp];have hzr := int_ne hz0
 rcases Int.natAbs_eq z with e | e
 ·refine ⟨(M : Int), ?_, by rw [Int.natAbs_natCast]; exact Nat.le_refl _⟩
  rw [hz, Rat.mkRat_eq_div, Rat.mkRat_eq_div, Rat.intCast_natCast];have e2 : ((z.natAbs : Nat) : Rat) = (z : Rat) := by rw [<- Rat.intCast_natCast, <- e]
  rw [e2]
  grind
 ·refine ⟨-(M : Int), ?_, by rw [Int.natAbs_neg, Int.natAbs_natCast]; exact Nat.le_refl _⟩
  rw [hz, Rat.mkRat_eq_div, Rat.mkRat_eq_div, Rat.intCast_neg, Rat.intCast_natCast]
  have e2 : ((z.natAbs : Nat) : Rat) = -(z : Rat) := by
   rw [<- Rat.intCast_natCast, <- Rat.intCast_neg]
   congr 1
   omega
  rw [e2]
  grind
section
variable {R : Nat -> List Rat} {Mr Xr : Nat -> Nat} (hR : RadB R Mr Xr)
include hR
theorem inv_size : ∀ (h : Nat) {a : List Rat} {m x : Nat}, a.length = 2 ^ h -> InB m x a -> (∃ b : List Rat, b.length = 2 ^ h /\ mulL R h b a = oneL h 1) -> ∃ b : List Rat, b.length = 2 ^ h /\ mulL R h b a = oneL h 1 /\ InB (vB h m x).1 (vB h m x).2 b
 | 0, a, m, x, ha, i, ⟨b, hb, he⟩ => by
  match a, ha, b, hb with
  | [q], _, [y], _ =>
   have he' : [y * q] = [(1 : Rat)] := he
   injection he' with h1 _
   have hq : q ≠ 0 := by
    intro h0;rw [h0, Rat.mul_zero] at h1;exact absurd h1 (by decide)
   refine ⟨[q⁻¹], rfl, ?_, i.inv1 hq⟩
   show [q⁻¹ * q] = [(1 : Rat)]
   rw [Rat.inv_mul_cancel _ hq]
 | h + 1, a, m, x, ha, i, ⟨b, hb, he⟩ => by
  have hn := congrArg (normQ R h) he;rw [norm_one hR.len, norm_mul hR.len hb ha] at hn;obtain ⟨c, c1, c2, c3⟩ := inv_size h (normQ_len) (InB.norm hR h i) ⟨normQ R h b, normQ_len, hn⟩;refine ⟨mulL R (h + 1) (flipL h a) (c ++ List.replicate (2 ^ h) 0), mulL_len, ?_, InB.mul hR (h + 1) (i.flip ha) c3.pad⟩;rw [conj_right hR.len ha c1, c2, oneL_app]
end
theorem inv_unique {R : Nat -> List Rat} (hR : ∀ i, (R i).length = 2 ^ i) {h : Nat} {a b c : List Rat} (ha : a.length = 2 ^ h) (hb : b.length = 2 ^ h) (hc : c.length = 2 ^ h) (h1 : mulL R h b a = oneL h 1) (h2 : mulL R h c a = oneL h 1) : b = c := by
 have e1 : mulL R h (oneL h 1) c = c := one_mulL hR hc;have e2 : mulL R h (oneL h 1) b = b := one_mulL hR hb;rw [<- e2, <- h2, mulL_assoc hR hc ha hb, mulL_comm hR ha hb, h1, mulL_comm hR hc (oneL_len h 1), e1]
theorem norm_inv {R : Nat -> List Rat} (hR : ∀ i, (R i).length = 2 ^ i) {h : Nat} {a c : List Rat} (ha : a.length = 2 ^ (h + 1)) (hc : c.length = 2 ^ h) (h1 : mulL R h c (normQ R h a) = oneL h 1) : ∃ b : List Rat, b.length = 2 ^ (h + 1) /\ mulL R (h + 1) b a = oneL (h + 1) 1 :=
 ⟨_, mulL_len, by rw [conj_right hR ha hc, h1, oneL_app]⟩
theorem vB_few : ∀ n, n < 5 -> (vB n (2 ^ n) (1 + 2 ^ n)).1 <= 1448 /\ (vB n (2 ^ n) (1 + 2 ^ n)).2 <= 1448 := by
 intro n hn
 match n, hn with
 | 0, _ => decide
 | 1, _ => decide
 | 2, _ => decide
 | 3, _ => decide
 | 4, _ => decide
end
section
open Go.RowKit
attribute [local go_sem ↓] Go.wp_at_zero Go.wp_at_succ
instance decOkI : (h e : Nat) -> Decidable (okI h e)
 | 0, e => inferInstanceAs (Decidable (4 * e + 1 <= 29000))
 | h + 1, e =>
  have := decOkI h (e + e + eV (h + 1))
  inferInstanceAs (Decidable ((4 * iP (h + 1) e + 10 <= 29000 /\ 4 * iE (h + 1) e + 10 <= 29000) /\ okI h (e + e + eV (h + 1))))
theorem okInv_of {n u v : Nat} (h : (List.range (n + 1)).all (fun h => decide (okI h (u + (v + eF h)) /\ 4 * iE h (u + (v + eF h)) + 4 * (v + eF h) + 160 <= 29000 /\ 4 * iP h (u + (v + eF h)) <= 29000)) = true) : okInv n u v := fun k hk =>
 of_decide_eq_true (List.all_eq_true.1 h k (List.mem_range.2 (by omega)))
theorem ok_few : ∀ n, n < 5 -> okInv n 1 (2 ^ n) := by
 intro n hn
 match n, hn with
 | 0, _ => exact okInv_of (by decide +kernel)
 | 1, _ => exact okInv_of (by decide +kernel)
 | 2, _ => exact okInv_of (by decide +kernel)
 | 3, _ => exact okInv_of (by decide +kernel)
 | 4, _ => exact okInv_of (by decide +kernel)
theorem ok_norm : ∀ h, h < 4 -> okInv h (nX h (1 + 2 ^ (h + 1))) (nM h (2 ^ (h + 1))) := by
 intro n hn
 match n, hn with
 | 0, _ => exact okInv_of (by decide +kernel)
 | 1, _ => exact okInv_of (by decide +kernel)
 | 2, _ => exact okInv_of (by decide +kernel)
 | 3, _ => exact okInv_of (by decide +kernel)
theorem one_small (n : Nat) : ∀ q ∈ oneL n 1, q.num.natAbs < 4294967296 ^ 2 /\ q.den < 4294967296 ^ 2 := by
 intro q hq;unfold oneL at hq
 rcases List.mem_cons.1 hq with rfl | hq
 ·exact ⟨by decide +kernel, by decide +kernel⟩
 ·rw [List.eq_of_mem_replicate hq]
  exact ⟨by decide +kernel, by decide +kernel⟩
theorem inv_zero {ts : List (List Rat)} (ht : TowL ts) (hn : ts.length = 0) {qs : List Rat} (hq : qs.length = 2 ^ 0) {h : Nat} (hh : h <= 0) (hz : zeroB (qs.drop (2 ^ h)) = true) (ho : invT ts 0 h qs = Option.none) : zeroB qs = true := by
 match qs, hq with
 | [q], _ =>
  by_cases h0 : q = 0
  ·rw [h0]; rfl
  ·refine absurd ho (invT_finds ht hn rfl hh hz (b := [q⁻¹]) rfl ?_)
   show [q⁻¹ * q] = [(1 : Rat)]
   rw [Rat.inv_mul_cancel _ h0]
theorem inv_norm {ts : List (List Rat)} (ht : TowL ts) {n k : Nat} (hn : ts.length = n) (hk : n = k + 1) {qs : List Rat} (hq : qs.length = 2 ^ n) {h h' : Nat} (hh : h <= n) (hz : zeroB (qs.drop (2 ^ h)) = true) (ho : invT ts n h qs = Option.none) (hh' : h' <= k) (hz' : zeroB ((normQ (radQ ts) k qs).drop (2 ^ h')) = true) : invT (ts.take k) k h' (normQ (radQ ts) k qs) = Option.none := by
 cases h1 : invT (ts.take k) k h' (normQ (radQ ts) k qs) with
 | none => rfl
 | some os =>
  exfalso
  obtain ⟨k1, k2⟩ := invT_right (take_TowL ht k) (by rw [List.length_take, hn]; omega) normQ_len hh' hz' h1;rw [mulL_congr (S := radQ ts) (fun i hi => radQ_take hi (by omega))] at k2;subst hk;obtain ⟨b, b1, b2⟩ := norm_inv (radQ_len ht) hq k1 k2;exact invT_finds ht hn hq hh hz b1 b2 ho
theorem p_InvN {w : World} {A B : Option Addr} {n c m d L u v : Nat} {ts : List (List Rat)} {qs : List Rat} (hp : PolT w A n c ts 4) (ht : TowL ts) (hs : ∀ r ∈ ts, ∀ q ∈ r, SmQ q) (hn4 : n <= 4) (ha : Pol w B m d qs L) (hm : m = 2 ^ n) (hL : L <= 400) (hqs : BdQ u v qs) (hok : okInv n u v) (hT : Tab w)
  (hno : ∀ h', h' <= n -> zeroB (qs.drop (2 ^ h')) = true -> invT ts n h' qs = Option.none) :
  Calls Tryz.prog 26 #[.slice A n c, .slice B m d] w (fun e w' => e = .returned (.tuple #[.slice Option.none 0 0, .int .i64 6]) /\ Ext w w') := by
 refine (p_InvT hp ht hs hn4 ha hm hL hqs hok hT).mono ?_;rintro e V ⟨h9, hh9, hz9, _, hret⟩;rw [hno h9 hh9 hz9] at hret;exact hret
set_option maxRecDepth 100000 in
theorem inverse6_any {w : World} {A A1 A2 A3 : Option Addr} {n c n1 c1 n2 c2 n3 c3 : Nat} {ts : List (List RawR)} {r1 r2 r3 : List RawR} (hA : Awake6) (hT : Tab w) (h : RawT w A n c ts) (h1 : RawP w A1 n1 c1 r1) (h2 : RawP w A2 n2 c2 r2) (h3 : RawP w A3 n3 c3 r3) :
  Calls Tryz.prog 7 #[.agg #[.slice A n c, .slice A1 n1 c1, .slice A2 n2 c2, .slice A3 n3 c3]] w (fun e w' => e = .returned (.bool true) /\ Ext w w') := by
 go_enter Tryz.func7, Tryz.ntmps7
 go_upto_region 1 with (fail)
 obtain ⟨W, hW, EW, bx, hz⟩ := box1 w 25 #[.slice A n c, .slice A1 n1 c1, .slice A2 n2 c2, .slice A3 n3 c3];rw [<- hW];clear hW hz;have HA := Lib.hid hA;clear hA
 go_wp2_with fail
 refine (HA.out _ (hT.ext EW)).mono ?_;rintro e V1 ⟨rfl, hx⟩;replace bx := bx.ext hx;replace EW := EW.trans hx;clear hx;have x0 := bx.cell 0 (.slice A n c) rfl;have x1 := bx.cell 1 (.slice A1 n1 c1) rfl;have x2 := bx.cell 2 (.slice A2 n2 c2) rfl;have x3 := bx.cell 3 (.slice A3 n3 c3) rfl
 go_wp2_with fail
 refine (p_rightL (h.ext EW) (h1.ext EW) (h2.ext EW) (h3.ext EW)).mono ?_;rintro e V2 ⟨rfl, hx⟩;replace bx := bx.ext hx;replace EW := EW.trans hx;clear hx x0 x1 x2 x3
 cases hrb : rightB ts r1 r2 r3 with
 | false =>
  go_wp2_with fail
  refine (HA.out _ (hT.ext EW)).mono ?_;rintro e V3 ⟨rfl, hx⟩
  go_wp2_with fail
  go_ret
  exact ⟨rfl, EW.trans hx⟩
 | true =>
  obtain ⟨T, qa, qb, qc, hp, ht, hn4, ⟨ha, ha2⟩, ⟨hb, hb2⟩, ⟨hc, hc2⟩⟩ := right_bundle h h1 h2 h3 hrb;have HN1 := Lib.hid ha2;have HN2 := Lib.hid hb2;have HN3 := Lib.hid hc2;have hm1 : n1 <= 16 := by rw [ha2]; exact (m_few n (by omega)).2.2.2.2.2.2
  have hm2 : n2 <= 16 := by rw [hb2]; exact (m_few n (by omega)).2.2.2.2.2.2
  have hm3 : n3 <= 16 := by rw [hc2]; exact (m_few n (by omega)).2.2.2.2.2.2
  replace hp := hp.ext EW;replace ha := ha.ext EW;replace hb := hb.ext EW;replace hc := hc.ext EW;clear h h1 h2 h3 hrb ha2 hb2 hc2;clear hb hc HN2 HN3 hm2 hm3;have x0 := bx.cell 0 (.slice A n c) rfl;have x1 := bx.cell 1 (.slice A1 n1 c1) rfl;have HQA := Lib.hid (show qa.length = 2 ^ n by rw [ha.len, HN1.out]);have HSM := Lib.hid hp.sm;have HPL := Lib.hid hp.len;have hcap := hp.cap
  go_wp2_with fail
  refine (p_InvT (u := 1) (v := 2 ^ n) hp ht HSM.out hn4 ha HN1.out (by omega) (BdQ.sm ha.sm (Nat.le_of_eq HQA.out)) (ok_few n (by omega)) (hT.ext EW)).mono ?_;rintro e V3 ⟨hA9, hhA, hzA, _, hret⟩;have HZA := Lib.hid (And.intro hhA hzA);clear hhA hzA x0 x1;have HRB := Lib.hid (rad_few hp ht);have IA := Lib.hid (InB.few ha.sm HQA.out)
  cases ho : invT T n hA9 qa with
  | some os =>
   rw [ho] at hret;obtain ⟨A4, c4, rfl, po, hx⟩ := hret;replace bx := bx.ext hx;replace hp := hp.ext hx;replace ha := ha.ext hx;replace EW := EW.trans hx;clear hx;obtain ⟨lo, mo⟩ := invT_right ht HPL.out HQA.out HZA.out.1 HZA.out.2 ho;obtain ⟨b, lb, mb, ib⟩ := inv_size HRB.out n HQA.out IA.out ⟨os, lo, mo⟩;obtain rfl : os = b := inv_unique HRB.out.len HQA.out lo lb mo mb;have HVB := Lib.hid (And.intro (vB_few n (by omega)) (m_few n (by omega)).2.2.2.2.2.2);obtain ⟨S, hS1, hS2⟩ : ∃ S : Nat, 5793 <= S /\ S <= 5800 := ⟨5800, by omega, by omega⟩;replace po := po.tightG (M := S) (ib.words (by have := HVB.out; omega) (by have := HVB.out; omega));have IQ := Lib.hid ib;have HMO := Lib.hid mo;clear ho lo mo lb mb ib
   go_upto_region 5 with (fail)
   have ES0 := Ext.refl V3;refine wp_region_held_drew (S := Ext V3) (by kernel_rfl) ES0.drew (fun ES => ?_);clear ES0;refine Late.s0 ES (fun hAl hQ => ?_);refine Late.u 0 25 hQ ?_
   try simp only [zP]
   refine Late.u 2 27 hQ ?_
   try simp only [zP]
   refine Late.u 3 28 hQ ?_
   try simp only [zP]
   refine Late.u 6 31 hQ ?_
   try simp only [zP]
   refine Late.t 1 26 ?v_4 hQ ?y_4 ?_
   case y_4 => intro w' hSw;have k00 := (bx.ext hSw).c4;go_simp;try rfl
   try simp only [zP]
   refine Late.t 4 29 ?v_5 hQ ?y_5 ?_
   case y_5 => intro w' hSw;have k00 := (bx.ext hSw).c4;go_simp;try rfl
   try simp only [zP]
   refine Late.t 7 32 ?v_6 hQ ?y_6 ?_
   case y_6 => intro w' hSw;have k00 := (bx.ext hSw).c4;go_simp;try rfl
   try simp only [zP]
   refine Late.cl (i := 5) rfl hAl hQ (fun w5 e5 E5 K hK => ?_);go_simp
   (go_at_call 23; refine (p_MulT (L := S) (M := 4) (hp.ext E5) ht HSM.out hn4 (po.ext E5) HN1.out (ha.ext E5) HN1.out (by omega) (by omega) (by omega) IQ.out.bd IA.out.bd (by have := HVB.out; omega) (hT.ext (EW.trans E5))).mono ?_; rintro e wk5 ⟨A5, n5, c5, rfl, pm, hx5⟩; rw [HMO.out] at pm; replace pm := pm.tightG (one_small n))
   refine hK.out _ _ hx5 ?_;clear hK K
   try simp only [zP]
   refine Late.cl (i := 8) rfl hAl hQ (fun w8 e8 E8 K hK => ?_);go_simp
   (replace pm := pm.ext e8; go_at_call 40; refine (q_FromIntR 1 (by omega) (by omega)).mono ?_; rintro e wk8 ⟨s20, A20, m20, c20, t20, B20, l20, d20, rfl, q1, hx8⟩; replace pm := pm.ext hx8)
   refine hK.out _ _ hx8 ?_;clear hK K
   try simp only [zP]
   refine Late.cl (i := 9) rfl hAl hQ (fun w9 e9 E9 K hK => ?_);go_simp
   (replace pm := pm.ext e9; replace q1 := q1.ext e9; go_at_call 20; refine (q_FromRatT (T := A) (n := n) (ct := c) q1 (by omega) (by omega)).mono ?_; rintro e wk9 ⟨A6, n6, c6, rfl, pr, hx9⟩; replace pm := pm.ext hx9; replace q1 := q1.ext hx9)
   refine hK.out _ _ hx9 ?_;clear hK K
   try simp only [zP]
   refine Late.cl (i := 10) rfl hAl hQ (fun w10 e10 E10 K hK => ?_);go_simp
   (replace pm := pm.ext e10; replace q1 := q1.ext e10; replace pr := pr.ext e10; go_at_call 19; refine (q_SameE pm pr rfl (by omega) (by omega) (by have := pm.len; rw [oneL_len] at this; have := HN1.out; omega)).mono ?_; rintro e wk10 ⟨rfl, hx10⟩; replace pm := pm.ext hx10; replace q1 := q1.ext hx10; replace pr := pr.ext hx10)
   refine hK.out _ _ hx10 ?_;clear hK K
   try simp only [zP]
   refine Late.u 11 2 hQ ?_
   try simp only [zP]
   refine Late.d0 (fun wz ez Ez => ?_);clear hAl hQ ES
   go_wp2_with fail
   go_ret
   exact ⟨rfl, EW.trans Ez⟩
  | none =>
   rw [ho] at hret;obtain ⟨rfl, hx⟩ := hret;replace bx := bx.ext hx;replace hp := hp.ext hx;replace ha := ha.ext hx;replace EW := EW.trans hx;clear hx;have HO := Lib.hid ho;clear ho;have x0 := bx.cell 0 (.slice A n c) rfl
   by_cases h0 : n = 0
   ·subst h0
    have HZ0 := Lib.hid (inv_zero ht HPL.out HQA.out HZA.out.1 HZA.out.2 HO.out);have x1 := bx.cell 1 (.slice A1 n1 c1) rfl
    go_wp2_with fail
    refine (p_ZeroT ha (by omega) (by omega)).mono ?_;rintro e V4 ⟨rfl, hx⟩;rw [HZ0.out]
    go_wp2_with fail
    go_ret
    exact ⟨rfl, EW.trans hx⟩
   ·have g1 : ((n : Int) == 0) = false := beq_eq_false_iff_ne.2 (by omega)
    obtain ⟨h, hh_⟩ : ∃ h, n = h + 1 := ⟨n - 1, by omega⟩;have HH := Lib.hid hh_;clear hh_;have hw1 : IntKind.i64.wrap ((n : Int) - 1) = (h : Int) := by rw [IntWalk.i64_in _ (by omega)]; have := HH.out; omega
    have hw2 : wrap64 ((n : Int) - 1) = (h : Int) := by have := HH.out; unfold wrap64; omega
    have i1 : (h : Int) <= (c : Int) := by have := HH.out; omega
    have i2 : (h : Int) <= (n : Int) := by have := HH.out; omega
    have HNB := Lib.hid (show InB (nM h (2 ^ (h + 1))) (nX h (1 + 2 ^ (h + 1))) (normQ (radQ T) h qa) from by
     have := InB.norm HRB.out h IA.out;rw [HH.out] at this;exact this)
    clear h0
    go_upto_region 8 with (fail)
    clear x0;have ES0 := Ext.refl V3;refine wp_region_held_drew (S := Ext V3) (by kernel_rfl) ES0.drew (fun ES => ?_);clear ES0;refine Late.s0 ES (fun hAl hQ => ?_);refine Late.u 0 44 hQ ?_
    try simp only [zP]
    refine Late.u 2 46 hQ ?_
    try simp only [zP]
    refine Late.u 7 51 hQ ?_
    try simp only [zP]
    refine Late.u 9 53 hQ ?_
    try simp only [zP]
    refine Late.t 1 45 ?v_c hQ ?y_c ?_
    case y_c => intro w' hSw;have k00 := (bx.ext hSw).c4;go_simp;try rfl
    try simp only [zP]
    refine Late.t 3 47 ?v_d hQ ?y_d ?_
    case y_d => intro w' hSw;have k00 := (bx.ext hSw).c4;go_simp;try rfl
    try simp only [zP]
    refine Late.t 8 52 ?v_e hQ ?y_e ?_
    case y_e => intro w' hSw;have k00 := (bx.ext hSw).c4;go_simp;try rfl
    try simp only [zP]
    refine Late.t 10 54 ?v_f hQ ?y_f ?_
    case y_f => intro w' hSw;have k00 := (bx.ext hSw).c4;go_simp;try rfl
    try simp only [zP]
    refine Late.u 4 48 hQ ?_
    try simp only [zP]
    refine Late.u 5 49 hQ ?_
    try simp only [zP]
    refine Late.u 6 50 hQ ?_
    try simp only [zP]
    refine Late.cl (i := 11) rfl hAl hQ (fun w11 e11 E11 K hK => ?_);go_simp
    (go_at_call 29; refine (p_NormA (hp.ext E11) ht HH.out hn4 (ha.ext E11) HN1.out (hT.ext (EW.trans E11))).mono ?_; rintro e wk11 ⟨A7, c7, rfl, pn, hx11⟩)
    refine hK.out _ _ hx11 ?_;clear hK K
    try simp only [zP]
    refine Late.cl (i := 12) rfl hAl hQ (fun w12 e12 E12 K hK => ?_);go_simp
    (replace pn := pn.ext e12; go_at_call 26; refine (p_InvN (n := h) (u := nX h (1 + 2 ^ (h + 1))) (v := nM h (2 ^ (h + 1))) ((hp.take (by have := HH.out; omega)).ext E12) (take_TowL ht h) (fun r hr => HSM.out r (List.mem_of_mem_take hr)) (by have := HH.out; omega) pn rfl (by omega) HNB.out.bd (ok_norm h (by have := HH.out; omega)) (hT.ext (EW.trans E12)) (fun h9 hh9 hz9 => inv_norm ht HPL.out HH.out HQA.out HZA.out.1 HZA.out.2 HO.out hh9 hz9)).mono ?_; rintro e wk12 ⟨rfl, hx12⟩; replace pn := pn.ext hx12)
    refine hK.out _ _ hx12 ?_;clear hK K
    try simp only [zP]
    refine Late.u 13 43 hQ ?_
    try simp only [zP]
    refine Late.u 14 57 hQ ?_
    try simp only [zP]
    refine Late.u 15 58 hQ ?_
    try simp only [zP]
    refine Late.u 16 5 hQ ?_
    try simp only [zP]
    refine Late.u 17 6 hQ ?_
    try simp only [zP]
    refine Late.d0 (fun wz ez Ez => ?_);clear hAl hQ ES
    go_wp2_with fail
    go_ret
    exact ⟨rfl, EW.trans Ez⟩
end
section
open Go.ChangeShapes Go.WideShapes Go.ChangeAt Go.RowKit Go.Joins
set_option maxRecDepth 100000
theorem inverse6_lifted (os : Os) (started : os.Started) (H : Type) (enc : TypeId × Value -> H) :
  ReturnsInHanded {} Tryz.checked os 7 .any (fun w args => (Rows.towerInverseSpec.pre enc Tryz.prog Tryz.f7 [] false w args /\ laidMetH Tryz.prog laidI w) /\ sizedMet enc Tryz.prog Tryz.f7 (OpenSpec.ofChange Rows.towerInverseSpec) false w args)
   (Rows.towerInverseSpec.post enc Tryz.prog Tryz.f7 false true false false) := by
 refine returnsInHanded_of_change_and (C := Tryz.checked) (X := fun w _ => laidMetH Tryz.prog laidI w) (fun _ _ _ hh h => h.of_heap hh) Tryz.own started (by kernel_rfl) Tryz.func7
  (ChangeSpec.witness_shaped (enc := enc) (C := Tryz.checked) (os := os) (X := fun w _ => laidMetH Tryz.prog laidI w) false (World.doorLaid Tryz.prog 400 os) #[Value.agg #[Value.slice none 0 0, Value.slice none 0 0, Value.slice none 0 0, Value.slice none 0 0]] 8 rfl (World.shaped_of_RefB (by kernel_rfl) (by kernel_rfl)) (by kernel_rfl) (by kernel_rfl) (by kernel_rfl) (doorI_met os _)) ?_
 intro W base args ds gs before hval0 hW _ _ hL _;have hval : ∀ (j : Nat) t v, Tryz.f7.params[j]? = some t -> args[j]? = some v -> Value.okWide Tryz.prog W .any base t v := hval0;have hW' := hW;have hlt : ∀ p ∈ before, p.block < W.heap.size := fun p hp => hW.lt p hp
 obtain ⟨p, q, hA0, hV, rfl, _, _⟩ := hW;have hA : DataW.TrodAll enc Tryz.prog W 0 (fun _ => true) true Tryz.f7.params.toList args.toList ds p := hA0;rw [Tryz.params7] at hA hval;obtain ⟨v0, d0, rfl, rfl, h0⟩ := trodAll_one hA;obtain ⟨rfl, rfl⟩ := trodVars_none hV;simp only [List.append_nil] at hW' hlt;obtain ⟨A, n, c, A1, n1, c1, A2, n2, c2, A3, n3, c3, ts, r1, r2, r3, rfl, hr0, hr1, hr2, hr3⟩ := open_case (hval 0 25 v0 rfl rfl) h0;clear hA0 hval0;have hT := tab_of_laidH hL;refine (inverse6_any awake6 hT hr0 hr1 hr2 hr3).mono fun e W' ⟨he, hext⟩ => ?_
 subst he;have hb : Below W.heap.size W W' := hext;have g0 := Below.trod Tryz.laidOut (by kernel_rfl) (of_decide_eq_true (by kernel_rfl)) h0 hb (fun p hp => hlt p hp);exact ⟨_, rfl, _, _, _, [], p, [], hW', trodAll_mk1 (shut_bool Tryz.underlying4 true), trodAll_mk1 g0, rfl, Below.frame hb _, fun h => by cases h⟩
theorem inverse6_row_holds : Rows.TowerInverseSaid :=
 OpenClaim.holds_of_wide 7 Tryz.f7 rfl rfl rfl rfl rfl rfl rfl ⟨rfl, rfl, rfl, rfl, rfl⟩ rfl rfl rfl rfl rfl (by kernel_rfl) Tryz.func7 (by kernel_rfl)
  (of_decide_eq_true (by kernel_rfl)) (by unfold Func.isWrapper; first | (rw [if_neg (of_decide_eq_false (by kernel_rfl))]; exact ⟨rfl, rfl⟩) | (rw [if_pos (by decide +kernel)]; kernel_rfl))
  (fun os started H enc _ => inverse6_lifted os started H enc)
theorem inverse6_holds : Rows.TowerInverseCardSaid :=
 Claim7.holds_tied_plain_at .later [] [.data] true Rows.towerInverseCard.stood.harness false
  inverse6_row_holds (fun _ h => by cases h) (by kernel_rfl) (fun _ h => by cases h) towerInverse_row_tie rfl ⟨rfl, rfl⟩ (by kernel_rfl) rfl
  (fun f fn hf hfn => by
   obtain rfl : f = 7 := Option.some.inj ((show Tryz.prog.funcNamed "setsquare/setsquarelaw06.TowerInverse" = some 7 by kernel_rfl).symm.trans hf) |>.symm;obtain rfl : fn = Tryz.f7 := (Option.some.inj (Tryz.func7.symm.trans hfn)).symm
   exact ⟨by kernel_rfl, fun j t ht => by
    rw [Tryz.params7] at ht;have hm : t ∈ [25] := by simpa using Array.mem_of_getElem? ht
    have hall : ([25].all fun u => !Tryz.prog.wantsStandIn u) = true := by kernel_rfl
    exact (show Tryz.prog.wantsStandIn t = false by simpa using List.all_eq_true.1 hall t hm)⟩)
  (by kernel_rfl)
end
end Go.Proofs.YtgagcochepnelaaGreatDoor
