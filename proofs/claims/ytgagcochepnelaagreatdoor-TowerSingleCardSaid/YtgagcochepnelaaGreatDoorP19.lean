/- For every tower with three elements and every number of a radicand the law TowerSingle returns true: Neg, Inv, Norm, Conjugate and Root have the specified results, which are empty, or errors, for what is not formed or does not exist, and the examples of the chapter hold. Condition: the table math/bits.deBruijn64tab holds what its initialiser lays (tied by the given card). -/
import Derived.Test.YtgagcochepnelaaGreatDoorP18
set_option linter.unusedSimpArgs false
set_option linter.unusedVariables false
set_option maxHeartbeats 64000000
namespace Go.Proofs.YtgagcochepnelaaGreatDoor
section
open Go.RowKit
section
variable {K : Type} [Add K] [Mul K] [Neg K] [OfNat K 0] [OfNat K 1] [RingK K]
theorem El.neg_smul : (h : Nat) -> (a : El K h) -> El.neg h a = El.smul h (-1) a
 | 0,a => by
  have h : ∀ x : K,-x = (-1 : K) * x := fun x => RingK.neg_one (K := K) x
  exact h a
 | h + 1,a => El.ext (El.neg_smul h a.1) (El.neg_smul h a.2)
end
end
section
open Go.RowKit
attribute [local go_sem ↓] Go.wp_at_zero Go.wp_at_succ
section
variable {w w' : World} {A A1 A2 A3 : Option Addr} {n c n1 c1 n2 c2 n3 c3 L : Nat} {qs : List Rat} {ts : List (List RawR)} {r1 r2 r3 : List RawR}
theorem NR.sm {q : Rat} {s t : Bool} {B : Option Addr} {m d : Nat} (h : NR w q 4 s A n c t B m d) : SmQ q := ⟨h.num.le_pow,by have := h.den.le_pow;rw [Int.natAbs_natCast] at this;exact this⟩
theorem Pol.sm (h : Pol w A n c qs 4) : ∀ q ∈ qs,SmQ q := by
 intro q hq;obtain ⟨i,hi,rfl⟩ := List.getElem_of_mem hq;obtain ⟨b,off,_,h2⟩ := h.at_ (fun e => by subst e;exact absurd hi (Nat.not_lt_zero _));obtain ⟨_,_,_,_,_,_,_,_,_,_,_,_,hx⟩ := h2.at_ i hi;exact hx.sm
theorem PolT.sm {T : List (List Rat)} (h : PolT w A n c T 4) : ∀ r ∈ T,∀ q ∈ r,SmQ q := by
 intro r hr;obtain ⟨i,hi,rfl⟩ := List.getElem_of_mem hr;obtain ⟨b,off,_,h2⟩ := h.at_ (fun e => by subst e;exact absurd hi (Nat.not_lt_zero _));obtain ⟨_,_,_,_,hp⟩ := h2 i hi;exact hp.sm
theorem formed_bundle (h : RawT w A n c ts) (h1 : RawP w A1 n1 c1 r1) (hf : formedB ts [r1] = true) (l4 : ∀ l ∈ ts,l.all (fun r => r.le L) = true) (k4 : r1.all (fun r => r.le L) = true) :
  PolT w A n c (ts.map fun l => l.map RawR.q) L /\ TowL (ts.map fun l => l.map RawR.q) /\ Pol w A1 n1 c1 (r1.map RawR.q) L /\ n1 = 2 ^ n := by
 unfold formedB at hf;rw [Bool.and_eq_true] at hf;obtain ⟨f1,f2⟩ := hf;have f3:=towerB_at ts 0 f1;simp only [List.all_cons,List.all_nil,Bool.and_true] at f2;obtain ⟨g1,g2⟩ := validL_parts f2;refine ⟨h.polT (fun l hl => ?_) l4,fun i hi => ?_,h1.polV g2 k4,?_⟩
 ·obtain ⟨i,hi,rfl⟩ := List.getElem_of_mem hl
  exact (validL_parts (f3 i hi)).2
 ·rw [List.length_map] at hi
  rw [List.getElem_map,List.length_map,(validL_parts (f3 i hi)).1,Nat.zero_add]
 ·rw [<- h1.len,g1,h.len]
end
def eYq : Nat -> Nat
 | 0 => 0
 | h + 1 => eYq h + eYq h + 2 ^ h + 2
theorem eF_le : ∀ h,eF h <= eYq h
 | 0 => Nat.le_refl _
 | h + 1 => by
  have := eF_le h
  show eF h + (2 ^ h + eF h) <= eYq h + eYq h + 2 ^ h + 2
  omega
theorem in_few {qs : List Rat} (h : ∀ q ∈ qs,SmQ q) : 0 < prodD qs /\ prodD qs <= W4 ^ qs.length /\ AllM (prodD qs) (W4 * prodD qs) qs := by
 obtain ⟨h1,h2⟩ := prodD_le h;refine ⟨h1,h2,fun q hq => ?_⟩;obtain ⟨k,hk⟩ := prodD_dvd q hq;have h3 : k <= prodD qs := by rw [hk];exact Nat.le_mul_of_pos_left _ q.den_pos
 refine ⟨q.num * (k : Int),?_,?_⟩
 ·have h4 : 0 < k := by
   rcases Nat.eq_zero_or_pos k with h0 | h0
   ·rw [h0,Nat.mul_zero] at hk;omega
   ·exact h0
  have h5:=nat_ne h4;have h6:=nat_ne q.den_pos;have h7:=rat_quo q;rw [Rat.intCast_natCast] at h7;rw [hk,Rat.mkRat_eq_div,Rat.intCast_mul,Rat.natCast_mul,Rat.intCast_natCast]
  conv => lhs;rw [h7]
  grind
 ·rw [Int.natAbs_mul,Int.natAbs_natCast]
  exact Nat.mul_le_mul (h q hq).1 h3
theorem pr_bd {Mr Xr : Nat -> Nat} {n : Nat} (hM : ∀ i,i < n -> Mr i <= W4 ^ 2 ^ i) (hX : ∀ i,i < n -> Xr i <= W4 ^ (1 + 2 ^ i)) : ∀ h,h <= n -> prQ Mr h <= W4 ^ eF h /\ prY Mr Xr h <= W4 ^ eYq h
 | 0,_ => ⟨Nat.le_refl _,Nat.le_refl _⟩
 | h + 1,hh => by
  obtain ⟨i1,i2⟩ := pr_bd hM hX h (by omega);have hm:=hM h (by omega);have hx:=hX h (by omega);have hq : Mr h * prQ Mr h <= W4 ^ (2 ^ h + eF h) := by rw [Nat.pow_add];exact Nat.mul_le_mul hm i1
  constructor
  ·show prQ Mr h * (Mr h * prQ Mr h) <= W4 ^ (eF h + (2 ^ h + eF h))
   rw [Nat.pow_add];exact Nat.mul_le_mul i1 hq
  ·have e:=eF_le h
   have a1 : prY Mr Xr h * (Mr h * prQ Mr h) <= W4 ^ (eYq h + eYq h + 2 ^ h + 1) := by
    refine Nat.le_trans (Nat.mul_le_mul i2 hq) ?_;rw [<- Nat.pow_add];exact Nat.pow_le_pow_right W4_pos (by omega)
   have a2 : prY Mr Xr h * (Xr h * prY Mr Xr h) <= W4 ^ (eYq h + eYq h + 2 ^ h + 1) := by
    refine Nat.le_trans (Nat.mul_le_mul i2 (Nat.mul_le_mul hx i2)) ?_;rw [<- Nat.pow_add,<- Nat.pow_add];exact Nat.pow_le_pow_right W4_pos (by omega)
   show prY Mr Xr h * (Mr h * prQ Mr h) + prY Mr Xr h * (Mr h * prQ Mr h) + prY Mr Xr h * (Xr h * prY Mr Xr h) <= W4 ^ (eYq h + eYq h + 2 ^ h + 1 + 1)
   rw [Nat.pow_succ W4 (eYq h + eYq h + 2 ^ h + 1)];generalize W4 ^ (eYq h + eYq h + 2 ^ h + 1) = p at a1 a2;have h4 : p * 3 <= p * W4 := Nat.mul_le_mul_left _ (by decide +kernel);omega
theorem p_ConjT_bad {w : World} {T A : Option Addr} {nt ct n c : Nat} {z : Int} (hz : z < 0 \/ (nt : Int) <= z) : Calls Tryz.prog 27 #[.slice T nt ct,.slice A n c,.int .i64 z] w (fun e w' => e = .returned (.tuple #[.slice Option.none 0 0,.bool false]) /\ Ext w w') := by
 by_cases h0 : z < 0
 ·have g0 : decide (z < 0) = true := decide_eq_true h0
  clear hz
  go_enter Tryz.func27,Tryz.ntmps27
  go_wp2_with fail
  exact bodyPost_ret (v := .tuple #[.slice Option.none 0 0,.bool false]) (by simp [results,Tryz.results27,go_sem]) rfl ⟨rfl,Ext.refl _⟩
 ·have g0 : decide (z < 0) = false := decide_eq_false h0
  have h1 : (nt : Int) <= z := by omega
  have g1 : decide ((nt : Int) <= z) = true := decide_eq_true h1;clear hz
  go_enter Tryz.func27,Tryz.ntmps27
  go_wp2_with fail
  exact bodyPost_ret (v := .tuple #[.slice Option.none 0 0,.bool false]) (by simp [results,Tryz.results27,go_sem]) rfl ⟨rfl,Ext.refl _⟩
section
variable {w : World} {A B D : Option Addr} {n c m d l e0 : Nat} {ts : List (List RawR)} {r1 r2 : List RawR}
theorem p_InvT_no (h : RawT w A n c ts) (hq : RawP w B m d r1) (hn : n <= 16) (hr : ∀ l ∈ ts,l.all (fun r => r.le 1000) = true) (h1 : r1.all (fun r => r.le 1000) = true) (hf : formedB ts [r1] = false) (hT : Tab w) :
  Calls Tryz.prog 26 #[.slice A n c,.slice B m d] w fun e w' => e = .returned (.tuple #[.slice none 0 0,.int .i64 1]) /\ Ext w w' := by
 have Hf:=Lib.hid hf;clear hf;have hnb:=Box.new w 23 #[.slice B m d];have e1:=(Ext.refl w).alloc (.cells #[.slice B m d] 23)
 go_enter Tryz.func26,Tryz.ntmps26
 go_wp2_with fail
 refine (p_formedT (h.ext e1) (RawT.one hnb (hq.ext e1)) hn (by omega) hr (fun l hl => by rw [List.mem_singleton.1 hl];exact h1) (hT.ext e1)).mono ?_;rintro e V ⟨rfl,hxt⟩;rw [Hf.out]
 go_wp2_with fail
 exact bodyPost_ret (v := .tuple #[.slice Option.none 0 0,.int .i64 1]) (by simp [results,Tryz.results26,go_sem]) rfl ⟨rfl,e1.trans hxt⟩
theorem p_NormT_no (h : RawT w A n c ts) (hq : RawP w B m d r1) (h0 : 0 < n) (hn : n <= 16) (hr : ∀ l ∈ ts,l.all (fun r => r.le 1000) = true) (h1 : r1.all (fun r => r.le 1000) = true) (hf : formedB ts [r1] = false) (hT : Tab w) :
  Calls Tryz.prog 29 #[.slice A n c,.slice B m d] w fun e w' => e = .returned (.slice none 0 0) /\ Ext w w' := by
 have Hf:=Lib.hid hf;clear hf;have g1 : ((n : Int) == 0) = false := beq_eq_false_iff_ne.2 (by omega);have hnb:=Box.new w 23 #[.slice B m d];have e1:=(Ext.refl w).alloc (.cells #[.slice B m d] 23)
 go_enter Tryz.func29,Tryz.ntmps29
 go_wp2_with fail
 refine (p_formedT (h.ext e1) (RawT.one hnb (hq.ext e1)) hn (by omega) hr (fun l hl => by rw [List.mem_singleton.1 hl];exact h1) (hT.ext e1)).mono ?_;rintro e V ⟨rfl,hxt⟩;rw [Hf.out]
 go_wp2_with fail
 go_ret
 exact ⟨rfl,e1.trans hxt⟩
theorem p_NormT_zero : Calls Tryz.prog 29 #[.slice A 0 c,.slice B m d] w fun e w' => e = .returned (.slice none 0 0) /\ Ext w w' := by
 go_enter Tryz.func29,Tryz.ntmps29
 go_wp2_with fail
 go_ret
 exact ⟨rfl,Ext.refl _⟩
theorem p_ConjT_no {i : Nat} (h : RawT w A n c ts) (hq : RawP w B m d r1) (hi : i < n) (hn : n <= 16) (hr : ∀ l ∈ ts,l.all (fun r => r.le 1000) = true) (h1 : r1.all (fun r => r.le 1000) = true) (hf : formedB ts [r1] = false) (hT : Tab w) :
  Calls Tryz.prog 27 #[.slice A n c,.slice B m d,.int .i64 (i : Int)] w fun e w' => e = .returned (.tuple #[.slice none 0 0,.bool false]) /\ Ext w w' := by
 have Hf:=Lib.hid hf;clear hf;have g1 : decide ((i : Int) < 0) = false := decide_eq_false (by omega);have g2 : decide ((n : Int) <= (i : Int)) = false := decide_eq_false (by omega);have g3 : decide (n <= i) = false := decide_eq_false (by omega);have hnb:=Box.new w 23 #[.slice B m d];have e1:=(Ext.refl w).alloc (.cells #[.slice B m d] 23)
 go_enter Tryz.func27,Tryz.ntmps27
 go_wp2_with fail
 refine (p_formedT (h.ext e1) (RawT.one hnb (hq.ext e1)) hn (by omega) hr (fun l hl => by rw [List.mem_singleton.1 hl];exact h1) (hT.ext e1)).mono ?_;rintro e V ⟨rfl,hxt⟩;rw [Hf.out]
 go_wp2_with fail
 exact bodyPost_ret (v := .tuple #[.slice Option.none 0 0,.bool false]) (by simp [results,Tryz.results27,go_sem]) rfl ⟨rfl,e1.trans hxt⟩
end
theorem tower_bundle {w : World} {A : Option Addr} {n c L : Nat} {ts : List (List RawR)} (h : RawT w A n c ts) (f1 : towerB ts 0 = true) (l4 : ∀ l ∈ ts,l.all (fun r => r.le L) = true) :
  PolT w A n c (ts.map fun l => l.map RawR.q) L /\ TowL (ts.map fun l => l.map RawR.q) := by
 have f3:=towerB_at ts 0 f1;refine ⟨h.polT (fun l hl => ?_) l4,fun i hi => ?_⟩
 ·obtain ⟨i,hi,rfl⟩ := List.getElem_of_mem hl
  exact (validL_parts (f3 i hi)).2
 ·rw [List.length_map] at hi
  rw [List.getElem_map,List.length_map,(validL_parts (f3 i hi)).1,Nat.zero_add]
theorem formed_two {w : World} {A A' B B' : Option Addr} {n c c' m d d' : Nat} {ts : List (List RawR)} {r1 : List RawR} (h : RawT w A n c ts) (h1 : RawP w B m d r1) (k : RawT w A' n c' ts) (k1 : RawP w B' m d' r1) (hf : formedB ts [r1] = true) (l4 : ∀ l ∈ ts,l.all (fun r => r.le 4) = true) (k4 : r1.all (fun r => r.le 4) = true) :
  ∃ T qa,PolT w A n c T 4 /\ TowL T /\ Pol w B m d qa 4 /\ PolT w A' n c' T 4 /\ Pol w B' m d' qa 4 /\ m = 2 ^ n := by
 obtain ⟨a1,a2,a3,a4⟩ := formed_bundle h h1 hf l4 k4;obtain ⟨b1,_,b3,_⟩ := formed_bundle k k1 hf l4 k4;exact ⟨_,_,a1,a2,a3,b1,b3,a4⟩
section
variable {w : World} {A B D : Option Addr} {n c m d l e0 : Nat} {ts : List (List RawR)} {r1 : List RawR} {xs ys : List Nat} {s t : Bool}
theorem p_RootT_bad {z : Int} (hz : z < 0 \/ (n : Int) <= z) : Calls Tryz.prog 24 #[.slice A n c,.int .i64 z] w (fun e w' => e = .returned (.slice none 0 0) /\ Ext w w') := by
 by_cases h0 : z < 0
 ·have g0 : decide (z < 0) = true := decide_eq_true h0
  clear hz
  go_enter Tryz.func24,Tryz.ntmps24
  go_wp2_with fail
  go_ret
  exact ⟨rfl,Ext.refl _⟩
 ·have g0 : decide (z < 0) = false := decide_eq_false h0
  have h1 : (n : Int) <= z := by omega
  have g1 : decide ((n : Int) <= z) = true := decide_eq_true h1;clear hz
  go_enter Tryz.func24,Tryz.ntmps24
  go_wp2_with fail
  go_ret
  exact ⟨rfl,Ext.refl _⟩
theorem p_RootT_no {i : Nat} (h : RawT w A n c ts) (hi : i < n) (hn : n <= 16) (hr : ∀ l ∈ ts,l.all (fun r => r.le 1000) = true) (hf : towerB ts 0 = false) (hT : Tab w) :
  Calls Tryz.prog 24 #[.slice A n c,.int .i64 (i : Int)] w fun e w' => e = .returned (.slice none 0 0) /\ Ext w w' := by
 have Hf:=Lib.hid (show formedB ts [] = false by unfold formedB;rw [hf];rfl);clear hf;have g1 : decide ((i : Int) < 0) = false := decide_eq_false (by omega);have g2 : decide ((n : Int) <= (i : Int)) = false := decide_eq_false (by omega);have g3 : decide (n <= i) = false := decide_eq_false (by omega)
 go_enter Tryz.func24,Tryz.ntmps24
 go_wp2_with fail
 refine (p_formedT h (RawT.none w) hn (by omega) hr (fun l hl => by cases hl) hT).mono ?_;rintro e V ⟨rfl,hxt⟩;rw [Hf.out]
 go_wp2_with fail
 go_ret
 exact ⟨rfl,hxt⟩
theorem p_RootU {z : Int} (h : RawT w A n c ts) (hn : n <= 4) (l4 : ∀ l ∈ ts,l.all (fun r => r.le 4) = true) (hT : Tab w) :
  Calls Tryz.prog 24 #[.slice A n c,.int .i64 z] w (fun e w' => ∃ Ar mr cr,e = .returned (.slice Ar mr cr) /\ ((∃ i : Nat,towerB ts 0 = true /\ z = (i : Int) /\ i < n /\ mr = 2 ^ n /\ Pol w' Ar mr cr ((List.replicate (2 ^ n) 0).set (2 ^ i) 1) 2) \/ ((towerB ts 0 = false \/ z < 0 \/ (n : Int) <= z) /\ mr = 0)) /\ Ext w w') := by
 by_cases hz : z < 0 \/ (n : Int) <= z
 ·refine (p_RootT_bad hz).mono ?_
  rintro e V ⟨rfl,hx⟩;exact ⟨_,_,_,rfl,.inr ⟨.inr hz,rfl⟩,hx⟩
 ·obtain ⟨i,rfl⟩ : ∃ i : Nat,z = (i : Int) := ⟨z.toNat,by omega⟩
  have hi : i < n := by omega
  cases ht : towerB ts 0 with
  | false =>
   refine (p_RootT_no h hi (by omega) (fun l hl => le_1000 (l4 l hl)) ht hT).mono ?_;rintro e V ⟨rfl,hx⟩;exact ⟨_,_,_,rfl,.inr ⟨.inl rfl,rfl⟩,hx⟩
  | true =>
   obtain ⟨hp,htw⟩ := tower_bundle h ht l4;refine (p_RootT hp htw i hi (by omega) (by omega) hT).mono ?_;rintro e V ⟨Ar,mr,cr,rfl,hP,hx⟩;have hm : mr = 2 ^ n := by rw [<- hP.len,List.length_set,List.length_replicate]
   exact ⟨Ar,mr,cr,rfl,.inl ⟨i,rfl,rfl,hi,hm,hP⟩,hx⟩
theorem p_ConjU {z : Int} (h : RawT w A n c ts) (hq : RawP w B m d r1) (hn : n <= 16) (hr : ∀ l ∈ ts,l.all (fun r => r.le 1000) = true) (h1 : r1.all (fun r => r.le 1000) = true) (hf : formedB ts [r1] = false) (hT : Tab w) :
  Calls Tryz.prog 27 #[.slice A n c,.slice B m d,.int .i64 z] w fun e w' => e = .returned (.tuple #[.slice none 0 0,.bool false]) /\ Ext w w' := by
 by_cases hz : z < 0 \/ (n : Int) <= z
 ·exact p_ConjT_bad hz
 ·obtain ⟨i,rfl⟩ : ∃ i : Nat,z = (i : Int) := ⟨z.toNat,by omega⟩
  exact p_ConjT_no h hq (by omega) hn hr h1 hf hT
theorem p_NormU (h : RawT w A n c ts) (hq : RawP w B m d r1) (hn : n <= 16) (hr : ∀ l ∈ ts,l.all (fun r => r.le 1000) = true) (h1 : r1.all (fun r => r.le 1000) = true) (hf : formedB ts [r1] = false) (hT : Tab w) :
  Calls Tryz.prog 29 #[.slice A n c,.slice B m d] w fun e w' => e = .returned (.slice none 0 0) /\ Ext w w' := by
 rcases Nat.eq_zero_or_pos n with h0 | h0
 ·subst h0
  exact p_NormT_zero
 ·exact p_NormT_no h hq h0 hn hr h1 hf hT
end
theorem fewB4_all {ts ls : List (List RawR)} (h : fewB4 ts ls = true) : ts.length <= 4 /\ ∀ l ∈ ts ++ ls,l.length <= 16 /\ l.all (fun r => r.le 4) = true := by
 unfold fewB4 fewL at h;rw [Bool.and_eq_true,decide_eq_true_eq] at h;refine ⟨h.1,fun l hl => ?_⟩;have := List.all_eq_true.1 h.2 l hl;rw [Bool.and_eq_true,decide_eq_true_eq] at this;exact this
end
section
open Go.ChangeShapes Go.WideShapes Go.ChangeAt Go.RowKit Go.Joins
section
variable {H : Type} {enc : TypeId × Value -> H} {W : World} {base : Nat} {held : Bool}
theorem words_sizedT {m : Nat} {A : Option Addr} {n c : Nat} {y : DataW H × List MemPlace} (h : DataW.trod enc Tryz.prog W base (fun _ => true) held m 26 [.slice A n c] = some y) (hw : (DataW.weights Tryz.prog 26 y.1).all (· <= reachBytes) = true) : n * 4 <= 140737488355328 := by
 rcases open_ints Tryz.underlying26 Tryz.underlying89 Tryz.cellsW h with ⟨hcs,_⟩ | ⟨a,len,cap,zs,hcs,_,hl,hm,hz,rfl,_,_⟩
 ·injection hcs with hcs _
  injection hcs with h1 h2 h3
  omega
 ·injection hcs with hcs _
  injection hcs with h1 h2 h3
  simp only [if_true] at hz;have h4:=of_decide_eq_true (List.all_eq_true.1 hw (((lits .u32 (zs.take len)).length + (lits .u32 (zs.drop len)).length) * Tryz.prog.bytesOf 89) (by simp only [DataW.weights,Tryz.underlying26];exact List.mem_cons_self));rw [show Tryz.prog.bytesOf 89 = 4 by kernel_rfl] at h4;simp [lits,reachBytes] at h4;omega
set_option maxRecDepth 100000 in
theorem int_sizedT {m : Nat} {v : Value} {A : Option Addr} {n c : Nat} {y : DataW H × List MemPlace} (h : DataW.trod enc Tryz.prog W base (fun _ => true) held m 28 [v,.slice A n c] = some y) (hw : (DataW.weights Tryz.prog 28 y.1).all (· <= reachBytes) = true) : n * 4 <= 140737488355328 := by
 obtain ⟨y0,y1,k,rfl,_,h0,h1⟩ := trod_struct2 Tryz.underlying28 h;rw [cellsS] at h1;simp only [List.drop_zero,List.drop_succ_cons,List.take_succ_cons,List.take_zero] at h1;refine words_sizedT h1 (List.all_eq_true.2 fun q hq => List.all_eq_true.1 hw q ?_);simp [DataW.weights,Tryz.underlying28,DataW.weightsEach,hq]
set_option maxRecDepth 100000 in
theorem rat_sizedT {m : Nat} {v0 v1 : Value} {A B : Option Addr} {n c n' c' : Nat} {y : DataW H × List MemPlace} (h : DataW.trod enc Tryz.prog W base (fun _ => true) held m 30 [v0,.slice A n c,v1,.slice B n' c'] = some y) (hw : (DataW.weights Tryz.prog 30 y.1).all (· <= reachBytes) = true) : n * 4 <= 140737488355328 /\ n' * 4 <= 140737488355328 := by
 obtain ⟨y0,y1,k,rfl,_,h0,h1⟩ := trod_struct2 Tryz.underlying30 h;rw [Tryz.cellsI] at h0 h1;simp only [List.drop_zero,List.drop_succ_cons,List.take_succ_cons,List.take_zero] at h0 h1;refine ⟨int_sizedT h0 (List.all_eq_true.2 fun q hq => List.all_eq_true.1 hw q ?_),int_sizedT h1 (List.all_eq_true.2 fun q hq => List.all_eq_true.1 hw q ?_)⟩
 ·rw [DataW.weights,Tryz.underlying30]
  simp only [DataW.weightsEach,List.map_cons,List.map_nil,List.append_nil];exact List.mem_append.2 (.inl hq)
 ·rw [DataW.weights,Tryz.underlying30]
  simp only [DataW.weightsEach,List.map_cons,List.map_nil,List.append_nil];exact List.mem_append.2 (.inr hq)
theorem weightsAll_mem {P : Program} {e : TypeId} {d : DataW H} : ∀ {l : List (DataW H)},d ∈ l -> ∀ q ∈ DataW.weights P e d,q ∈ DataW.weightsAll P e l
 | [],hd,_,_ => by cases hd
 | x :: l,hd,q,hq => by
  rw [DataW.weightsAll]
  rcases List.mem_cons.1 hd with rfl | hd
  ·exact List.mem_append.2 (.inl hq)
  ·exact List.mem_append.2 (.inr (weightsAll_mem hd q hq))
set_option maxRecDepth 100000 in
theorem rats_sized {fuel : Nat} {A : Option Addr} {n c : Nat} {rs : List RawR} {y : DataW H × List MemPlace} (hf : DataW.trod enc Tryz.prog W base (fun _ => true) held fuel 23 [.slice A n c] = some y) (hw : (DataW.weights Tryz.prog 23 y.1).all (· <= reachBytes) = true) (hr : RawP W A n c rs) : SzL rs := by
 rcases Deep.open_slice Tryz.underlying23 hf with ⟨hcs,_⟩ | ⟨a,n',c',m,k,D,Pl,hcs,_,hl,hm,hmm,rfl,hx⟩
 ·injection hcs with hcs _
  injection hcs with h1 h2 h3
  have hz : rs = [] := List.length_eq_zero_iff.1 (hr.len.trans h2);subst hz;exact ⟨by simp,fun r hr => by cases hr⟩
 ·injection hcs with hcs _
  injection hcs with h1 h2 h3
  subst h1 h2 h3;simp only [if_true] at hmm;subst hmm;have hall:=fun q hq => of_decide_eq_true (List.all_eq_true.1 hw q hq)
  rw [DataW.weights,Tryz.underlying23] at hall;simp only at hall;refine ⟨?_,fun r hrm => ?_⟩
  ·have h4:=hall _ List.mem_cons_self
   rw [show Tryz.prog.bytesOf 30 = 64 by kernel_rfl] at h4;simp [reachBytes] at h4;rw [hr.len];omega
  ·obtain ⟨i,hi,rfl⟩ := List.getElem_of_mem hrm
   have hin : i < n := by rw [<- hr.len];exact hi
   obtain ⟨b,off,e,hat⟩ := hr.at_ (fun e => by subst e;exact absurd hi (Nat.not_lt_zero _))
   injection e with e
   subst e;obtain ⟨A',n',c',B',m',d',e0,e1,e2,e3,hx0,hy0⟩ := hat i hi;obtain ⟨cs',g1,g2⟩ := hx i (by omega);rw [cellsR] at g1;obtain ⟨_,hlen,hc⟩ := World.cells?_some g1
   obtain ⟨c0,c1,c2,c3,rfl⟩ : ∃ c0 c1 c2 c3,cs' = [c0,c1,c2,c3] := by
    rcases cs' with _ | ⟨c0,_ | ⟨c1,_ | ⟨c2,_ | ⟨c3,_ | ⟨c4,l⟩⟩⟩⟩⟩ <;> simp at hlen
    exact ⟨c0,c1,c2,c3,rfl⟩
   have hadd : ∀ j,j < 4 -> ((⟨b,off,none⟩ : Addr).add (i * 4)).add j = ⟨b,off + 4 * i + j,none⟩ := by
    intro j _;rw [Deep.add_add];unfold Addr.add
    split
    ·rename_i h0
     have : i * 4 + j = 0 := h0;simp only [Addr.mk.injEq,and_true,true_and];omega
    ·simp only [Addr.mk.injEq,and_true,true_and]
     omega
   have q1:=hc 1 (by omega);have q3:=hc 3 (by omega);rw [hadd _ (by omega)] at q1 q3;rw [e1] at q1;rw [e3] at q3;simp only [List.getElem?_cons_succ,List.getElem?_cons_zero,Option.some.injEq] at q1 q3;subst q1 q3;have hz:=rat_sizedT g2 (List.all_eq_true.2 fun q hq => decide_eq_true (hall q (List.mem_cons_of_mem _ (List.mem_append.2 (.inl (weightsAll_mem (List.mem_map.2 ⟨i,List.mem_range.2 hin,rfl⟩) q hq))))));rw [hx0.len,hy0.len];exact hz
set_option maxRecDepth 100000 in
theorem open_caseS {r : Reach} {b0 : Nat} {v : Value} {d : DataW H} {p : List MemPlace} (hv : Value.okWide Tryz.prog W r b0 25 v) (h : DataW.Trod enc Tryz.prog W base (fun _ => true) held 25 v d p) (hw : (DataW.weights Tryz.prog 25 d).all (· <= reachBytes) = true) :
  ∃ A n c A1 n1 c1 A2 n2 c2 A3 n3 c3 ts r1 r2 r3,v = .agg #[.slice A n c,.slice A1 n1 c1,.slice A2 n2 c2,.slice A3 n3 c3] /\ RawT W A n c ts /\ RawP W A1 n1 c1 r1 /\ RawP W A2 n2 c2 r2 /\ RawP W A3 n3 c3 r3 /\ SzL r2 /\ SzL r3 := by
 obtain ⟨v0,v1,v2,v3,y0,y1,y2,y3,n,rfl,hd,_,h0,h1,h2,h3⟩ := open_agg4 Tryz.underlying25 (by kernel_rfl) (by kernel_rfl) hv h;obtain ⟨A,n,c,ts,rfl,g⟩ := open_ratss h0;obtain ⟨A1,n1,c1,r1,rfl,g1⟩ := open_ratsc h1;obtain ⟨A2,n2,c2,r2,rfl,g2⟩ := open_ratsc h2;obtain ⟨A3,n3,c3,r3,rfl,g3⟩ := open_ratsc h3;subst hd;rw [DataW.weights,Tryz.underlying25] at hw;simp only [DataW.weightsEach,List.map_cons,List.map_nil,List.append_nil,List.all_append,Bool.and_eq_true] at hw;exact ⟨A,n,c,A1,n1,c1,A2,n2,c2,A3,n3,c3,ts,r1,r2,r3,rfl,g,g1,g2,g3,rats_sized h2 hw.2.2.1 g2,rats_sized h3 hw.2.2.2 g3⟩
end
end
section
open Go.RowKit
def normQ (R : Nat -> List Rat) (h : Nat) (a : List Rat) : List Rat := addL (mulL R h (a.take (2 ^ h)) (a.take (2 ^ h))) (negL (mulL R h (mulL R h (a.drop (2 ^ h)) (a.drop (2 ^ h))) (R h)))
theorem normQ_len {R : Nat -> List Rat} {h : Nat} {a : List Rat} : (normQ R h a).length = 2 ^ h := addL_len mulL_len (by rw [negL_len,mulL_len])
theorem ring_take2 (ts : List (List Rat)) (ht : TowL ts) (k : Nat) : ∀ j,k + j <= ts.length -> (ringR (ts.take (k + j))).2.take (2 ^ k) = (ringR (ts.take k)).2
 | 0,hk => by
  rw [Nat.add_zero];exact List.take_of_length_le (Nat.le_of_eq (ringR_take ht k (by omega)).2.1)
 | j + 1,hk => by
  have ih:=ring_take2 ts ht k j (by omega);have hj : k + j < ts.length := by omega
  have hl:=(ringR_take ht (k + j) (by omega)).2.1;rw [<- Nat.add_assoc,List.take_succ_eq_append_getElem hj,ringR_snoc];simp only;rw [List.take_append_of_le_length (by rw [hl];exact Nat.pow_le_pow_right (by omega) (by omega)),ih]
theorem El.psi_congr {K : Type} [Add K] [Mul K] [Neg K] [OfNat K 0] [OfNat K 1] [RingK K] {D D' : Nat -> K} : ∀ (h : Nat),(∀ i,i < h -> D i = D' i) -> ∀ a : El K h,El.psi D h a = El.psi D' h a
 | 0,_,_ => rfl
 | h + 1,e,a => by
  simp only [El.psi];rw [El.psi_congr h (fun i hi => e i (by omega)),El.psi_congr h (fun i hi => e i (by omega)),e h (by omega)]
theorem denK_take {ts : List (List Rat)} {h i : Nat} (hi : i < h) (hh : h <= ts.length) : denK (ts.take h) i = denK ts i := by
 unfold denK;rw [radQ_take hi hh,List.take_take,Nat.min_eq_left (by omega)]
theorem zip_take {f : Int -> Int -> Rat} : ∀ {a b : List Int} {n : Nat},a.length = n -> List.zipWith f a b = List.zipWith f a (b.take n)
 | [],b,n,h => by
  simp at h;subst h;simp
 | x :: a,b,n,h => by
  cases b with
  | nil => simp
  | cons y b =>
   rw [List.length_cons] at h;subst h;simp only [List.take_succ_cons,List.zipWith_cons_cons];rw [zip_take rfl]
theorem norm_mean {ts : List (List Rat)} (ht : TowL ts) {h : Nat} (hn : ts.length = h + 1) {qs : List Rat} (hq : qs.length = 2 ^ (h + 1)) :
  List.zipWith (fun z f : Int => mkQ (z * f) (((denP (partL qs (ringR ts).2) : Nat) : Int) * ((denP (partL qs (ringR ts).2) : Nat) : Int))) (normLI (radI (ringR ts).1) h (numsP (partL qs (ringR ts).2))) (ringR ts).2 = normQ (radQ ts) h qs := by
 have hg:=(ringR_take ht ts.length (Nat.le_refl _)).2.1;rw [List.take_length,hn] at hg
 have hnl : (numsP (partL qs (ringR ts).2)).length = 2 ^ (h + 1) := by
  rw [numsP_len];unfold partL;rw [List.length_zipWith,hq,hg,Nat.min_self]
 have d1:=denP_pos (partL qs (ringR ts).2);have hd : ((denP (partL qs (ringR ts).2) : Nat) : Int) * ((denP (partL qs (ringR ts).2) : Nat) : Int) ≠ 0 := Int.mul_ne_zero (by omega) (by omega);have hu : (ts.take h).length = h := by rw [List.length_take];omega
 have h2:=ring_take2 ts ht h 1 (by omega);rw [show ts.take (h + 1) = ts from List.take_of_length_le (by omega)] at h2;rw [zip_take normLI_len,h2];have hs:=split_elem ht (qs := qs) (by rw [hn,hq]);rw [hn] at hs;have l0:=take_len hnl;have l1:=drop_len hnl;have e0:=congrArg Prod.fst hs;have e1:=congrArg Prod.snd hs;simp only [toE,El.psi,El.smul,<- castL_take,<- castL_drop] at e0 e1;have hr:=rad_mean ht h (by omega);generalize hdd : ((denP (partL qs (ringR ts).2) : Nat) : Int) = dd at *;generalize hnu : numsP (partL qs (ringR ts).2) = nu at *;refine (join_elem (take_TowL ht h) (zs := normLI (radI (ringR ts).1) h nu) hd (by rw [hu];exact normLI_len) (os := normQ (radQ ts) h qs) (by rw [hu];exact normQ_len) ?_);rw [hu,El.psi_congr h (D' := fun i => ((denK ts i : Int) : Rat)) (fun i hi => by rw [denK_take hi (by omega)])];have q0:=take_len hq;have q1:=drop_len hq;unfold normLI normQ;rw [subI_eq,castL_add,castL_neg,toE_add (by rw [castL_len,mulL_len]) (by rw [negL_len,castL_len,mulL_len]),toE_neg (by rw [castL_len,mulL_len]),El.psi_add,El.psi_neg];rw [mul_psi ht (by omega) l0 l0,mul_psi ht (by omega) mulL_len (by rw [<- castL_len];exact radI_ring_len ht h),mul_psi ht (by omega) l1 l1,hr,e0];rw [toE_add mulL_len (by rw [negL_len,mulL_len]),toE_neg mulL_len,toE_mul (radQ_len ht) q0 q0,toE_mul (radQ_len ht) mulL_len (radQ_len ht h),toE_mul (radQ_len ht) q1 q1]
 have key : El.mul (fun i => toE i (radQ ts i)) h (El.mul (fun i => toE i (radQ ts i)) h (El.psi (fun i => ((denK ts i : Int) : Rat)) h (toE h (castL (nu.drop (2 ^ h))))) (El.psi (fun i => ((denK ts i : Int) : Rat)) h (toE h (castL (nu.drop (2 ^ h)))))) (El.smul h (((denK ts h : Int) : Rat) * ((denK ts h : Int) : Rat)) (toE h (radQ ts h))) = El.smul h (((dd : Int) : Rat) * ((dd : Int) : Rat)) (El.mul (fun i => toE i (radQ ts i)) h (El.mul (fun i => toE i (radQ ts i)) h (toE h (qs.drop (2 ^ h))) (toE h (qs.drop (2 ^ h)))) (toE h (radQ ts h))) := by
  rw [El.mul_smul,<- El.smul_mul,<- El.smul_smul,<- El.smul_mul,<- El.mul_smul,e1,El.smul_mul,El.mul_smul,El.smul_smul,El.smul_mul]
 rw [key,El.smul_mul,El.mul_smul,El.smul_smul,El.smul_add,Rat.intCast_mul]
 congr 1
 rw [El.neg_smul,El.neg_smul,El.smul_smul,El.smul_smul]
 congr 1
 exact Rat.mul_comm _ _
theorem AllM.neg {M X : Nat} {a : List Rat} (h : AllM M X a) : AllM M X (negL a) := by
 intro q hq;unfold negL at hq;obtain ⟨p,hp,rfl⟩ := List.mem_map.1 hq;obtain ⟨z,rfl,h2⟩ := h p hp;exact ⟨-z,(Rat.neg_mkRat z M),by rw [Int.natAbs_neg];exact h2⟩
theorem norm_in {R : Nat -> List Rat} {Mr Xr : Nat -> Nat} (hM : ∀ i,0 < Mr i) (hR : ∀ i,AllM (Mr i) (Xr i) (R i)) {h : Nat} {a : List Rat} {M X : Nat} (pM : 0 < M) (ha : AllM M X a) :
  AllM (M * M * prQ Mr h * (Mr h * prQ Mr h)) (X * X * prY Mr Xr h * (Mr h * prQ Mr h) + X * X * prY Mr Xr h * (Xr h * prY Mr Xr h)) (normQ R h a) := by
 have hq:=prQ_pos hM h;have hk : 0 < Mr h * prQ Mr h := Nat.mul_pos (hM h) hq;have pm : 0 < M * M * prQ Mr h := Nat.mul_pos (Nat.mul_pos pM pM) hq;have i0:=mulL_in hM hR h pM pM (ha.take (2 ^ h)) (ha.take (2 ^ h));have i1:=mulL_in hM hR h pM pM (ha.drop (2 ^ h)) (ha.drop (2 ^ h));have i2:=mulL_in hM hR h pm (hM h) i1 (hR h);rw [Nat.mul_assoc _ (Mr h),Nat.mul_assoc _ (Xr h)] at i2;exact AllM.add (Nat.mul_pos pm hk) (fun q hq => (i0 q hq).scale pm _ hk) i2.neg
end
section
open Go.RowKit
attribute [local go_sem ↓] Go.wp_at_zero Go.wp_at_succ
section
variable {w : World} {A B : Option Addr} {n c m d h L u v : Nat} {ts : List (List Rat)} {qs : List Rat}
set_option maxRecDepth 100000 in
theorem p_NormG (hp : PolT w A n c ts 4) (ht : TowL ts) (hs : ∀ r ∈ ts,∀ q ∈ r,SmQ q) (hn : n = h + 1) (hn4 : n <= 4) (ha : Pol w B m d qs L) (hL : L <= 1000) (hm : m = 2 ^ n) (hq : BdQ u v qs) (huv : u + v <= 250) (hT : Tab w) : Calls Tryz.prog 29 #[.slice A n c,.slice B m d] w (fun e w' => ∃ A' c',e = .returned (.slice A' (2 ^ h) c') /\ Pol w' A' (2 ^ h) c' (normQ (radQ ts) h qs) (8 * (u + v) + 970) /\ Ext w w') := by
 have hfew:=m_few n (by omega);have hl:=hp.len;have hG:=ringR_take ht ts.length (Nat.le_refl _);rw [List.take_length,hl] at hG;obtain ⟨G1,G2,G3,_,G5⟩ := hG;have HNM:=Lib.hid (norm_mean ht (h := h) (by rw [hl,hn]) (qs := qs) (by rw [ha.len,hm,hn]));have hSA:=split_bd ht hs hq;rw [hl] at hSA;have hNA:=norm_abs ht hs (h := h) hSA.1;rw [<- hn] at hNA;have hND:=denP_pos (partL qs (ringR ts).2);have HSV:=Lib.hid (W4_abs hSA.1);have HDV:=Lib.hid (W4_words hSA.2);have HNV:=Lib.hid (W4_abs hNA);have HD0:=Lib.hid (show ((denP (partL qs (ringR ts).2) : Nat) : Int) * ((denP (partL qs (ringR ts).2) : Nat) : Int) ≠ 0 from Int.mul_ne_zero (by omega) (by omega));have Hm:=Lib.hid (show m = 2 ^ (h + 1) by rw [hm,hn]);have HM:=Lib.hid hm;have HG3:=Lib.hid G3;have h2h : 2 ^ h <= 8 := Nat.le_trans (Nat.pow_le_pow_right (by omega) (show h <= 3 by omega)) (by decide);have h2n : 2 ^ n = 2 ^ h + 2 ^ h := by rw [hn,two_pow_s]
 have hm16 : m <= 16 := by omega
 have hm0 : 0 < m := by rw [hm];exact Nat.pow_pos (by omega)
 rw [hn] at hfew;rw [<- hm] at G2;have hsp:=hfew.2.2.2.2.1;rw [<- hn] at hfew;have HFW:=Lib.hid (And.intro hfew hsp);have HG2:=Lib.hid G2;have HG1:=Lib.hid G1;have HG5:=Lib.hid G5;have hh : h + 1 <= n := by omega
 have HHM:=Lib.hid (show 2 ^ h <= m by rw [hm,h2n];omega);clear hSA hNA hND hm hn hl h2n hfew hsp G1 G2 G3 G5;have g1 : ((n : Int) == 0) = false := beq_eq_false_iff_ne.2 (by omega);have hnb:=Box.new w 23 #[.slice B m d];have e1:=(Ext.refl w).alloc (.cells #[.slice B m d] 23)
 go_enter Tryz.func29,Tryz.ntmps29
 go_wp2_with fail
 refine (p_formed1 (L := 1000) ((hp.le (by omega)).ext e1) ht hnb ((ha.le hL).ext e1) HM.out (by omega) (by omega) (hT.ext e1)).mono ?_;rintro e V ⟨rfl,hxt⟩;have EW:=e1.trans hxt;clear hnb e1 hxt
 go_wp2_with fail
 refine (p_ringOf (hp.ext EW) ht hs hn4 (hT.ext EW)).mono ?_;rintro e V1 ⟨Ar,cr,Af,cf,rfl,hir,hfp,hx1⟩;rw [<- HM.out] at hfp;replace EW := EW.trans hx1
 go_upto_region 4 with (fail)
 rw [show (2 : Nat) ^ n = m from HM.out.symm];obtain ⟨V2,hV2,ex2,b5,hz2⟩ := box1 V1 72 #[.slice Ar n cr,.slice Af m cf];rw [<- hV2];clear hV2 hz2 hx1;replace hir := hir.ext ex2;replace hfp := hfp.ext ex2;replace EW := EW.trans ex2;clear ex2;have x0:=b5.cell 0 (.slice Ar n cr) rfl;have x1:=b5.cell 1 (.slice Af m cf) rfl
 go_wp2_with fail
 refine (p_splitT (ha.ext EW) hfp rfl HG3.out rfl (by have := HFW.out;omega) (by have := HFW.out;omega) hm0 (by omega) (Nat.lt_of_lt_of_le HDV.out (Nat.pow_le_pow_right (by omega) (Nat.le_succ _))) (by have := HFW.out;omega) (by omega) (hT.ext EW)).mono ?_;rintro e V3 ⟨g6,s7,B7,m7,d7,rfl,hg6,hz,hy,hx1⟩
 go_upto_region 5 with (fail)
 obtain ⟨V4,hV4,ex4,b7,hz4⟩ := box1 V3 28 #[.bool s7,.slice B7 m7 d7];rw [<- hV4];clear hV4 hz4 x0 x1 hg6;replace hz := (hz.ext ex4).tight HSV.out;replace hy := (hy.ext ex4).tight' (M := 4 * (v + eF n) + 1) (by rw [Int.natAbs_natCast];exact HDV.out);replace ex4 := hx1.trans ex4;replace hir := hir.ext ex4;replace hfp := hfp.ext ex4;replace b5 := b5.ext ex4;replace EW := EW.trans ex4;clear ex4 hx1;have hdr:=(Ext.refl V4).drew;replace hir := hir.ext hdr;replace hfp := hfp.ext hdr;replace hz := hz.ext hdr;replace hy := hy.ext hdr;clear hdr;have ES0:=Ext.refl V4;refine wp_region_held_drew (S := Ext V4) (by kernel_rfl) ES0.drew (fun ES => ?_);clear ES0;refine Late.s0 ES (fun hAl hQ => ?_);refine Late.t 0 26 ?v_0 hQ ?y_0 ?_
 case y_0 => intro w' hSw;have k00:=(b5.ext hSw).c2;have k10:=(b7.ext hSw).c2;go_simp;try rfl
 try simp only [zP]
 refine Late.t 1 27 ?v_1 hQ ?y_1 ?_
 case y_1 => intro w' hSw;have k00:=(b5.ext hSw).c2;have k10:=(b7.ext hSw).c2;go_simp;try rfl
 try simp only [zP]
 refine Late.u 2 28 hQ ?_
 try simp only [zP]
 refine Late.t 4 30 ?v_3 hQ ?y_3 ?_
 case y_3 => intro w' hSw;have k00:=(b5.ext hSw).c2;have k10:=(b7.ext hSw).c2;go_simp;try rfl
 try simp only [zP]
 refine Late.t 5 31 ?v_4 hQ ?y_4 ?_
 case y_4 => intro w' hSw;have k00:=(b5.ext hSw).c2;have k10:=(b7.ext hSw).c2;go_simp;try rfl
 try simp only [zP]
 refine Late.cl (i := 3) rfl hAl hQ (fun w3 e3 E3 K hK => ?_);go_simp
 (replace hir := hir.ext e3;replace hz := hz.ext e3;replace hy := hy.ext e3;replace hfp := hfp.ext e3;go_at_call 77;refine (p_normT HG5.out (by omega) hir hz Hm.out hh (by have := HFW.out;omega)).mono ?_;rintro e wk3 ⟨A8,c8,rfl,hnm,hx3⟩;replace hir := hir.ext hx3;replace hz := hz.ext hx3;replace hy := hy.ext hx3;replace hfp := hfp.ext hx3)
 refine hK.out _ _ hx3 ?_;clear hK K
 try simp only [zP]
 refine Late.cl (i := 6) rfl hAl hQ (fun w6 e6 E6 K hK => ?_);go_simp
 (replace hir := hir.ext e6;replace hz := hz.ext e6;replace hy := hy.ext e6;replace hfp := hfp.ext e6;replace hnm := hnm.ext e6;go_at_call 70;refine (p_MulG hy hy (by have := HFW.out;omega) (by have := HFW.out;omega)).mono ?_;rintro e wk6 ⟨s9,A9,n9,c9,rfl,hdd,hx6⟩;replace hir := hir.ext hx6;replace hz := hz.ext hx6;replace hy := hy.ext hx6;replace hfp := hfp.ext hx6;replace hnm := hnm.ext hx6)
 refine hK.out _ _ hx6 ?_;clear hK K
 try simp only [zP]
 refine Late.cl (i := 7) rfl hAl hQ (fun w7 e7 E7 K hK => ?_);go_simp
 (replace hir := hir.ext e7;replace hz := hz.ext e7;replace hy := hy.ext e7;replace hfp := hfp.ext e7;replace hnm := hnm.ext e7;replace hdd := hdd.ext e7;go_at_call 68;refine (p_joinT (hnm.tight HNV.out) hfp HHM.out (by omega) hdd HD0.out (by have := HFW.out;omega) (by have := HFW.out;omega) (by omega) (hT.ext (EW.trans E7))).mono ?_;rintro e wk7 ⟨g8,rfl,hg8,hjr,hjl,hx7⟩;replace hir := hir.ext hx7;replace hz := hz.ext hx7;replace hy := hy.ext hx7;replace hfp := hfp.ext hx7;replace hnm := hnm.ext hx7;replace hdd := hdd.ext hx7)
 refine hK.out _ _ hx7 ?_;clear hK K
 try simp only [zP]
 refine Late.u 8 4 hQ ?_
 try simp only [zP]
 refine Late.d0 (fun wz ez Ez => ?_);clear hAl hQ ES
 go_wp2_with fail
 go_ret
 rw [<- HNM.out];have hpj:=((hjr.pol hjl (by unfold maxLen;omega)).ext ez).le (M := 8 * (u + v) + 970) (by have := HFW.out;omega);exact ⟨_,_,rfl,hpj,EW.trans Ez⟩
end
end
section
open Go.RowKit
def InB (m x : Nat) (qs : List Rat) : Prop := ∃ M X,0 < M /\ AllM M X qs /\ M <= W4 ^ m /\ X <= W4 ^ x
section
variable {m x m' x' n h S : Nat} {qs a b : List Rat}
theorem InB.few (hs : ∀ q ∈ qs,SmQ q) (hl : qs.length = 2 ^ n) : InB (2 ^ n) (1 + 2 ^ n) qs := by
 obtain ⟨h1,h2,h3⟩ := in_few hs;rw [hl] at h2;exact ⟨_,_,h1,h3,h2,by rw [Nat.pow_add,Nat.pow_one];exact Nat.mul_le_mul_left _ h2⟩
theorem InB.words (hb : InB m x qs) (hx : 4 * x + 1 <= S) (hm : 4 * m + 1 <= S) : ∀ q ∈ qs,q.num.natAbs < 4294967296 ^ S /\ q.den < 4294967296 ^ S := by
 obtain ⟨M,X,h1,h2,h3,h4⟩ := hb;intro q hq;obtain ⟨k1,k2⟩ := (h2 q hq).size h1;exact ⟨Nat.lt_of_lt_of_le (W4_words (Nat.le_trans k1 h4)) (Nat.pow_le_pow_right (by omega) hx),Nat.lt_of_lt_of_le (W4_words (Nat.le_trans k2 h3)) (Nat.pow_le_pow_right (by omega) hm)⟩
theorem InB.bd (hb : InB m x qs) : BdQ x m qs := by
 obtain ⟨M,X,h1,h2,h3,h4⟩ := hb;refine ⟨fun q hq => Nat.le_trans ((h2 q hq).size h1).1 h4,M,h1,h3,fun q hq => ?_⟩;obtain ⟨z,rfl,_⟩ := h2 q hq;exact (mkRat_sizes z M (by omega)).1
structure RadB (R : Nat -> List Rat) (Mr Xr : Nat -> Nat) : Prop where
 len : ∀ i,(R i).length = 2 ^ i
 pos : ∀ i,0 < Mr i
 all : ∀ i,AllM (Mr i) (Xr i) (R i)
 mb : ∀ i,Mr i <= W4 ^ 2 ^ i
 xb : ∀ i,Xr i <= W4 ^ (1 + 2 ^ i)
variable {R : Nat -> List Rat} {Mr Xr : Nat -> Nat}
theorem InB.mul (hR : RadB R Mr Xr) (h : Nat) (ha : InB m x a) (hb : InB m' x' b) : InB (m + m' + eF h) (x + x' + eYq h) (mulL R h a b) := by
 obtain ⟨Ma,Xa,p1,p2,p3,p4⟩ := ha;obtain ⟨Mb,Xb,q1,q2,q3,q4⟩ := hb;obtain ⟨b1,b2⟩ := pr_bd (n := h) (fun i _ => hR.mb i) (fun i _ => hR.xb i) h (Nat.le_refl _);refine ⟨_,_,Nat.mul_pos (Nat.mul_pos p1 q1) (prQ_pos hR.pos h),mulL_in hR.pos hR.all h p1 q1 p2 q2,?_,?_⟩
 ·rw [Nat.pow_add,Nat.pow_add]
  exact Nat.mul_le_mul (Nat.mul_le_mul p3 q3) b1
 ·rw [Nat.pow_add,Nat.pow_add]
  exact Nat.mul_le_mul (Nat.mul_le_mul p4 q4) b2
theorem InB.norm (hR : RadB R Mr Xr) (h : Nat) (ha : InB m x a) : InB (m + m + eF h + (2 ^ h + eF h)) (x + x + eYq h + (1 + 2 ^ h + eYq h) + 1) (normQ R h a) := by
 obtain ⟨M,X,p1,p2,p3,p4⟩ := ha;obtain ⟨b1,b2⟩ := pr_bd (n := h + 1) (fun i _ => hR.mb i) (fun i _ => hR.xb i) h (by omega);have k1 : Mr h * prQ Mr h <= W4 ^ (2 ^ h + eF h) := by rw [Nat.pow_add];exact Nat.mul_le_mul (hR.mb h) b1
 have k2 : Xr h * prY Mr Xr h <= W4 ^ (1 + 2 ^ h + eYq h) := by rw [Nat.pow_add];exact Nat.mul_le_mul (hR.xb h) b2
 have k3 : X * X * prY Mr Xr h <= W4 ^ (x + x + eYq h) := by rw [Nat.pow_add,Nat.pow_add];exact Nat.mul_le_mul (Nat.mul_le_mul p4 p4) b2
 have hle:=eF_le h;refine ⟨_,_,Nat.mul_pos (Nat.mul_pos (Nat.mul_pos p1 p1) (prQ_pos hR.pos h)) (Nat.mul_pos (hR.pos h) (prQ_pos hR.pos h)),norm_in hR.pos hR.all p1 p2,?_,?_⟩
 ·rw [Nat.pow_add _ (m + m + eF h),Nat.pow_add,Nat.pow_add]
  exact Nat.mul_le_mul (Nat.mul_le_mul (Nat.mul_le_mul p3 p3) b1) k1
 ·have t1 : X * X * prY Mr Xr h * (Mr h * prQ Mr h) <= W4 ^ (x + x + eYq h + (1 + 2 ^ h + eYq h)) := by
   rw [Nat.pow_add _ (x + x + eYq h)];exact Nat.mul_le_mul k3 (Nat.le_trans k1 (Nat.pow_le_pow_right W4_pos (by omega)))
  have t2 : X * X * prY Mr Xr h * (Xr h * prY Mr Xr h) <= W4 ^ (x + x + eYq h + (1 + 2 ^ h + eYq h)) := by
   rw [Nat.pow_add _ (x + x + eYq h)];exact Nat.mul_le_mul k3 k2
  rw [Nat.pow_succ];generalize W4 ^ (x + x + eYq h + (1 + 2 ^ h + eYq h)) = p at t1 t2;have h4 : p * 2 <= p * W4 := Nat.mul_le_mul_left _ (by decide +kernel);omega
theorem low_few : ∀ h,h < 4 -> eF h <= 12 /\ eYq h <= 26 /\ 2 ^ h <= 8 /\ eF (h + 1) <= 32 /\ eYq (h + 1) <= 62 /\ 2 ^ (h + 1) <= 16 := by
 intro h hh
 match h,hh with
 | 0,_ => decide
 | 1,_ => decide
 | 2,_ => decide
 | 3,_ => decide
end
section
variable {w : World} {Tt A B : Option Addr} {n ct m c d h : Nat} {T : List (List Rat)} {qs ps : List Rat}
theorem rad_few (hp : PolT w Tt n ct T 4) (ht : TowL T) : RadB (radQ T) (fun i => prodD (radQ T i)) (fun i => W4 * prodD (radQ T i)) := by
 have hR : ∀ i q,q ∈ radQ T i -> SmQ q := by
  intro i q hq
  rcases Nat.lt_or_ge i T.length with hi | hi
  ·rw [radQ_at hi] at hq
   exact hp.sm _ (List.getElem_mem hi) q hq
  ·unfold radQ at hq
   rw [List.getD_eq_getElem?_getD,List.getElem?_eq_none hi] at hq;rw [List.eq_of_mem_replicate hq];exact ⟨Nat.zero_le _,W4_pos⟩
 have hb : ∀ i,prodD (radQ T i) <= W4 ^ 2 ^ i := fun i => by have := (in_few (hR i)).2.1;rwa [radQ_len ht] at this
 exact ⟨radQ_len ht,fun i => (in_few (hR i)).1,fun i => (in_few (hR i)).2.2,hb,fun i => by rw [Nat.pow_add,Nat.pow_one];exact Nat.mul_le_mul_left _ (hb i)⟩
theorem p_NormA (hp : PolT w Tt n ct T 4) (ht : TowL T) (hn : n = h + 1) (hn4 : n <= 4) (ha : Pol w B m d qs 4) (hm : m = 2 ^ n) (hT : Tab w) :
  Calls Tryz.prog 29 #[.slice Tt n ct,.slice B m d] w (fun e w' => ∃ A' c',e = .returned (.slice A' (2 ^ h) c') /\ Pol w' A' (2 ^ h) c' (normQ (radQ T) h qs) 400 /\ Ext w w') := by
 have hi:=InB.few ha.sm (n := n) (by rw [ha.len,hm]);have hw:=InB.norm (rad_few hp ht) h hi;have hf:=low_few h (by omega);rw [<- hn] at hf;refine (p_NormG hp ht hp.sm hn hn4 ha (by omega) hm hi.bd (by omega) hT).mono ?_;rintro e w' ⟨A',c',rfl,h1,h2⟩;obtain ⟨S,hS⟩ : ∃ S : Nat,S = 400 := ⟨_,rfl⟩;exact ⟨A',c',rfl,hS ▸ h1.tightG (M := S) (hw.words (by omega) (by omega)),h2⟩
end
end
section
open Go.RowKit
attribute [local go_sem ↓] Go.wp_at_zero Go.wp_at_succ
section
variable {w : World} {Tt A B : Option Addr} {n ct m c d h k u x u' x' : Nat} {T U : List (List Rat)} {R : Nat -> List Rat} {Mr Xr : Nat -> Nat} {qs ps : List Rat}
theorem q_MulU (hp : PolT w Tt h ct U 4) (ht : TowL U) (hl : U.length = h) (hR : RadB R Mr Xr) (hRT : ∀ i,i < h -> radQ U i = R i) (hh : h <= 4) (hk : k = 2 ^ h) (ha : Pol w A k c qs 400) (hb : Pol w B k d ps 400) (ia : InB u x qs) (ib : InB u' x' ps) (hux : 4 * (u + u' + eF h) + 1 <= 400 /\ 4 * (x + x' + eYq h) + 1 <= 400) :
  Calls Tryz.prog 44 #[.slice Tt h ct,.slice A k c,.slice B k d] w (fun e w' => ∃ A' c',e = .returned (.slice A' k c') /\ Pol w' A' k c' (mulL R h qs ps) 400 /\ Ext w w') := by
 obtain ⟨S,hS⟩ : ∃ S : Nat,S = 400 := ⟨_,rfl⟩;obtain ⟨Ma,Xa,p1,p2,p3,p4⟩ := ia;obtain ⟨Mb,Xb,q1,q2,q3,q4⟩ := ib;obtain ⟨b1,b2⟩ := pr_bd (n := h) (fun i _ => hR.mb i) (fun i _ => hR.xb i) h (Nat.le_refl _);refine (q_MulT (S := S) hR.len hR.pos hR.all (by omega) (by omega) h ht hl hRT hp (ha.le (by omega)) (hb.le (by omega)) hk ⟨p1,p2⟩ ⟨q1,q2⟩ ⟨by omega,?_,?_⟩).mono ?_
 ·refine Nat.lt_of_lt_of_le (W4_words (e := u + u' + eF h) ?_) (Nat.pow_le_pow_right (by omega) (by omega))
  rw [Nat.pow_add,Nat.pow_add];exact Nat.mul_le_mul (Nat.mul_le_mul p3 q3) b1
 ·refine Nat.lt_of_lt_of_le (W4_words (e := x + x' + eYq h) ?_) (Nat.pow_le_pow_right (by omega) (by omega))
  rw [Nat.pow_add,Nat.pow_add];exact Nat.mul_le_mul (Nat.mul_le_mul p4 q4) b2
 rintro e w' ⟨A',c',rfl,h1,h2⟩;exact ⟨A',c',rfl,hS ▸ h1.pl,h2⟩
theorem InB.take {u x : Nat} {qs : List Rat} (h : InB u x qs) (k : Nat) : InB u x (qs.take k) := by
 obtain ⟨M,X,p1,p2,p3,p4⟩ := h;exact ⟨M,X,p1,p2.take k,p3,p4⟩
theorem InB.drop {u x : Nat} {qs : List Rat} (h : InB u x qs) (k : Nat) : InB u x (qs.drop k) := by
 obtain ⟨M,X,p1,p2,p3,p4⟩ := h;exact ⟨M,X,p1,p2.drop k,p3,p4⟩
set_option maxRecDepth 100000 in
theorem q_NormF (hp : PolT w Tt n ct T 4) (ht : TowL T) (hn : n = h + 1) (hn4 : n <= 4) (ha : Pol w A m c qs 4) (hm : m = 2 ^ n) :
  Calls Tryz.prog 31 #[.slice Tt n ct,.slice A m c] w (fun e w' => ∃ A' n' c',e = .returned (.slice A' n' c') /\ Pol w' A' n' c' (normQ (radQ T) h qs) 400 /\ Ext w w') := by
 obtain ⟨k,hk⟩ : ∃ k,k = 2 ^ h := ⟨_,rfl⟩;have hmk : m = k + k := by rw [hm,hn,hk,two_pow_s]
 have hl:=hp.len;have hf:=low_few h (by omega);have hf1:=hf.2.2.2;rw [<- hn] at hf1;have hk0 : 0 < k := by rw [hk];exact Nat.pow_pos (by omega)
 have hk8 : k <= 8 := by rw [hk];exact hf.2.2.1
 have hql : qs.length = 2 ^ n := by rw [ha.len,hm]
 have hR:=rad_few hp ht;have hi:=InB.few ha.sm hql;have HW:=Lib.hid ((InB.norm hR h hi).words (S := 400) (by omega) (by omega));have IA0:=Lib.hid (hi.take k);have IA1:=Lib.hid (hi.drop k);have IP:=Lib.hid ((hi.drop k).mul hR h (hi.drop k));have IR:=Lib.hid (show InB (2 ^ h) (1 + 2 ^ h) (radQ T h) from ⟨_,_,hR.pos h,hR.all h,hR.mb h,hR.xb h⟩);have HB1:=Lib.hid (show 4 * (2 ^ n + 2 ^ n + eF h) + 1 <= 400 /\ 4 * (1 + 2 ^ n + (1 + 2 ^ n) + eYq h) + 1 <= 400 by omega);have HB2:=Lib.hid (show 4 * (2 ^ n + 2 ^ n + eF h + 2 ^ h + eF h) + 1 <= 400 /\ 4 * (1 + 2 ^ n + (1 + 2 ^ n) + eYq h + (1 + 2 ^ h) + eYq h) + 1 <= 400 by omega);have HRB:=Lib.hid hR;have HTW:=Lib.hid (take_TowL ht h);have HLT:=Lib.hid (show (T.take h).length = h by rw [List.length_take,hl];omega);have HRT:=Lib.hid (show ∀ i,i < h -> radQ (T.take h) i = radQ T i from fun i hi => radQ_take hi (by omega));have hjt : h < T.length := by omega
 obtain ⟨bt,ot,rfl,hat⟩ := hp.at_ (fun e => by rw [e] at hjt;exact absurd hjt (Nat.not_lt_zero _));obtain ⟨Ar_,nr_,cr_,t0,hr⟩ := hat h hjt;rw [<- radQ_at hjt] at hr;obtain rfl : nr_ = k := by rw [<- hr.len,radQ_len ht,hk]
 replace hr := hr.le (M := 400) (by omega);have hu:=hp.take (k := h) (by omega);have hcapt:=hp.cap;have hcapa:=ha.cap;have hq0 : 0 < qs.length := by rw [ha.len];omega
 obtain ⟨ba,oa,rfl,_⟩ := ha.at_ (fun e => by rw [e] at hq0;exact absurd hq0 (Nat.not_lt_zero _));have hkm : nr_ <= m := by omega
 have hs : m - nr_ = nr_ := by omega
 have ha0:=(ha.le (M := 400) (by omega)).take hkm;have ha1:=(ha.le (M := 400) (by omega)).dropT hkm;rw [hs] at ha1;have HNQ:=Lib.hid (show normQ (radQ T) h qs = addL (mulL (radQ T) h (qs.take nr_) (qs.take nr_)) (negL (mulL (radQ T) h (mulL (radQ T) h (qs.drop nr_) (qs.drop nr_)) (radQ T h))) by unfold normQ;rw [<- hk]);have HK:=Lib.hid hk;have hw1 : IntKind.i64.wrap ((n : Int) - 1) = (h : Int) := by rw [IntWalk.i64_in _ (by omega)];omega
 have hw2 : wrap64 ((n : Int) - 1) = (h : Int) := by unfold wrap64;omega
 have i1 : (h : Int) <= (ct : Int) := by omega
 have i2 : (h : Int) < (n : Int) := by omega
 have i2' : (h : Int) <= (n : Int) := by omega
 have i3 : (nr_ : Int) <= (m : Int) := by omega
 have i4 : (nr_ : Int) <= (c : Int) := by omega
 have i6 : (m : Int) <= (c : Int) := by omega
 have i8 : ¬ c = nr_ := by omega
 have j1 : h <= ct := by omega
 have j2 : h < n := by omega
 have hn3 : h <= 4 := by omega
 have qd1 : Int.tdiv (m : Int) 2 = (nr_ : Int) := by rw [Int.tdiv_eq_ediv_of_nonneg (by omega)];omega
 have qd2 : (m : Int) / 2 = (nr_ : Int) := by omega
 have qd3 : IntKind.i64.wrap (nr_ : Int) = (nr_ : Int) := IntWalk.i64_in _ (by omega);have hm16 : m <= 32 := by omega
 clear hn hk hmk hm hf hf1 hi hR ht hat hql hjt hq0 hp ha hl
 go_enter Tryz.func31,Tryz.ntmps31
 go_upto_region 2 with (fail)
 go_quiet (fail)
 have ex:=(Ext.refl w).drewN nq;refine at_then (fun U => Ext w U) ex ?_;rintro V EW;clear ex;replace ha0 := ha0.ext EW;replace ha1 := ha1.ext EW;replace hu := hu.ext EW;replace hr := hr.ext EW
 go_upto_region 3 with (fail)
 clear t0;have ES0:=Ext.refl V;refine wp_region_held_drew (S := Ext V) (by kernel_rfl) ES0.drew (fun ES => ?_);clear ES0;refine Late.s0 ES (fun hAl hQ => ?_);refine Late.u 0 22 hQ ?_
 try simp only [zP]
 refine Late.u 1 23 hQ ?_
 try simp only [zP]
 refine Late.u 2 24 hQ ?_
 try simp only [zP]
 refine Late.u 3 25 hQ ?_
 try simp only [zP]
 refine Late.u 5 27 hQ ?_
 try simp only [zP]
 refine Late.u 6 28 hQ ?_
 try simp only [zP]
 refine Late.u 9 31 hQ ?_
 try simp only [zP]
 refine Late.u 10 32 hQ ?_
 try simp only [zP]
 refine Late.u 11 33 hQ ?_
 try simp only [zP]
 refine Late.u 12 34 hQ ?_
 try simp only [zP]
 refine Late.u 14 36 hQ ?_
 try simp only [zP]
 refine Late.u 15 37 hQ ?_
 try simp only [zP]
 refine Late.u 18 40 hQ ?_
 try simp only [zP]
 refine Late.u 4 26 hQ ?_
 try simp only [zP]
 refine Late.u 7 29 hQ ?_
 try simp only [zP]
 refine Late.u 13 35 hQ ?_
 try simp only [zP]
 refine Late.u 16 38 hQ ?_
 try simp only [zP]
 refine Late.cl (i := 8) rfl hAl hQ (fun w8 e8 E8 K hK => ?_);go_simp
 (go_at_call 44;refine (q_MulU (hu.ext E8) HTW.out HLT.out HRB.out HRT.out hn3 HK.out (ha0.ext E8) (ha0.ext E8) IA0.out IA0.out HB1.out).mono ?_;rintro e wk8 ⟨A1,c1,rfl,r1,hx8⟩)
 refine hK.out _ _ hx8 ?_;clear hK K
 try simp only [zP]
 refine Late.cl (i := 17) rfl hAl hQ (fun w17 e17 E17 K hK => ?_);go_simp
 (replace r1 := r1.ext e17;go_at_call 44;refine (q_MulU (hu.ext E17) HTW.out HLT.out HRB.out HRT.out hn3 HK.out (ha1.ext E17) (ha1.ext E17) IA1.out IA1.out HB1.out).mono ?_;rintro e wk17 ⟨A2,c2,rfl,r2,hx17⟩;replace r1 := r1.ext hx17)
 refine hK.out _ _ hx17 ?_;clear hK K
 try simp only [zP]
 refine Late.cl (i := 19) rfl hAl hQ (fun w19 e19 E19 K hK => ?_);go_simp
 (replace r1 := r1.ext e19;replace r2 := r2.ext e19;go_at_call 44;refine (q_MulU (hu.ext E19) HTW.out HLT.out HRB.out HRT.out hn3 HK.out r2 (hr.ext E19) IP.out IR.out HB2.out).mono ?_;rintro e wk19 ⟨A3,c3,rfl,r3,hx19⟩;replace r1 := r1.ext hx19;replace r2 := r2.ext hx19)
 refine hK.out _ _ hx19 ?_;clear hK K
 try simp only [zP]
 refine Late.cl (i := 20) rfl hAl hQ (fun w20 e20 E20 K hK => ?_);go_simp
 (replace r1 := r1.ext e20;replace r2 := r2.ext e20;replace r3 := r3.ext e20;go_at_call 79;refine (q_SubT r1 r3 (by omega) (by omega) (by omega)).mono ?_;rintro e wk20 ⟨A4,n4,c4,rfl,r4,hx20⟩;replace r1 := r1.ext hx20;replace r2 := r2.ext hx20;replace r3 := r3.ext hx20)
 refine hK.out _ _ hx20 ?_;clear hK K
 try simp only [zP]
 refine Late.u 21 4 hQ ?_
 try simp only [zP]
 refine Late.d0 (fun wz ez Ez => ?_);clear hAl hQ ES
 replace r4 := (r4.ext ez).tightG (M := 400) (by
  intro q hq;exact HW.out q (by rw [HNQ.out];exact hq))
 replace EW := EW.trans Ez;clear ez Ez
 go_wp2_with fail
 go_ret
 rw [HNQ.out];exact ⟨_,_,_,rfl,r4,EW⟩
end
set_option maxRecDepth 100000 in
theorem single6_any {w : World} {A A1 A2 A3 : Option Addr} {n c n1 c1 n2 c2 n3 c3 : Nat} {ts : List (List RawR)} {r1 r2 r3 : List RawR} (hA : Awake6) (hT : Tab w) (h : RawT w A n c ts) (h1 : RawP w A1 n1 c1 r1) (h2 : RawP w A2 n2 c2 r2) (h3 : RawP w A3 n3 c3 r3) {z : Int} (s2 : SzL r2) (s3 : SzL r3) :
  Calls Tryz.prog 4 #[.agg #[.slice A n c,.slice A1 n1 c1,.slice A2 n2 c2,.slice A3 n3 c3],.int .i64 z] w (fun e w' => e = .returned (.bool true) /\ Ext w w') := by
 have HS2:=Lib.hid s2;have HS3:=Lib.hid s3;clear s2 s3
 go_enter Tryz.func4,Tryz.ntmps4
 go_upto_region 1 with (fail)
 obtain ⟨W,hW,EW,bx,hz⟩ := box1 w 25 #[.slice A n c,.slice A1 n1 c1,.slice A2 n2 c2,.slice A3 n3 c3];rw [<- hW];clear hW hz;have HA:=Lib.hid hA;clear hA
 go_wp2_with fail
 refine (HA.out _ (hT.ext EW)).mono ?_;rintro e V1 ⟨rfl,hx⟩;replace bx := bx.ext hx;replace EW := EW.trans hx;clear hx;have x0:=bx.cell 0 (.slice A n c) rfl;have x1:=bx.cell 1 (.slice A1 n1 c1) rfl;have x2:=bx.cell 2 (.slice A2 n2 c2) rfl;have x3:=bx.cell 3 (.slice A3 n3 c3) rfl;have hnb:=Box.new V1 23 #[.slice A1 n1 c1];have e1:=(Ext.refl V1).alloc (.cells #[.slice A1 n1 c1] 23)
 go_wp2_with fail
 refine (q_FewT (h.ext (EW.trans e1)) (RawT.one hnb (h1.ext (EW.trans e1))) (by omega)).mono ?_;rintro e V2 ⟨rfl,hx⟩;replace hx := e1.trans hx;replace bx := bx.ext hx;replace EW := EW.trans hx;clear hx hnb e1 x0 x1 x2 x3
 cases hfb : fewB4 ts [r1] with
 | false =>
  go_wp2_with fail
  refine (HA.out _ (hT.ext EW)).mono ?_;rintro e V3 ⟨rfl,hx⟩
  go_wp2_with fail
  go_ret
  exact ⟨rfl,EW.trans hx⟩
 | true =>
  obtain ⟨hf4,hfl⟩ := fewB4_all hfb;have hn4 : n <= 4 := by rw [<- h.len];exact hf4
  have l4 : ∀ l ∈ ts,l.all (fun r => r.le 4) = true := fun l hl => (hfl l (List.mem_append_left _ hl)).2
  have k4 : r1.all (fun r => r.le 4) = true := (hfl r1 (List.mem_append_right _ (by simp))).2;have hn1 : n1 <= 16 := by rw [<- h1.len];exact (hfl r1 (List.mem_append_right _ (by simp))).1
  have HLT:=Lib.hid (show ∀ l ∈ ts,l.length <= 100000 from fun l hl => Nat.le_trans (hfl l (List.mem_append_left _ hl)).1 (by decide));have HSO:=Lib.hid (show (∀ l ∈ ts,SzL l) /\ SzL r1 from ⟨fun l hl => SzL.few (hfl l (List.mem_append_left _ hl)),SzL.few (hfl r1 (List.mem_append_right _ (by simp)))⟩);have H4:=Lib.hid l4;have HK:=Lib.hid k4;have HR:=Lib.hid (show ∀ l ∈ ts,l.all (fun r => r.le 1000) = true from fun l hl => le_1000 (l4 l hl));have HR1:=Lib.hid (le_1000 k4);clear l4 k4 hfb;have x0:=bx.cell 0 (.slice A n c) rfl;have x1:=bx.cell 1 (.slice A1 n1 c1) rfl;have x2:=bx.cell 2 (.slice A2 n2 c2) rfl;have x3:=bx.cell 3 (.slice A3 n3 c3) rfl
  go_wp2_with fail
  refine (law_own (h.ext EW) (h1.ext EW) (h2.ext EW) (h3.ext EW) (by omega) HSO.out.1 HSO.out.2 HS2.out HS3.out).mono ?_;rintro e V3 ⟨A',c',B',d',C',e',D',f',rfl,k0,k1,k2,k3,hx⟩
  go_upto_region 4 with (fail)
  obtain ⟨V4,hV4,ex,by_,hz4⟩ := box1 V3 25 #[.slice A' n c',.slice B' n1 d',.slice C' n2 e',.slice D' n3 f'];rw [<- hV4];clear hV4 hz4 x0 x1 x2 x3;replace hx := hx.trans ex;replace k0 := k0.ext ex;replace k1 := k1.ext ex;replace k2 := k2.ext ex;replace bx := bx.ext hx;replace EW := EW.trans hx;generalize V3.heap.size = gx at *;replace h := h.ext EW;replace h1 := h1.ext EW;replace h2 := h2.ext EW;clear ex hx h3 k3 hfl hf4;clear h2 k2;have x0:=bx.cell 0 (.slice A n c) rfl;have x1:=bx.cell 1 (.slice A1 n1 c1) rfl;have x4:=by_.cell 0 (.slice A' n c') rfl;have x5:=by_.cell 1 (.slice B' n1 d') rfl
  go_wp2_with fail
  refine (q_FormedT h h1 (by omega) (by omega) HR.out HLT.out HR1.out).mono ?_;rintro e U5 ⟨rfl,hx⟩;clear x0 x1 x4 x5;replace h := h.ext hx;replace h1 := h1.ext hx;replace k0 := k0.ext hx;replace k1 := k1.ext hx;replace bx := bx.ext hx;replace by_ := by_.ext hx;replace EW := EW.trans hx;clear hx;have x0:=bx.cell 0 (.slice A n c) rfl;have x1:=bx.cell 1 (.slice A1 n1 c1) rfl;have x4:=by_.cell 0 (.slice A' n c') rfl;have x5:=by_.cell 1 (.slice B' n1 d') rfl
  go_wp2_with fail
  refine (p_RootU (z := z) k0 hn4 H4.out (hT.ext EW)).mono ?_;rintro e U6 ⟨Ar,mr,cr,rfl,hroot,hx⟩;clear x0 x1 x4 x5;replace h := h.ext hx;replace h1 := h1.ext hx;replace k0 := k0.ext hx;replace k1 := k1.ext hx;replace bx := bx.ext hx;replace by_ := by_.ext hx;replace EW := EW.trans hx;clear hx
  go_upto_region 6 with (fail)
  go_cut [67] (fun p V => p = .bool false /\ Ext U6 V)
  case first =>
   have x0:=bx.cell 0 (.slice A n c) rfl
   rcases hroot with ⟨i,hti,rfl,hi,hmr,hP⟩ | ⟨hno,rfl⟩
   ·have hm0 : 0 < mr := by rw [hmr];exact Nat.pow_pos (by omega)
    have hm16 : mr <= 16 := by rw [hmr];exact (m_few n (by omega)).2.2.2.2.2.2
    have HT0:=Lib.hid hti;have g1 : decide ((0 : Int) <= (i : Int)) = true := decide_eq_true (by omega);have g2 : decide ((i : Int) < (n : Int)) = true := decide_eq_true (by omega);have g3 : decide ((0 : Int) < (mr : Int)) = true := decide_eq_true (by omega);clear hti hmr
    go_wp2_with fail
    refine (q_TowerT h (by omega) HR.out HLT.out).mono ?_;rintro e U7 ⟨rfl,hx⟩;rw [HT0.out];replace bx := bx.ext hx;replace hP := hP.ext hx;clear x0;have x0:=bx.cell 0 (.slice A n c) rfl
    go_wp2_with fail
    refine (q_RootT (A := A) (n := n) (c := c) i hi (by omega)).mono ?_;rintro e U8 ⟨A9,m9,c9,rfl,hQ,hx2⟩
    go_wp2_with fail
    refine (q_SameT (hP.ext hx2) hQ (by omega) (by omega) (by omega)).mono ?_;rintro e U9 ⟨rfl,hx3⟩
    go_wp2_with fail
    go_meet
    exact ⟨rfl,hx.trans (hx2.trans hx3)⟩
   ·by_cases ht0 : towerB ts 0 = true
    ·have HT0:=Lib.hid ht0
     by_cases hz0 : 0 <= z
     ·have hzn : (n : Int) <= z := by
       rcases hno with e | e | e
       ·rw [ht0] at e;cases e
       ·omega
       ·exact e
      have g1 : decide ((0 : Int) <= z) = true := decide_eq_true hz0;have g2 : decide (z < (n : Int)) = false := decide_eq_false (by omega);clear hno ht0
      go_wp2_with fail
      refine (q_TowerT h (by omega) HR.out HLT.out).mono ?_;rintro e U7 ⟨rfl,hx⟩;rw [HT0.out];replace bx := bx.ext hx;clear x0;have x0:=bx.cell 0 (.slice A n c) rfl
      go_wp2_with fail
      go_meet
      exact ⟨rfl,hx⟩
     ·have g1 : decide ((0 : Int) <= z) = false := decide_eq_false hz0
      clear hno ht0
      go_wp2_with fail
      refine (q_TowerT h (by omega) HR.out HLT.out).mono ?_;rintro e U7 ⟨rfl,hx⟩;rw [HT0.out]
      go_wp2_with fail
      go_meet
      exact ⟨rfl,hx⟩
    ·have HT0:=Lib.hid (Bool.eq_false_iff.2 ht0)
     clear hno ht0
     go_wp2_with fail
     refine (q_TowerT h (by omega) HR.out HLT.out).mono ?_;rintro e U7 ⟨rfl,hx⟩;rw [HT0.out]
     go_wp2_with fail
     go_meet
     exact ⟨rfl,hx⟩
  case rest =>
  clear hroot;obtain ⟨rfl,hx⟩ := hcut;replace h := h.ext hx;replace h1 := h1.ext hx;replace k0 := k0.ext hx;replace k1 := k1.ext hx;replace bx := bx.ext hx;replace by_ := by_.ext hx;replace EW := EW.trans hx;clear hx
  cases hfm : formedB ts [r1] with
  | false =>
   have HF:=Lib.hid hfm;clear hfm;have x4:=by_.cell 0 (.slice A' n c') rfl;have x5:=by_.cell 1 (.slice B' n1 d') rfl
   go_wp2_with fail
   refine (p_InvT_no k0 k1 (by omega) HR.out HR1.out HF.out (hT.ext EW)).mono ?_;rintro e V5 ⟨rfl,hx⟩;clear x4 x5;replace k0 := k0.ext hx;replace k1 := k1.ext hx;replace bx := bx.ext hx;replace by_ := by_.ext hx;replace EW := EW.trans hx;clear hx;have x4:=by_.cell 0 (.slice A' n c') rfl;have x5:=by_.cell 1 (.slice B' n1 d') rfl
   go_wp2_with fail
   refine (p_ConjU (z := z) k0 k1 (by omega) HR.out HR1.out HF.out (hT.ext EW)).mono ?_;rintro e V6 ⟨rfl,hx⟩;clear x4 x5;replace k0 := k0.ext hx;replace k1 := k1.ext hx;replace bx := bx.ext hx;replace by_ := by_.ext hx;replace EW := EW.trans hx;clear hx
   go_upto_region 11 with (fail)
   have x0:=bx.cell 0 (.slice A n c) rfl;have x1:=bx.cell 1 (.slice A1 n1 c1) rfl;have x4:=by_.cell 0 (.slice A' n c') rfl;have x5:=by_.cell 1 (.slice B' n1 d') rfl;clear x0 x1 x4 x5;have ES0:=Ext.refl V6;refine wp_region_held_drew (S := Ext V6) (by kernel_rfl) ES0.drew (fun ES => ?_);clear ES0;refine Late.s0 ES (fun hAl hQ => ?_);refine Late.u 0 87 hQ ?_
   try simp only [zP]
   refine Late.u 2 89 hQ ?_
   try simp only [zP]
   refine Late.u 6 93 hQ ?_
   try simp only [zP]
   refine Late.u 8 95 hQ ?_
   try simp only [zP]
   refine Late.u 13 100 hQ ?_
   try simp only [zP]
   refine Late.u 16 103 hQ ?_
   try simp only [zP]
   refine Late.t 1 88 ?v_6 hQ ?y_6 ?_
   case y_6 => intro w' hSw;have k00:=(bx.ext hSw).c4;have k10:=(by_.ext hSw).c4;go_simp;try rfl
   try simp only [zP]
   refine Late.t 3 90 ?v_7 hQ ?y_7 ?_
   case y_7 => intro w' hSw;have k00:=(bx.ext hSw).c4;have k10:=(by_.ext hSw).c4;go_simp;try rfl
   try simp only [zP]
   refine Late.t 7 94 ?v_8 hQ ?y_8 ?_
   case y_8 => intro w' hSw;have k00:=(bx.ext hSw).c4;have k10:=(by_.ext hSw).c4;go_simp;try rfl
   try simp only [zP]
   refine Late.t 9 96 ?v_9 hQ ?y_9 ?_
   case y_9 => intro w' hSw;have k00:=(bx.ext hSw).c4;have k10:=(by_.ext hSw).c4;go_simp;try rfl
   try simp only [zP]
   refine Late.u 14 101 hQ ?_
   try simp only [zP]
   refine Late.u 17 104 hQ ?_
   try simp only [zP]
   refine Late.cl (i := 4) rfl hAl hQ (fun w4 e4 E4 K hK => ?_);go_simp
   (go_at_call 28;refine (p_NegT_no (k0.ext E4) (k1.ext E4) (by omega) HR.out HR1.out HF.out (hT.ext (EW.trans E4))).mono ?_;rintro e wk4 ⟨rfl,hx4⟩)
   refine hK.out _ _ hx4 ?_;clear hK K
   try simp only [zP]
   refine Late.u 5 92 hQ ?_
   try simp only [zP]
   refine Late.cl (i := 10) rfl hAl hQ (fun w10 e10 E10 K hK => ?_);go_simp
   (go_at_call 29;refine (p_NormU (k0.ext E10) (k1.ext E10) (by omega) HR.out HR1.out HF.out (hT.ext (EW.trans E10))).mono ?_;rintro e wk10 ⟨rfl,hx10⟩)
   refine hK.out _ _ hx10 ?_;clear hK K
   try simp only [zP]
   refine Late.u 11 98 hQ ?_
   try simp only [zP]
   refine Late.u 12 99 hQ ?_
   try simp only [zP]
   refine Late.u 15 102 hQ ?_
   try simp only [zP]
   refine Late.u 18 105 hQ ?_
   try simp only [zP]
   refine Late.u 19 106 hQ ?_
   try simp only [zP]
   refine Late.u 20 107 hQ ?_
   try simp only [zP]
   refine Late.u 21 108 hQ ?_
   try simp only [zP]
   refine Late.u 22 109 hQ ?_
   try simp only [zP]
   refine Late.u 23 110 hQ ?_
   try simp only [zP]
   refine Late.u 24 111 hQ ?_
   try simp only [zP]
   refine Late.u 25 112 hQ ?_
   try simp only [zP]
   refine Late.u 26 113 hQ ?_
   try simp only [zP]
   refine Late.u 27 114 hQ ?_
   try simp only [zP]
   refine Late.u 28 4 hQ ?_
   try simp only [zP]
   refine Late.d0 (fun U21 ez Ez => ?_);clear hAl hQ ES;replace bx := bx.ext Ez;replace by_ := by_.ext Ez;replace k0 := k0.ext Ez;replace k1 := k1.ext Ez;replace EW := EW.trans Ez;clear ez Ez;have x0:=bx.cell 0 (.slice A n c) rfl;have x1:=bx.cell 1 (.slice A1 n1 c1) rfl;have x4:=by_.cell 0 (.slice A' n c') rfl;have x5:=by_.cell 1 (.slice B' n1 d') rfl
   go_wp2_with fail
   go_ret
   exact ⟨rfl,EW⟩
  | true =>
   obtain ⟨T,qa,hp,ht,ha,hq,hb,hm⟩ := formed_two h h1 k0 k1 hfm H4.out HK.out;have HN1:=Lib.hid hm;clear hfm hm h h1 k0 k1
   go_upto_region 12 with (fail)
   have x0:=bx.cell 0 (.slice A n c) rfl;have x1:=bx.cell 1 (.slice A1 n1 c1) rfl;have x4:=by_.cell 0 (.slice A' n c') rfl;have x5:=by_.cell 1 (.slice B' n1 d') rfl;clear x0 x1 x4 x5;have ES0:=Ext.refl wc;refine wp_region_held_drew (S := Ext wc) (by kernel_rfl) ES0.drew (fun ES => ?_);clear ES0;refine Late.s0 ES (fun hAl hQ => ?_);refine Late.u 0 115 hQ ?_
   try simp only [zP]
   refine Late.u 2 117 hQ ?_
   try simp only [zP]
   refine Late.u 5 120 hQ ?_
   try simp only [zP]
   refine Late.u 7 122 hQ ?_
   try simp only [zP]
   refine Late.t 1 116 ?v_v hQ ?y_v ?_
   case y_v => intro w' hSw;have k00:=(bx.ext hSw).c4;have k10:=(by_.ext hSw).c4;go_simp;try rfl
   try simp only [zP]
   refine Late.t 3 118 ?v_w hQ ?y_w ?_
   case y_w => intro w' hSw;have k00:=(bx.ext hSw).c4;have k10:=(by_.ext hSw).c4;go_simp;try rfl
   try simp only [zP]
   refine Late.t 6 121 ?v_x hQ ?y_x ?_
   case y_x => intro w' hSw;have k00:=(bx.ext hSw).c4;have k10:=(by_.ext hSw).c4;go_simp;try rfl
   try simp only [zP]
   refine Late.t 8 123 ?v_y hQ ?y_y ?_
   case y_y => intro w' hSw;have k00:=(bx.ext hSw).c4;have k10:=(by_.ext hSw).c4;go_simp;try rfl
   try simp only [zP]
   refine Late.cl (i := 4) rfl hAl hQ (fun w4 e4 E4 K hK => ?_);go_simp
   (go_at_call 28;refine (p_NegT (hq.ext E4) ht (hb.ext E4) HN1.out (by omega) (by omega) (by omega) (hT.ext (EW.trans E4))).mono ?_;rintro e wk4 ⟨A7,n7,c7,rfl,pn,hx4⟩)
   refine hK.out _ _ hx4 ?_;clear hK K
   try simp only [zP]
   refine Late.cl (i := 9) rfl hAl hQ (fun w9 e9 E9 K hK => ?_);go_simp
   (replace pn := pn.ext e9;go_at_call 30;refine (q_NegT (ha.ext E9) (by omega) (by omega)).mono ?_;rintro e wk9 ⟨A8,n8,c8,rfl,qn,hx9⟩;replace pn := pn.ext hx9)
   refine hK.out _ _ hx9 ?_;clear hK K
   try simp only [zP]
   refine Late.cl (i := 10) rfl hAl hQ (fun w10 e10 E10 K hK => ?_);go_simp
   (replace pn := pn.ext e10;replace qn := qn.ext e10;go_at_call 19;refine (q_SameT pn qn (by omega) (by omega) (by have hnl:=pn.len;unfold negL at hnl;rw [List.length_map,hb.len] at hnl;omega)).mono ?_;rintro e wk10 ⟨rfl,hx10⟩;replace pn := pn.ext hx10;replace qn := qn.ext hx10)
   refine hK.out _ _ hx10 ?_;clear hK K
   try simp only [zP]
   refine Late.u 11 126 hQ ?_
   try simp only [zP]
   refine Late.d0 (fun U31 ez Ez => ?_);clear hAl hQ ES;replace bx := bx.ext Ez;replace by_ := by_.ext Ez;replace hp := hp.ext Ez;replace ha := ha.ext Ez;replace hq := hq.ext Ez;replace hb := hb.ext Ez;replace EW := EW.trans Ez;clear ez Ez;have x0:=bx.cell 0 (.slice A n c) rfl;have x1:=bx.cell 1 (.slice A1 n1 c1) rfl;have x4:=by_.cell 0 (.slice A' n c') rfl;have x5:=by_.cell 1 (.slice B' n1 d') rfl
   rcases Nat.eq_zero_or_pos n with h0 | h0
   ·subst h0
    go_wp2_with fail
    refine p_NormT_zero.mono ?_;rintro e V8 ⟨rfl,hx⟩;clear x0 x1 x4 x5;replace bx := bx.ext hx;replace EW := EW.trans hx;have x0:=bx.cell 0 (.slice A 0 c) rfl
    go_wp2_with fail
    go_ret
    exact ⟨rfl,EW⟩
   ·obtain ⟨h,hh_⟩ : ∃ h,n = h + 1 := ⟨n - 1,by omega⟩
    have HH:=Lib.hid hh_;clear hh_;have g1 : ((n : Int) == 0) = false := beq_eq_false_iff_ne.2 (by omega);have g2 : decide ((0 : Int) < (n : Int)) = true := decide_eq_true (by omega);have h28 : 2 ^ h <= 8 := (low_few h (by have := HH.out;omega)).2.2.1
    go_wp2_with fail
    refine (p_NormA hq ht HH.out hn4 hb HN1.out (hT.ext EW)).mono ?_;rintro e V8 ⟨A9,c9,rfl,pn,hx⟩;clear x0 x1 x4 x5;replace bx := bx.ext hx;replace hp := hp.ext hx;replace ha := ha.ext hx;replace EW := EW.trans hx;clear hx;have x0:=bx.cell 0 (.slice A n c) rfl;have x1:=bx.cell 1 (.slice A1 n1 c1) rfl
    go_wp2_with fail
    refine (q_NormF hp ht HH.out hn4 ha HN1.out).mono ?_;rintro e V9 ⟨A8,n8,c8,rfl,qn,hx⟩;replace EW := EW.trans hx
    go_wp2_with fail
    refine (q_SameT (pn.ext hx) qn (by omega) (by omega) (by omega)).mono ?_;rintro e V10 ⟨rfl,hx⟩;replace EW := EW.trans hx
    go_wp2_with fail
    go_ret
    exact ⟨rfl,EW⟩
end
section
open Go.ChangeShapes Go.WideShapes Go.ChangeAt Go.RowKit Go.Joins
set_option maxRecDepth 100000
theorem single6_lifted (os : Os) (started : os.Started) (H : Type) (enc : TypeId × Value -> H) :
  ReturnsInHanded {} Tryz.checked os 4 .any (fun w args => (Rows.towerSingleSpec.pre enc Tryz.prog Tryz.f4 [] false w args /\ laidMetH Tryz.prog laidI w) /\ sizedMet enc Tryz.prog Tryz.f4 (OpenSpec.ofChange Rows.towerSingleSpec) false w args)
   (Rows.towerSingleSpec.post enc Tryz.prog Tryz.f4 false true false false) := by
 refine returnsInHanded_of_change_and (C := Tryz.checked) (X := fun w _ => laidMetH Tryz.prog laidI w) (fun _ _ _ hh h => h.of_heap hh) Tryz.own started (by kernel_rfl) Tryz.func4
  (ChangeSpec.witness_shaped (enc := enc) (C := Tryz.checked) (os := os) (X := fun w _ => laidMetH Tryz.prog laidI w) false (World.doorLaid Tryz.prog 400 os) #[Value.agg #[Value.slice none 0 0,Value.slice none 0 0,Value.slice none 0 0,Value.slice none 0 0],.int .i64 0] 8 rfl (World.shaped_of_RefB (by kernel_rfl) (by kernel_rfl)) (by kernel_rfl) (by kernel_rfl) (by kernel_rfl) (doorI_met os _)) ?_
 intro W base args ds gs before hval0 hW _ hsz hL _;have hval : ∀ (j : Nat) t v,Tryz.f4.params[j]? = some t -> args[j]? = some v -> Value.okWide Tryz.prog W .any base t v := hval0;have hW' := hW;have hlt : ∀ p ∈ before,p.block < W.heap.size := fun p hp => hW.lt p hp
 obtain ⟨p,q,hA0,hV,rfl,_,_⟩ := hW;have hA : DataW.TrodAll enc Tryz.prog W 0 (fun _ => true) true Tryz.f4.params.toList args.toList ds p := hA0;rw [Tryz.params4] at hA hval;obtain ⟨v0,v1,d0,d1,p0,p1,rfl,rfl,rfl,h0,h1⟩ := trodAll_two hA;obtain ⟨rfl,rfl⟩ := trodVars_none hV;simp only [List.append_nil] at hW' hlt
 obtain ⟨A,n,c,A1,n1,c1,A2,n2,c2,A3,n3,c3,ts,r1,r2,r3,rfl,hr0,hr1,hr2,hr3,sz2,sz3⟩ := open_caseS (hval 0 25 v0 rfl rfl) h0 (List.all_eq_true.2 fun q hq => List.all_eq_true.1 hsz q (by
  rw [Tryz.params4];simp only [List.append_nil,List.cons_append,DataW.weightsEach];exact List.mem_append.2 (.inl hq)))
 obtain ⟨z,rfl,_,_,hwf⟩ := open_int Tryz.underlying3 (hval 1 3 v1 rfl rfl) h1;simp [Lit.wf,IntKind.min,IntKind.max,IntKind.bits,IntKind.signed] at hwf;clear hA0 hval0;have hT:=tab_of_laidH hL;refine (single6_any awake6 hT hr0 hr1 hr2 hr3 sz2 sz3).mono fun e W' ⟨he,hext⟩ => ?_
 subst he;have hb : Below W.heap.size W W' := hext;have g0:=Below.trod Tryz.laidOut (by kernel_rfl) (of_decide_eq_true (by kernel_rfl)) h0 hb (fun p hp => hlt p (List.mem_append.2 (.inl hp)));have g1:=Below.trod Tryz.laidOut (by kernel_rfl) (of_decide_eq_true (by kernel_rfl)) h1 hb (fun p hp => hlt p (List.mem_append.2 (.inr hp)));exact ⟨_,rfl,_,_,_,[],(p0 ++ p1),[],hW',trodAll_mk1 (shut_bool Tryz.underlying4 true),trodAll_mk2 g0 g1,rfl,Below.frame hb _,fun h => by cases h⟩
theorem single6_row_holds : Rows.TowerSingleSaid :=
 OpenClaim.holds_of_wide 4 Tryz.f4 rfl rfl rfl rfl rfl rfl rfl ⟨rfl,rfl,rfl,rfl,rfl⟩ rfl rfl rfl rfl rfl (by kernel_rfl) Tryz.func4 (by kernel_rfl)
  (of_decide_eq_true (by kernel_rfl)) (by unfold Func.isWrapper;first | (rw [if_neg (of_decide_eq_false (by kernel_rfl))];exact ⟨rfl,rfl⟩) | (rw [if_pos (by decide +kernel)];kernel_rfl))
  (fun os started H enc _ => single6_lifted os started H enc)
theorem single6_holds : Rows.TowerSingleCardSaid :=
 Claim7.holds_tied_plain_at .later [] [.data] true Rows.towerSingleCard.stood.harness false
  single6_row_holds (fun _ h => by cases h) (by kernel_rfl) (fun _ h => by cases h) towerSingle_row_tie rfl ⟨rfl,rfl⟩ (by kernel_rfl) rfl
  (fun f fn hf hfn => by
   obtain rfl : f = 4 := Option.some.inj ((show Tryz.prog.funcNamed "setsquare/setsquarelaw06.TowerSingle" = some 4 by kernel_rfl).symm.trans hf) |>.symm;obtain rfl : fn = Tryz.f4 := (Option.some.inj (Tryz.func4.symm.trans hfn)).symm
   exact ⟨by kernel_rfl,fun j t ht => by
    rw [Tryz.params4] at ht;have hm : t ∈ [25,3] := by simpa using Array.mem_of_getElem? ht
    have hall : ([25,3].all fun u => !Tryz.prog.wantsStandIn u) = true := by kernel_rfl
    exact (show Tryz.prog.wantsStandIn t = false by simpa using List.all_eq_true.1 hall t hm)⟩)
  (by kernel_rfl)
end
end Go.Proofs.YtgagcochepnelaaGreatDoor
