/- Walks and laws, a part. -/
import Derived.Test.YtgagcochepnelaaGreatDoorP17
import Derived.RangeFuncLeaves
import Derived.RangeFuncBox
import Derived.RangeFuncCalls
import Derived.RangeFuncNested
import Derived.OrdersIn
set_option linter.unusedSimpArgs false
set_option linter.unusedVariables false
set_option maxHeartbeats 64000000
namespace Go.Proofs.YtgagcochepnelaaGreatDoor
section
open Go.RowKit
attribute [local go_sem ↓] Go.wp_at_zero Go.wp_at_succ
theorem NI.le_pow {w : World} {z : Int} {L : Nat} {s : Bool} {A : Option Addr} {n c : Nat} (h : NI w z L s A n c) : z.natAbs <= 4294967296 ^ L := by
 obtain ⟨xs,h1,h2,h3,h4,h5,h6⟩ := h.out;rw [<- h5.abs];exact Nat.le_trans (Nat.le_of_lt (val_lt h5.w32)) (Nat.pow_le_pow_right (by omega) (by omega))
end
section
open Go.RowKit
section bridge
variable {P : Program} {ops : Array Oper} {Q : Exit -> Act -> World -> Prop} {md : Region.Mode} {l n : Nat}
end bridge
section kept
variable {w w' a : World} {z : Int} {zs : List Int} {L b o g n c : Nat} {s : Bool} {A : Option Addr} {cs : List Value} {xs : List Nat}
end kept
end
section
open Go.RowKit
attribute [local go_sem ↓] Go.wp_at_zero Go.wp_at_succ
section
variable {w : World} {L n : Nat}
def lenS : Value -> Nat
 | .slice _ n _ => n
 | _ => 0
set_option maxRecDepth 100000 in
theorem q_FromRatO {q : Rat} {T : Option Addr} {ct : Nat} {sx tx : Bool} {Ax Bx : Option Addr} {nx cx mx dx : Nat} (hk : NR w q L sx Ax nx cx tx Bx mx dx) (hL : 2 <= L) (hn : n <= 6) : Calls Tryz.prog 20 #[.slice T n ct,.agg #[.bool sx,.slice Ax nx cx,.bool tx,.slice Bx mx dx]] w (fun e w' => ∃ A n' c,e = .returned (.slice A n' c) /\ Row4 w' w.heap.size (.slice A n' c) (q :: List.replicate (2 ^ n - 1) 0) L /\ Ext w w') := by
 obtain ⟨P,hP⟩ : ∃ P,P = 2 ^ n := ⟨_,rfl⟩;have hP1 : P <= 64 := by rw [hP];exact Nat.le_trans (Nat.pow_le_pow_right (by omega) hn) (by decide)
 have hP0 : 0 < P := by rw [hP];exact Nat.pow_pos (by omega)
 have hW2 : wrap64 ((2 : Int) ^ n) = (P : Int) := by
  rw [hP];have e1 : ((2 : Int) ^ n) = ((2 ^ n : Nat) : Int) := by push_cast;rfl
  rw [e1];unfold wrap64;omega
 have HP := Lib.hid hP;clear hP
 go_enter Tryz.func20,Tryz.ntmps20
 go_upto_region 1 with (fail)
 obtain ⟨W,hW,extW,bx,hz⟩ := box1 w 30 #[.bool sx,.slice Ax nx cx,.bool tx,.slice Bx mx dx];rw [<- hW];clear hW;have x0 := bx.cell 0 (.bool sx) rfl;have x1 := bx.cell 1 (.slice Ax nx cx) rfl;have x2 := bx.cell 2 (.bool tx) rfl;have x3 := bx.cell 3 (.slice Bx mx dx) rfl
 have hR0 : Row4 (W.alloc (.cells #[.bool sx,.slice Ax nx cx,.bool tx,.slice Bx mx dx] 30)) w.heap.size (.slice (some ⟨W.heap.size,0,Option.none⟩) 1 1) [q] L := by
  have ha := (Ext.refl W).alloc (.cells #[.bool sx,.slice Ax nx cx,.bool tx,.slice Bx mx dx] 30);exact RRow.row4 ⟨_,Box.new W _ _,.cons ((hk.ext extW).ext ha) .nil⟩ extW.size rfl (by omega)
 have hE0 := extW.alloc (.cells #[.bool sx,.slice Ax nx cx,.bool tx,.slice Bx mx dx] 30)
 go_wp2_with fail
 go_loopw [5] (fun v wr => ∃ k : Nat,k < P /\ Ext w wr /\ lenS v = k + 1 /\ Row4 wr w.heap.size v (q :: List.replicate k 0) L) (fun v _ => P - lenS v)
 case atStart => exact ⟨0,hP0,hE0,rfl,hR0⟩
 case round =>
  clear hR0 hE0 bx x0 x1 x2 x3;obtain ⟨k,hk1,extr,hlv,hrow⟩ := hrel;obtain ⟨g5,cap5,rfl,_⟩ := hrow.shape (by simp);rw [show (q :: List.replicate k (0 : Rat)).length = k + 1 by simp] at hrow ⊢;have HLV := Lib.hid hlv;clear hlv
  by_cases hlt : k + 1 < P
  ·have hkI : ((k + 1 : Nat) : Int) < (P : Int) := by omega
   have hkJ : (k : Int) + 1 < (P : Int) := by omega
   go_wp2_with fail
   refine (q_FromIntR 0 (by omega) (by omega)).mono ?_;rintro e W5 ⟨s7,A7,n7,c7,t7,B7,m7,d7,rfl,h7,ext5⟩;have ha5 := (ext5).alloc (.cells #[.bool s7,.slice A7 n7 c7,.bool t7,.slice B7 m7 d7] 30);replace extr := extr.trans ha5;replace hrow := hrow.ext ha5;replace h7 := (h7.ext ((Ext.refl W5).alloc (.cells #[.bool s7,.slice A7 n7 c7,.bool t7,.slice B7 m7 d7] 30))).le hL;clear ext5 ha5;have hlen : (q :: List.replicate k (0 : Rat)).length <= 1000 := by simp;omega
   go_wp2_with (at_builtin;refine wpList_append_rat rfl _ _ rfl rfl rfl hrow h7 (Box.new W5 _ _) hlen extr.size ?_;intro v6 W6 hrow6 hgr hob)
   have hl6 : (q :: List.replicate k (0 : Rat)) ++ [((0 : Int) : Rat)] = q :: List.replicate (k + 1) 0 := by
    rw [List.replicate_succ']
    rfl
   rw [hl6] at hrow6;obtain ⟨g6,cap6,e6,_⟩ := hrow6.shape (by simp);have hl7 : lenS v6 = k + 1 + 1 := by rw [e6];simp [lenS]
   go_roundw
   case rel => exact ⟨k + 1,hlt,Below.grown extr hgr extr.size (fun k hk => (hrow.block k hk).1),hl7,hrow6⟩
   case measure => simp [lenS] at *;omega
  ·have hkI : (P : Int) <= ((k + 1 : Nat) : Int) := by omega
   have hkJ : (P : Int) <= (k : Int) + 1 := by omega
   have hkP : k = P - 1 := by omega
   go_wp2_with fail
   go_ret
   rw [<- HP.out,<- hkP];exact ⟨_,_,_,rfl,hrow,extr⟩
theorem q_FromRatT {q : Rat} {T : Option Addr} {ct : Nat} {sx tx : Bool} {Ax Bx : Option Addr} {nx cx mx dx : Nat} (hk : NR w q L sx Ax nx cx tx Bx mx dx) (hL : 2 <= L) (hn : n <= 6) : Calls Tryz.prog 20 #[.slice T n ct,.agg #[.bool sx,.slice Ax nx cx,.bool tx,.slice Bx mx dx]] w (RetPol (q :: List.replicate (2 ^ n - 1) 0) L w) := by
 refine (q_FromRatO hk hL hn).mono ?_;rintro e w' ⟨A,n',c,rfl,h1,h2⟩;obtain ⟨A9,n9,c9,e9,hp⟩ := h1.polT
 injection e9 with e1 e2 e3
 subst e1 e2 e3;exact ⟨_,_,_,rfl,hp,h2⟩
end
theorem get_app {cs pad : List Value} {j : Nat} {v : Value} (h : cs[j]? = some v) : (cs ++ pad)[j]? = some v := by
 obtain ⟨hj,_⟩ := List.getElem?_eq_some_iff.1 h;rw [List.getElem?_append_left hj,h]
theorem RatsAt.of_boxP {w : World} {L g : Nat} {qs : List Rat} {cs pad : List Value} {T : TypeId} (hb : Box w g T (cs ++ pad).toArray) (h : CellsOf w L qs cs) : RatsAt w g 0 qs L := by
 refine ⟨fun i hi => ?_⟩;obtain ⟨s,A,n,c,t,B,m,d,k0,k1,k2,k3,k4⟩ := h.get i hi;rw [Nat.zero_add];have j0 := get_app (pad := pad) k0;have j1 := get_app (pad := pad) k1;have j2 := get_app (pad := pad) k2;have j3 := get_app (pad := pad) k3;exact ⟨s,A,n,c,t,B,m,d,hb.cell (4 * i) _ (by rw [List.getElem?_toArray];exact j0),hb.cell (4 * i + 1) _ (by rw [List.getElem?_toArray];exact j1),hb.cell (4 * i + 2) _ (by rw [List.getElem?_toArray];exact j2),hb.cell (4 * i + 3) _ (by rw [List.getElem?_toArray];exact j3),k4⟩
section
variable {w : World} {base g m cap k L a c b d : Nat} {qs : List Rat} {q : Rat} {s t : Bool} {A B : Option Addr}
theorem Row4.block_box (h : Row4 w base (.slice (some ⟨g,0,none⟩) m cap) qs L) : ∃ cs pad,Box w g 30 (cs ++ pad).toArray /\ NWL (cs ++ pad) /\ CellsOf w L qs cs /\ base <= g /\ m = qs.length /\ m <= cap /\ cap <= maxLen /\ (cs ++ pad).length = cap * 4 /\ cs.length = m * 4 := by
 obtain ⟨cs,⟨hl,h1⟩,h2⟩ := h.own
 rcases h1 with ⟨h1,_⟩ | ⟨g',cap',cur,h1,hb,hg,hn,hc,hsz,htk⟩
 ·cases h1
 ·injection h1 with h1 h3 h4
  injection h1 with h1
  injection h1 with h1
  subst h1 h4;obtain ⟨cur',e',fz,k1,k2⟩ := h.nwb g rfl;rw [hg] at k1
  injection k1 with k1
  injection k1 with k1 _ _
  subst k1;have e : cur.toList = cs ++ cur.toList.drop (qs.length * 4) := by rw [<- htk,List.take_append_drop]
  refine ⟨cs,cur.toList.drop (qs.length * 4),?_,?_,h2,hb,h3,by omega,hc,?_,by omega⟩
  ·rw [<- e]
   exact hg
  ·rw [<- e]
   exact NWL.of k2
  ·rw [<- e,<- hsz]
   exact Array.length_toList
theorem Row4.get (h : Row4 w base (.slice (some ⟨g,0,none⟩) m cap) qs L) (hk : k < qs.length) : ∃ s A n c t B m d,w.cell? ⟨g,k * 4,none⟩ = some (.bool s) /\ w.cell? ⟨g,k * 4 + 1,none⟩ = some (.slice A n c) /\ w.cell? ⟨g,k * 4 + 2,none⟩ = some (.bool t) /\ w.cell? ⟨g,k * 4 + 3,none⟩ = some (.slice B m d) := by
 obtain ⟨g',cap',e,hr⟩ := h.shape (fun e => by subst e;exact absurd hk (Nat.not_lt_zero _))
 injection e with e _ _
 injection e with e
 injection e with e
 subst e;obtain ⟨s,A,n,c,t,B,m,d,e0,e1,e2,e3,_⟩ := hr.at_ k hk;rw [Nat.zero_add,Nat.mul_comm 4 k] at e0 e1 e2 e3;exact ⟨s,A,n,c,t,B,m,d,e0,e1,e2,e3⟩
theorem Row4.frozen (h : Row4 w base (.slice (some ⟨g,0,none⟩) m cap) qs L) (i : Nat) : w.frozen? ⟨g,i,none⟩ = false := by
 obtain ⟨cs,pad,h1,_⟩ := h.block_box;exact h1.frozen i
theorem Row4.putP (h : Row4 w base (.slice (some ⟨g,0,none⟩) m cap) qs L) (hk : k < qs.length) (hq : NR w q L s A a c t B b d) :
  Pol ((((w.setCell ⟨g,k * 4,none⟩ (.bool s)).setCell ⟨g,k * 4 + 1,none⟩ (.slice A a c)).setCell ⟨g,k * 4 + 2,none⟩ (.bool t)).setCell ⟨g,k * 4 + 3,none⟩ (.slice B b d)) (some ⟨g,0,none⟩) m cap (qs.set k q) L /\ (∀ W,Ext W w -> W.heap.size <= base -> Ext W ((((w.setCell ⟨g,k * 4,none⟩ (.bool s)).setCell ⟨g,k * 4 + 1,none⟩ (.slice A a c)).setCell ⟨g,k * 4 + 2,none⟩ (.bool t)).setCell ⟨g,k * 4 + 3,none⟩ (.slice B b d))) := by
 obtain ⟨cs,pad,h1,hn,h2,hb,hm,hc,hx,_,_⟩ := h.block_box;have e1 : qs = qs.take k ++ qs[k] :: qs.drop (k + 1) := by rw [<- List.drop_eq_getElem_cons hk,List.take_append_drop]
 have h2' := h2;rw [e1] at h2';obtain ⟨ds,es',rfl,h3,h4⟩ := CellsOf.split _ h2';have hlk : (qs.take k).length = k := by rw [List.length_take];omega
 have hl := h3.len;rw [hlk] at hl
 cases h4 with
 | @cons _ _ s0 A0 n0 c0 t0 B0 m0 d0 es hq0 hr =>
  have F := ((((FinRow.refl h1 hn).step (k * 4) (v := .bool s) (by intro k h;cases h)).step (k * 4 + 1) (v := .slice A a c) (by intro k h;cases h)).step (k * 4 + 2) (v := .bool t) (by intro k h;cases h)).step (k * 4 + 3) (v := .slice B b d) (by intro k h;cases h)
  have e : (((((ds ++ .bool s0 :: .slice A0 n0 c0 :: .bool t0 :: .slice B0 m0 d0 :: es) ++ pad).set (k * 4) (.bool s)).set (k * 4 + 1) (.slice A a c)).set (k * 4 + 2) (.bool t)).set (k * 4 + 3) (.slice B b d) = ((ds ++ [.bool s,.slice A a c,.bool t,.slice B b d]) ++ es) ++ pad := by
   rw [List.append_assoc,List.cons_append,List.cons_append,List.cons_append,List.cons_append];rw [set_at _ hl];rw [show ds ++ Value.bool s :: .slice A0 n0 c0 :: .bool t0 :: .slice B0 m0 d0 :: (es ++ pad) = (ds ++ [.bool s]) ++ .slice A0 n0 c0 :: .bool t0 :: .slice B0 m0 d0 :: (es ++ pad) by simp];rw [set_at (k * 4 + 1) (by simp [hl])];rw [show (ds ++ [Value.bool s]) ++ .slice A a c :: .bool t0 :: .slice B0 m0 d0 :: (es ++ pad) = (ds ++ [.bool s,.slice A a c]) ++ .bool t0 :: .slice B0 m0 d0 :: (es ++ pad) by simp];rw [set_at (k * 4 + 2) (by simp [hl])];rw [show (ds ++ [Value.bool s,.slice A a c]) ++ .bool t :: .slice B0 m0 d0 :: (es ++ pad) = (ds ++ [.bool s,.slice A a c,.bool t]) ++ .slice B0 m0 d0 :: (es ++ pad) by simp];rw [set_at (k * 4 + 3) (by simp [hl])];simp
  rw [e] at F;have hC := ((h3.ni F.ni).append (.cons ⟨F.ni _ _ _ _ _ _ hq.num,F.ni _ _ _ _ _ _ hq.den⟩ .nil)).append (hr.ni F.ni);have hQ : (qs.take k ++ [q]) ++ qs.drop (k + 1) = qs.set k q := by rw [List.set_eq_take_append_cons_drop,if_pos hk,List.append_assoc];rfl
  rw [hQ] at hC;refine ⟨⟨by rw [List.length_set,hm],hc,hx,fun _ => ⟨g,0,rfl,?_⟩⟩,fun W hW hl => F.ext W hW (Nat.le_trans hl hb)⟩;exact RatsAt.of_boxP F.box hC
end
section
variable {w : World} {A : Option Addr} {n c : Nat}
set_option maxRecDepth 100000 in
theorem q_RootT (i : Nat) (hi : i < n) (hn : n <= 6) : Calls Tryz.prog 25 #[.slice A n c,.int .i64 (i : Int)] w (RetPol ((List.replicate (2 ^ n) 0).set (2 ^ i) 1) 2 w) := by
 obtain ⟨P,hP⟩ : ∃ P,P = 2 ^ n := ⟨_,rfl⟩;obtain ⟨R,hR⟩ : ∃ R,R = 2 ^ i := ⟨_,rfl⟩;have hP1 : P <= 64 := by rw [hP];exact Nat.le_trans (Nat.pow_le_pow_right (by omega) hn) (by decide)
 have hRP : R < P := by rw [hR,hP];exact Nat.pow_lt_pow_right (by omega) hi
 have HP := Lib.hid hP;have HR := Lib.hid hR;have hI0 : (R : Int) < (P : Int) := by omega
 have hW3 : wrap64 ((2 : Int) ^ i) = (R : Int) := by
  rw [hR];have e1 : ((2 : Int) ^ i) = ((2 ^ i : Nat) : Int) := by push_cast;rfl
  rw [e1];unfold wrap64;omega
 have hW4 : IntKind.i64.wrap ((2 : Int) ^ i) = (R : Int) := by rw [<- hW3,IntKind.wrap_i64];unfold wrap64;omega
 clear hP hR
 go_enter Tryz.func25,Tryz.ntmps25
 go_wp2_with fail
 refine (q_FromIntR 0 (by omega) (by omega)).mono ?_;rintro e V ⟨s5,A5,n5,c5,t5,B5,m5,d5,rfl,h5,hxt⟩
 go_wp2_with fail
 refine (q_FromRatO (n := n) h5 (Nat.le_refl 2) hn).mono ?_;rintro e V3 ⟨A6,n6,c6,rfl,hR,hxv⟩
 have hl0 : (((0 : Int) : Rat) :: List.replicate (2 ^ n - 1) 0) = List.replicate P 0 := by
  rw [<- HP.out];obtain ⟨j,rfl⟩ : ∃ j,P = j + 1 := ⟨P - 1,by omega⟩
  rfl
 rw [hl0] at hR;obtain ⟨g,cap,hv,_⟩ := hR.shape (by intro e;have := congrArg List.length e;rw [List.length_replicate] at this;exact absurd this (by show ¬ P = 0;omega));rw [List.length_replicate] at hv
 injection hv with e1 e2 e3
 subst e1 e2 e3;have hlr : R < (List.replicate n6 (0 : Rat)).length := by simp;omega
 have hsz := hxt.size
 go_upto_region 2 with (fail)
 refine wpL.st 5 (fun hQ ES => ?_);refine wpL.u 0 9 hQ ES ?_
 try simp only [zP]
 refine wpL.u 1 10 hQ ES ?_
 try simp only [zP]
 refine wpL.u 2 11 hQ ES ?_
 try simp only [zP]
 refine wpL.cl (i := 3) rfl (fun K hK => ?_);go_simp
 (go_at_call 40;refine (q_FromIntR 1 (by omega) (by omega)).mono ?_;rintro e wa ⟨s7,A7,n7,c7,t7,B7,m7,d7,rfl,h7,hx0⟩;have E0_2 := Ext.trans ES hx0)
 refine hK.out _ _ E0_2 ?_;clear hK K
 try simp only [zP]
 refine wpL.u 4 13 hQ E0_2 ?_
 try simp only [zP]
 replace hR := hR.ext E0_2;obtain ⟨s8,A8,n8,c8,t8,B8,m8,d8,p0,p1,p2,p3⟩ := hR.get hlr;have f0 := hR.frozen (R * 4);have f1 := hR.frozen (R * 4 + 1);have f2 := hR.frozen (R * 4 + 2);have f3 := hR.frozen (R * 4 + 3);refine wpL.tl (i := 5) rfl (fun K hK => ?_);go_simp;refine hK.out _ _ ?_;clear hK K
 try simp only [zP]
 refine wpL.done (by kernel_rfl) ?_ _;clear hQ
 go_wp2_with fail
 have hPut := hR.putP hlr h7
 go_ret
 refine ⟨_,n6,c6,rfl,?_,hPut.2 _ ((hxt.trans hxv).trans E0_2) hsz⟩;rw [<- HP.out,<- HR.out];exact hPut.1
end
inductive RCells (w : World) : List RawR -> List Value -> Prop
 | nil : RCells w [] []
 | cons {r : RawR} {rs : List RawR} {A : Option Addr} {n c : Nat} {B : Option Addr} {m d : Nat} {cs : List Value} : RI w A n c r.xs -> RI w B m d r.ys -> RCells w rs cs -> RCells w (r :: rs) (.bool r.s :: .slice A n c :: .bool r.t :: .slice B m d :: cs)
section
variable {w w' : World} {base n c m d g : Nat} {v : Value} {A B : Option Addr} {r : RawR} {rs ps : List RawR} {cs ds : List Value}
theorem RI.own {xs : List Nat} (h : RI w A n c xs) (hv : NWB w v) (k : w.grownBy w' v.ownBlock) : RI w' A n c xs := ⟨h.len,h.rd.own hv k,h.cap,h.top⟩
theorem RCells.ext (h : RCells w rs cs) (e : Ext w w') : RCells w' rs cs := by
 induction h with
 | nil => exact .nil
 | cons h k _ ih => exact .cons (h.ext e) (k.ext e) ih
theorem RCells.own (h : RCells w rs cs) (hv : NWB w v) (k : w.grownBy w' v.ownBlock) : RCells w' rs cs := by
 induction h with
 | nil => exact .nil
 | cons h j _ ih => exact .cons (h.own hv k) (j.own hv k) ih
theorem RCells.append (h : RCells w rs cs) (k : RCells w ps ds) : RCells w (rs ++ ps) (cs ++ ds) := by
 induction h with
 | nil => exact k
 | cons h j _ ih => exact .cons h j ih
theorem RCells.one (h : RCells w rs cs) : ∀ u ∈ cs,u.oneCell' = true := by
 induction h with
 | nil => intro u hu;cases hu
 | cons _ _ _ ih =>
  intro u hu;simp only [List.mem_cons] at hu
  rcases hu with rfl | rfl | rfl | rfl | hu
  ·rfl
  ·rfl
  ·rfl
  ·rfl
  ·exact ih u hu
theorem RCells.nwl (h : RCells w rs cs) : NWL cs := by
 induction h with
 | nil => intro u hu;cases hu
 | cons _ _ _ ih =>
  intro u hu;simp only [List.mem_cons] at hu
  rcases hu with rfl | rfl | rfl | rfl | hu
  ·intro k e;cases e
  ·intro k e;cases e
  ·intro k e;cases e
  ·intro k e;cases e
  ·exact ih u hu
theorem RCells.get (h : RCells w rs cs) : ∀ i (hi : i < rs.length),∃ A n c B m d,cs[4 * i]? = some (.bool rs[i].s) /\ cs[4 * i + 1]? = some (.slice A n c) /\ cs[4 * i + 2]? = some (.bool rs[i].t) /\ cs[4 * i + 3]? = some (.slice B m d) /\ RI w A n c rs[i].xs /\ RI w B m d rs[i].ys := by
 induction h with
 | nil => intro i hi;simp at hi
 | @cons r rs A n c B m d cs h k _ ih =>
  intro i hi
  cases i with
  | zero => exact ⟨A,n,c,B,m,d,rfl,rfl,rfl,rfl,h,k⟩
  | succ i =>
   obtain ⟨A1,n1,c1,B1,m1,d1,k0,k1,k2,k3,k4,k5⟩ := ih i (by simpa using hi);refine ⟨A1,n1,c1,B1,m1,d1,?_,?_,?_,?_,k4,k5⟩
   ·rw [show 4 * (i + 1) = 4 * i + 1 + 1 + 1 + 1 by omega];exact k0
   ·rw [show 4 * (i + 1) + 1 = 4 * i + 1 + 1 + 1 + 1 + 1 by omega];exact k1
   ·rw [show 4 * (i + 1) + 2 = 4 * i + 2 + 1 + 1 + 1 + 1 by omega];exact k2
   ·rw [show 4 * (i + 1) + 3 = 4 * i + 3 + 1 + 1 + 1 + 1 by omega];exact k3
structure RowX (w : World) (base : Nat) (v : Value) (rs : List RawR) : Prop where
 own : ∃ cs,w.ownsRow base 30 4 v rs.length cs /\ RCells w rs cs
 nwb : NWB w v
theorem RowX.ext (h : RowX w base v rs) (e : Ext w w') : RowX w' base v rs := by
 obtain ⟨cs,h1,h2⟩ := h.own;exact ⟨⟨cs,owns_ext h1 e,h2.ext e⟩,h.nwb.ext e⟩
theorem RowX.nil (w : World) (base : Nat) : RowX w base (.slice none 0 0) [] := ⟨⟨[],owns_nil _ _ _ _,.nil⟩,fun g hg => by cases hg⟩
theorem RowX.block (h : RowX w base v rs) : ∀ k,v.ownBlock = some k -> base <= k /\ k < w.heap.size := by
 intro k hk;obtain ⟨cs,h1,_⟩ := h.own;refine ⟨owns_block h1 k hk,?_⟩;obtain ⟨cur,e',fz,h2,_⟩ := h.nwb k hk
 rcases Nat.lt_or_ge k w.heap.size with j | j
 ·exact j
 ·rw [Array.getElem?_eq_none j] at h2;cases h2
theorem RowX.rawP (h : RowX w base v rs) : ∃ A c,v = .slice A rs.length c /\ RawP w A rs.length c rs := by
 obtain ⟨cs,⟨hl,h1⟩,h2⟩ := h.own
 rcases h1 with ⟨rfl,h0⟩ | ⟨g,cap,cur,rfl,_,hg,h3,h4,hsz,htk⟩
 ·exact ⟨none,0,by rw [h0],by
   have : rs = [] := List.length_eq_zero_iff.1 h0;exact ⟨rfl,by omega,Nat.zero_le _,fun e => absurd this e⟩⟩
 ·have hcell : ∀ j u,cs[j]? = some u -> w.cell? ⟨g,j,none⟩ = some u := by
   intro j u hu
   have hj : j < cs.length := by
    rcases Nat.lt_or_ge j cs.length with h | h
    ·exact h
    ·rw [List.getElem?_eq_none h] at hu;cases hu
   rw [<- htk,List.getElem?_take,if_pos (by rw [<- hl];exact hj)] at hu;rw [cell_of_row w g j _ _ (0,0) hg]
   simpa using hu
  refine ⟨_,_,rfl,rfl,h3,h4,fun _ => ⟨g,0,rfl,fun i hi => ?_⟩⟩;obtain ⟨A,n,c,B,m,d,k0,k1,k2,k3,k4,k5⟩ := h2.get i hi;rw [Nat.zero_add];exact ⟨A,n,c,B,m,d,hcell _ _ k0,hcell _ _ k1,hcell _ _ k2,hcell _ _ k3,k4,k5⟩
theorem run_append_raw {ty : TypeId} (h : RowX w base v rs) (hx : RI w A n c r.xs) (hy : RI w B m d r.ys) (hb : Box w g 30 #[.bool r.s,.slice A n c,.bool r.t,.slice B m d]) (hl : (rs.length + 1) * 64 <= 140737488355328) (hbase : base <= w.heap.size) :
  ∃ v' w',(Builtin.append_ #[23,23] ty #[v,.slice (some ⟨g,0,none⟩) 1 1]).run Tryz.prog w = .ok v' w' /\ RowX w' base v' (rs ++ [r]) /\ w.grownBy w' v.ownBlock /\ (v'.ownBlock = v.ownBlock \/ v'.ownBlock = some w.heap.size) := by
 obtain ⟨i0,hi,hz0,hz1,hz2⟩ := info_partsB Tryz.infoR;obtain ⟨cs,h1,h2⟩ := h.own;have hone : RCells w [r] [.bool r.s,.slice A n c,.bool r.t,.slice B m d] := .cons hx hy .nil
 have hnews : ∀ j u,([.bool r.s,.slice A n c,.bool r.t,.slice B m d] : List Value)[j]? = some u -> w.cell? ((⟨g,0,none⟩ : Addr).add j) = some u := by
  intro j u hj
  match j,hj with
  | 0,hj => exact hb.cell 0 u hj
  | 1,hj => exact hb.cell 1 u hj
  | 2,hj => exact hb.cell 2 u hj
  | 3,hj => exact hb.cell 3 u hj
  | j + 4,hj => simp at hj
 rw [<- hz1] at h1
 obtain ⟨v',w',hr,k1,k2,k3,k4⟩ := run_append_nw (P := Tryz.prog) (ty := ty) (c := 1) Tryz.underlying23 hi hz0 hz2 (by rw [hz1];rfl) (by omega) (by
  intro u hu k e;simp [Value.cells] at hu
  rcases hu with rfl | rfl | rfl | rfl <;> cases e) h1 h.nwb (m := 1) (by rw [hz1];rfl) hnews hone.one hone.nwl (by omega) (by unfold maxLen;omega) (by omega) hbase
 rw [hz1] at k1;refine ⟨v',w',hr,⟨⟨cs ++ [.bool r.s,.slice A n c,.bool r.t,.slice B m d],?_,(h2.own h.nwb k2).append (hone.own h.nwb k2)⟩,k4⟩,k2,k3⟩;rw [List.length_append];exact k1
end
theorem step_append_raw {w : World} {base : Nat} {v : Value} {rs : List RawR} {r : RawR} {A B : Option Addr} {n c m d g : Nat} {ops : Array Oper} {o : Oper} {a : Act} {K : Act -> World -> Prop} {Q : Exit -> Act -> World -> Prop} {E : Prop} (hgd : o.guard = none) (x y : Operand)
  (ho : o.op = .call { callee := .builtin .append,args := #[x,y],argTypes := #[23,23] })
  (hx : a.eval x = v) (hy : a.eval y = .slice (some ⟨g,0,none⟩) 1 1)
  (h : RowX w base v rs) (hq : RI w A n c r.xs) (hq2 : RI w B m d r.ys) (hb : Box w g 30 #[.bool r.s,.slice A n c,.bool r.t,.slice B m d]) (hl : (rs.length + 1) * 64 <= 140737488355328) (hbase : base <= w.heap.size)
  (hK : ∀ v' w',RowX w' base v' (rs ++ [r]) -> w.grownBy w' v.ownBlock -> (v'.ownBlock = v.ownBlock \/ v'.ownBlock = some w.heap.size) -> K (a.put o.dst v') w') :
  if Region.wanted o (yielded ops a.tmps) = true then Oper.wp Tryz.prog o a w K Q else E := by
 have hw : Region.wanted o (yielded ops a.tmps) = true := by simp [Region.wanted,hgd]
 rw [if_pos hw];obtain ⟨v',w',hr,h2,h3,h5⟩ := run_append_raw (ty := o.type) h hq hq2 hb hl hbase;unfold Oper.wp execOp;simp only [ho,resolve,invoke,builtin,Sem.run_bind,Sem.run_pure,Result.andThen_ok,List.map_toArray,List.map_cons,List.map_nil,hx,hy,hr];exact hK v' w' h2 h3 h5
end
section
open Go.RowKit
section
variable {P : Program} {md : Region.Mode} {ops : Array Oper} {Q : Exit -> Act -> World -> Prop} {W0 : World} {z : Nat}
theorem wpL.two {f i j : Nat} {o o2 : Oper} {L : Array Bool} {a : Act} {w : World} (ho : ops[i]? = some o) (ho2 : ops[j]? = some o2) (hr : Region.ready md ops L = [i,j])
  (h : ∀ K : Act -> World -> Prop,Shut (∀ a' w',Ext W0 w' -> wpL P md ops Q W0 z f (L.setIfInBounds i true) a' w' -> K a' w') -> if Region.wanted o (yielded ops a.tmps) = true then Oper.wp P o a w K Q else K (a.put o.dst undef) w)
  (h2 : ∀ K : Act -> World -> Prop,Shut (∀ a' w',Ext W0 w' -> wpL P md ops Q W0 z f (L.setIfInBounds j true) a' w' -> K a' w') -> if Region.wanted o2 (yielded ops a.tmps) = true then Oper.wp P o2 a w K Q else K (a.put o2.dst undef) w) : wpL P md ops Q W0 z (f + 1) L a w := by
 refine ⟨(fun h0 => by rw [hr] at h0;cases h0),fun k hk => ?_⟩;rw [hr] at hk
 rcases List.mem_cons.1 hk with rfl | hk
 ·exact wpOp_step ho fun K hK => h K (fun a' w' e hL => hK a' w' ⟨.inr e,hL⟩)
 ·rw [List.mem_singleton] at hk
  subst hk;exact wpOp_step ho2 fun K hK => h2 K (fun a' w' e hL => hK a' w' ⟨.inr e,hL⟩)
end
theorem run_append_wordsE {P : Program} {w0 w : World} (t ty : TypeId) (i : TypeInfo) (ht : P.underlying t = some (.slice 89)) (hi : P.info? 89 = some i) (hz : i.zero = some (.int .u32 0)) (hsize : i.size = 1) (hby : i.bytes = 4)
  (he : Ext w0 w) (g : Nat) (hg : w.heap[g]? = some (.cells #[] 89 (0,0))) (hg0 : w0.heap.size <= g) {A : Option Addr} {xs : List Nat} {c : Nat} (hr : Rd w A xs) (hl : xs.length * 4 <= 140737488355328) :
  ∃ A' c' w',(Builtin.append_ #[t,t] ty #[.slice (some ⟨g,0,none⟩) 0 0,.slice A xs.length c]).run P w = .ok (.slice A' xs.length c') w' /\ RI w' A' xs.length c' xs /\ Ext w w' := by
 obtain ⟨A',c',w',hrun,h1,h2,h3,h4⟩ := run_append_words (P := P) t ty i ht hi hz hsize hby he g hg hg0 (c := c) hr hl;refine ⟨A',c',w',hrun,⟨rfl,h1.rd,h2,h3⟩,?_⟩
 by_cases h0 : xs = []
 ·subst h0
  have hr2 : (Builtin.append_ #[t,t] ty #[.slice (some ⟨g,0,none⟩) 0 0,.slice A ([] : List Nat).length c]).run P w = .ok (.slice (some ⟨g,0,none⟩) 0 0) w := by
   cases A with
   | none => simp [Builtin.append_,run_underlying ht,sizeOf,typeInfo,hi,Builtin.lenOf,Builtin.firstCells,storeCells]
   | some ad => simp [Builtin.append_,run_underlying ht,sizeOf,typeInfo,hi,Builtin.lenOf,Builtin.firstCells,loadCells,loadCellsFrom,storeCells]
  rw [hrun] at hr2
  injection hr2 with e1 e2
  subst e2;exact Ext.refl _
 ·obtain ⟨b,off,rfl,_,_⟩ := hr.2 h0
  have hpos : 0 < xs.length := List.length_pos_iff.2 h0;have hr2 := run_append_grow (P := P) w t ty 89 i _ ht hi hz ⟨g,0,none⟩ 0 0 [] (by simp) (fun j u hj => by simp at hj) ⟨b,off,none⟩ xs.length c (xs.map Wd) (by rw [hsize];simp) (cells_of_rd hr) (by omega) (by omega) (by rw [hby];exact growslice_fits (by omega) (by omega));rw [hrun] at hr2
  injection hr2 with e1 e2
  subst e2;exact ((Ext.refl w).drew).alloc _
theorem step_append_wordsE {w0 w : World} {ops : Array Oper} {o : Oper} {a : Act} {K : Act -> World -> Prop} {Q : Exit -> Act -> World -> Prop} {E : Prop} (hgd : o.guard = none) (s x : Operand) (t : TypeId)
  (ho : o.op = .call { callee := .builtin .append,args := #[s,x],argTypes := #[t,t] }) (ht : Tryz.prog.underlying t = some (.slice 89))
  (he : Ext w0 w) (g : Nat) (hs : a.eval s = .slice (some ⟨g,0,none⟩) 0 0) (hg : Box w g 89 #[]) (hg0 : w0.heap.size <= g)
  {A : Option Addr} {n : Nat} {xs : List Nat} {c : Nat} (hx : a.eval x = .slice A n c) (hr : RI w A n c xs) (hl : n * 4 <= 140737488355328)
  (h : ∀ A' c' w',RI w' A' n c' xs -> Ext w w' -> K (a.put o.dst (.slice A' n c')) w') :
  if Region.wanted o (yielded ops a.tmps) = true then Oper.wp Tryz.prog o a w K Q else E := by
 have hw : Region.wanted o (yielded ops a.tmps) = true := by simp [Region.wanted,hgd]
 rw [if_pos hw];obtain ⟨hn,hrd,hc1,hc2⟩ := hr;subst hn;obtain ⟨i0,hi,hz0,hz1,hz2⟩ := info_parts Tryz.infoW;obtain ⟨A',c',w',hrun,h1,h4⟩ := run_append_wordsE (P := Tryz.prog) t o.type i0 ht hi hz0 hz1 hz2 he g hg hg0 (c := c) hrd hl;unfold Oper.wp execOp;simp only [ho,resolve,invoke,builtin,Sem.run_bind,Sem.run_pure,Result.andThen_ok,List.map_toArray,List.map_cons,List.map_nil,hs,hx,hrun];exact h A' c' w' h1 h4
end
section
open Go.RowKit
attribute [local go_sem ↓] Go.wp_at_zero Go.wp_at_succ
section
variable {w : World} {A : Option Addr} {n c : Nat} {rs : List RawR}
set_option maxRecDepth 100000 in
theorem law_copyL (h : RawP w A n c rs) (hn : n * 64 <= 140737488355328) (hw : ∀ r ∈ rs,r.xs.length * 4 <= 140737488355328 /\ r.ys.length * 4 <= 140737488355328) : Calls Tryz.prog 48 #[.slice A n c] w (fun e w' => ∃ A' c',e = .returned (.slice A' n c') /\ RawP w' A' n c' rs /\ Ext w w') := by
 have HL := Lib.hid h.len;have HW := Lib.hid hw;have HN := Lib.hid hn;have hnZ : n < 9223372036854775807 := by omega
 clear hw hn
 go_enter Tryz.func48,Tryz.ntmps48
 go_wp2_with fail
 go_loopw [3,8] (fun v i wr => ∃ k : Nat,k <= n /\ i = .int .i64 (k : Int) /\ Ext w wr /\ RowX wr w.heap.size v (rs.take k)) (fun _ i _ => n - (intOf i).toNat)
 case atStart => exact ⟨0,Nat.zero_le _,rfl,Ext.refl w,by rw [List.take_zero];exact RowX.nil _ _⟩
 case round =>
  obtain ⟨k,hk,rfl,extr,hrow⟩ := hrel
  rename_i v _
  by_cases hlt : k < n
  ·have hkI : (k : Int) < (n : Int) := by omega
   have hkl : k < rs.length := by rw [HL.out];exact hlt
   obtain ⟨p,off,rfl,hat⟩ := h.at_ (fun e => by rw [e] at hkl;exact absurd hkl (Nat.not_lt_zero _));obtain ⟨Ax,nx,cx,By,ny,dy,e0,e1,e2,e3,hx,hy⟩ := (hat k hkl).ext extr;have e0' : wr.cell? ⟨p,off + k * 4,Option.none⟩ = some (.bool rs[k].s) := by rw [Nat.mul_comm];exact e0
   have e1' : wr.cell? ⟨p,off + k * 4 + 1,Option.none⟩ = some (.slice Ax nx cx) := by rw [Nat.mul_comm];exact e1
   have e2' : wr.cell? ⟨p,off + k * 4 + 2,Option.none⟩ = some (.bool rs[k].t) := by rw [Nat.mul_comm];exact e2
   have e3' : wr.cell? ⟨p,off + k * 4 + 3,Option.none⟩ = some (.slice By ny dy) := by rw [Nat.mul_comm];exact e3
   have HT := Lib.hid (show rs.take (k + 1) = rs.take k ++ [rs[k]] from List.take_succ_eq_append_getElem hkl);have hW := HW.out _ (List.getElem_mem hkl);rw [hx.len,hy.len] at hW;have HW1 := Lib.hid hW.1;have HW2 := Lib.hid hW.2;clear hW;have hlen := Lib.hid (show ((rs.take k).length + 1) * 64 <= 140737488355328 by have := HN.out;rw [List.length_take];omega);generalize rs[k] = r at *
   go_upto_region 5 with (fail)
   obtain ⟨W2,hW2,extW,bv,hz⟩ := box1 wr 30 #[.bool r.s,.slice Ax nx cx,.bool r.t,.slice By ny dy];rw [<- hW2];clear hW2 hz e0 e1 e2 e3 e0' e1' e2' e3';replace hx := hx.ext extW;replace hy := hy.ext extW;replace hrow := hrow.ext extW;replace extr := extr.trans extW;refine wpL.st 21 (fun hQ ES => ?_);refine wpL.uB [21] 0 12 hQ ES ?_
   try simp only [zP]
   refine wpL.uB [2,3,9,19,20,21] 1 13 hQ ES ?_
   try simp only [zP]
   refine wpL.uB [3,9,19,20,21] 2 14 hQ ES ?_
   try simp only [zP]
   refine wpL.tB [9,19,20,21] 3 15 ?v_3 hQ ?y_3 ES ?_
   case y_3 => intro w' hSw;have k0 := (bv.ext hSw).c4;go_simp;try rfl
   try simp only [zP]
   refine wpL.uB [6,7,8,9,19,20,21] 5 17 hQ ES ?_
   try simp only [zP]
   refine wpL.uB [7,8,9,19,20,21] 6 18 hQ ES ?_
   try simp only [zP]
   refine wpL.tB [8,9,19,20,21] 7 19 ?v_6 hQ ?y_6 ES ?_
   case y_6 => intro w' hSw;have k0 := (bv.ext hSw).c4;go_simp;try rfl
   try simp only [zP]
   refine wpL.uB [11,12,18,19,20,21] 10 22 hQ ES ?_
   try simp only [zP]
   refine wpL.uB [12,18,19,20,21] 11 23 hQ ES ?_
   try simp only [zP]
   refine wpL.tB [18,19,20,21] 12 24 ?v_9 hQ ?y_9 ES ?_
   case y_9 => intro w' hSw;have k0 := (bv.ext hSw).c4;go_simp;try rfl
   try simp only [zP]
   refine wpL.uB [15,16,17,18,19,20,21] 14 26 hQ ES ?_
   try simp only [zP]
   refine wpL.uB [16,17,18,19,20,21] 15 27 hQ ES ?_
   try simp only [zP]
   refine wpL.tB [17,18,19,20,21] 16 28 ?v_c hQ ?y_c ES ?_
   case y_c => intro w' hSw;have k0 := (bv.ext hSw).c4;go_simp;try rfl
   try simp only [zP]
   refine wpL.two (i := 4) (j := 13) rfl rfl (by kernel_rfl) (fun K hK => ?oa) (fun K hK => ?ob)
   case' ob =>
    go_simp;have B13 := Box.new (W2.drew) 89 #[];have Z13 := Ext.size ES;have X13 := (Ext.refl (W2.drew)).alloc (.cells #[] 89);have F13 := Ext.trans ES X13;refine hK.out _ _ F13 ?_;clear hK K
    try simp only [zP]
    refine wpL.cl (i := 4) rfl (fun K hK => ?_);go_simp;have B4 := Box.new ((W2.drew).alloc (.cells #[] 89)) 89 #[];have Z4 := Ext.size F13;have X4 := (Ext.refl ((W2.drew).alloc (.cells #[] 89))).alloc (.cells #[] 89);rw [World.size_alloc] at B4 Z4;replace B13 := B13.ext X4;have F4 := Ext.trans F13 X4;refine hK.out _ _ F4 ?_;clear hK K
    try simp only [zP]
    refine wpL.cl (i := 8) rfl (fun K hK => ?_);refine step_append_wordsE (w0 := W2) rfl _ _ _ rfl Tryz.underlying26 F4 _ rfl B4 Z4 rfl (hx.ext F4) HW1.out ?_;intro A8 cA8 u8 n8 J8;replace B13 := B13.ext J8;replace B4 := B4.ext J8;have G8 := Ext.trans F4 J8;refine hK.out _ _ G8 ?_
    try simp only [List.getElem_toArray,List.getElem_cons_succ,List.getElem_cons_zero]
    clear hK K
    try simp only [zP]
    refine wpL.uB [19,20,21] 9 21 hQ G8 ?_
    try simp only [zP]
    refine wpL.cl (i := 17) rfl (fun K hK => ?_);refine step_append_wordsE (w0 := W2) rfl _ _ _ rfl Tryz.underlying26 G8 _ rfl B13 Z13 rfl (hy.ext G8) HW2.out ?_;intro A17 cA17 u17 n17 J17;replace B13 := B13.ext J17;replace B4 := B4.ext J17;replace n8 := n8.ext J17;have G17 := Ext.trans G8 J17;refine hK.out _ _ G17 ?_
    try simp only [List.getElem_toArray,List.getElem_cons_succ,List.getElem_cons_zero]
    clear hK K
    try simp only [zP]
   case' oa =>
    go_simp;have B4 := Box.new (W2.drew) 89 #[];have Z4 := Ext.size ES;have X4 := (Ext.refl (W2.drew)).alloc (.cells #[] 89);have F4 := Ext.trans ES X4;refine hK.out _ _ F4 ?_;clear hK K
    try simp only [zP]
    refine wpL.two (i := 8) (j := 13) rfl rfl (by kernel_rfl) (fun K hK => ?oc) (fun K hK => ?od)
   case' od =>
    go_simp;have B13 := Box.new ((W2.drew).alloc (.cells #[] 89)) 89 #[];have Z13 := Ext.size F4;have X13 := (Ext.refl ((W2.drew).alloc (.cells #[] 89))).alloc (.cells #[] 89);rw [World.size_alloc] at B13 Z13;replace B4 := B4.ext X13;have F13 := Ext.trans F4 X13;refine hK.out _ _ F13 ?_;clear hK K
    try simp only [zP]
    refine wpL.cl (i := 8) rfl (fun K hK => ?_);refine step_append_wordsE (w0 := W2) rfl _ _ _ rfl Tryz.underlying26 F13 _ rfl B4 Z4 rfl (hx.ext F13) HW1.out ?_;intro A8 cA8 u8 n8 J8;replace B4 := B4.ext J8;replace B13 := B13.ext J8;have G8 := Ext.trans F13 J8;refine hK.out _ _ G8 ?_
    try simp only [List.getElem_toArray,List.getElem_cons_succ,List.getElem_cons_zero]
    clear hK K
    try simp only [zP]
    refine wpL.uB [19,20,21] 9 21 hQ G8 ?_
    try simp only [zP]
    refine wpL.cl (i := 17) rfl (fun K hK => ?_);refine step_append_wordsE (w0 := W2) rfl _ _ _ rfl Tryz.underlying26 G8 _ rfl B13 Z13 rfl (hy.ext G8) HW2.out ?_;intro A17 cA17 u17 n17 J17;replace B4 := B4.ext J17;replace B13 := B13.ext J17;replace n8 := n8.ext J17;have G17 := Ext.trans G8 J17;refine hK.out _ _ G17 ?_
    try simp only [List.getElem_toArray,List.getElem_cons_succ,List.getElem_cons_zero]
    clear hK K
    try simp only [zP]
   case' oc =>
    refine step_append_wordsE (w0 := W2) rfl _ _ _ rfl Tryz.underlying26 F4 _ rfl B4 Z4 rfl (hx.ext F4) HW1.out ?_;intro A8 cA8 u8 n8 J8;replace B4 := B4.ext J8;have G8 := Ext.trans F4 J8;refine hK.out _ _ G8 ?_
    try simp only [List.getElem_toArray,List.getElem_cons_succ,List.getElem_cons_zero]
    clear hK K
    try simp only [zP]
    refine wpL.uB [19,20,21] 9 21 hQ G8 ?_
    try simp only [zP]
    refine wpL.cl (i := 13) rfl (fun K hK => ?_);go_simp;have B13 := Box.new (u8) 89 #[];have Z13 := Ext.size G8;have X13 := (Ext.refl (u8)).alloc (.cells #[] 89);replace B4 := B4.ext X13;replace n8 := n8.ext X13;have F13 := Ext.trans G8 X13;refine hK.out _ _ F13 ?_;clear hK K
    try simp only [zP]
    refine wpL.cl (i := 17) rfl (fun K hK => ?_);refine step_append_wordsE (w0 := W2) rfl _ _ _ rfl Tryz.underlying26 F13 _ rfl B13 Z13 rfl (hy.ext F13) HW2.out ?_;intro A17 cA17 u17 n17 J17;replace B4 := B4.ext J17;replace n8 := n8.ext J17;replace B13 := B13.ext J17;have G17 := Ext.trans F13 J17;refine hK.out _ _ G17 ?_
    try simp only [List.getElem_toArray,List.getElem_cons_succ,List.getElem_cons_zero]
    clear hK K
    try simp only [zP]
   all_goals
    refine wpL.tB [19,20,21] 18 30 ?_ hQ ?_ G17 ?_
    rotate_left
    ·intro w' hSw
     go_simp
     try with_reducible rfl
    try simp only [zP]
    refine wpL.tB [20,21] 19 31 ?_ hQ ?_ G17 ?_
    rotate_left
    ·intro w' hSw
     go_simp
     try with_reducible rfl
    try simp only [zP]
    refine wpL.cl (i := 20) rfl (fun K hK => ?_);go_simp;have B20 := Box.new (u17) 30 #[.bool r.s,.slice A8 nx cA8,.bool r.t,.slice A17 ny cA17];have X20 := (Ext.refl (u17)).alloc (.cells #[.bool r.s,.slice A8 nx cA8,.bool r.t,.slice A17 ny cA17] 30);replace n8 := n8.ext X20;replace n17 := n17.ext X20;have F20 := Ext.trans G17 X20;refine hK.out _ _ F20 ?_;clear hK K
    try simp only [zP]
    refine wpL.tl (i := 21) rfl (fun K hK => ?_);refine step_append_raw rfl _ _ rfl rfl rfl (hrow.ext F20) n8 n17 B20 hlen.out (extr.trans F20).size ?_;intro v6 W6 hrow6 hgr hob;refine hK.out _ _ ?_
    try simp only [List.getElem_toArray,List.getElem_cons_succ,List.getElem_cons_zero]
    clear hK K
    try simp only [zP]
    refine wpL.tl (i := 22) rfl (fun K hK => ?_);go_simp;refine hK.out _ _ ?_;clear hK K
    try simp only [zP]
    refine wpL.done (by kernel_rfl) ?_ _;clear hQ
    go_wp2_with fail
    go_roundw
    case rel =>
     refine ⟨k + 1,by omega,by go_num,Below.grown (extr.trans F20) hgr (extr.trans F20).size (fun k hk => (hrow.block k hk).1),?_⟩;rw [HT.out];exact hrow6
    case measure => simp [intOf];omega
  ·have hkn : k = n := by omega
   subst hkn;rw [List.take_of_length_le (Nat.le_of_eq HL.out)] at hrow;obtain ⟨A9,c9,rfl,hp⟩ := hrow.rawP;rw [HL.out] at hp ⊢;have hI : (k : Int) <= (k : Int) := Int.le_refl _
   go_wp2_with fail
   go_ret
   exact ⟨A9,c9,rfl,hp,extr⟩
end
section
variable {w w' : World} {base n c g : Nat} {v v0 : Value} {A : Option Addr} {ts us : List (List RawR)}
theorem RowW.ownN (h : RowW w base v ts) (hv : NSB w v0) (k : w.grownBy w' v0.ownBlock) (hne : ∀ g,v.ownBlock = some g -> v0.ownBlock ≠ some g) : RowW w' base v ts := by
 obtain ⟨cs,h1,h2⟩ := h.own;refine ⟨⟨cs,owns_far h1 k hne,h2.own hv k⟩,?_⟩;intro g hg;obtain ⟨cur,e,fz,q1,q2⟩ := h.nsb g hg;exact ⟨cur,e,fz,(k.block g (owns_lt h1 g hg) (fun e => hne g hg e.symm)).trans q1,q2⟩
theorem RowW.boxne (h : RowW w base v ts) {bs : Array Value} {T : TypeId} (hb : Box w g T bs) (hT : 23 ≠ T) : v.ownBlock ≠ some g := by
 obtain ⟨cs,h1,_⟩ := h.own;exact owns_box h1 hb hT
theorem RowW.nil (w : World) (base : Nat) : RowW w base (.slice none 0 0) [] := ⟨⟨[],owns_nil _ _ _ _,.nil⟩,fun g hg => by cases hg⟩
theorem RowW.shape (h : RowW w base v ts) : ∃ A n c,v = .slice A n c := by
 obtain ⟨A,n,c,e,_⟩ := h.rawT;exact ⟨A,n,c,e⟩
theorem step_append_raws {ops : Array Oper} {o : Oper} {a : Act} {K : Act -> World -> Prop} {Q : Exit -> Act -> World -> Prop} {E : Prop} (hgd : o.guard = none) (x y : Operand)
  (hop : o.op = .call { callee := .builtin .append,args := #[x,y],argTypes := #[22,22] })
  (hx : a.eval x = v) (hy : a.eval y = .slice A n c)
  (h : RowW w base v ts) (hp : RawT w A n c us) (hl : ts.length <= 1000) (hn : n <= 1000) (hbase : base <= w.heap.size)
  (hK : ∀ v' w',RowW w' base v' (ts ++ us) -> w.grownBy w' v.ownBlock -> K (a.put o.dst v') w') :
  if Region.wanted o (yielded ops a.tmps) = true then Oper.wp Tryz.prog o a w K Q else E := by
 have hw : Region.wanted o (yielded ops a.tmps) = true := by simp [Region.wanted,hgd]
 rw [if_pos hw];obtain ⟨v',w',hr,h2,h3⟩ := run_append_raws (ty := o.type) h hp hl hn hbase;unfold Oper.wp execOp;simp only [hop,resolve,invoke,builtin,Sem.run_bind,Sem.run_pure,Result.andThen_ok,List.map_toArray,List.map_cons,List.map_nil,hx,hy,hr];exact hK v' w' h2 h3
end
theorem rats_ne_case : 23 ≠ 25 := by decide
theorem nsw4 {A1 A2 A3 A4 : Option Addr} {n1 c1 n2 c2 n3 c3 n4 c4 : Nat} : NSW #[.slice A1 n1 c1,.slice A2 n2 c2,.slice A3 n3 c3,.slice A4 n4 c4] := by
 intro u hu;simp at hu
 rcases hu with rfl | rfl | rfl | rfl
 ·exact ⟨_,_,_,rfl⟩
 ·exact ⟨_,_,_,rfl⟩
 ·exact ⟨_,_,_,rfl⟩
 ·exact ⟨_,_,_,rfl⟩
section
variable {W0 w wr w' : World} {g i n c n1 c1 n2 c2 n3 c3 n4 c4 base : Nat} {v v' : Value} {A A1 A2 A3 A4 : Option Addr} {rs r1 r2 r3 : List RawR} {us us' : List (List RawR)}
theorem RawP.putS (h : RawP w A n c rs) (hb : Box w g 25 #[.slice A1 n1 c1,.slice A2 n2 c2,.slice A3 n3 c3,.slice A4 n4 c4]) (i : Nat) (u : Value) : RawP (w.setCell ⟨g,i,none⟩ u) A n c rs :=
 h.own (v := .slice (some ⟨g,0,none⟩) 2 2) (NSB.box hb nsw4) (grownC w ⟨g,i,none⟩ u)
structure OwnS (W0 wr : World) (g : Nat) (v : Value) (A1 : Option Addr) (n1 c1 : Nat) (A2 : Option Addr) (n2 c2 : Nat) (A3 : Option Addr) (n3 c3 : Nat) (r1 r2 r3 : List RawR) (us : List (List RawR)) : Prop where
 ext : Ext W0 wr
 b3 : Box wr g 25 #[v,.slice A1 n1 c1,.slice A2 n2 c2,.slice A3 n3 c3]
 row : RowW wr W0.heap.size v us
 p1 : RawP wr A1 n1 c1 r1
 p2 : RawP wr A2 n2 c2 r2
 p3 : RawP wr A3 n3 c3 r3
 lo : W0.heap.size <= g
theorem OwnS.start (E : Ext W0 w) (lo : W0.heap.size <= g) (hb : Box w g 25 #[.slice none 0 0,.slice none 0 0,.slice none 0 0,.slice none 0 0]) (k1 : RawP w A1 n1 c1 r1) (k2 : RawP w A2 n2 c2 r2) (k3 : RawP w A3 n3 c3 r3) :
  OwnS W0 ((((w.setCell ⟨g,0,none⟩ (.slice none 0 0)).setCell ⟨g,1,none⟩ (.slice A1 n1 c1)).setCell ⟨g,2,none⟩ (.slice A2 n2 c2)).setCell ⟨g,3,none⟩ (.slice A3 n3 c3)) g (.slice none 0 0) A1 n1 c1 A2 n2 c2 A3 n3 c3 r1 r2 r3 [] := by
 have h0 := hb.set 0 (.slice none 0 0);have h1 := h0.set 1 (.slice A1 n1 c1);have h2 := h1.set 2 (.slice A2 n2 c2);have h3 := h2.set 3 (.slice A3 n3 c3);simp at h0 h1 h2 h3;refine ⟨(((E.setCell (p := ⟨g,0,none⟩) lo _).setCell (p := ⟨g,1,none⟩) lo _).setCell (p := ⟨g,2,none⟩) lo _).setCell (p := ⟨g,3,none⟩) lo _,h3,RowW.nil _ _,?_,?_,?_,lo⟩
 ·exact (((k1.putS hb 0 _).putS h0 1 _).putS h1 2 _).putS h2 3 _
 ·exact (((k2.putS hb 0 _).putS h0 1 _).putS h1 2 _).putS h2 3 _
 ·exact (((k3.putS hb 0 _).putS h0 1 _).putS h1 2 _).putS h2 3 _
theorem OwnS.next (h : OwnS W0 wr g v A1 n1 c1 A2 n2 c2 A3 n3 c3 r1 r2 r3 us) (e : Ext wr w') : OwnS W0 w' g v A1 n1 c1 A2 n2 c2 A3 n3 c3 r1 r2 r3 us :=
 ⟨h.ext.trans e,h.b3.ext e,h.row.ext e,h.p1.ext e,h.p2.ext e,h.p3.ext e,h.lo⟩
theorem OwnS.mid (h : OwnS W0 wr g v A1 n1 c1 A2 n2 c2 A3 n3 c3 r1 r2 r3 us) (k : wr.grownBy w' v.ownBlock) : Box w' g 25 #[v,.slice A1 n1 c1,.slice A2 n2 c2,.slice A3 n3 c3] :=
 h.b3.own k (h.row.boxne h.b3 rats_ne_case)
theorem OwnS.add (h : OwnS W0 wr g v A1 n1 c1 A2 n2 c2 A3 n3 c3 r1 r2 r3 us) (k : wr.grownBy w' v.ownBlock) (h' : RowW w' W0.heap.size v' us') :
  OwnS W0 (w'.setCell ⟨g,0,none⟩ v') g v' A1 n1 c1 A2 n2 c2 A3 n3 c3 r1 r2 r3 us' := by
 have hm := h.mid k;have hlt := h.row.block;have e1 : Ext W0 w' := Below.grown h.ext k h.ext.size (fun g hg => (hlt g hg).1);obtain ⟨A,n,c,hv⟩ := h.row.shape;have hs : NSW #[v,.slice A1 n1 c1,.slice A2 n2 c2,.slice A3 n3 c3] := by rw [hv];exact nsw4
 have hn : NSB w' (.slice (some ⟨g,0,none⟩) 2 2) := NSB.box hm hs;have kc : w'.grownBy (w'.setCell ⟨g,0,none⟩ v') (Value.slice (some ⟨g,0,none⟩) 2 2).ownBlock := grownC w' ⟨g,0,none⟩ v';refine ⟨e1.setCell (p := ⟨g,0,none⟩) h.lo _,?_,?_,?_,?_,?_,h.lo⟩
 ·have := hm.set 0 v'
  simpa using this
 ·exact h'.ownN hn kc (fun g hg e => h'.boxne hm rats_ne_case (hg.trans e.symm))
 ·exact (h.p1.own h.row.nsb k).own hn kc
 ·exact (h.p2.own h.row.nsb k).own hn kc
 ·exact (h.p3.own h.row.nsb k).own hn kc
theorem OwnS.ret (E : Ext w wr) (lo : w.heap.size <= g) (hb : Box wr g 25 #[.slice none 0 0,.slice none 0 0,.slice none 0 0,.slice none 0 0]) (row : RowW wr base (.slice A n c) us) (p1 : RawP wr A1 n1 c1 r1) (p2 : RawP wr A2 n2 c2 r2) (p3 : RawP wr A3 n3 c3 r3) :
  Ext w ((((wr.setCell ⟨g,0,none⟩ (.slice A n c)).setCell ⟨g,1,none⟩ (.slice A1 n1 c1)).setCell ⟨g,2,none⟩ (.slice A2 n2 c2)).setCell ⟨g,3,none⟩ (.slice A3 n3 c3)) /\
  RawT ((((wr.setCell ⟨g,0,none⟩ (.slice A n c)).setCell ⟨g,1,none⟩ (.slice A1 n1 c1)).setCell ⟨g,2,none⟩ (.slice A2 n2 c2)).setCell ⟨g,3,none⟩ (.slice A3 n3 c3)) A n c us /\
  RawP ((((wr.setCell ⟨g,0,none⟩ (.slice A n c)).setCell ⟨g,1,none⟩ (.slice A1 n1 c1)).setCell ⟨g,2,none⟩ (.slice A2 n2 c2)).setCell ⟨g,3,none⟩ (.slice A3 n3 c3)) A1 n1 c1 r1 /\
  RawP ((((wr.setCell ⟨g,0,none⟩ (.slice A n c)).setCell ⟨g,1,none⟩ (.slice A1 n1 c1)).setCell ⟨g,2,none⟩ (.slice A2 n2 c2)).setCell ⟨g,3,none⟩ (.slice A3 n3 c3)) A2 n2 c2 r2 /\
  RawP ((((wr.setCell ⟨g,0,none⟩ (.slice A n c)).setCell ⟨g,1,none⟩ (.slice A1 n1 c1)).setCell ⟨g,2,none⟩ (.slice A2 n2 c2)).setCell ⟨g,3,none⟩ (.slice A3 n3 c3)) A3 n3 c3 r3 /\
  Box ((((wr.setCell ⟨g,0,none⟩ (.slice A n c)).setCell ⟨g,1,none⟩ (.slice A1 n1 c1)).setCell ⟨g,2,none⟩ (.slice A2 n2 c2)).setCell ⟨g,3,none⟩ (.slice A3 n3 c3)) g 25 #[.slice A n c,.slice A1 n1 c1,.slice A2 n2 c2,.slice A3 n3 c3] := by
 have h0 := hb.set 0 (.slice A n c);have h1 := h0.set 1 (.slice A1 n1 c1);have h2 := h1.set 2 (.slice A2 n2 c2);have h3 := h2.set 3 (.slice A3 n3 c3);simp at h0 h1 h2 h3;have r0 := row.ownN (v0 := .slice (some ⟨g,0,none⟩) 2 2) (NSB.box hb nsw4) (grownC wr ⟨g,0,none⟩ (.slice A n c)) (fun k hk e => row.boxne hb rats_ne_case (hk.trans e.symm));have r1 := r0.ownN (v0 := .slice (some ⟨g,0,none⟩) 2 2) (NSB.box h0 nsw4) (grownC _ ⟨g,1,none⟩ (.slice A1 n1 c1)) (fun k hk e => r0.boxne h0 rats_ne_case (hk.trans e.symm));have r2 := r1.ownN (v0 := .slice (some ⟨g,0,none⟩) 2 2) (NSB.box h1 nsw4) (grownC _ ⟨g,2,none⟩ (.slice A2 n2 c2)) (fun k hk e => r1.boxne h1 rats_ne_case (hk.trans e.symm));have r3 := r2.ownN (v0 := .slice (some ⟨g,0,none⟩) 2 2) (NSB.box h2 nsw4) (grownC _ ⟨g,3,none⟩ (.slice A3 n3 c3)) (fun k hk e => r2.boxne h2 rats_ne_case (hk.trans e.symm));obtain ⟨_,_,_,e,ht⟩ := r3.rawT
 injection e with e1 e2 e3
 subst e1 e2 e3;refine ⟨(((E.setCell (p := ⟨g,0,none⟩) lo _).setCell (p := ⟨g,1,none⟩) lo _).setCell (p := ⟨g,2,none⟩) lo _).setCell (p := ⟨g,3,none⟩) lo _,ht,?_,?_,?_,h3⟩
 ·exact (((p1.putS hb 0 _).putS h0 1 _).putS h1 2 _).putS h2 3 _
 ·exact (((p2.putS hb 0 _).putS h0 1 _).putS h1 2 _).putS h2 3 _
 ·exact (((p3.putS hb 0 _).putS h0 1 _).putS h1 2 _).putS h2 3 _
end
section
variable {w : World} {A A1 A2 A3 : Option Addr} {n c n1 c1 n2 c2 n3 c3 : Nat} {ts : List (List RawR)} {rs r1 r2 r3 : List RawR}
def SzL (rs : List RawR) : Prop := rs.length * 64 <= 140737488355328 /\ ∀ r ∈ rs,r.xs.length * 4 <= 140737488355328 /\ r.ys.length * 4 <= 140737488355328
theorem SzL.few {l : List RawR} (h : l.length <= 16 /\ l.all (fun r => r.le 4) = true) : SzL l := by
 refine ⟨by omega,fun r hr => ?_⟩;have := List.all_eq_true.1 h.2 r hr;unfold RawR.le at this;simp only [Bool.and_eq_true,decide_eq_true_eq] at this;exact ⟨by omega,by omega⟩
theorem law_copyS (h : RawP w A n c rs) (hs : SzL rs) : Calls Tryz.prog 48 #[.slice A n c] w (fun e w' => ∃ A' c',e = .returned (.slice A' n c') /\ RawP w' A' n c' rs /\ Ext w w') :=
 law_copyL h (by rw [<- h.len];exact hs.1) hs.2
set_option maxRecDepth 100000 in
theorem law_own (h : RawT w A n c ts) (h1 : RawP w A1 n1 c1 r1) (h2 : RawP w A2 n2 c2 r2) (h3 : RawP w A3 n3 c3 r3) (hn : n <= 100) (s0 : ∀ l ∈ ts,SzL l) (s1 : SzL r1) (s2 : SzL r2) (s3 : SzL r3) :
  Calls Tryz.prog 13 #[.agg #[.slice A n c,.slice A1 n1 c1,.slice A2 n2 c2,.slice A3 n3 c3]] w (fun e w' => ∃ A' c' A1' c1' A2' c2' A3' c3',e = .returned (.agg #[.slice A' n c',.slice A1' n1 c1',.slice A2' n2 c2',.slice A3' n3 c3']) /\ RawT w' A' n c' ts /\ RawP w' A1' n1 c1' r1 /\ RawP w' A2' n2 c2' r2 /\ RawP w' A3' n3 c3' r3 /\ Ext w w') := by
 have HL := Lib.hid h.len;have HS0 := Lib.hid s0;have HS1 := Lib.hid s1;have HS2 := Lib.hid s2;have HS3 := Lib.hid s3;clear s0 s1 s2 s3
 go_enter Tryz.func13,Tryz.ntmps13
 go_upto_region 2 with (fail)
 obtain ⟨W0,hW0,ext0,bx,b2,hz0⟩ := box2 w 25 25 #[.slice A n c,.slice A1 n1 c1,.slice A2 n2 c2,.slice A3 n3 c3] #[Value.slice Option.none 0 0,Value.slice Option.none 0 0,Value.slice Option.none 0 0,Value.slice Option.none 0 0];rw [<- hW0];clear hW0 hz0;replace h := h.ext ext0;replace h1 := h1.ext ext0;replace h2 := h2.ext ext0;replace h3 := h3.ext ext0;have ES0 := Ext.refl W0;refine wp_region_held_drew (S := Ext W0) (by kernel_rfl) ES0.drew (fun ES => ?_);clear ES0;refine Late.start1 (x := ⟨13,4,25,#[Value.slice Option.none 0 0,Value.slice Option.none 0 0,Value.slice Option.none 0 0,Value.slice Option.none 0 0]⟩) (n := 14) ⟨_,rfl,rfl,rfl,fun a w => by go_simp⟩ (fun _ _ _ _ _ => ⟨fun h => h,fun h => h⟩) ES rfl (fun hAl hQ => ?_);refine Late.u 0 7 hQ ?_
 try simp only [zP]
 refine Late.u 1 8 hQ ?_
 try simp only [zP]
 refine Late.u 4 11 hQ ?_
 try simp only [zP]
 refine Late.u 5 12 hQ ?_
 try simp only [zP]
 refine Late.u 8 15 hQ ?_
 try simp only [zP]
 refine Late.u 9 16 hQ ?_
 try simp only [zP]
 refine Late.t 2 9 ?v_6 hQ ?y_6 ?_
 case y_6 => intro w' hSw;have k00 := (bx.ext hSw).c4;go_simp;try rfl
 try simp only [zP]
 refine Late.t 6 13 ?v_7 hQ ?y_7 ?_
 case y_7 => intro w' hSw;have k00 := (bx.ext hSw).c4;go_simp;try rfl
 try simp only [zP]
 refine Late.t 10 17 ?v_8 hQ ?y_8 ?_
 case y_8 => intro w' hSw;have k00 := (bx.ext hSw).c4;go_simp;try rfl
 try simp only [zP]
 refine Late.cl (i := 3) rfl hAl hQ (fun w3 e3 E3 K hK => ?_);go_simp
 (go_at_call 48;refine (law_copyS (h1.ext E3) HS1.out).mono ?_;rintro e wk1 ⟨A4,c4,rfl,k1,hx3⟩)
 refine hK.out _ _ hx3 ?_;clear hK K
 try simp only [zP]
 refine Late.cl (i := 7) rfl hAl hQ (fun w7 e7 E7 K hK => ?_);go_simp
 (go_at_call 48;refine (law_copyS (h2.ext E7) HS2.out).mono ?_;rintro e wk2 ⟨A5,c5,rfl,k2,hx7⟩;replace k1 := k1.ext (Ext.trans e7 hx7))
 refine hK.out _ _ hx7 ?_;clear hK K
 try simp only [zP]
 refine Late.cl (i := 11) rfl hAl hQ (fun w11 e11 E11 K hK => ?_);go_simp
 (go_at_call 48;refine (law_copyS (h3.ext E11) HS3.out).mono ?_;rintro e wk3 ⟨A6,c6,rfl,k3,hx11⟩;replace k1 := k1.ext (Ext.trans e11 hx11);replace k2 := k2.ext (Ext.trans e11 hx11))
 refine hK.out _ _ hx11 ?_;clear hK K
 try simp only [zP]
 refine Late.u 12 19 hQ ?_
 try simp only [zP]
 refine Late.finish1 (hAl _ (by simp)) (by kernel_rfl) (fun wz g5 ez Ez lg5 xb1 => ?_);clear hAl hQ ES;have p0 := xb1.cell 0 (Value.slice Option.none 0 0) rfl;have p1 := xb1.cell 1 (Value.slice Option.none 0 0) rfl;have p2 := xb1.cell 2 (Value.slice Option.none 0 0) rfl;have p3 := xb1.cell 3 (Value.slice Option.none 0 0) rfl;have f0 := xb1.frozen 0;have f1 := xb1.frozen 1;have f2 := xb1.frozen 2;have f3 := xb1.frozen 3
 try simp only [zP]
 refine wpAnyH_ready (rs := [14]) (by kernel_rfl) (by simp) (AllReadyH.cons rfl (fun K hK => ?_) AllReadyH.nil);go_simp;refine hK.out _ _ ((((Ez.setCell (p := ⟨g5,0,Option.none⟩) lg5 _).setCell (p := ⟨g5,1,Option.none⟩) lg5 _).setCell (p := ⟨g5,2,Option.none⟩) lg5 _).setCell (p := ⟨g5,3,Option.none⟩) lg5 _) (fun _ => ?_);clear hK K
 try simp only [zP]
 refine any_world (fun U => OwnS W0 U g5 (.slice Option.none 0 0) A4 n1 c4 A5 n2 c5 A6 n3 c6 r1 r2 r3 []) (OwnS.start Ez lg5 xb1 (k1.ext ez) (k2.ext ez) (k3.ext ez)) ?_;clear p0 p1 p2 p3 f0 f1 f2 f3 xb1 k1 k2 k3 Ez ez lg5;rintro U S0;refine wpAnyH_done (by kernel_rfl) ?_ _;clear h1 h2 h3;have x0 := (bx.ext S0.ext).cell 0 (.slice A n c) rfl
 go_wp2_with fail
 go_loopw [23] (fun i wr => ∃ (k : Nat) (v : Value),k <= n /\ i = .int .i64 (k : Int) /\ OwnS W0 wr g5 v A4 n1 c4 A5 n2 c5 A6 n3 c6 r1 r2 r3 (ts.take k)) (fun i _ => n - (intOf i).toNat)
 case atStart => exact ⟨0,_,Nat.zero_le _,rfl,S0⟩
 case round =>
  clear S0 x0;obtain ⟨k,v,hk,rfl,S⟩ := hrel
  by_cases hlt : k < n
  ·have hI : (k : Int) < (n : Int) := by omega
   have hkl : k < ts.length := by rw [HL.out];exact hlt
   obtain ⟨p,off,rfl,hat⟩ := h.at_ (fun e => by rw [e] at hkl;exact absurd hkl (Nat.not_lt_zero _));obtain ⟨Aq,nq,cq,e0,hq⟩ := hat k hkl;replace e0 := S.ext.cellv e0;replace hq := hq.ext S.ext;have HT := Lib.hid (show ts.take (k + 1) = ts.take k ++ [ts[k]] from List.take_succ_eq_append_getElem hkl);have HSQ := Lib.hid (HS0.out _ (List.getElem_mem hkl));have HL1 := Lib.hid (show (ts.take k).length <= 1000 by rw [List.length_take];omega);generalize ts[k] = r at *;obtain ⟨Av,nv,cv,rfl⟩ := S.row.shape
   go_upto_region 6 with (fail)
   refine wpL.st 6 (fun hQ ES => ?_);refine wpL.uB [1,6] 0 27 hQ ES ?_
   try simp only [zP]
   refine wpL.tB [6] 1 28 ?v_b hQ ?y_b ES ?_
   case y_b => intro w' hSw;have k00 := (S.b3.ext hSw).cell 0 _ rfl;have k01 := (S.b3.ext hSw).cell 1 _ rfl;have k02 := (S.b3.ext hSw).cell 2 _ rfl;have k03 := (S.b3.ext hSw).cell 3 _ rfl;go_simp;try rfl
   try simp only [zP]
   refine wpL.uB [4,5,6] 2 29 hQ ES ?_
   try simp only [zP]
   refine wpL.uB [4,5,6] 3 30 hQ ES ?_
   try simp only [zP]
   refine wpL.cl (i := 4) rfl (fun K hK => ?_);go_simp
   (go_at_call 48;refine (law_copyS (hq.ext ES) HSQ.out).mono ?_;rintro e wa ⟨A7,c7,rfl,h7,hx0⟩;have E4 := Ext.trans ES hx0)
   refine hK.out _ _ E4 ?_;clear hK K
   try simp only [zP]
   refine wpL.cl (i := 5) rfl (fun K hK => ?_);go_simp;obtain ⟨wb,hwb,exb,bb,hzb⟩ := box1 wa 23 #[.slice A7 nq c7];rw [<- hwb];have E5 := E4.trans exb;refine hK.out _ _ E5 ?_;clear hK K hwb hzb
   try simp only [zP]
   have SB := S.next E5;refine wpL.tl (i := 6) rfl (fun K hK => ?_);refine step_append_raws rfl _ _ rfl rfl rfl SB.row (RawT.one bb (h7.ext exb)) HL1.out (by omega) SB.ext.size ?_;intro v6 w6 q1 q2;refine hK.out _ _ ?_
   try simp only [List.getElem_toArray,List.getElem_cons_succ,List.getElem_cons_zero]
   clear hK K
   try simp only [zP]
   have m3 := SB.mid q2;obtain ⟨A8,n8,c8,rfl⟩ := q1.shape;refine wpL.tl (i := 7) rfl (fun K hK => ?_);go_simp;refine hK.out _ _ ?_;clear hK K
   try simp only [zP]
   have z0 := m3.cell 0 _ rfl;have f0 := m3.frozen 0;refine wpL.tl (i := 8) rfl (fun K hK => ?_);go_simp;refine hK.out _ _ ?_;clear hK K
   try simp only [zP]
   refine wpL.done (by kernel_rfl) ?_ _;clear hQ;have S' := SB.add q2 q1;clear SB S z0 f0 m3 q1 q2 E4 E5 exb bb hx0 ES h7 hq
   go_wp2_with fail
   go_roundw
   case rel => exact ⟨k + 1,_,by omega,by go_num,by rw [HT.out];exact S'⟩
   case measure => simp [intOf];omega
  ·have hkn : k = n := by omega
   subst hkn;rw [List.take_of_length_le (Nat.le_of_eq HL.out)] at S;have hI : (k : Int) <= (k : Int) := Int.le_refl _;obtain ⟨Ar,nr,cr,rfl,hir⟩ := S.row.rawT;have hnr : nr = k := by rw [<- hir.len,HL.out]
   have HNR := Lib.hid hnr;clear hnr;have y0 := S.b3.cell 0 (.slice Ar nr cr) rfl;have y1 := S.b3.cell 1 (.slice A4 n1 c4) rfl;have y2 := S.b3.cell 2 (.slice A5 n2 c5) rfl;have y3 := S.b3.cell 3 (.slice A6 n3 c6) rfl;replace b2 := b2.ext S.ext;have z0 := b2.cell 0 (Value.slice Option.none 0 0) rfl;have z1 := b2.cell 1 (Value.slice Option.none 0 0) rfl;have z2 := b2.cell 2 (Value.slice Option.none 0 0) rfl;have z3 := b2.cell 3 (Value.slice Option.none 0 0) rfl;have f0 := b2.frozen 0;have f1 := b2.frozen 1;have f2 := b2.frozen 2;have f3 := b2.frozen 3;have S2 := OwnS.ret (ext0.trans S.ext) (show w.heap.size <= w.heap.size + 1 by omega) b2 S.row S.p1 S.p2 S.p3;obtain ⟨E9,t0,t1,t2,t3,hm⟩ := S2;have m0 := hm.cell 0 (.slice Ar nr cr) rfl;have m1 := hm.cell 1 (.slice A4 n1 c4) rfl;have m2 := hm.cell 2 (.slice A5 n2 c5) rfl;have m3 := hm.cell 3 (.slice A6 n3 c6) rfl
   go_wp2_with fail
   have hpost := HNR.out;subst hpost;exact bodyPost_ret (v := .agg #[.slice Ar nr cr,.slice A4 n1 c4,.slice A5 n2 c5,.slice A6 n3 c6]) (by simp [results,Tryz.results13,go_sem,m0,m1,m2,m3]) rfl ⟨_,_,_,_,_,_,_,_,rfl,t0,t1,t2,t3,E9⟩
end
end
section
open Go.RowKit
section
variable {K : Type} [Add K] [Mul K] [Neg K] [OfNat K 0] [OfNat K 1] [RingK K]
theorem El.psi_neg (D : Nat -> K) : (h : Nat) -> (a : El K h) -> El.psi D h (El.neg h a) = El.neg h (El.psi D h a)
 | 0,_ => rfl
 | h + 1,a => by
  have e : ∀ (j : Nat) (k : K) (x : El K j),El.smul j k (El.neg j x) = El.neg j (El.smul j k x) := by
   intro j
   induction j with
   | zero => intro k x;exact RingK.mul_neg (K := K) k x
   | succ j ih => intro k x;exact El.ext (ih k x.1) (ih k x.2)
  simp only [El.psi,El.neg,El.psi_neg D h,e];exact El.ext rfl rfl
end
theorem castL_neg (a : List Int) : castL (negL a) = negL (castL a) := by
 unfold castL negL;rw [List.map_map,List.map_map];exact List.map_congr_left fun x _ => Rat.intCast_neg x
end
section
open Go.RowKit
attribute [local go_sem ↓] Go.wp_at_zero Go.wp_at_succ
section
variable {w w' : World} {base L : Nat} {v : Value} {qs ps : List Rat} {A : Option Addr} {n c : Nat}
theorem run_append_row {ty : TypeId} (h : Row4 w base v qs L) (hp : Pol w A n c ps L) (h0 : 0 < n) (hl : qs.length <= 1000) (hn : n <= 1000) (hbase : base <= w.heap.size) :
  ∃ v' w',(Builtin.append_ #[23,23] ty #[v,.slice A n c]).run Tryz.prog w = .ok v' w' /\ Row4 w' base v' (qs ++ ps) L /\ w.grownBy w' v.ownBlock /\ (v'.ownBlock = v.ownBlock \/ v'.ownBlock = some w.heap.size) := by
 obtain ⟨i0,hi,hz0,hz1,hz2⟩ := info_partsB Tryz.infoR;obtain ⟨cs,h1,h2⟩ := h.own;have hne : ps ≠ [] := fun e => by have := hp.len;rw [e] at this;simp at this;omega
 obtain ⟨b,off,rfl,hrat⟩ := hp.at_ hne;obtain ⟨ds,k1,k2⟩ := hrat.list;have hdl : ds.length = n * 4 := by rw [k1.len,hp.len]
 rw [<- hz1] at h1
 obtain ⟨v',w',hr,j1,j2,j3,j4⟩ := run_append_nw (P := Tryz.prog) (ty := ty) (c := c) Tryz.underlying23 hi hz0 hz2 (by rw [hz1];rfl) (by omega) (by
  intro u hu k e;simp [Value.cells] at hu
  rcases hu with rfl | rfl | rfl | rfl <;> cases e) h1 h.nwb (m := n) (by rw [hz1];exact hdl) (fun j u hj => k2 j u hj) k1.one k1.nwl h0 (by unfold maxLen;omega) (by omega) hbase
 rw [hz1] at j1;refine ⟨v',w',hr,⟨⟨cs ++ ds,?_,(h2.own h.nwb j2).append (k1.own h.nwb j2)⟩,j4⟩,j2,j3⟩;rw [List.length_append,hp.len];exact j1
theorem run_append_row0 {ty : TypeId} (h : Row4 w base v qs L) :
  (Builtin.append_ #[23,23] ty #[v,.slice A 0 c]).run Tryz.prog w = .ok v w := by
 have hq := Tryz.infoRat
 cases hi : Tryz.prog.info? 30 with
 | none => rw [hi] at hq;cases hq
 | some i =>
 rw [hi] at hq;simp only [Option.map_some,Option.some.injEq,Prod.mk.injEq] at hq;obtain ⟨cs,h1,h2⟩ := h.own
 rcases h1.2 with ⟨rfl,h0⟩ | ⟨g,cap,cur,rfl,hbg,hg,hnc,hcm,hcs,htake⟩
 ·cases A with
  | none => simp [Builtin.append_,run_underlying Tryz.underlying23,sizeOf,typeInfo,hi,Builtin.lenOf,Builtin.firstCells]
  | some ad => simp [Builtin.append_,run_underlying Tryz.underlying23,sizeOf,typeInfo,hi,Builtin.lenOf,Builtin.firstCells,loadCells,loadCellsFrom]
 ·cases A with
  | none => simp [Builtin.append_,run_underlying Tryz.underlying23,sizeOf,typeInfo,hi,Builtin.lenOf,Builtin.firstCells,storeCells,hnc]
  | some ad => simp [Builtin.append_,run_underlying Tryz.underlying23,sizeOf,typeInfo,hi,Builtin.lenOf,Builtin.firstCells,loadCells,loadCellsFrom,storeCells,hnc]
theorem wpList_append_row {w0 : World} {ops : Array Oper} {rest : List Oper} {o : Oper} {a : Act} {Q : Exit -> Act -> World -> Prop} (hgd : o.guard = none) (x y : Operand)
  (ho : o.op = .call { callee := .builtin .append,args := #[x,y],argTypes := #[23,23] })
  (hx : a.eval x = v) (hy : a.eval y = .slice A n c)
  (h : Row4 w base v qs L) (hp : Pol w A n c ps L) (hl : qs.length <= 1000) (hn : n <= 1000) (hbase : base <= w.heap.size) (he : Ext w0 w) (hb0 : w0.heap.size <= base)
  (hK : ∀ v' w',Row4 w' base v' (qs ++ ps) L -> Ext w0 w' -> wpList Tryz.prog ops Q rest (a.put o.dst v') w') :
  wpList Tryz.prog ops Q (o :: rest) a w := by
 refine wpList_plain hgd fun K hKK => ?_
 have key : ∃ v' w',(Builtin.append_ #[23,23] o.type #[v,.slice A n c]).run Tryz.prog w = .ok v' w' /\ Row4 w' base v' (qs ++ ps) L /\ Ext w0 w' := by
  rcases Nat.eq_zero_or_pos n with h0 | h0
  ·subst h0
   have hps : ps = [] := List.eq_nil_of_length_eq_zero hp.len;subst hps;exact ⟨v,w,run_append_row0 h,by rw [List.append_nil];exact h,he⟩
  ·obtain ⟨v',w',hr,h2,h3,_⟩ := run_append_row (ty := o.type) h hp h0 hl hn hbase
   exact ⟨v',w',hr,h2,Below.grown he h3 he.size (fun k hk => Nat.le_trans hb0 (h.block k hk).1)⟩
 obtain ⟨v',w',hr,h2,h3⟩ := key;unfold Oper.wp execOp;simp only [ho,resolve,invoke,builtin,Sem.run_bind,Sem.run_pure,Result.andThen_ok,List.map_toArray,List.map_cons,List.map_nil,hx,hy,hr];exact hKK _ _ (hK v' w' h2 h3)
end
end
section
open Go.RowKit
def InM (M X : Nat) (q : Rat) : Prop := ∃ z : Int,q = mkRat z M /\ z.natAbs <= X
theorem InM.zero {M X : Nat} : InM M X 0 := ⟨0,(Rat.zero_mkRat M).symm,Nat.zero_le _⟩
theorem nat_ne {M : Nat} (h : 0 < M) : ((M : Nat) : Rat) ≠ 0 := by
 have := int_ne (z := ((M : Nat) : Int)) (by omega)
 rwa [Rat.intCast_natCast] at this
theorem InM.mul {M X M' X' : Nat} {p q : Rat} (h : InM M X p) (k : InM M' X' q) : InM (M * M') (X * X') (p * q) := by
 obtain ⟨z,rfl,h2⟩ := h;obtain ⟨y,rfl,k2⟩ := k;refine ⟨z * y,Rat.mkRat_mul_mkRat _ _ _ _,?_⟩;rw [Int.natAbs_mul];exact Nat.mul_le_mul h2 k2
theorem InM.add {M X X' : Nat} {p q : Rat} (hM : 0 < M) (h : InM M X p) (k : InM M X' q) : InM M (X + X') (p + q) := by
 obtain ⟨z,rfl,h2⟩ := h;obtain ⟨y,rfl,k2⟩ := k;refine ⟨z + y,?_,Nat.le_trans (Int.natAbs_add_le _ _) (Nat.add_le_add h2 k2)⟩;have := nat_ne hM;rw [Rat.mkRat_eq_div,Rat.mkRat_eq_div,Rat.mkRat_eq_div,Rat.intCast_add]
 grind
theorem InM.scale {M X : Nat} {q : Rat} (hM : 0 < M) (k : Nat) (hk : 0 < k) (h : InM M X q) : InM (M * k) (X * k) q := by
 obtain ⟨z,rfl,h2⟩ := h;refine ⟨z * (k : Int),?_,by rw [Int.natAbs_mul,Int.natAbs_natCast];exact Nat.mul_le_mul_right _ h2⟩;have h3 := nat_ne hM;have h4 := nat_ne hk;rw [Rat.mkRat_eq_div,Rat.mkRat_eq_div,Rat.intCast_mul,Rat.natCast_mul,Rat.intCast_natCast]
 grind
theorem InM.le {M X X' : Nat} {q : Rat} (h : InM M X q) (hx : X <= X') : InM M X' q := by
 obtain ⟨z,h1,h2⟩ := h;exact ⟨z,h1,Nat.le_trans h2 hx⟩
theorem InM.size {M X : Nat} {q : Rat} (hM : 0 < M) (h : InM M X q) : q.num.natAbs <= X /\ q.den <= M := by
 obtain ⟨z,rfl,h2⟩ := h;obtain ⟨h3,h4⟩ := mkRat_sizes z M (by omega);exact ⟨Nat.le_trans h4 h2,Nat.le_of_dvd hM h3⟩
def AllM (M X : Nat) (qs : List Rat) : Prop := ∀ q ∈ qs,InM M X q
theorem AllM.take {M X : Nat} {qs : List Rat} (h : AllM M X qs) (n : Nat) : AllM M X (qs.take n) := fun q hq => h q (List.mem_of_mem_take hq)
theorem AllM.drop {M X : Nat} {qs : List Rat} (h : AllM M X qs) (n : Nat) : AllM M X (qs.drop n) := fun q hq => h q (List.mem_of_mem_drop hq)
theorem AllM.append {M X : Nat} {qs ps : List Rat} (h : AllM M X qs) (k : AllM M X ps) : AllM M X (qs ++ ps) := fun q hq => (List.mem_append.1 hq).elim (h q) (k q)
theorem AllM.headD {M X : Nat} {qs : List Rat} (h : AllM M X qs) : InM M X (qs.headD 0) := by
 cases qs with
 | nil => exact InM.zero
 | cons q qs => exact h q List.mem_cons_self
theorem AllM.add {M X X' : Nat} (hM : 0 < M) : ∀ {a b : List Rat},AllM M X a -> AllM M X' b -> AllM M (X + X') (addL a b)
 | [],_,_,_ => fun q hq => by cases hq
 | _ :: _,[],_,_ => fun q hq => by cases hq
 | p :: a,q :: b,ha,hb => by
  intro x hx
  rcases List.mem_cons.1 hx with rfl | hx
  ·exact InM.add hM (ha p List.mem_cons_self) (hb q List.mem_cons_self)
  ·exact AllM.add hM (a := a) (b := b) (fun y hy => ha y (List.mem_cons_of_mem _ hy)) (fun y hy => hb y (List.mem_cons_of_mem _ hy)) x hx
def prQ (Mr : Nat -> Nat) : Nat -> Nat
 | 0 => 1
 | h + 1 => prQ Mr h * (Mr h * prQ Mr h)
def prY (Mr Xr : Nat -> Nat) : Nat -> Nat
 | 0 => 1
 | h + 1 => prY Mr Xr h * (Mr h * prQ Mr h) + prY Mr Xr h * (Mr h * prQ Mr h) + prY Mr Xr h * (Xr h * prY Mr Xr h)
theorem prQ_pos {Mr : Nat -> Nat} (hM : ∀ i,0 < Mr i) : ∀ h,0 < prQ Mr h
 | 0 => Nat.one_pos
 | h + 1 => Nat.mul_pos (prQ_pos hM h) (Nat.mul_pos (hM h) (prQ_pos hM h))
theorem mulL_in {R : Nat -> List Rat} {Mr Xr : Nat -> Nat} (hM : ∀ i,0 < Mr i) (hR : ∀ i,AllM (Mr i) (Xr i) (R i)) : ∀ (h : Nat) {a b : List Rat} {Ma Xa Mb Xb : Nat},0 < Ma -> 0 < Mb -> AllM Ma Xa a -> AllM Mb Xb b -> AllM (Ma * Mb * prQ Mr h) (Xa * Xb * prY Mr Xr h) (mulL R h a b)
 | 0,a,b,Ma,Xa,Mb,Xb,_,_,ha,hb => by
  intro q hq;rw [mulL,List.mem_singleton] at hq;rw [hq,prQ,prY,Nat.mul_one,Nat.mul_one];exact ha.headD.mul hb.headD
 | h + 1,a,b,Ma,Xa,Mb,Xb,pa,pb,ha,hb => by
  have hq := prQ_pos hM h;have hk : 0 < Mr h * prQ Mr h := Nat.mul_pos (hM h) hq;have pm : 0 < Ma * Mb * prQ Mr h := Nat.mul_pos (Nat.mul_pos pa pb) hq;have i0 := mulL_in hM hR h pa pb (ha.take (2 ^ h)) (hb.take (2 ^ h));have i1 := mulL_in hM hR h pa pb (ha.drop (2 ^ h)) (hb.drop (2 ^ h));have i2 := mulL_in hM hR h pm (hM h) i1 (hR h);have i3 := mulL_in hM hR h pa pb (ha.take (2 ^ h)) (hb.drop (2 ^ h));have i4 := mulL_in hM hR h pa pb (ha.drop (2 ^ h)) (hb.take (2 ^ h));have eM : Ma * Mb * prQ Mr (h + 1) = Ma * Mb * prQ Mr h * (Mr h * prQ Mr h) := by rw [prQ];simp only [Nat.mul_assoc]
  have e2 : Ma * Mb * prQ Mr h * Mr h * prQ Mr h = Ma * Mb * prQ Mr h * (Mr h * prQ Mr h) := by rw [Nat.mul_assoc]
  have eX : Xa * Xb * prY Mr Xr (h + 1) = Xa * Xb * prY Mr Xr h * (Mr h * prQ Mr h) + Xa * Xb * prY Mr Xr h * (Mr h * prQ Mr h) + Xa * Xb * prY Mr Xr h * Xr h * prY Mr Xr h := by
   rw [prY];simp only [Nat.mul_add,Nat.mul_assoc]
  rw [e2] at i2;rw [eM,eX,mulL];have sc : ∀ {c : List Rat} {X : Nat},AllM (Ma * Mb * prQ Mr h) X c -> AllM (Ma * Mb * prQ Mr h * (Mr h * prQ Mr h)) (X * (Mr h * prQ Mr h)) c := fun hc q hq => (hc q hq).scale pm _ hk
  have p2 := Nat.mul_pos pm hk;refine AllM.append (fun q hq => ((AllM.add p2 (sc i0) i2) q hq).le ?_) (fun q hq => ((AllM.add p2 (sc i3) (sc i4)) q hq).le ?_)
  ·generalize Xa * Xb * prY Mr Xr h * (Mr h * prQ Mr h) = u
   generalize Xa * Xb * prY Mr Xr h * Xr h * prY Mr Xr h = v;omega
  ·generalize Xa * Xb * prY Mr Xr h * (Mr h * prQ Mr h) = u
   generalize Xa * Xb * prY Mr Xr h * Xr h * prY Mr Xr h = v;omega
theorem addL_zero_right {n : Nat} {c : List Rat} (hc : c.length = n) : addL c (List.replicate n 0) = c := by
 refine List.ext_getElem (by rw [addL_len hc List.length_replicate,hc]) fun i h1 h2 => ?_
 simp [addL,Rat.add_zero]
theorem addL_zero_left {n : Nat} {c : List Rat} (hc : c.length = n) : addL (List.replicate n 0) c = c := by
 refine List.ext_getElem (by rw [addL_len List.length_replicate hc,hc]) fun i h1 h2 => ?_
 simp [addL,Rat.zero_add]
theorem zero_half {l : List Rat} {h : Nat} (hl : l.length = 2 ^ (h + 1)) (hz : zeroB (l.drop (2 ^ h)) = true) : l.drop (2 ^ h) = List.replicate (2 ^ h) 0 := by
 have := zeroB_repl hz
 rwa [drop_len hl] at this
theorem mulL_zA {R : Nat -> List Rat} (hR : ∀ i,(R i).length = 2 ^ i) {h : Nat} {a b : List Rat} (ha : a.length = 2 ^ (h + 1)) (hb : b.length = 2 ^ (h + 1)) (hz : zeroB (a.drop (2 ^ h)) = true) :
  mulL R (h + 1) a b = mulL R h (a.take (2 ^ h)) (b.take (2 ^ h)) ++ mulL R h (a.take (2 ^ h)) (b.drop (2 ^ h)) := by
 rw [mulL,zero_half ha hz,mulL_zero_left hR (drop_len hb),mulL_zero_left hR (hR h),mulL_zero_left hR (take_len hb),addL_zero_right mulL_len,addL_zero_right mulL_len]
theorem mulL_zB {R : Nat -> List Rat} (hR : ∀ i,(R i).length = 2 ^ i) {h : Nat} {a b : List Rat} (ha : a.length = 2 ^ (h + 1)) (hb : b.length = 2 ^ (h + 1)) (hz : zeroB (b.drop (2 ^ h)) = true) :
  mulL R (h + 1) a b = mulL R h (a.take (2 ^ h)) (b.take (2 ^ h)) ++ mulL R h (a.drop (2 ^ h)) (b.take (2 ^ h)) := by
 rw [mulL,zero_half hb hz,mulL_zero_right hR (drop_len ha),mulL_zero_left hR (hR h),mulL_zero_right hR (take_len ha),addL_zero_right mulL_len,addL_zero_left mulL_len]
theorem mulL_zAB {R : Nat -> List Rat} (hR : ∀ i,(R i).length = 2 ^ i) {h : Nat} {a b : List Rat} (ha : a.length = 2 ^ (h + 1)) (hb : b.length = 2 ^ (h + 1)) (hz : zeroB (a.drop (2 ^ h)) = true) (hy : zeroB (b.drop (2 ^ h)) = true) :
  mulL R (h + 1) a b = mulL R h (a.take (2 ^ h)) (b.take (2 ^ h)) ++ List.replicate (2 ^ h) 0 := by
 rw [mulL_zA hR ha hb hz,zero_half hb hy,mulL_zero_right hR (take_len ha)]
theorem prod_sz {Mr Xr : Nat -> Nat} (hM : ∀ i,0 < Mr i) {h Ma Xa Mb Xb Z : Nat} (hq : Ma * Mb * prQ Mr (h + 1) < Z) (hy : Xa * Xb * prY Mr Xr (h + 1) < Z) :
  Ma * Mb * prQ Mr h < Z /\ Xa * Xb * prY Mr Xr h < Z /\ (Ma * Mb * prQ Mr h) * Mr h * prQ Mr h < Z /\ (Xa * Xb * prY Mr Xr h) * Xr h * prY Mr Xr h < Z := by
 have h1 := prQ_pos hM h;have h2 : 0 < Mr h * prQ Mr h := Nat.mul_pos (hM h) h1;rw [prQ] at hq;rw [prY] at hy;have e1 : Ma * Mb * (prQ Mr h * (Mr h * prQ Mr h)) = (Ma * Mb * prQ Mr h) * (Mr h * prQ Mr h) := by simp only [Nat.mul_assoc]
 have e2 : (Ma * Mb * prQ Mr h) * Mr h * prQ Mr h = (Ma * Mb * prQ Mr h) * (Mr h * prQ Mr h) := by simp only [Nat.mul_assoc]
 have e3 : Xa * Xb * (prY Mr Xr h * (Mr h * prQ Mr h) + prY Mr Xr h * (Mr h * prQ Mr h) + prY Mr Xr h * (Xr h * prY Mr Xr h)) = (Xa * Xb * prY Mr Xr h) * (Mr h * prQ Mr h) + (Xa * Xb * prY Mr Xr h) * (Mr h * prQ Mr h) + (Xa * Xb * prY Mr Xr h) * Xr h * prY Mr Xr h := by
  simp only [Nat.mul_add,Nat.mul_assoc]
 rw [e1] at hq;rw [e3] at hy;rw [e2];have h3 := Nat.le_mul_of_pos_right (Ma * Mb * prQ Mr h) h2;have h4 := Nat.le_mul_of_pos_right (Xa * Xb * prY Mr Xr h) h2;refine ⟨Nat.lt_of_le_of_lt h3 hq,?_,hq,?_⟩
 ·omega
 ·omega
section
variable {w : World} {base L : Nat} {v : Value} {qs ps : List Rat} {A : Option Addr} {n c : Nat}
theorem Row4.mono {base2 : Nat} (h : Row4 w base v qs L) (hb : base2 <= base) : Row4 w base2 v qs L := by
 obtain ⟨cs,h1,h2⟩ := h.own;refine ⟨⟨cs,⟨h1.1,?_⟩,h2⟩,h.nwb⟩
 rcases h1.2 with q | ⟨g,cap,cur,q1,q2,q3⟩
 ·exact Or.inl q
 ·exact Or.inr ⟨g,cap,cur,q1,Nat.le_trans hb q2,q3⟩
theorem step_append_rowR {w0 : World} {ops : Array Oper} {o : Oper} {a : Act} {K : Act -> World -> Prop} {Q : Exit -> Act -> World -> Prop} {E : Prop} (hgd : o.guard = Option.none) (x y : Operand)
  (ho : o.op = .call { callee := .builtin .append,args := #[x,y],argTypes := #[23,23] })
  (hx : a.eval x = v) (hy : a.eval y = .slice A n c)
  (h : Row4 w base v qs L) (hp : Pol w A n c ps L) (hl : qs.length <= 1000) (hn : n <= 1000) (hbase : base <= w.heap.size) (he : Ext w0 w) (hb0 : w0.heap.size <= base)
  (hK : ∀ v' w',Row4 w' base v' (qs ++ ps) L -> Ext w0 w' -> K (a.put o.dst v') w') :
  if Region.wanted o (yielded ops a.tmps) = true then Oper.wp Tryz.prog o a w K Q else E := by
 have hw : Region.wanted o (yielded ops a.tmps) = true := by simp [Region.wanted,hgd]
 rw [if_pos hw]
 have key : ∃ v' w',(Builtin.append_ #[23,23] o.type #[v,.slice A n c]).run Tryz.prog w = .ok v' w' /\ Row4 w' base v' (qs ++ ps) L /\ Ext w0 w' := by
  rcases Nat.eq_zero_or_pos n with h0 | h0
  ·subst h0
   have hps : ps = [] := List.eq_nil_of_length_eq_zero hp.len;subst hps;exact ⟨v,w,run_append_row0 h,by rw [List.append_nil];exact h,he⟩
  ·obtain ⟨v',w',hr,h2,h3,_⟩ := run_append_row (ty := o.type) h hp h0 hl hn hbase
   exact ⟨v',w',hr,h2,Below.grown he h3 he.size (fun k hk => Nat.le_trans hb0 (h.block k hk).1)⟩
 obtain ⟨v',w',hr,h2,h3⟩ := key;unfold Oper.wp execOp;simp only [ho,resolve,invoke,builtin,Sem.run_bind,Sem.run_pure,Result.andThen_ok,List.map_toArray,List.map_cons,List.map_nil,hx,hy,hr];exact hK v' w' h2 h3
end
end
section
open Go.RowKit
attribute [local go_sem ↓] Go.wp_at_zero Go.wp_at_succ
theorem Row4.pl {w : World} {base n c L : Nat} {A : Option Addr} {qs : List Rat} (h : Row4 w base (.slice A n c) qs L) : Pol w A n c qs L := by
 obtain ⟨_,_,_,e,hp⟩ := h.polT
 injection e with e1 e2 e3
 subst e1 e2 e3;exact hp
theorem Row4.tightG {w : World} {base L M : Nat} {v : Value} {qs : List Rat} (h : Row4 w base v qs L) (hb : ∀ q ∈ qs,q.num.natAbs < 4294967296 ^ M /\ q.den < 4294967296 ^ M) : Row4 w base v qs M := by
 obtain ⟨⟨cs,h1,h2⟩,hw⟩ := h;refine ⟨⟨cs,h1,?_⟩,hw⟩;clear h1 hw
 induction h2 with
 | nil => exact .nil
 | cons hq _ ih => exact .cons (hq.tightR (hb _ List.mem_cons_self).1 (hb _ List.mem_cons_self).2) (ih (fun q hq => hb q (List.mem_cons_of_mem _ hq)))
section
variable {R : Nat -> List Rat} {Mr Xr : Nat -> Nat} {S : Nat}
set_option maxRecDepth 100000 in
theorem q_MulT (hRl : ∀ i,(R i).length = 2 ^ i) (hM : ∀ i,0 < Mr i) (hRi : ∀ i,AllM (Mr i) (Xr i) (R i)) (hS4 : 4 <= S) (hS : S <= 1000) (h : Nat) : ∀ {w : World} {Tt A B : Option Addr} {ct n c d Ma Xa Mb Xb : Nat} {ts : List (List Rat)} {qs ps : List Rat} (_ht : TowL ts) (_hl : ts.length = h) (_hR : ∀ i,i < h -> radQ ts i = R i) (_hp : PolT w Tt h ct ts 4) (_ha : Pol w A n c qs S) (_hb : Pol w B n d ps S) (_hn : n = 2 ^ h) (_ia : 0 < Ma /\ AllM Ma Xa qs) (_ib : 0 < Mb /\ AllM Mb Xb ps) (_sz : h <= 5 /\ Ma * Mb * prQ Mr h < 4294967296 ^ S /\ Xa * Xb * prY Mr Xr h < 4294967296 ^ S),
  Calls Tryz.prog 44 #[.slice Tt h ct,.slice A n c,.slice B n d] w (fun e w' => ∃ A' c',e = .returned (.slice A' n c') /\ Row4 w' w.heap.size (.slice A' n c') (mulL R h qs ps) S /\ Ext w w') := by
 induction h with
 | zero =>
  intro w Tt A B ct n c d Ma Xa Mb Xb ts qs ps ht hl hR hp ha hb hn ia ib sz;have hn1 : n = 1 := hn;clear hn;subst hn1;have hj : 0 < qs.length := by rw [ha.len];omega
  have hj' : 0 < ps.length := by rw [hb.len];omega
  obtain ⟨b,off,rfl,hr⟩ := ha.at_ (fun e => by rw [e] at hj;exact absurd hj (Nat.not_lt_zero _));obtain ⟨b',off',rfl,hr'⟩ := hb.at_ (fun e => by rw [e] at hj';exact absurd hj' (Nat.not_lt_zero _));have hin := (mulL_in hM hRi 0 ia.1 ib.1 ia.2 ib.2)
  have hm : mulL R 0 qs ps = [qs[0] * ps[0]] := by
   rw [mulL,List.headD_eq_head?_getD,List.headD_eq_head?_getD,List.head?_eq_getElem?,List.head?_eq_getElem?,List.getElem?_eq_getElem hj,List.getElem?_eq_getElem hj']
   rfl
  rw [hm] at hin;have hsz := (hin _ List.mem_cons_self).size (Nat.mul_pos (Nat.mul_pos ia.1 ib.1) (prQ_pos hM 0));have Hm := Lib.hid hm;have HSZ := Lib.hid (And.intro (Nat.lt_of_le_of_lt hsz.1 sz.2.2) (Nat.lt_of_le_of_lt hsz.2 sz.2.1));clear hm hin hsz sz ia ib hR ht hl hp hRl hM hRi;obtain ⟨sx,Ax,nx,cx,tx,Bx,mx,dx,e0,e1,e2,e3,hx⟩ := hr.at_ 0 hj;obtain ⟨sy,Ay,ny,cy,ty,By,my,dy,i0,i1,i2,i3,hy⟩ := hr'.at_ 0 hj';generalize qs[0] = x0 at *;generalize ps[0] = y0 at *;rw [Nat.mul_zero,Nat.add_zero] at e0 e1 e2 e3 i0 i1 i2 i3
  go_enter Tryz.func44,Tryz.ntmps44
  go_upto_region 2 with (fail)
  have ES0 := Ext.refl w;refine wp_region_held_drew (S := Ext w) (by kernel_rfl) ES0.drew (fun ES => ?_);clear ES0;refine Late.s0 ES (fun hAl hQ => ?_);refine Late.u 0 16 hQ ?_
  try simp only [zP]
  refine Late.u 3 19 hQ ?_
  try simp only [zP]
  refine Late.u 1 17 hQ ?_
  try simp only [zP]
  refine Late.u 4 20 hQ ?_
  try simp only [zP]
  refine Late.t 2 18 ?v_4 hQ ?y_4 ?_
  case y_4 => intro w' hSw;have q0_ := hSw.cellv e0;have q1_ := hSw.cellv e1;have q2_ := hSw.cellv e2;have q3_ := hSw.cellv e3;have q4_ := hSw.cellv i0;have q5_ := hSw.cellv i1;have q6_ := hSw.cellv i2;have q7_ := hSw.cellv i3;go_simp;try rfl
  try simp only [zP]
  refine Late.t 5 21 ?v_5 hQ ?y_5 ?_
  case y_5 => intro w' hSw;have q0_ := hSw.cellv e0;have q1_ := hSw.cellv e1;have q2_ := hSw.cellv e2;have q3_ := hSw.cellv e3;have q4_ := hSw.cellv i0;have q5_ := hSw.cellv i1;have q6_ := hSw.cellv i2;have q7_ := hSw.cellv i3;go_simp;try rfl
  try simp only [zP]
  refine Late.cl (i := 6) rfl hAl hQ (fun w6 e6 E6 K hK => ?_);go_simp
  (go_at_call 85;refine (q_MulR (hx.ext E6) (hy.ext E6) (by omega) (by omega)).mono ?_;rintro e wk6 ⟨s7,A7,n7,c7,t7,B7,m7,d7,rfl,h7,hx6⟩)
  refine hK.out _ _ hx6 ?_;clear hK K
  try simp only [zP]
  refine Late.cl (i := 7) rfl hAl hQ (fun w7 e7 E7 K hK => ?_);go_simp;refine hK.out _ _ ((Ext.refl _).alloc _) ?_;clear hK K
  try simp only [zP]
  refine Late.u 8 6 hQ ?_
  try simp only [zP]
  refine Late.d0 (fun wz ez Ez => ?_);clear hAl hQ ES;have hbx := (Box.new w7 30 #[.bool s7,.slice A7 n7 c7,.bool t7,.slice B7 m7 d7]).ext ez;have h7z := (h7.ext (e7.trans (((Ext.refl w7).alloc _).trans ez))).tightR HSZ.out.1 HSZ.out.2;have hrow : RRow wz w7.heap.size [x0 * y0] S := ⟨_,hbx,.cons h7z .nil⟩;have hgs := E7.size
  go_wp2_with fail
  go_ret
  rw [Hm.out];exact ⟨_,_,rfl,hrow.row4 hgs rfl (by omega),Ez⟩
 | succ h ih =>
  intro w Tt A B ct n c d Ma Xa Mb Xb ts qs ps ht hl hR hp ha hb hn ia ib sz;obtain ⟨k,hk⟩ : ∃ k,k = 2 ^ h := ⟨_,rfl⟩;obtain ⟨H,hH⟩ : ∃ H,H = h + 1 := ⟨_,rfl⟩;have hnk : n = k + k := by rw [hn,hk,two_pow_s]
  have hk0 : 0 < k := by rw [hk];exact Nat.pow_pos (by omega)
  have hk1 : k <= 16 := by rw [hk];exact Nat.le_trans (Nat.pow_le_pow_right (by omega) (show h <= 4 by have := sz.1;omega)) (by decide)
  have hql : qs.length = 2 ^ (h + 1) := by rw [ha.len,hn]
  have hpl : ps.length = 2 ^ (h + 1) := by rw [hb.len,hn]
  have hz := prod_sz hM sz.2.1 sz.2.2;have hmm := mulL_in hM hRi (h + 1) ia.1 ib.1 ia.2 ib.2
  have HALL := Lib.hid (fun q (hq : q ∈ mulL R (h + 1) qs ps) => show q.num.natAbs < 4294967296 ^ S /\ q.den < 4294967296 ^ S by
   have h1 := (hmm q hq).size (Nat.mul_pos (Nat.mul_pos ia.1 ib.1) (prQ_pos hM _));exact ⟨Nat.lt_of_le_of_lt h1.1 sz.2.2,Nat.lt_of_le_of_lt h1.2 sz.2.1⟩)
  have HS0 := Lib.hid (show h <= 5 /\ Ma * Mb * prQ Mr h < 4294967296 ^ S /\ Xa * Xb * prY Mr Xr h < 4294967296 ^ S from ⟨by have := sz.1;omega,hz.1,hz.2.1⟩);have HS2 := Lib.hid (show h <= 5 /\ Ma * Mb * prQ Mr h * Mr h * prQ Mr h < 4294967296 ^ S /\ Xa * Xb * prY Mr Xr h * Xr h * prY Mr Xr h < 4294967296 ^ S from ⟨by have := sz.1;omega,hz.2.2.1,hz.2.2.2⟩);have h5 : h <= 5 := by have := sz.1;omega
  have IA0 := Lib.hid (show 0 < Ma /\ AllM Ma Xa (qs.take k) from ⟨ia.1,ia.2.take k⟩);have IA1 := Lib.hid (show 0 < Ma /\ AllM Ma Xa (qs.drop k) from ⟨ia.1,ia.2.drop k⟩);have IB0 := Lib.hid (show 0 < Mb /\ AllM Mb Xb (ps.take k) from ⟨ib.1,ib.2.take k⟩);have IB1 := Lib.hid (show 0 < Mb /\ AllM Mb Xb (ps.drop k) from ⟨ib.1,ib.2.drop k⟩);have IP := Lib.hid (show 0 < Ma * Mb * prQ Mr h /\ AllM (Ma * Mb * prQ Mr h) (Xa * Xb * prY Mr Xr h) (mulL R h (qs.drop k) (ps.drop k)) from ⟨Nat.mul_pos (Nat.mul_pos ia.1 ib.1) (prQ_pos hM _),mulL_in hM hRi h ia.1 ib.1 (ia.2.drop k) (ib.2.drop k)⟩);have IR := Lib.hid (show 0 < Mr h /\ AllM (Mr h) (Xr h) (R h) from ⟨hM h,hRi h⟩);have HTW := Lib.hid (take_TowL ht h);have HLT := Lib.hid (show (ts.take h).length = h by rw [List.length_take,hl];omega);have HRT := Lib.hid (show ∀ i,i < h -> radQ (ts.take h) i = R i from fun i hi => by rw [radQ_take hi (by omega)];exact hR i (by omega));have hjt : h < ts.length := by omega
  obtain ⟨bt,ot,rfl,hat⟩ := hp.at_ (fun e => by rw [e] at hjt;exact absurd hjt (Nat.not_lt_zero _));obtain ⟨Ar_,nr_,cr_,t0,hr⟩ := hat h hjt;rw [show ts[h] = R h by rw [<- radQ_at hjt];exact hR h (by omega)] at hr;obtain rfl : nr_ = k := by rw [<- hr.len,hRl,hk]
  replace hr := hr.le hS4;have hu := hp.take (k := h) (by omega);have hcapt := hp.cap;have hcapa := ha.cap;have hcapb := hb.cap;obtain ⟨ba,oa,rfl,_⟩ := ha.at_ (fun e => by rw [e] at hql;simp at hql;omega);obtain ⟨bb,ob,rfl,_⟩ := hb.at_ (fun e => by rw [e] at hpl;simp at hpl;omega);have hkn : nr_ <= n := by omega
  have hs : n - nr_ = nr_ := by omega
  have ha0 := ha.take hkn;have ha1 := ha.dropT hkn;have hb0 := hb.take hkn;have hb1 := hb.dropT hkn;rw [hs] at ha1 hb1;have HZA := Lib.hid (fun hz => mulL_zA hRl hql hpl hz);have HZB := Lib.hid (fun hz => mulL_zB hRl hql hpl hz);have HZAB := Lib.hid (fun hz hy => mulL_zAB hRl hql hpl hz hy);rw [<- hk] at HZA HZB HZAB;have HMM := Lib.hid (show mulL R (h + 1) qs ps = addL (mulL R h (qs.take nr_) (ps.take nr_)) (mulL R h (mulL R h (qs.drop nr_) (ps.drop nr_)) (R h)) ++ addL (mulL R h (qs.take nr_) (ps.drop nr_)) (mulL R h (qs.drop nr_) (ps.take nr_)) by rw [mulL,<- hk]);have HK := Lib.hid hk;have HN := Lib.hid hnk;have hw1 : IntKind.i64.wrap ((H : Int) - 1) = (h : Int) := by rw [IntWalk.i64_in _ (by omega)];omega
  have hw2 : wrap64 ((H : Int) - 1) = (h : Int) := by unfold wrap64;omega
  have g1 : ((H : Int) == 0) = false := beq_eq_false_iff_ne.2 (by omega);have i1 : (h : Int) <= (ct : Int) := by omega
  have i2 : (h : Int) < (H : Int) := by omega
  have i3 : (nr_ : Int) <= (n : Int) := by omega
  have i4 : (nr_ : Int) <= (c : Int) := by omega
  have i5 : (nr_ : Int) <= (d : Int) := by omega
  have i6 : (n : Int) <= (c : Int) := by omega
  have i7 : (n : Int) <= (d : Int) := by omega
  have i8 : ¬ c = nr_ := by omega
  have i9 : ¬ d = nr_ := by omega
  have j1 : h <= ct := by omega
  have j2 : h < H := by omega
  have qd1 : Int.tdiv (n : Int) 2 = (nr_ : Int) := by rw [Int.tdiv_eq_ediv_of_nonneg (by omega)];omega
  have qd2 : (n : Int) / 2 = (nr_ : Int) := by omega
  have qd3 : IntKind.i64.wrap (nr_ : Int) = (nr_ : Int) := IntWalk.i64_in _ (by omega);have hn16 : n <= 32 := by omega
  rw [<- hH] at hp hl HALL HZA HZB HZAB HMM ⊢;clear hn hk hnk hz hmm ia ib sz hM hRi hRl hH hl ht hR hat hql hpl hjt
  go_enter Tryz.func44,Tryz.ntmps44
  go_upto_region 4 with (fail)
  go_quiet (fail)
  have ex := (Ext.refl w).drewN nq;refine at_then (fun U => Ext w U) ex ?_;rintro V EW;clear ex;replace ha0 := ha0.ext EW;replace ha1 := ha1.ext EW;replace hb0 := hb0.ext EW;replace hb1 := hb1.ext EW;replace hu := hu.ext EW;replace hr := hr.ext EW
  go_upto_region 5 with (fail)
  clear t0;have ES0 := Ext.refl V;refine wp_region_held_drew (S := Ext V) (by kernel_rfl) ES0.drew (fun ES => ?_);clear ES0;refine Late.s0 ES (fun hAl hQ => ?_);refine Late.u 0 38 hQ ?_
  try simp only [zP]
  refine Late.u 1 39 hQ ?_
  try simp only [zP]
  refine Late.u 4 42 hQ ?_
  try simp only [zP]
  refine Late.u 5 43 hQ ?_
  try simp only [zP]
  refine Late.u 2 40 hQ ?_
  try simp only [zP]
  refine Late.u 6 44 hQ ?_
  try simp only [zP]
  refine Late.cl (i := 3) rfl hAl hQ (fun w3 e3 E3 K hK => ?_);go_simp
  (go_at_call 36;refine (q_ZeroT (ha1.ext E3) (by omega)).mono ?_;rintro e wk3 ⟨rfl,hx3⟩)
  refine hK.out _ _ hx3 ?_;clear hK K
  try simp only [zP]
  refine Late.cl (i := 7) rfl hAl hQ (fun w7 e7 E7 K hK => ?_);go_simp
  (go_at_call 36;refine (q_ZeroT (hb1.ext E7) (by omega)).mono ?_;rintro e wk7 ⟨rfl,hx7⟩)
  refine hK.out _ _ hx7 ?_;clear hK K
  try simp only [zP]
  refine Late.u 8 10 hQ ?_
  try simp only [zP]
  refine Late.u 9 11 hQ ?_
  try simp only [zP]
  refine Late.d0 (fun wz ez Ez => ?_);clear hAl hQ ES;replace EW := EW.trans Ez;replace ha0 := ha0.ext Ez;replace ha1 := ha1.ext Ez;replace hb0 := hb0.ext Ez;replace hb1 := hb1.ext Ez;replace hu := hu.ext Ez;replace hr := hr.ext Ez;clear Ez ez
  go_upto_region 6 with (fail)
  generalize wz = V1 at *;have ES0 := Ext.refl V1;refine wp_region_held_drew (S := Ext V1) (by kernel_rfl) ES0.drew (fun ES => ?_);clear ES0;refine Late.s0 ES (fun hAl hQ => ?_);refine Late.u 0 46 hQ ?_
  try simp only [zP]
  refine Late.u 1 47 hQ ?_
  try simp only [zP]
  refine Late.u 2 48 hQ ?_
  try simp only [zP]
  refine Late.u 4 50 hQ ?_
  try simp only [zP]
  refine Late.u 5 51 hQ ?_
  try simp only [zP]
  refine Late.u 3 49 hQ ?_
  try simp only [zP]
  refine Late.u 6 52 hQ ?_
  try simp only [zP]
  refine Late.cl (i := 7) rfl hAl hQ (fun w7 e7 E7 K hK => ?_);go_simp
  (go_at_call 44;refine (ih (ts := ts.take h) (Ma := Ma) (Xa := Xa) (Mb := Mb) (Xb := Xb) HTW.out HLT.out HRT.out (hu.ext E7) (ha0.ext E7) (hb0.ext E7) HK.out IA0.out IB0.out HS0.out).mono ?_;rintro e wk7 ⟨Al,cl,rfl,rl,hx7⟩;have hbl := E7.size)
  refine hK.out _ _ hx7 ?_;clear hK K
  try simp only [zP]
  refine Late.u 8 12 hQ ?_
  try simp only [zP]
  refine Late.d0 (fun V2 ez Ez => ?_);clear hAl hQ ES;have hwb : w.heap.size <= w7.heap.size := by have := EW.size;omega
  have hlow := rl.ext ez;have hbl2 : w7.heap.size <= V2.heap.size := by have := hx7.size;have := ez.size;omega
  replace EW := EW.trans Ez;replace ha0 := ha0.ext Ez;replace ha1 := ha1.ext Ez;replace hb0 := hb0.ext Ez;replace hb1 := hb1.ext Ez;replace hu := hu.ext Ez;replace hr := hr.ext Ez;clear Ez ez rl hbl E7 e7 hx7;generalize w7.heap.size = bl at hwb hlow hbl2
  cases hza : zeroB (qs.drop nr_) with
  | true =>
   cases hzb : zeroB (ps.drop nr_) with
   | true =>
    have HE := Lib.hid (HZAB.out hza hzb);clear hza hzb
    go_wp2_with fail
    refine (q_FromIntR 0 (by omega) (by omega)).mono ?_;rintro ee V3 ⟨s7,A7,n7,c7,t7,B7,m7,d7,rfl,h7,hx3⟩
    go_wp2_with fail
    refine (q_FromRatT (n := h) h7 (Nat.le_refl 2) (by omega)).mono ?_;rintro ee V4 ⟨Af,nf,cf,rfl,hz,hx4⟩
    have hz2 : Pol V4 Af nf cf (List.replicate nr_ 0) S := by
     have e0 : (((0 : Int) : Rat) :: List.replicate (2 ^ h - 1) 0) = List.replicate nr_ 0 := by
      rw [show nr_ = (2 ^ h - 1) + 1 by have := HK.out;omega,List.replicate_succ]
      rfl
     rw [e0] at hz;exact hz.le (by omega)
    obtain rfl : nf = nr_ := by rw [<- hz2.len,List.length_replicate]
    have hx := hx3.trans hx4;have hsx := hx.size;clear hz hx3 hx4
    go_wp2_with (at_builtin;refine wpList_append_row (w0 := w) rfl _ _ rfl rfl rfl (hlow.ext hx) hz2 (by rw [mulL_len,<- HK.out];omega) (by omega) (by omega) (EW.trans hx) hwb ?_;intro v6 w6 q1 E6)
    obtain ⟨A9,n9,c9,rfl,hq9⟩ := q1.polT;obtain rfl : n9 = n := by rw [<- hq9.len,List.length_append,mulL_len,List.length_replicate,<- HK.out,HN.out]
    go_ret
    rw [HE.out];exact ⟨_,_,rfl,q1.mono hwb,E6⟩
   | false =>
    have HE := Lib.hid (HZA.out hza);clear hza hzb
    go_upto_region 10 with (fail)
    refine wpL.st 9 (fun hQ ES => ?_);refine wpL.uB [9] 0 64 hQ ES ?_
    try simp only [zP]
    refine wpL.uB [8,9] 1 65 hQ ES ?_
    try simp only [zP]
    refine wpL.uB [4,8,9] 2 66 hQ ES ?_
    try simp only [zP]
    refine wpL.uB [4,8,9] 3 67 hQ ES ?_
    try simp only [zP]
    refine wpL.uB [7,8,9] 5 69 hQ ES ?_
    try simp only [zP]
    refine wpL.uB [7,8,9] 6 70 hQ ES ?_
    try simp only [zP]
    refine wpL.uB [8,9] 4 68 hQ ES ?_
    try simp only [zP]
    refine wpL.uB [8,9] 7 71 hQ ES ?_
    try simp only [zP]
    refine wpL.cl (i := 8) rfl (fun K hK => ?_);go_simp
    (go_at_call 44;refine (ih (ts := ts.take h) (Ma := Ma) (Xa := Xa) (Mb := Mb) (Xb := Xb) HTW.out HLT.out HRT.out (hu.ext ES) (ha0.ext ES) (hb1.ext ES) HK.out IA0.out IB1.out HS0.out).mono ?_;rintro ee wk8 ⟨A7,c7,rfl,r7_,hx8⟩;obtain ⟨_,_,_,hv7,r7⟩ := r7_.polT;injection hv7 with v1 v2 v3;subst v1 v2 v3;have F8 := Ext.trans ES hx8)
    refine hK.out _ _ F8 ?_;clear hK K
    try simp only [zP]
    refine wpL.tl (i := 9) rfl (fun K hK => ?_);refine step_append_rowR (w0 := w) rfl _ _ rfl rfl rfl (hlow.ext F8) r7 (by rw [mulL_len,<- HK.out];omega) (by omega) (Nat.le_trans hbl2 (by have := Ext.size F8;omega)) (EW.trans F8) hwb ?_;intro v6 w6 q1 E6;refine hK.out _ _ ?_
    try simp only [List.getElem_toArray,List.getElem_cons_succ,List.getElem_cons_zero]
    clear hK K
    try simp only [zP]
    refine wpL.tl (i := 10) rfl (fun K hK => ?_);go_simp;refine hK.out _ _ ?_;clear hK K
    try simp only [zP]
    refine wpL.done (by kernel_rfl) ?_ _;clear hQ;obtain ⟨A9,n9,c9,rfl,hq9⟩ := q1.polT;obtain rfl : n9 = n := by rw [<- hq9.len,List.length_append,mulL_len,mulL_len,<- HK.out,HN.out]
    go_wp2_with fail
    go_ret
    rw [HE.out];exact ⟨_,_,rfl,q1.mono hwb,E6⟩
  | false =>
   cases hzb : zeroB (ps.drop nr_) with
   | true =>
    have HE := Lib.hid (HZB.out hzb);clear hza hzb
    go_upto_region 12 with (fail)
    refine wpL.st 9 (fun hQ ES => ?_);refine wpL.uB [9] 0 75 hQ ES ?_
    try simp only [zP]
    refine wpL.uB [8,9] 1 76 hQ ES ?_
    try simp only [zP]
    refine wpL.uB [4,8,9] 2 77 hQ ES ?_
    try simp only [zP]
    refine wpL.uB [4,8,9] 3 78 hQ ES ?_
    try simp only [zP]
    refine wpL.uB [7,8,9] 5 80 hQ ES ?_
    try simp only [zP]
    refine wpL.uB [7,8,9] 6 81 hQ ES ?_
    try simp only [zP]
    refine wpL.uB [8,9] 4 79 hQ ES ?_
    try simp only [zP]
    refine wpL.uB [8,9] 7 82 hQ ES ?_
    try simp only [zP]
    refine wpL.cl (i := 8) rfl (fun K hK => ?_);go_simp
    (go_at_call 44;refine (ih (ts := ts.take h) (Ma := Ma) (Xa := Xa) (Mb := Mb) (Xb := Xb) HTW.out HLT.out HRT.out (hu.ext ES) (ha1.ext ES) (hb0.ext ES) HK.out IA1.out IB0.out HS0.out).mono ?_;rintro ee wk8 ⟨A7,c7,rfl,r7_,hx8⟩;obtain ⟨_,_,_,hv7,r7⟩ := r7_.polT;injection hv7 with v1 v2 v3;subst v1 v2 v3;have F8 := Ext.trans ES hx8)
    refine hK.out _ _ F8 ?_;clear hK K
    try simp only [zP]
    refine wpL.tl (i := 9) rfl (fun K hK => ?_);refine step_append_rowR (w0 := w) rfl _ _ rfl rfl rfl (hlow.ext F8) r7 (by rw [mulL_len,<- HK.out];omega) (by omega) (Nat.le_trans hbl2 (by have := Ext.size F8;omega)) (EW.trans F8) hwb ?_;intro v6 w6 q1 E6;refine hK.out _ _ ?_
    try simp only [List.getElem_toArray,List.getElem_cons_succ,List.getElem_cons_zero]
    clear hK K
    try simp only [zP]
    refine wpL.tl (i := 10) rfl (fun K hK => ?_);go_simp;refine hK.out _ _ ?_;clear hK K
    try simp only [zP]
    refine wpL.done (by kernel_rfl) ?_ _;clear hQ;obtain ⟨A9,n9,c9,rfl,hq9⟩ := q1.polT;obtain rfl : n9 = n := by rw [<- hq9.len,List.length_append,mulL_len,mulL_len,<- HK.out,HN.out]
    go_wp2_with fail
    go_ret
    rw [HE.out];exact ⟨_,_,rfl,q1.mono hwb,E6⟩
   | false =>
    clear hza hzb
    go_upto_region 13 with (fail)
    have ES0 := Ext.refl V2;refine wp_region_held_drew (S := Ext V2) (by kernel_rfl) ES0.drew (fun ES => ?_);clear ES0;refine Late.s0 ES (fun hAl hQ => ?_);refine Late.u 0 85 hQ ?_
    try simp only [zP]
    refine Late.u 1 86 hQ ?_
    try simp only [zP]
    refine Late.u 2 87 hQ ?_
    try simp only [zP]
    refine Late.u 3 88 hQ ?_
    try simp only [zP]
    refine Late.u 4 89 hQ ?_
    try simp only [zP]
    refine Late.u 5 90 hQ ?_
    try simp only [zP]
    refine Late.u 7 92 hQ ?_
    try simp only [zP]
    refine Late.u 8 93 hQ ?_
    try simp only [zP]
    refine Late.u 11 96 hQ ?_
    try simp only [zP]
    refine Late.u 6 91 hQ ?_
    try simp only [zP]
    refine Late.u 9 94 hQ ?_
    try simp only [zP]
    refine Late.cl (i := 10) rfl hAl hQ (fun w10 e10 E10 K hK => ?_);go_simp
    (go_at_call 44;refine (ih (ts := ts.take h) (Ma := Ma) (Xa := Xa) (Mb := Mb) (Xb := Xb) HTW.out HLT.out HRT.out (hu.ext E10) (ha1.ext E10) (hb1.ext E10) HK.out IA1.out IB1.out HS0.out).mono ?_;rintro e wk10 ⟨A11,c11,rfl,r11,hx10⟩)
    refine hK.out _ _ hx10 ?_;clear hK K
    try simp only [zP]
    refine Late.cl (i := 12) rfl hAl hQ (fun w12 e12 E12 K hK => ?_);go_simp
    (replace r11 := r11.ext e12;go_at_call 44;refine (ih (ts := ts.take h) (Ma := Ma * Mb * prQ Mr h) (Xa := Xa * Xb * prY Mr Xr h) (Mb := Mr h) (Xb := Xr h) HTW.out HLT.out HRT.out (hu.ext E12) r11.pl (hr.ext E12) HK.out IP.out IR.out HS2.out).mono ?_;rintro e wk12 ⟨A12,c12,rfl,r12,hx12⟩;replace r11 := r11.ext hx12)
    refine hK.out _ _ hx12 ?_;clear hK K
    try simp only [zP]
    refine Late.cl (i := 13) rfl hAl hQ (fun w13 e13 E13 K hK => ?_);go_simp
    (replace r11 := r11.ext e13;replace r12 := r12.ext e13;go_at_call 43;refine (q_AddT4 (hlow.ext E13).pl r12.pl (by omega) (by omega) (by omega)).mono ?_;rintro e wk13 ⟨A13,c13,rfl,r13,hx13⟩;replace r11 := r11.ext hx13;replace r12 := r12.ext hx13)
    refine hK.out _ _ hx13 ?_;clear hK K
    try simp only [zP]
    refine Late.u 14 12 hQ ?_
    try simp only [zP]
    refine Late.d0 (fun wz ez Ez => ?_);clear hAl hQ ES;have hlow2 := (r13.tightG (fun q hq => HALL.out q (by rw [HMM.out];exact List.mem_append_left _ hq))).ext ez;have hwb3 : w.heap.size <= w13.heap.size := by have := EW.size;have := E13.size;omega
    have hbl3 : w13.heap.size <= wz.heap.size := by have := hx13.size;have := ez.size;omega
    replace EW := EW.trans Ez;replace ha0 := ha0.ext Ez;replace ha1 := ha1.ext Ez;replace hb0 := hb0.ext Ez;replace hb1 := hb1.ext Ez;replace hu := hu.ext Ez;clear r11 r12 r13 Ez ez hlow hwb hbl2 hx10 hx12 hx13 E10 E12 E13 e10 e12 e13;generalize w13.heap.size = bl3 at hlow2 hwb3 hbl3;have HE := HMM
    go_upto_region 14 with (fail)
    refine wpL.st 19 (fun hQ ES => ?_);refine wpL.uB [19] 0 99 hQ ES ?_
    try simp only [zP]
    refine wpL.uB [18,19] 1 100 hQ ES ?_
    try simp only [zP]
    refine wpL.uB [9,18,19] 2 101 hQ ES ?_
    try simp only [zP]
    refine wpL.uB [5,9,18,19] 3 102 hQ ES ?_
    try simp only [zP]
    refine wpL.uB [5,9,18,19] 4 103 hQ ES ?_
    try simp only [zP]
    refine wpL.uB [8,9,18,19] 6 105 hQ ES ?_
    try simp only [zP]
    refine wpL.uB [8,9,18,19] 7 106 hQ ES ?_
    try simp only [zP]
    refine wpL.uB [17,18,19] 10 109 hQ ES ?_
    try simp only [zP]
    refine wpL.uB [13,17,18,19] 11 110 hQ ES ?_
    try simp only [zP]
    refine wpL.uB [13,17,18,19] 12 111 hQ ES ?_
    try simp only [zP]
    refine wpL.uB [16,17,18,19] 14 113 hQ ES ?_
    try simp only [zP]
    refine wpL.uB [16,17,18,19] 15 114 hQ ES ?_
    try simp only [zP]
    refine wpL.uB [9,18,19] 5 104 hQ ES ?_
    try simp only [zP]
    refine wpL.uB [9,18,19] 8 107 hQ ES ?_
    try simp only [zP]
    refine wpL.uB [17,18,19] 13 112 hQ ES ?_
    try simp only [zP]
    refine wpL.uB [17,18,19] 16 115 hQ ES ?_
    try simp only [zP]
    refine wpL.cl (i := 9) rfl (fun K hK => ?_);go_simp
    (go_at_call 44;refine (ih (ts := ts.take h) (Ma := Ma) (Xa := Xa) (Mb := Mb) (Xb := Xb) HTW.out HLT.out HRT.out (hu.ext ES) (ha0.ext ES) (hb1.ext ES) HK.out IA0.out IB1.out HS0.out).mono ?_;rintro ee wk9 ⟨A7,c7,rfl,r7,hx9⟩;have F9 := Ext.trans ES hx9)
    refine hK.out _ _ F9 ?_;clear hK K
    try simp only [zP]
    refine wpL.cl (i := 17) rfl (fun K hK => ?_);go_simp
    (go_at_call 44;refine (ih (ts := ts.take h) (Ma := Ma) (Xa := Xa) (Mb := Mb) (Xb := Xb) HTW.out HLT.out HRT.out (hu.ext F9) (ha1.ext F9) (hb0.ext F9) HK.out IA1.out IB0.out HS0.out).mono ?_;rintro ee wk17 ⟨A8,c8,rfl,r8,hx17⟩;have F17 := Ext.trans F9 hx17)
    refine hK.out _ _ F17 ?_;clear hK K
    try simp only [zP]
    refine wpL.cl (i := 18) rfl (fun K hK => ?_);go_simp
    (go_at_call 43;refine (q_AddT4 (r7.ext hx17).pl r8.pl (by omega) (by omega) (by omega)).mono ?_;rintro ee wk18 ⟨A10,c10,rfl,r10,hx18⟩;have F18 := Ext.trans F17 hx18)
    refine hK.out _ _ F18 ?_;clear hK K
    try simp only [zP]
    refine wpL.tl (i := 19) rfl (fun K hK => ?_);refine step_append_rowR (w0 := w) rfl _ _ rfl rfl rfl (hlow2.ext F18) (r10.tightG (fun q hq => HALL.out q (by rw [HMM.out];exact List.mem_append_right _ hq))).pl (by rw [show (List.zipWith (fun x y : Rat => x + y) (mulL R h (qs.take nr_) (ps.take nr_)) (mulL R h (mulL R h (qs.drop nr_) (ps.drop nr_)) (R h))).length = 2 ^ h from addL_len mulL_len mulL_len,<- HK.out];omega) (by omega) (Nat.le_trans hbl3 (by have := Ext.size F18;omega)) (EW.trans F18) hwb3 ?_;intro v6 w6 q1 E6;refine hK.out _ _ ?_
    try simp only [List.getElem_toArray,List.getElem_cons_succ,List.getElem_cons_zero]
    clear hK K
    try simp only [zP]
    refine wpL.tl (i := 20) rfl (fun K hK => ?_);go_simp;refine hK.out _ _ ?_;clear hK K
    try simp only [zP]
    refine wpL.done (by kernel_rfl) ?_ _;clear hQ;obtain ⟨A9,n9,c9,rfl,hq9⟩ := q1.polT
    obtain rfl : n9 = n := by
     have h1 := hq9.len;rw [List.length_append,show (List.zipWith (fun x y : Rat => x + y) (mulL R h (qs.take nr_) (ps.drop nr_)) (mulL R h (qs.drop nr_) (ps.take nr_))).length = 2 ^ h from addL_len mulL_len mulL_len,show (List.zipWith (fun x y : Rat => x + y) (mulL R h (qs.take nr_) (ps.take nr_)) (mulL R h (mulL R h (qs.drop nr_) (ps.drop nr_)) (R h))).length = 2 ^ h from addL_len mulL_len mulL_len,<- HK.out] at h1;rw [<- h1,HN.out]
    go_wp2_with fail
    go_ret
    rw [HE.out];exact ⟨_,_,rfl,q1.mono hwb3,E6⟩
end
end
end Go.Proofs.YtgagcochepnelaaGreatDoor
