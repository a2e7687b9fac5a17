/- Walks and laws, a part. -/
import Derived.Test.YtgagcochepnelaaGreatDoorP0
import Derived.Test.YtgagcochepnelaaGreatDoorP1
import Derived.Test.YtgagcochepnelaaGreatDoorP2
import Derived.Test.YtgagcochepnelaaGreatDoorP3
import Derived.Test.YtgagcochepnelaaGreatDoorP4
import Derived.Test.YtgagcochepnelaaGreatDoorP5
import Derived.Test.YtgagcochepnelaaGreatDoorP6
import Derived.Test.YtgagcochepnelaaGreatDoorP7
import Derived.Test.YtgagcochepnelaaGreatDoorP8
import Derived.Test.YtgagcochepnelaaGreatDoorP9
import Derived.Test.YtgagcochepnelaaGreatDoorP10
import Derived.Test.YtgagcochepnelaaGreatDoorP11
import Derived.Test.YtgagcochepnelaaGreatDoorP12
import Derived.Test.YtgagcochepnelaaGreatDoorP13
import Derived.Test.YtgagcochepnelaaGreatDoorP29
import Derived.Maps.AppendAt
set_option linter.unusedSimpArgs false
set_option linter.unusedVariables false
set_option maxHeartbeats 64000000
namespace Go.Proofs.YtgagcochepnelaaGreatDoor
section
open Go.RowKit
theorem step_append_rat {w : World} {base L : Nat} {v : Value} {qs : List Rat} {q : Rat} {s t : Bool} {A B : Option Addr} {n c m d g : Nat} {ops : Array Oper} {o : Oper} {a : Act} {K : Act -> World -> Prop} {Q : Exit -> Act -> World -> Prop} {E : Prop} (hgd : o.guard = none) (x y : Operand)
  (ho : o.op = .call { callee := .builtin .append, args := #[x, y], argTypes := #[23, 23] })
  (hx : a.eval x = v) (hy : a.eval y = .slice (some ⟨g, 0, none⟩) 1 1)
  (h : Row4 w base v qs L) (hq : NR w q L s A n c t B m d) (hb : Box w g 30 #[.bool s, .slice A n c, .bool t, .slice B m d]) (hl : qs.length <= 1000) (hbase : base <= w.heap.size)
  (hK : ∀ v' w', Row4 w' base v' (qs ++ [q]) L -> w.grownBy w' v.ownBlock -> (v'.ownBlock = v.ownBlock \/ v'.ownBlock = some w.heap.size) -> K (a.put o.dst v') w') :
  if Region.wanted o (yielded ops a.tmps) = true then Oper.wp Tryz.prog o a w K Q else E := by
 have hw : Region.wanted o (yielded ops a.tmps) = true := by simp [Region.wanted, hgd]
 rw [if_pos hw];obtain ⟨v', w', hr, h2, h3, h5⟩ := run_append_rat (ty := o.type) h hq hb hl hbase;unfold Oper.wp execOp;simp only [ho, resolve, invoke, builtin, Sem.run_bind, Sem.run_pure, Result.andThen_ok, List.map_toArray, List.map_cons, List.map_nil, hx, hy, hr];exact hK v' w' h2 h3 h5
theorem Tryz.infoRat : (Tryz.prog.info? 30).map (fun i => (i.zero, i.size, i.bytes)) = some (some (.agg #[.bool false, .slice none 0 0, .bool false, .slice none 0 0]), 4, 64) := by kernel_rfl
end
section
open Go.RowKit
attribute [local go_sem ↓] Go.wp_at_zero Go.wp_at_succ
section
variable {w w' : World} {q x : Rat} {L M : Nat} {s t : Bool} {A B : Option Addr} {n c m d : Nat} {sx tx : Bool} {Ax Bx : Option Addr} {nx cx mx dx : Nat} {qs ps : List Rat} {rs : List RawR} {ts us : List (List RawR)}
theorem q_ZeroT (h : Pol w A n c qs L) (hn : n <= 100000) : Calls Tryz.prog 36 #[.slice A n c] w fun e w' => e = .returned (.bool (zeroB qs)) /\ Ext w w' := by
 have Hlen := Lib.hid h.len
 go_enter Tryz.func36, Tryz.ntmps36
 go_wp2_with fail
 go_loopw [3] (fun i wr => ∃ k : Nat, k <= n /\ i = .int .i64 (k : Int) /\ Ext w wr /\ zeroB (qs.take k) = true) (fun i _ => n - (intOf i).toNat)
 case atStart => exact ⟨0, by omega, rfl, Ext.refl _, by simp [zeroB]⟩
 case round =>
  obtain ⟨k, hk, rfl, ext, hall⟩ := hrel;have HA := Lib.hid hall;clear hall
  by_cases hlt : k < n
  ·have hj : k < qs.length := by rw [Hlen.out]; exact hlt
   have hI : (k : Int) < (n : Int) := by omega
   obtain ⟨p, off, rfl, hr⟩ := h.at_ (fun e => by rw [e] at hj; exact absurd hj (Nat.not_lt_zero _));obtain ⟨sx, Ax, nx, cx, tx, Bx, mx, dx, e0, e1, e2, e3, hx⟩ := (hr.ext ext).at_ k hj;have e0' : wr.cell? ⟨p, off + k * 4, none⟩ = some (.bool sx) := by rw [Nat.mul_comm]; exact e0
   have e1' : wr.cell? ⟨p, off + k * 4 + 1, none⟩ = some (.slice Ax nx cx) := by rw [Nat.mul_comm]; exact e1
   have e2' : wr.cell? ⟨p, off + k * 4 + 2, none⟩ = some (.bool tx) := by rw [Nat.mul_comm]; exact e2
   have e3' : wr.cell? ⟨p, off + k * 4 + 3, none⟩ = some (.slice Bx mx dx) := by rw [Nat.mul_comm]; exact e3
   have HT := Lib.hid (show zeroB (qs.take (k + 1)) = (zeroB (qs.take k) && decide (qs[k] = 0)) by unfold zeroB; rw [List.take_succ_eq_append_getElem hj, List.all_append]; simp)
   have HM := Lib.hid (fun hf : qs[k] ≠ 0 => show zeroB qs = false by
    unfold zeroB;rw [List.all_eq_false];exact ⟨qs[k], List.getElem_mem hj, by simpa using hf⟩)
   generalize qs[k] = r at hx HT HM;have hz0 : nx = 0 ↔ r = 0 := hx.num.zero.trans Rat.num_eq_zero;clear e0 e1 e2 e3
   by_cases hq : r = 0
   ·have hx0 := hz0.2 hq
    have HQ := Lib.hid hq;clear hq hz0;subst hx0
    go_wp2_with fail
    go_roundw
    case rel => exact ⟨k + 1, by omega, by go_num, ext, by rw [HT.out, HA.out, decide_eq_true HQ.out]; rfl⟩
    case measure => simp [intOf]; omega
   ·have hx0 : 0 < nx := by
     rcases Nat.eq_zero_or_pos nx with h0 | h0
     ·exact absurd (hz0.1 h0) hq
     ·exact h0
    have hxi : (0 : Int) < (nx : Int) := by omega
    have HQ := Lib.hid hq;clear hq hz0
    go_wp2_with fail
    go_ret
    exact ⟨by rw [HM.out HQ.out]; rfl, ext⟩
  ·have hI : (n : Int) <= (k : Int) := by omega
   go_wp2_with fail
   go_ret
   refine ⟨?_, ext⟩;have ha := HA.out;rw [List.take_of_length_le (by rw [Hlen.out]; omega)] at ha;rw [ha]; rfl
end
section
variable {w w' : World} {q x : Rat} {L M : Nat} {s t : Bool} {A B : Option Addr} {n c m d : Nat} {sx tx : Bool} {Ax Bx : Option Addr} {nx cx mx dx : Nat} {qs ps : List Rat} {rs : List RawR} {ts us : List (List RawR)}
variable {sy ty : Bool} {Ay By : Option Addr} {ny cy my dy : Nat}
set_option maxRecDepth 100000 in
theorem q_AddT4 {T D : Option Addr} {nt ct e9 : Nat} {ps : List Rat} (h : Pol w A n c qs L) (h' : Pol w D n e9 ps M) (hL : L <= 1000) (hM : M <= 1000) (hn : n <= 100) : Calls Tryz.prog 43 #[.slice T nt ct, .slice A n c, .slice D n e9] w (fun e w' => ∃ A' c', e = .returned (.slice A' n c') /\ Row4 w' w.heap.size (.slice A' n c') (List.zipWith (fun x y : Rat => x + y) qs ps) (L + M + 1) /\ Ext w w') := by
 have HL := Lib.hid h.len;have HL' := Lib.hid h'.len
 go_enter Tryz.func43, Tryz.ntmps43
 go_wp2_with fail
 go_loopw [7, 8] (fun v i wr => ∃ k : Nat, k <= n /\ i = .int .i64 (k : Int) /\ Ext w wr /\ Row4 wr w.heap.size v (List.zipWith (fun x y : Rat => x + y) (qs.take k) (ps.take k)) (L + M + 1)) (fun _ i _ => n - (intOf i).toNat)
 case atStart => exact ⟨0, Nat.zero_le _, rfl, Ext.refl w, by rw [List.take_zero, List.take_zero]; exact Row4.nil _ _ _⟩
 case round =>
  obtain ⟨k, hk, rfl, extr, hrow⟩ := hrel
  rename_i v _
  by_cases hlt : k < n
  ·have hkI : (k : Int) < (n : Int) := by omega
   have hj : k < qs.length := by rw [HL.out]; exact hlt
   have hj' : k < ps.length := by rw [HL'.out]; exact hlt
   obtain ⟨p, off, rfl, hr⟩ := h.at_ (fun e => by rw [e] at hj; exact absurd hj (Nat.not_lt_zero _));obtain ⟨p', off', rfl, hr'⟩ := h'.at_ (fun e => by rw [e] at hj'; exact absurd hj' (Nat.not_lt_zero _));obtain ⟨sx, Ax, nx, cx, tx, Bx, mx, dx, e0, e1, e2, e3, hx⟩ := (hr.ext extr).at_ k hj;have e0' : wr.cell? ⟨p, off + k * 4, none⟩ = some (.bool sx) := by rw [Nat.mul_comm]; exact e0
   have e1' : wr.cell? ⟨p, off + k * 4 + 1, none⟩ = some (.slice Ax nx cx) := by rw [Nat.mul_comm]; exact e1
   have e2' : wr.cell? ⟨p, off + k * 4 + 2, none⟩ = some (.bool tx) := by rw [Nat.mul_comm]; exact e2
   have e3' : wr.cell? ⟨p, off + k * 4 + 3, none⟩ = some (.slice Bx mx dx) := by rw [Nat.mul_comm]; exact e3
   obtain ⟨sy, Ay, ny, cy, ty, By, my, dy, i0, i1, i2, i3, hy⟩ := (hr'.ext extr).at_ k hj';have i0' : wr.cell? ⟨p', off' + k * 4, none⟩ = some (.bool sy) := by rw [Nat.mul_comm]; exact i0
   have i1' : wr.cell? ⟨p', off' + k * 4 + 1, none⟩ = some (.slice Ay ny cy) := by rw [Nat.mul_comm]; exact i1
   have i2' : wr.cell? ⟨p', off' + k * 4 + 2, none⟩ = some (.bool ty) := by rw [Nat.mul_comm]; exact i2
   have i3' : wr.cell? ⟨p', off' + k * 4 + 3, none⟩ = some (.slice By my dy) := by rw [Nat.mul_comm]; exact i3
   have HT := Lib.hid (show List.zipWith (fun x y : Rat => x + y) (qs.take (k + 1)) (ps.take (k + 1)) = List.zipWith (fun x y : Rat => x + y) (qs.take k) (ps.take k) ++ [qs[k] + ps[k]] by
    rw [List.take_succ_eq_append_getElem hj, List.take_succ_eq_append_getElem hj', List.zipWith_append (by rw [List.length_take, List.length_take]; omega)]; rfl)
   have hlen : (List.zipWith (fun x y : Rat => x + y) (qs.take k) (ps.take k)).length <= 1000 := by rw [List.length_zipWith, List.length_take, List.length_take]; omega
   generalize qs[k] = r at hx HT;generalize ps[k] = r' at hy HT;clear e0 e1 e2 e3 i0 i1 i2 i3
   go_upto_region 5 with (fail)
   refine wpL.st 11 (fun hQ ES => ?_);refine wpL.uB [11] 0 15 hQ ES ?_
   try simp only [zP]
   refine wpL.uB [3,4,9,10,11] 1 16 hQ ES ?_
   try simp only [zP]
   refine wpL.uB [3,4,9,10,11] 2 17 hQ ES ?_
   try simp only [zP]
   refine wpL.uB [4,9,10,11] 3 18 hQ ES ?_
   try simp only [zP]
   refine wpL.tB [9,10,11] 4 19 ?v_4 hQ ?y_4 ES ?_
   case y_4 => intro w' hSw;have q0_ := hSw.cellv e0';have q1_ := hSw.cellv e1';have q2_ := hSw.cellv e2';have q3_ := hSw.cellv e3';have q4_ := hSw.cellv i0';have q5_ := hSw.cellv i1';have q6_ := hSw.cellv i2';have q7_ := hSw.cellv i3';go_simp;try rfl
   try simp only [zP]
   refine wpL.uB [7,8,9,10,11] 5 20 hQ ES ?_
   try simp only [zP]
   refine wpL.uB [7,8,9,10,11] 6 21 hQ ES ?_
   try simp only [zP]
   refine wpL.uB [8,9,10,11] 7 22 hQ ES ?_
   try simp only [zP]
   refine wpL.tB [9,10,11] 8 23 ?v_8 hQ ?y_8 ES ?_
   case y_8 => intro w' hSw;have q0_ := hSw.cellv e0';have q1_ := hSw.cellv e1';have q2_ := hSw.cellv e2';have q3_ := hSw.cellv e3';have q4_ := hSw.cellv i0';have q5_ := hSw.cellv i1';have q6_ := hSw.cellv i2';have q7_ := hSw.cellv i3';go_simp;try rfl
   try simp only [zP]
   refine wpL.cl (i := 9) rfl (fun K hK => ?_);go_simp
   (go_at_call 84; refine (q_AddR (hx.ext ES) (hy.ext ES) hL hM).mono ?_; rintro e wa ⟨s7, A7, n7, c7, t7, B7, m7, d7, rfl, h7, hx0⟩; have E4 := Ext.trans ES hx0)
   refine hK.out _ _ E4 ?_;clear hK K
   try simp only [zP]
   refine wpL.cl (i := 10) rfl (fun K hK => ?_);go_simp;obtain ⟨wb, hwb, exb, bb, hzb⟩ := box1 wa 30 #[.bool s7, .slice A7 n7 c7, .bool t7, .slice B7 m7 d7];rw [<- hwb];have E5 := E4.trans exb;refine hK.out _ _ E5 ?_;clear hK K hwb hzb
   try simp only [zP]
   refine wpL.tl (i := 11) rfl (fun K hK => ?_);refine step_append_rat rfl _ _ rfl rfl rfl (hrow.ext E5) (h7.ext exb) bb hlen (extr.trans E5).size ?_;intro v6 w6 q1 q2 _;refine hK.out _ _ ?_
   try simp only [List.getElem_toArray, List.getElem_cons_succ, List.getElem_cons_zero]
   clear hK K
   try simp only [zP]
   refine wpL.tl (i := 12) rfl (fun K hK => ?_);go_simp;refine hK.out _ _ ?_;clear hK K
   try simp only [zP]
   refine wpL.done (by kernel_rfl) ?_ _;clear hQ;have hg := Below.grown (extr.trans E5) q2 (extr.trans E5).size (fun k hk => ((hrow.ext E5).block k hk).1)
   go_wp2_with fail
   go_roundw
   case rel => exact ⟨k + 1, by omega, by go_num, hg, by rw [HT.out]; exact q1⟩
   case measure => simp [intOf]; omega
  ·have hkn : k = n := by omega
   subst hkn;rw [List.take_of_length_le (Nat.le_of_eq HL.out), List.take_of_length_le (Nat.le_of_eq HL'.out)] at hrow;obtain ⟨A9, n9, c9, rfl, hp⟩ := hrow.polT;obtain rfl : k = n9 := by rw [<- hp.len, List.length_zipWith, HL.out, HL'.out, Nat.min_self]
   have hI : (k : Int) <= (k : Int) := Int.le_refl _
   go_wp2_with fail
   go_ret
   exact ⟨A9, c9, rfl, hrow, extr⟩
end
theorem NI.le_pow {w : World} {z : Int} {L : Nat} {s : Bool} {A : Option Addr} {n c : Nat} (h : NI w z L s A n c) : z.natAbs <= 4294967296 ^ L := by
 obtain ⟨xs, h1, h2, h3, h4, h5, h6⟩ := h.out;rw [<- h5.abs];exact Nat.le_trans (Nat.le_of_lt (val_lt h5.w32)) (Nat.pow_le_pow_right (by omega) (by omega))
section
variable {w : World} {L n : Nat}
def lenS : Value -> Nat
 | .slice _ n _ => n
 | _ => 0
set_option maxRecDepth 100000 in
theorem q_FromRatO {q : Rat} {T : Option Addr} {ct : Nat} {sx tx : Bool} {Ax Bx : Option Addr} {nx cx mx dx : Nat} (hk : NR w q L sx Ax nx cx tx Bx mx dx) (hL : 2 <= L) (hn : n <= 6) : Calls Tryz.prog 20 #[.slice T n ct, .agg #[.bool sx, .slice Ax nx cx, .bool tx, .slice Bx mx dx]] w (fun e w' => ∃ A n' c, e = .returned (.slice A n' c) /\ Row4 w' w.heap.size (.slice A n' c) (q :: List.replicate (2 ^ n - 1) 0) L /\ Ext w w') := by
 obtain ⟨P, hP⟩ : ∃ P, P = 2 ^ n := ⟨_, rfl⟩;have hP1 : P <= 64 := by rw [hP]; exact Nat.le_trans (Nat.pow_le_pow_right (by omega) hn) (by decide)
 have hP0 : 0 < P := by rw [hP]; exact Nat.pow_pos (by omega)
 have hW2 : wrap64 ((2 : Int) ^ n) = (P : Int) := by
  rw [hP];have e1 : ((2 : Int) ^ n) = ((2 ^ n : Nat) : Int) := by push_cast; rfl
  rw [e1];unfold wrap64;omega
 have HP := Lib.hid hP;clear hP
 go_enter Tryz.func20, Tryz.ntmps20
 go_upto_region 1 with (fail)
 obtain ⟨W, hW, extW, bx, hz⟩ := box1 w 30 #[.bool sx, .slice Ax nx cx, .bool tx, .slice Bx mx dx];rw [<- hW];clear hW;have x0 := bx.cell 0 (.bool sx) rfl;have x1 := bx.cell 1 (.slice Ax nx cx) rfl;have x2 := bx.cell 2 (.bool tx) rfl;have x3 := bx.cell 3 (.slice Bx mx dx) rfl
 have hR0 : Row4 (W.alloc (.cells #[.bool sx, .slice Ax nx cx, .bool tx, .slice Bx mx dx] 30)) w.heap.size (.slice (some ⟨W.heap.size, 0, Option.none⟩) 1 1) [q] L := by
  have ha := (Ext.refl W).alloc (.cells #[.bool sx, .slice Ax nx cx, .bool tx, .slice Bx mx dx] 30);exact RRow.row4 ⟨_, Box.new W _ _, .cons ((hk.ext extW).ext ha) .nil⟩ extW.size rfl (by omega)
 have hE0 := extW.alloc (.cells #[.bool sx, .slice Ax nx cx, .bool tx, .slice Bx mx dx] 30)
 go_wp2_with fail
 go_loopw [5] (fun v wr => ∃ k : Nat, k < P /\ Ext w wr /\ lenS v = k + 1 /\ Row4 wr w.heap.size v (q :: List.replicate k 0) L) (fun v _ => P - lenS v)
 case atStart => exact ⟨0, hP0, hE0, rfl, hR0⟩
 case round =>
  clear hR0 hE0 bx x0 x1 x2 x3;obtain ⟨k, hk1, extr, hlv, hrow⟩ := hrel;obtain ⟨g5, cap5, rfl, _⟩ := hrow.shape (by simp);rw [show (q :: List.replicate k (0 : Rat)).length = k + 1 by simp] at hrow ⊢;have HLV := Lib.hid hlv;clear hlv
  by_cases hlt : k + 1 < P
  ·have hkI : ((k + 1 : Nat) : Int) < (P : Int) := by omega
   have hkJ : (k : Int) + 1 < (P : Int) := by omega
   go_wp2_with fail
   refine (q_FromIntR 0 (by omega) (by omega)).mono ?_;rintro e W5 ⟨s7, A7, n7, c7, t7, B7, m7, d7, rfl, h7, ext5⟩;have ha5 := (ext5).alloc (.cells #[.bool s7, .slice A7 n7 c7, .bool t7, .slice B7 m7 d7] 30);replace extr := extr.trans ha5;replace hrow := hrow.ext ha5;replace h7 := (h7.ext ((Ext.refl W5).alloc (.cells #[.bool s7, .slice A7 n7 c7, .bool t7, .slice B7 m7 d7] 30))).le hL;clear ext5 ha5;have hlen : (q :: List.replicate k (0 : Rat)).length <= 1000 := by simp; omega
   go_wp2_with (at_builtin; refine wpList_append_rat rfl _ _ rfl rfl rfl hrow h7 (Box.new W5 _ _) hlen extr.size ?_; intro v6 W6 hrow6 hgr hob)
   have hl6 : (q :: List.replicate k (0 : Rat)) ++ [((0 : Int) : Rat)] = q :: List.replicate (k + 1) 0 := by
    rw [List.replicate_succ']
    rfl
   rw [hl6] at hrow6;obtain ⟨g6, cap6, e6, _⟩ := hrow6.shape (by simp);have hl7 : lenS v6 = k + 1 + 1 := by rw [e6]; simp [lenS]
   go_roundw
   case rel => exact ⟨k + 1, hlt, Below.grown extr hgr extr.size (fun k hk => (hrow.block k hk).1), hl7, hrow6⟩
   case measure => simp [lenS] at *; omega
  ·have hkI : (P : Int) <= ((k + 1 : Nat) : Int) := by omega
   have hkJ : (P : Int) <= (k : Int) + 1 := by omega
   have hkP : k = P - 1 := by omega
   go_wp2_with fail
   go_ret
   rw [<- HP.out, <- hkP];exact ⟨_, _, _, rfl, hrow, extr⟩
theorem q_FromRatT {q : Rat} {T : Option Addr} {ct : Nat} {sx tx : Bool} {Ax Bx : Option Addr} {nx cx mx dx : Nat} (hk : NR w q L sx Ax nx cx tx Bx mx dx) (hL : 2 <= L) (hn : n <= 6) : Calls Tryz.prog 20 #[.slice T n ct, .agg #[.bool sx, .slice Ax nx cx, .bool tx, .slice Bx mx dx]] w (RetPol (q :: List.replicate (2 ^ n - 1) 0) L w) := by
 refine (q_FromRatO hk hL hn).mono ?_;rintro e w' ⟨A, n', c, rfl, h1, h2⟩;obtain ⟨A9, n9, c9, e9, hp⟩ := h1.polT
 injection e9 with e1 e2 e3
 subst e1 e2 e3;exact ⟨_, _, _, rfl, hp, h2⟩
end
end
section
open Go.RowKit
section
variable {K : Type} [Add K] [Mul K] [Neg K] [OfNat K 0] [OfNat K 1] [RingK K]
theorem El.psi_neg (D : Nat -> K) : (h : Nat) -> (a : El K h) -> El.psi D h (El.neg h a) = El.neg h (El.psi D h a)
 | 0, _ => rfl
 | h + 1, a => by
  have e : ∀ (j : Nat) (k : K) (x : El K j), El.smul j k (El.neg j x) = El.neg j (El.smul j k x) := by
   intro j
   induction j with
   | zero => intro k x; exact RingK.mul_neg (K := K) k x
   | succ j ih => intro k x; exact El.ext (ih k x.1) (ih k x.2)
  simp only [El.psi, El.neg, El.psi_neg D h, e];exact El.ext rfl rfl
end
theorem castL_neg (a : List Int) : castL (negL a) = negL (castL a) := by
 unfold castL negL;rw [List.map_map, List.map_map];exact List.map_congr_left fun x _ => Rat.intCast_neg x
end
section
open Go.RowKit
attribute [local go_sem ↓] Go.wp_at_zero Go.wp_at_succ
section
variable {w w' : World} {base L : Nat} {v : Value} {qs ps : List Rat} {A : Option Addr} {n c : Nat}
theorem run_append_row {ty : TypeId} (h : Row4 w base v qs L) (hp : Pol w A n c ps L) (h0 : 0 < n) (hl : qs.length <= 1000) (hn : n <= 1000) (hbase : base <= w.heap.size) :
  ∃ v' w', (Builtin.append_ #[23, 23] ty #[v, .slice A n c]).run Tryz.prog w = .ok v' w' /\ Row4 w' base v' (qs ++ ps) L /\ w.grownBy w' v.ownBlock /\ (v'.ownBlock = v.ownBlock \/ v'.ownBlock = some w.heap.size) := by
 obtain ⟨i0, hi, hz0, hz1, hz2⟩ := info_partsB Tryz.infoR;obtain ⟨cs, h1, h2⟩ := h.own;have hne : ps ≠ [] := fun e => by have := hp.len; rw [e] at this; simp at this; omega
 obtain ⟨b, off, rfl, hrat⟩ := hp.at_ hne;obtain ⟨ds, k1, k2⟩ := hrat.list;have hdl : ds.length = n * 4 := by rw [k1.len, hp.len]
 rw [<- hz1] at h1
 obtain ⟨v', w', hr, j1, j2, j3, j4⟩ := run_append_nw (P := Tryz.prog) (ty := ty) (c := c) Tryz.underlying23 hi hz0 hz2 (by rw [hz1]; rfl) (by omega) (by
  intro u hu k e;simp [Value.cells] at hu
  rcases hu with rfl | rfl | rfl | rfl <;> cases e) h1 h.nwb (m := n) (by rw [hz1]; exact hdl) (fun j u hj => k2 j u hj) k1.one k1.nwl h0 (by unfold maxLen; omega) (by omega) hbase
 rw [hz1] at j1;refine ⟨v', w', hr, ⟨⟨cs ++ ds, ?_, (h2.own h.nwb j2).append (k1.own h.nwb j2)⟩, j4⟩, j2, j3⟩;rw [List.length_append, hp.len];exact j1
theorem run_append_row0 {ty : TypeId} (h : Row4 w base v qs L) :
  (Builtin.append_ #[23, 23] ty #[v, .slice A 0 c]).run Tryz.prog w = .ok v w := by
 have hq := Tryz.infoRat
 cases hi : Tryz.prog.info? 30 with
 | none => rw [hi] at hq; cases hq
 | some i =>
 rw [hi] at hq;simp only [Option.map_some, Option.some.injEq, Prod.mk.injEq] at hq;obtain ⟨cs, h1, h2⟩ := h.own
 rcases h1.2 with ⟨rfl, h0⟩ | ⟨g, cap, cur, rfl, hbg, hg, hnc, hcm, hcs, htake⟩
 ·cases A with
  | none => simp [Builtin.append_, run_underlying Tryz.underlying23, sizeOf, typeInfo, hi, Builtin.lenOf, Builtin.firstCells]
  | some ad => simp [Builtin.append_, run_underlying Tryz.underlying23, sizeOf, typeInfo, hi, Builtin.lenOf, Builtin.firstCells, loadCells, loadCellsFrom]
 ·cases A with
  | none => simp [Builtin.append_, run_underlying Tryz.underlying23, sizeOf, typeInfo, hi, Builtin.lenOf, Builtin.firstCells, storeCells, hnc]
  | some ad => simp [Builtin.append_, run_underlying Tryz.underlying23, sizeOf, typeInfo, hi, Builtin.lenOf, Builtin.firstCells, loadCells, loadCellsFrom, storeCells, hnc]
theorem wpList_append_row {w0 : World} {ops : Array Oper} {rest : List Oper} {o : Oper} {a : Act} {Q : Exit -> Act -> World -> Prop} (hgd : o.guard = none) (x y : Operand)
  (ho : o.op = .call { callee := .builtin .append, args := #[x, y], argTypes := #[23, 23] })
  (hx : a.eval x = v) (hy : a.eval y = .slice A n c)
  (h : Row4 w base v qs L) (hp : Pol w A n c ps L) (hl : qs.length <= 1000) (hn : n <= 1000) (hbase : base <= w.heap.size) (he : Ext w0 w) (hb0 : w0.heap.size <= base)
  (hK : ∀ v' w', Row4 w' base v' (qs ++ ps) L -> Ext w0 w' -> wpList Tryz.prog ops Q rest (a.put o.dst v') w') :
  wpList Tryz.prog ops Q (o :: rest) a w := by
 refine wpList_plain hgd fun K hKK => ?_
 have key : ∃ v' w', (Builtin.append_ #[23, 23] o.type #[v, .slice A n c]).run Tryz.prog w = .ok v' w' /\ Row4 w' base v' (qs ++ ps) L /\ Ext w0 w' := by
  rcases Nat.eq_zero_or_pos n with h0 | h0
  ·subst h0
   have hps : ps = [] := List.eq_nil_of_length_eq_zero hp.len;subst hps;exact ⟨v, w, run_append_row0 h, by rw [List.append_nil]; exact h, he⟩
  ·obtain ⟨v', w', hr, h2, h3, _⟩ := run_append_row (ty := o.type) h hp h0 hl hn hbase
   exact ⟨v', w', hr, h2, Below.grown he h3 he.size (fun k hk => Nat.le_trans hb0 (h.block k hk).1)⟩
 obtain ⟨v', w', hr, h2, h3⟩ := key;unfold Oper.wp execOp;simp only [ho, resolve, invoke, builtin, Sem.run_bind, Sem.run_pure, Result.andThen_ok, List.map_toArray, List.map_cons, List.map_nil, hx, hy, hr];exact hKK _ _ (hK v' w' h2 h3)
end
end
section
open Go.RowKit
def InM (M X : Nat) (q : Rat) : Prop := ∃ z : Int, q = mkRat z M /\ z.natAbs <= X
theorem InM.zero {M X : Nat} : InM M X 0 := ⟨0, (Rat.zero_mkRat M).symm, Nat.zero_le _⟩
theorem nat_ne {M : Nat} (h : 0 < M) : ((M : Nat) : Rat) ≠ 0 := by
 have := int_ne (z := ((M : Nat) : Int)) (by omega)
 rwa [Rat.intCast_natCast] at this
theorem InM.mul {M X M' X' : Nat} {p q : Rat} (h : InM M X p) (k : InM M' X' q) : InM (M * M') (X * X') (p * q) := by
 obtain ⟨z, rfl, h2⟩ := h;obtain ⟨y, rfl, k2⟩ := k;refine ⟨z * y, Rat.mkRat_mul_mkRat _ _ _ _, ?_⟩;rw [Int.natAbs_mul];exact Nat.mul_le_mul h2 k2
theorem InM.add {M X X' : Nat} {p q : Rat} (hM : 0 < M) (h : InM M X p) (k : InM M X' q) : InM M (X + X') (p + q) := by
 obtain ⟨z, rfl, h2⟩ := h;obtain ⟨y, rfl, k2⟩ := k;refine ⟨z + y, ?_, Nat.le_trans (Int.natAbs_add_le _ _) (Nat.add_le_add h2 k2)⟩;have := nat_ne hM;rw [Rat.mkRat_eq_div, Rat.mkRat_eq_div, Rat.mkRat_eq_div, Rat.intCast_add]
 grind
theorem InM.scale {M X : Nat} {q : Rat} (hM : 0 < M) (k : Nat) (hk : 0 < k) (h : InM M X q) : InM (M * k) (X * k) q := by
 obtain ⟨z, rfl, h2⟩ := h;refine ⟨z * (k : Int), ?_, by rw [Int.natAbs_mul, Int.natAbs_natCast]; exact Nat.mul_le_mul_right _ h2⟩;have h3 := nat_ne hM;have h4 := nat_ne hk;rw [Rat.mkRat_eq_div, Rat.mkRat_eq_div, Rat.intCast_mul, Rat.natCast_mul, Rat.intCast_natCast]
 grind
theorem InM.le {M X X' : Nat} {q : Rat} (h : InM M X q) (hx : X <= X') : InM M X' q := by
 obtain ⟨z, h1, h2⟩ := h;exact ⟨z, h1, Nat.le_trans h2 hx⟩
theorem InM.size {M X : Nat} {q : Rat} (hM : 0 < M) (h : InM M X q) : q.num.natAbs <= X /\ q.den <= M := by
 obtain ⟨z, rfl, h2⟩ := h;obtain ⟨h3, h4⟩ := mkRat_sizes z M (by omega);exact ⟨Nat.le_trans h4 h2, Nat.le_of_dvd hM h3⟩
def AllM (M X : Nat) (qs : List Rat) : Prop := ∀ q ∈ qs, InM M X q
theorem AllM.take {M X : Nat} {qs : List Rat} (h : AllM M X qs) (n : Nat) : AllM M X (qs.take n) := fun q hq => h q (List.mem_of_mem_take hq)
theorem AllM.drop {M X : Nat} {qs : List Rat} (h : AllM M X qs) (n : Nat) : AllM M X (qs.drop n) := fun q hq => h q (List.mem_of_mem_drop hq)
theorem AllM.append {M X : Nat} {qs ps : List Rat} (h : AllM M X qs) (k : AllM M X ps) : AllM M X (qs ++ ps) := fun q hq => (List.mem_append.1 hq).elim (h q) (k q)
theorem AllM.headD {M X : Nat} {qs : List Rat} (h : AllM M X qs) : InM M X (qs.headD 0) := by
 cases qs with
 | nil => exact InM.zero
 | cons q qs => exact h q List.mem_cons_self
theorem AllM.add {M X X' : Nat} (hM : 0 < M) : ∀ {a b : List Rat}, AllM M X a -> AllM M X' b -> AllM M (X + X') (addL a b)
 | [], _, _, _ => fun q hq => by cases hq
 | _ :: _, [], _, _ => fun q hq => by cases hq
 | p :: a, q :: b, ha, hb => by
  intro x hx
  rcases List.mem_cons.1 hx with rfl | hx
  ·exact InM.add hM (ha p List.mem_cons_self) (hb q List.mem_cons_self)
  ·exact AllM.add hM (a := a) (b := b) (fun y hy => ha y (List.mem_cons_of_mem _ hy)) (fun y hy => hb y (List.mem_cons_of_mem _ hy)) x hx
def prQ (Mr : Nat -> Nat) : Nat -> Nat
 | 0 => 1
 | h + 1 => prQ Mr h * (Mr h * prQ Mr h)
def prY (Mr Xr : Nat -> Nat) : Nat -> Nat
 | 0 => 1
 | h + 1 => prY Mr Xr h * (Mr h * prQ Mr h) + prY Mr Xr h * (Mr h * prQ Mr h) + prY Mr Xr h * (Xr h * prY Mr Xr h)
theorem prQ_pos {Mr : Nat -> Nat} (hM : ∀ i, 0 < Mr i) : ∀ h, 0 < prQ Mr h
 | 0 => Nat.one_pos
 | h + 1 => Nat.mul_pos (prQ_pos hM h) (Nat.mul_pos (hM h) (prQ_pos hM h))
theorem mulL_in {R : Nat -> List Rat} {Mr Xr : Nat -> Nat} (hM : ∀ i, 0 < Mr i) (hR : ∀ i, AllM (Mr i) (Xr i) (R i)) : ∀ (h : Nat) {a b : List Rat} {Ma Xa Mb Xb : Nat}, 0 < Ma -> 0 < Mb -> AllM Ma Xa a -> AllM Mb Xb b -> AllM (Ma * Mb * prQ Mr h) (Xa * Xb * prY Mr Xr h) (mulL R h a b)
 | 0, a, b, Ma, Xa, Mb, Xb, _, _, ha, hb => by
  intro q hq;rw [mulL, List.mem_singleton] at hq;rw [hq, prQ, prY, Nat.mul_one, Nat.mul_one];exact ha.headD.mul hb.headD
 | h + 1, a, b, Ma, Xa, Mb, Xb, pa, pb, ha, hb => by
  have hq := prQ_pos hM h;have hk : 0 < Mr h * prQ Mr h := Nat.mul_pos (hM h) hq;have pm : 0 < Ma * Mb * prQ Mr h := Nat.mul_pos (Nat.mul_pos pa pb) hq;have i0 := mulL_in hM hR h pa pb (ha.take (2 ^ h)) (hb.take (2 ^ h));have i1 := mulL_in hM hR h pa pb (ha.drop (2 ^ h)) (hb.drop (2 ^ h));have i2 := mulL_in hM hR h pm (hM h) i1 (hR h);have i3 := mulL_in hM hR h pa pb (ha.take (2 ^ h)) (hb.drop (2 ^ h));have i4 := mulL_in hM hR h pa pb (ha.drop (2 ^ h)) (hb.take (2 ^ h));have eM : Ma * Mb * prQ Mr (h + 1) = Ma * Mb * prQ Mr h * (Mr h * prQ Mr h) := by rw [prQ]; simp only [Nat.mul_assoc]
  have e2 : Ma * Mb * prQ Mr h * Mr h * prQ Mr h = Ma * Mb * prQ Mr h * (Mr h * prQ Mr h) := by rw [Nat.mul_assoc]
  have eX : Xa * Xb * prY Mr Xr (h + 1) = Xa * Xb * prY Mr Xr h * (Mr h * prQ Mr h) + Xa * Xb * prY Mr Xr h * (Mr h * prQ Mr h) + Xa * Xb * prY Mr Xr h * Xr h * prY Mr Xr h := by
   rw [prY];simp only [Nat.mul_add, Nat.mul_assoc]
  rw [e2] at i2;rw [eM, eX, mulL];have sc : ∀ {c : List Rat} {X : Nat}, AllM (Ma * Mb * prQ Mr h) X c -> AllM (Ma * Mb * prQ Mr h * (Mr h * prQ Mr h)) (X * (Mr h * prQ Mr h)) c := fun hc q hq => (hc q hq).scale pm _ hk
  have p2 := Nat.mul_pos pm hk;refine AllM.append (fun q hq => ((AllM.add p2 (sc i0) i2) q hq).le ?_) (fun q hq => ((AllM.add p2 (sc i3) (sc i4)) q hq).le ?_)
  ·generalize Xa * Xb * prY Mr Xr h * (Mr h * prQ Mr h) = u
   generalize Xa * Xb * prY Mr Xr h * Xr h * prY Mr Xr h = v;omega
  ·generalize Xa * Xb * prY Mr Xr h * (Mr h * prQ Mr h) = u
   generalize Xa * Xb * prY Mr Xr h * Xr h * prY Mr Xr h = v;omega
theorem addL_zero_right {n : Nat} {c : List Rat} (hc : c.length = n) : addL c (List.replicate n 0) = c := by
 refine List.ext_getElem (by rw [addL_len hc List.length_replicate, hc]) fun i h1 h2 => ?_
 simp [addL, Rat.add_zero]
theorem addL_zero_left {n : Nat} {c : List Rat} (hc : c.length = n) : addL (List.replicate n 0) c = c := by
 refine List.ext_getElem (by rw [addL_len List.length_replicate hc, hc]) fun i h1 h2 => ?_
 simp [addL, Rat.zero_add]
theorem zero_half {l : List Rat} {h : Nat} (hl : l.length = 2 ^ (h + 1)) (hz : zeroB (l.drop (2 ^ h)) = true) : l.drop (2 ^ h) = List.replicate (2 ^ h) 0 := by
 have := zeroB_repl hz
 rwa [drop_len hl] at this
theorem mulL_zA {R : Nat -> List Rat} (hR : ∀ i, (R i).length = 2 ^ i) {h : Nat} {a b : List Rat} (ha : a.length = 2 ^ (h + 1)) (hb : b.length = 2 ^ (h + 1)) (hz : zeroB (a.drop (2 ^ h)) = true) :
  mulL R (h + 1) a b = mulL R h (a.take (2 ^ h)) (b.take (2 ^ h)) ++ mulL R h (a.take (2 ^ h)) (b.drop (2 ^ h)) := by
 rw [mulL, zero_half ha hz, mulL_zero_left hR (drop_len hb), mulL_zero_left hR (hR h), mulL_zero_left hR (take_len hb), addL_zero_right mulL_len, addL_zero_right mulL_len]
theorem mulL_zB {R : Nat -> List Rat} (hR : ∀ i, (R i).length = 2 ^ i) {h : Nat} {a b : List Rat} (ha : a.length = 2 ^ (h + 1)) (hb : b.length = 2 ^ (h + 1)) (hz : zeroB (b.drop (2 ^ h)) = true) :
  mulL R (h + 1) a b = mulL R h (a.take (2 ^ h)) (b.take (2 ^ h)) ++ mulL R h (a.drop (2 ^ h)) (b.take (2 ^ h)) := by
 rw [mulL, zero_half hb hz, mulL_zero_right hR (drop_len ha), mulL_zero_left hR (hR h), mulL_zero_right hR (take_len ha), addL_zero_right mulL_len, addL_zero_left mulL_len]
theorem mulL_zAB {R : Nat -> List Rat} (hR : ∀ i, (R i).length = 2 ^ i) {h : Nat} {a b : List Rat} (ha : a.length = 2 ^ (h + 1)) (hb : b.length = 2 ^ (h + 1)) (hz : zeroB (a.drop (2 ^ h)) = true) (hy : zeroB (b.drop (2 ^ h)) = true) :
  mulL R (h + 1) a b = mulL R h (a.take (2 ^ h)) (b.take (2 ^ h)) ++ List.replicate (2 ^ h) 0 := by
 rw [mulL_zA hR ha hb hz, zero_half hb hy, mulL_zero_right hR (take_len ha)]
theorem prod_sz {Mr Xr : Nat -> Nat} (hM : ∀ i, 0 < Mr i) {h Ma Xa Mb Xb Z : Nat} (hq : Ma * Mb * prQ Mr (h + 1) < Z) (hy : Xa * Xb * prY Mr Xr (h + 1) < Z) :
  Ma * Mb * prQ Mr h < Z /\ Xa * Xb * prY Mr Xr h < Z /\ (Ma * Mb * prQ Mr h) * Mr h * prQ Mr h < Z /\ (Xa * Xb * prY Mr Xr h) * Xr h * prY Mr Xr h < Z := by
 have h1 := prQ_pos hM h;have h2 : 0 < Mr h * prQ Mr h := Nat.mul_pos (hM h) h1;rw [prQ] at hq;rw [prY] at hy;have e1 : Ma * Mb * (prQ Mr h * (Mr h * prQ Mr h)) = (Ma * Mb * prQ Mr h) * (Mr h * prQ Mr h) := by simp only [Nat.mul_assoc]
 have e2 : (Ma * Mb * prQ Mr h) * Mr h * prQ Mr h = (Ma * Mb * prQ Mr h) * (Mr h * prQ Mr h) := by simp only [Nat.mul_assoc]
 have e3 : Xa * Xb * (prY Mr Xr h * (Mr h * prQ Mr h) + prY Mr Xr h * (Mr h * prQ Mr h) + prY Mr Xr h * (Xr h * prY Mr Xr h)) = (Xa * Xb * prY Mr Xr h) * (Mr h * prQ Mr h) + (Xa * Xb * prY Mr Xr h) * (Mr h * prQ Mr h) + (Xa * Xb * prY Mr Xr h) * Xr h * prY Mr Xr h := by
  simp only [Nat.mul_add, Nat.mul_assoc]
 rw [e1] at hq;rw [e3] at hy;rw [e2];have h3 := Nat.le_mul_of_pos_right (Ma * Mb * prQ Mr h) h2;have h4 := Nat.le_mul_of_pos_right (Xa * Xb * prY Mr Xr h) h2;refine ⟨Nat.lt_of_le_of_lt h3 hq, ?_, hq, ?_⟩
 ·omega
 ·omega
section
variable {w : World} {base L : Nat} {v : Value} {qs ps : List Rat} {A : Option Addr} {n c : Nat}
theorem Row4.mono {base2 : Nat} (h : Row4 w base v qs L) (hb : base2 <= base) : Row4 w base2 v qs L := by
 obtain ⟨cs, h1, h2⟩ := h.own;refine ⟨⟨cs, ⟨h1.1, ?_⟩, h2⟩, h.nwb⟩
 rcases h1.2 with q | ⟨g, cap, cur, q1, q2, q3⟩
 ·exact Or.inl q
 ·exact Or.inr ⟨g, cap, cur, q1, Nat.le_trans hb q2, q3⟩
theorem step_append_rowR {w0 : World} {ops : Array Oper} {o : Oper} {a : Act} {K : Act -> World -> Prop} {Q : Exit -> Act -> World -> Prop} {E : Prop} (hgd : o.guard = Option.none) (x y : Operand)
  (ho : o.op = .call { callee := .builtin .append, args := #[x, y], argTypes := #[23, 23] })
  (hx : a.eval x = v) (hy : a.eval y = .slice A n c)
  (h : Row4 w base v qs L) (hp : Pol w A n c ps L) (hl : qs.length <= 1000) (hn : n <= 1000) (hbase : base <= w.heap.size) (he : Ext w0 w) (hb0 : w0.heap.size <= base)
  (hK : ∀ v' w', Row4 w' base v' (qs ++ ps) L -> Ext w0 w' -> K (a.put o.dst v') w') :
  if Region.wanted o (yielded ops a.tmps) = true then Oper.wp Tryz.prog o a w K Q else E := by
 have hw : Region.wanted o (yielded ops a.tmps) = true := by simp [Region.wanted, hgd]
 rw [if_pos hw]
 have key : ∃ v' w', (Builtin.append_ #[23, 23] o.type #[v, .slice A n c]).run Tryz.prog w = .ok v' w' /\ Row4 w' base v' (qs ++ ps) L /\ Ext w0 w' := by
  rcases Nat.eq_zero_or_pos n with h0 | h0
  ·subst h0
   have hps : ps = [] := List.eq_nil_of_length_eq_zero hp.len;subst hps;exact ⟨v, w, run_append_row0 h, by rw [List.append_nil]; exact h, he⟩
  ·obtain ⟨v', w', hr, h2, h3, _⟩ := run_append_row (ty := o.type) h hp h0 hl hn hbase
   exact ⟨v', w', hr, h2, Below.grown he h3 he.size (fun k hk => Nat.le_trans hb0 (h.block k hk).1)⟩
 obtain ⟨v', w', hr, h2, h3⟩ := key;unfold Oper.wp execOp;simp only [ho, resolve, invoke, builtin, Sem.run_bind, Sem.run_pure, Result.andThen_ok, List.map_toArray, List.map_cons, List.map_nil, hx, hy, hr];exact hK v' w' h2 h3
end
end
section
open Go.RowKit
attribute [local go_sem ↓] Go.wp_at_zero Go.wp_at_succ
section
variable {w w' : World} {q x : Rat} {L M : Nat} {s t : Bool} {A B : Option Addr} {n c m d : Nat} {sx tx : Bool} {Ax Bx : Option Addr} {nx cx mx dx : Nat} {qs ps : List Rat} {rs : List RawR} {ts us : List (List RawR)}
def rightB (ts : List (List RawR)) (a b c : List RawR) : Bool := fewB4 ts [a, b, c] && (formedB ts [a] && (formedB ts [b] && formedB ts [c]))
theorem fewB4_parts {ts : List (List RawR)} {a b c : List RawR} (h : fewB4 ts [a, b, c] = true) : ts.length <= 4 /\ (∀ l ∈ ts, l.length <= 16 /\ l.all (fun r => r.le 4) = true) /\ (a.length <= 16 /\ a.all (fun r => r.le 4) = true) /\ (b.length <= 16 /\ b.all (fun r => r.le 4) = true) /\ (c.length <= 16 /\ c.all (fun r => r.le 4) = true) := by
 unfold fewB4 fewL at h;rw [Bool.and_eq_true, decide_eq_true_eq, List.all_eq_true] at h
 have hp : ∀ l ∈ ts ++ [a, b, c], l.length <= 16 /\ l.all (fun r => r.le 4) = true := fun l hl => by
  have := h.2 l hl;rw [Bool.and_eq_true, decide_eq_true_eq] at this;exact this
 exact ⟨h.1, fun l hl => hp l (List.mem_append_left _ hl), hp a (by simp), hp b (by simp), hp c (by simp)⟩
theorem RawT.three {g : Nat} {T : TypeId} {D : Option Addr} {l e : Nat} {r1 r2 r3 : List RawR} (hb : Box w g T #[.slice A n c, .slice B m d, .slice D l e]) (h : RawP w A n c r1) (h' : RawP w B m d r2) (h'' : RawP w D l e r3) : RawT w (some ⟨g, 0, .none⟩) 3 3 [r1, r2, r3] :=
 ⟨rfl, Nat.le_refl _, by unfold maxLen; omega, fun _ => ⟨g, 0, rfl, fun i hi => by
  have hi' : i = 0 \/ i = 1 \/ i = 2 := by simp at hi; omega
  rcases hi' with rfl | rfl | rfl
  ·exact ⟨A, n, c, hb.cell 0 _ rfl, h⟩
  ·exact ⟨B, m, d, hb.cell 1 _ rfl, h'⟩
  ·exact ⟨D, l, e, hb.cell 2 _ rfl, h''⟩⟩⟩
theorem p_rightL {A1 A2 A3 : Option Addr} {n1 c1 n2 c2 n3 c3 : Nat} {r1 r2 r3 : List RawR} (h : RawT w A n c ts) (h1 : RawP w A1 n1 c1 r1) (h2 : RawP w A2 n2 c2 r2) (h3 : RawP w A3 n3 c3 r3) :
  Calls Tryz.prog 32 #[.agg #[.slice A n c, .slice A1 n1 c1, .slice A2 n2 c2, .slice A3 n3 c3]] w fun e w' => e = .returned (.bool (rightB ts r1 r2 r3)) /\ Ext w w' := by
 have hsz := World.size_alloc w (.cells #[.slice A n c, .slice A1 n1 c1, .slice A2 n2 c2, .slice A3 n3 c3] 25)
 go_enter Tryz.func32, Tryz.ntmps32
 go_upto_region 1 with (fail)
 obtain ⟨W, hW, EW, bx, hz⟩ := box1 w 25 #[.slice A n c, .slice A1 n1 c1, .slice A2 n2 c2, .slice A3 n3 c3];rw [<- hW];clear hW hz hsz;have hnb := Box.new W 23 #[.slice A1 n1 c1, .slice A2 n2 c2, .slice A3 n3 c3];have e1 := (Ext.refl W).alloc (.cells #[.slice A1 n1 c1, .slice A2 n2 c2, .slice A3 n3 c3] 23);have x0 := bx.cell 0 (.slice A n c) rfl;have x1 := bx.cell 1 (.slice A1 n1 c1) rfl;have x2 := bx.cell 2 (.slice A2 n2 c2) rfl;have x3 := bx.cell 3 (.slice A3 n3 c3) rfl
 go_wp2_with fail
 refine (q_FewT (h.ext (EW.trans e1)) (RawT.three hnb (h1.ext (EW.trans e1)) (h2.ext (EW.trans e1)) (h3.ext (EW.trans e1))) (by omega)).mono ?_;rintro e V ⟨rfl, hx⟩;clear x0 x1 x2 x3 hnb;replace EW := EW.trans (e1.trans hx);replace bx := bx.ext (e1.trans hx);clear e1 hx
 cases hf : fewB4 ts [r1, r2, r3] with
 | false =>
  have HF := Lib.hid hf;clear hf
  go_wp2_with fail
  go_ret
  exact ⟨by unfold rightB; rw [HF.out]; rfl, EW⟩
 | true =>
  obtain ⟨p0, p1, p2, p3, p4⟩ := fewB4_parts hf;have HF := Lib.hid hf;have hn4 : n <= 16 := by rw [<- h.len]; omega
  have hr : ∀ l ∈ ts, l.all (fun r => r.le 1000) = true := fun l hl => le_1000 (p1 l hl).2
  have hrl : ∀ l ∈ ts, l.length <= 100000 := fun l hl => Nat.le_trans (p1 l hl).1 (by omega)
  have q1 := le_1000 p2.2;have q2 := le_1000 p3.2;have q3 := le_1000 p4.2;have m1 : n1 <= 16 := by rw [<- h1.len]; exact p2.1
  have m2 : n2 <= 16 := by rw [<- h2.len]; exact p3.1
  have m3 : n3 <= 16 := by rw [<- h3.len]; exact p4.1
  clear hf p0 p1 p2 p3 p4;have x0 := bx.cell 0 (.slice A n c) rfl;have x1 := bx.cell 1 (.slice A1 n1 c1) rfl
  go_wp2_with fail
  refine (q_FormedT (h.ext EW) (h1.ext EW) hn4 (by omega) hr hrl q1).mono ?_;rintro e V2 ⟨rfl, hx⟩;clear x0 x1;replace EW := EW.trans hx;replace bx := bx.ext hx;clear hx
  cases hf1 : formedB ts [r1] with
  | false =>
   have H1 := Lib.hid hf1;clear hf1
   go_wp2_with fail
   go_ret
   exact ⟨by unfold rightB; rw [HF.out, H1.out]; rfl, EW⟩
  | true =>
   have H1 := Lib.hid hf1;clear hf1;have x0 := bx.cell 0 (.slice A n c) rfl;have x2 := bx.cell 2 (.slice A2 n2 c2) rfl
   go_wp2_with fail
   refine (q_FormedT (h.ext EW) (h2.ext EW) hn4 (by omega) hr hrl q2).mono ?_;rintro e V3 ⟨rfl, hx⟩;clear x0 x2;replace EW := EW.trans hx;replace bx := bx.ext hx;clear hx
   cases hf2 : formedB ts [r2] with
   | false =>
    have H2 := Lib.hid hf2;clear hf2
    go_wp2_with fail
    go_ret
    exact ⟨by unfold rightB; rw [HF.out, H1.out, H2.out]; rfl, EW⟩
   | true =>
    have H2 := Lib.hid hf2;clear hf2;have x0 := bx.cell 0 (.slice A n c) rfl;have x3 := bx.cell 3 (.slice A3 n3 c3) rfl
    go_wp2_with fail
    refine (q_FormedT (h.ext EW) (h3.ext EW) hn4 (by omega) hr hrl q3).mono ?_;rintro e V4 ⟨rfl, hx⟩
    go_wp2_with fail
    go_ret
    exact ⟨by unfold rightB; rw [HF.out, H1.out, H2.out]; rfl, EW.trans hx⟩
end
theorem Row4.pl {w : World} {base n c L : Nat} {A : Option Addr} {qs : List Rat} (h : Row4 w base (.slice A n c) qs L) : Pol w A n c qs L := by
 obtain ⟨_, _, _, e, hp⟩ := h.polT
 injection e with e1 e2 e3
 subst e1 e2 e3;exact hp
theorem Row4.tightG {w : World} {base L M : Nat} {v : Value} {qs : List Rat} (h : Row4 w base v qs L) (hb : ∀ q ∈ qs, q.num.natAbs < 4294967296 ^ M /\ q.den < 4294967296 ^ M) : Row4 w base v qs M := by
 obtain ⟨⟨cs, h1, h2⟩, hw⟩ := h;refine ⟨⟨cs, h1, ?_⟩, hw⟩;clear h1 hw
 induction h2 with
 | nil => exact .nil
 | cons hq _ ih => exact .cons (hq.tightR (hb _ List.mem_cons_self).1 (hb _ List.mem_cons_self).2) (ih (fun q hq => hb q (List.mem_cons_of_mem _ hq)))
section
variable {R : Nat -> List Rat} {Mr Xr : Nat -> Nat} {S : Nat}
set_option maxRecDepth 100000 in
theorem q_MulT (hRl : ∀ i, (R i).length = 2 ^ i) (hM : ∀ i, 0 < Mr i) (hRi : ∀ i, AllM (Mr i) (Xr i) (R i)) (hS4 : 4 <= S) (hS : S <= 1000) (h : Nat) : ∀ {w : World} {Tt A B : Option Addr} {ct n c d Ma Xa Mb Xb : Nat} {ts : List (List Rat)} {qs ps : List Rat} (_ht : TowL ts) (_hl : ts.length = h) (_hR : ∀ i, i < h -> radQ ts i = R i) (_hp : PolT w Tt h ct ts 4) (_ha : Pol w A n c qs S) (_hb : Pol w B n d ps S) (_hn : n = 2 ^ h) (_ia : 0 < Ma /\ AllM Ma Xa qs) (_ib : 0 < Mb /\ AllM Mb Xb ps) (_sz : h <= 5 /\ Ma * Mb * prQ Mr h < 4294967296 ^ S /\ Xa * Xb * prY Mr Xr h < 4294967296 ^ S),
  Calls Tryz.prog 44 #[.slice Tt h ct, .slice A n c, .slice B n d] w (fun e w' => ∃ A' c', e = .returned (.slice A' n c') /\ Row4 w' w.heap.size (.slice A' n c') (mulL R h qs ps) S /\ Ext w w') := by
 induction h with
 | zero =>
  intro w Tt A B ct n c d Ma Xa Mb Xb ts qs ps ht hl hR hp ha hb hn ia ib sz;have hn1 : n = 1 := hn;clear hn;subst hn1;have hj : 0 < qs.length := by rw [ha.len]; omega
  have hj' : 0 < ps.length := by rw [hb.len]; omega
  obtain ⟨b, off, rfl, hr⟩ := ha.at_ (fun e => by rw [e] at hj; exact absurd hj (Nat.not_lt_zero _));obtain ⟨b', off', rfl, hr'⟩ := hb.at_ (fun e => by rw [e] at hj'; exact absurd hj' (Nat.not_lt_zero _));have hin := (mulL_in hM hRi 0 ia.1 ib.1 ia.2 ib.2)
  have hm : mulL R 0 qs ps = [qs[0] * ps[0]] := by
   rw [mulL, List.headD_eq_head?_getD, List.headD_eq_head?_getD, List.head?_eq_getElem?, List.head?_eq_getElem?, List.getElem?_eq_getElem hj, List.getElem?_eq_getElem hj']
   rfl
  rw [hm] at hin;have hsz := (hin _ List.mem_cons_self).size (Nat.mul_pos (Nat.mul_pos ia.1 ib.1) (prQ_pos hM 0));have Hm := Lib.hid hm;have HSZ := Lib.hid (And.intro (Nat.lt_of_le_of_lt hsz.1 sz.2.2) (Nat.lt_of_le_of_lt hsz.2 sz.2.1));clear hm hin hsz sz ia ib hR ht hl hp hRl hM hRi;obtain ⟨sx, Ax, nx, cx, tx, Bx, mx, dx, e0, e1, e2, e3, hx⟩ := hr.at_ 0 hj;obtain ⟨sy, Ay, ny, cy, ty, By, my, dy, i0, i1, i2, i3, hy⟩ := hr'.at_ 0 hj';generalize qs[0] = x0 at *;generalize ps[0] = y0 at *;rw [Nat.mul_zero, Nat.add_zero] at e0 e1 e2 e3 i0 i1 i2 i3
  go_enter Tryz.func44, Tryz.ntmps44
  go_upto_region 2 with (fail)
  have ES0 := Ext.refl w;refine wp_region_held_drew (S := Ext w) (by kernel_rfl) ES0.drew (fun ES => ?_);clear ES0;refine Late.s0 ES (fun hAl hQ => ?_);refine Late.u 0 16 hQ ?_
  try simp only [zP]
  refine Late.u 3 19 hQ ?_
  try simp only [zP]
  refine Late.u 1 17 hQ ?_
  try simp only [zP]
  refine Late.u 4 20 hQ ?_
  try simp only [zP]
  refine Late.t 2 18 ?v_4 hQ ?y_4 ?_
  case y_4 => intro w' hSw;have q0_ := hSw.cellv e0;have q1_ := hSw.cellv e1;have q2_ := hSw.cellv e2;have q3_ := hSw.cellv e3;have q4_ := hSw.cellv i0;have q5_ := hSw.cellv i1;have q6_ := hSw.cellv i2;have q7_ := hSw.cellv i3;go_simp;try rfl
  try simp only [zP]
  refine Late.t 5 21 ?v_5 hQ ?y_5 ?_
  case y_5 => intro w' hSw;have q0_ := hSw.cellv e0;have q1_ := hSw.cellv e1;have q2_ := hSw.cellv e2;have q3_ := hSw.cellv e3;have q4_ := hSw.cellv i0;have q5_ := hSw.cellv i1;have q6_ := hSw.cellv i2;have q7_ := hSw.cellv i3;go_simp;try rfl
  try simp only [zP]
  refine Late.cl (i := 6) rfl hAl hQ (fun w6 e6 E6 K hK => ?_);go_simp
  (go_at_call 85; refine (q_MulR (hx.ext E6) (hy.ext E6) (by omega) (by omega)).mono ?_; rintro e wk6 ⟨s7, A7, n7, c7, t7, B7, m7, d7, rfl, h7, hx6⟩)
  refine hK.out _ _ hx6 ?_;clear hK K
  try simp only [zP]
  refine Late.cl (i := 7) rfl hAl hQ (fun w7 e7 E7 K hK => ?_);go_simp;refine hK.out _ _ ((Ext.refl _).alloc _) ?_;clear hK K
  try simp only [zP]
  refine Late.u 8 6 hQ ?_
  try simp only [zP]
  refine Late.d0 (fun wz ez Ez => ?_);clear hAl hQ ES;have hbx := (Box.new w7 30 #[.bool s7, .slice A7 n7 c7, .bool t7, .slice B7 m7 d7]).ext ez;have h7z := (h7.ext (e7.trans (((Ext.refl w7).alloc _).trans ez))).tightR HSZ.out.1 HSZ.out.2;have hrow : RRow wz w7.heap.size [x0 * y0] S := ⟨_, hbx, .cons h7z .nil⟩;have hgs := E7.size
  go_wp2_with fail
  go_ret
  rw [Hm.out];exact ⟨_, _, rfl, hrow.row4 hgs rfl (by omega), Ez⟩
 | succ h ih =>
  intro w Tt A B ct n c d Ma Xa Mb Xb ts qs ps ht hl hR hp ha hb hn ia ib sz;obtain ⟨k, hk⟩ : ∃ k, k = 2 ^ h := ⟨_, rfl⟩;obtain ⟨H, hH⟩ : ∃ H, H = h + 1 := ⟨_, rfl⟩;have hnk : n = k + k := by rw [hn, hk, two_pow_s]
  have hk0 : 0 < k := by rw [hk]; exact Nat.pow_pos (by omega)
  have hk1 : k <= 16 := by rw [hk]; exact Nat.le_trans (Nat.pow_le_pow_right (by omega) (show h <= 4 by have := sz.1; omega)) (by decide)
  have hql : qs.length = 2 ^ (h + 1) := by rw [ha.len, hn]
  have hpl : ps.length = 2 ^ (h + 1) := by rw [hb.len, hn]
  have hz := prod_sz hM sz.2.1 sz.2.2;have hmm := mulL_in hM hRi (h + 1) ia.1 ib.1 ia.2 ib.2
  have HALL := Lib.hid (fun q (hq : q ∈ mulL R (h + 1) qs ps) => show q.num.natAbs < 4294967296 ^ S /\ q.den < 4294967296 ^ S by
   have h1 := (hmm q hq).size (Nat.mul_pos (Nat.mul_pos ia.1 ib.1) (prQ_pos hM _));exact ⟨Nat.lt_of_le_of_lt h1.1 sz.2.2, Nat.lt_of_le_of_lt h1.2 sz.2.1⟩)
  have HS0 := Lib.hid (show h <= 5 /\ Ma * Mb * prQ Mr h < 4294967296 ^ S /\ Xa * Xb * prY Mr Xr h < 4294967296 ^ S from ⟨by have := sz.1; omega, hz.1, hz.2.1⟩);have HS2 := Lib.hid (show h <= 5 /\ Ma * Mb * prQ Mr h * Mr h * prQ Mr h < 4294967296 ^ S /\ Xa * Xb * prY Mr Xr h * Xr h * prY Mr Xr h < 4294967296 ^ S from ⟨by have := sz.1; omega, hz.2.2.1, hz.2.2.2⟩);have h5 : h <= 5 := by have := sz.1; omega
  have IA0 := Lib.hid (show 0 < Ma /\ AllM Ma Xa (qs.take k) from ⟨ia.1, ia.2.take k⟩);have IA1 := Lib.hid (show 0 < Ma /\ AllM Ma Xa (qs.drop k) from ⟨ia.1, ia.2.drop k⟩);have IB0 := Lib.hid (show 0 < Mb /\ AllM Mb Xb (ps.take k) from ⟨ib.1, ib.2.take k⟩);have IB1 := Lib.hid (show 0 < Mb /\ AllM Mb Xb (ps.drop k) from ⟨ib.1, ib.2.drop k⟩);have IP := Lib.hid (show 0 < Ma * Mb * prQ Mr h /\ AllM (Ma * Mb * prQ Mr h) (Xa * Xb * prY Mr Xr h) (mulL R h (qs.drop k) (ps.drop k)) from ⟨Nat.mul_pos (Nat.mul_pos ia.1 ib.1) (prQ_pos hM _), mulL_in hM hRi h ia.1 ib.1 (ia.2.drop k) (ib.2.drop k)⟩);have IR := Lib.hid (show 0 < Mr h /\ AllM (Mr h) (Xr h) (R h) from ⟨hM h, hRi h⟩);have HTW := Lib.hid (take_TowL ht h);have HLT := Lib.hid (show (ts.take h).length = h by rw [List.length_take, hl]; omega);have HRT := Lib.hid (show ∀ i, i < h -> radQ (ts.take h) i = R i from fun i hi => by rw [radQ_take hi (by omega)]; exact hR i (by omega));have hjt : h < ts.length := by omega
  obtain ⟨bt, ot, rfl, hat⟩ := hp.at_ (fun e => by rw [e] at hjt; exact absurd hjt (Nat.not_lt_zero _));obtain ⟨Ar_, nr_, cr_, t0, hr⟩ := hat h hjt;rw [show ts[h] = R h by rw [<- radQ_at hjt]; exact hR h (by omega)] at hr;obtain rfl : nr_ = k := by rw [<- hr.len, hRl, hk]
  replace hr := hr.le hS4;have hu := hp.take (k := h) (by omega);have hcapt := hp.cap;have hcapa := ha.cap;have hcapb := hb.cap;obtain ⟨ba, oa, rfl, _⟩ := ha.at_ (fun e => by rw [e] at hql; simp at hql; omega);obtain ⟨bb, ob, rfl, _⟩ := hb.at_ (fun e => by rw [e] at hpl; simp at hpl; omega);have hkn : nr_ <= n := by omega
  have hs : n - nr_ = nr_ := by omega
  have ha0 := ha.take hkn;have ha1 := ha.dropT hkn;have hb0 := hb.take hkn;have hb1 := hb.dropT hkn;rw [hs] at ha1 hb1;have HZA := Lib.hid (fun hz => mulL_zA hRl hql hpl hz);have HZB := Lib.hid (fun hz => mulL_zB hRl hql hpl hz);have HZAB := Lib.hid (fun hz hy => mulL_zAB hRl hql hpl hz hy);rw [<- hk] at HZA HZB HZAB;have HMM := Lib.hid (show mulL R (h + 1) qs ps = addL (mulL R h (qs.take nr_) (ps.take nr_)) (mulL R h (mulL R h (qs.drop nr_) (ps.drop nr_)) (R h)) ++ addL (mulL R h (qs.take nr_) (ps.drop nr_)) (mulL R h (qs.drop nr_) (ps.take nr_)) by rw [mulL, <- hk]);have HK := Lib.hid hk;have HN := Lib.hid hnk;have hw1 : IntKind.i64.wrap ((H : Int) - 1) = (h : Int) := by rw [IntWalk.i64_in _ (by omega)]; omega
  have hw2 : wrap64 ((H : Int) - 1) = (h : Int) := by unfold wrap64; omega
  have g1 : ((H : Int) == 0) = false := beq_eq_false_iff_ne.2 (by omega);have i1 : (h : Int) <= (ct : Int) := by omega
  have i2 : (h : Int) < (H : Int) := by omega
  have i3 : (nr_ : Int) <= (n : Int) := by omega
  have i4 : (nr_ : Int) <= (c : Int) := by omega
  have i5 : (nr_ : Int) <= (d : Int) := by omega
  have i6 : (n : Int) <= (c : Int) := by omega
  have i7 : (n : Int) <= (d : Int) := by omega
  have i8 : ¬ c = nr_ := by omega
  have i9 : ¬ d = nr_ := by omega
  have j1 : h <= ct := by omega
  have j2 : h < H := by omega
  have qd1 : Int.tdiv (n : Int) 2 = (nr_ : Int) := by rw [Int.tdiv_eq_ediv_of_nonneg (by omega)]; omega
  have qd2 : (n : Int) / 2 = (nr_ : Int) := by omega
  have qd3 : IntKind.i64.wrap (nr_ : Int) = (nr_ : Int) := IntWalk.i64_in _ (by omega);have hn16 : n <= 32 := by omega
  rw [<- hH] at hp hl HALL HZA HZB HZAB HMM ⊢;clear hn hk hnk hz hmm ia ib sz hM hRi hRl hH hl ht hR hat hql hpl hjt
  go_enter Tryz.func44, Tryz.ntmps44
  go_upto_region 4 with (fail)
  go_quiet (fail)
  have ex := (Ext.refl w).drewN nq;refine at_then (fun U => Ext w U) ex ?_;rintro V EW;clear ex;replace ha0 := ha0.ext EW;replace ha1 := ha1.ext EW;replace hb0 := hb0.ext EW;replace hb1 := hb1.ext EW;replace hu := hu.ext EW;replace hr := hr.ext EW
  go_upto_region 5 with (fail)
  clear t0;have ES0 := Ext.refl V;refine wp_region_held_drew (S := Ext V) (by kernel_rfl) ES0.drew (fun ES => ?_);clear ES0;refine Late.s0 ES (fun hAl hQ => ?_);refine Late.u 0 38 hQ ?_
  try simp only [zP]
  refine Late.u 1 39 hQ ?_
  try simp only [zP]
  refine Late.u 4 42 hQ ?_
  try simp only [zP]
  refine Late.u 5 43 hQ ?_
  try simp only [zP]
  refine Late.u 2 40 hQ ?_
  try simp only [zP]
  refine Late.u 6 44 hQ ?_
  try simp only [zP]
  refine Late.cl (i := 3) rfl hAl hQ (fun w3 e3 E3 K hK => ?_);go_simp
  (go_at_call 36; refine (q_ZeroT (ha1.ext E3) (by omega)).mono ?_; rintro e wk3 ⟨rfl, hx3⟩)
  refine hK.out _ _ hx3 ?_;clear hK K
  try simp only [zP]
  refine Late.cl (i := 7) rfl hAl hQ (fun w7 e7 E7 K hK => ?_);go_simp
  (go_at_call 36; refine (q_ZeroT (hb1.ext E7) (by omega)).mono ?_; rintro e wk7 ⟨rfl, hx7⟩)
  refine hK.out _ _ hx7 ?_;clear hK K
  try simp only [zP]
  refine Late.u 8 10 hQ ?_
  try simp only [zP]
  refine Late.u 9 11 hQ ?_
  try simp only [zP]
  refine Late.d0 (fun wz ez Ez => ?_);clear hAl hQ ES;replace EW := EW.trans Ez;replace ha0 := ha0.ext Ez;replace ha1 := ha1.ext Ez;replace hb0 := hb0.ext Ez;replace hb1 := hb1.ext Ez;replace hu := hu.ext Ez;replace hr := hr.ext Ez;clear Ez ez
  go_upto_region 6 with (fail)
  generalize wz = V1 at *;have ES0 := Ext.refl V1;refine wp_region_held_drew (S := Ext V1) (by kernel_rfl) ES0.drew (fun ES => ?_);clear ES0;refine Late.s0 ES (fun hAl hQ => ?_);refine Late.u 0 46 hQ ?_
  try simp only [zP]
  refine Late.u 1 47 hQ ?_
  try simp only [zP]
  refine Late.u 2 48 hQ ?_
  try simp only [zP]
  refine Late.u 4 50 hQ ?_
  try simp only [zP]
  refine Late.u 5 51 hQ ?_
  try simp only [zP]
  refine Late.u 3 49 hQ ?_
  try simp only [zP]
  refine Late.u 6 52 hQ ?_
  try simp only [zP]
  refine Late.cl (i := 7) rfl hAl hQ (fun w7 e7 E7 K hK => ?_);go_simp
  (go_at_call 44; refine (ih (ts := ts.take h) (Ma := Ma) (Xa := Xa) (Mb := Mb) (Xb := Xb) HTW.out HLT.out HRT.out (hu.ext E7) (ha0.ext E7) (hb0.ext E7) HK.out IA0.out IB0.out HS0.out).mono ?_; rintro e wk7 ⟨Al, cl, rfl, rl, hx7⟩; have hbl := E7.size)
  refine hK.out _ _ hx7 ?_;clear hK K
  try simp only [zP]
  refine Late.u 8 12 hQ ?_
  try simp only [zP]
  refine Late.d0 (fun V2 ez Ez => ?_);clear hAl hQ ES;have hwb : w.heap.size <= w7.heap.size := by have := EW.size; omega
  have hlow := rl.ext ez;have hbl2 : w7.heap.size <= V2.heap.size := by have := hx7.size; have := ez.size; omega
  replace EW := EW.trans Ez;replace ha0 := ha0.ext Ez;replace ha1 := ha1.ext Ez;replace hb0 := hb0.ext Ez;replace hb1 := hb1.ext Ez;replace hu := hu.ext Ez;replace hr := hr.ext Ez;clear Ez ez rl hbl E7 e7 hx7;generalize w7.heap.size = bl at hwb hlow hbl2
  cases hza : zeroB (qs.drop nr_) with
  | true =>
   cases hzb : zeroB (ps.drop nr_) with
   | true =>
    have HE := Lib.hid (HZAB.out hza hzb);clear hza hzb
    go_wp2_with fail
    refine (q_FromIntR 0 (by omega) (by omega)).mono ?_;rintro ee V3 ⟨s7, A7, n7, c7, t7, B7, m7, d7, rfl, h7, hx3⟩
    go_wp2_with fail
    refine (q_FromRatT (n := h) h7 (Nat.le_refl 2) (by omega)).mono ?_;rintro ee V4 ⟨Af, nf, cf, rfl, hz, hx4⟩
    have hz2 : Pol V4 Af nf cf (List.replicate nr_ 0) S := by
     have e0 : (((0 : Int) : Rat) :: List.replicate (2 ^ h - 1) 0) = List.replicate nr_ 0 := by
      rw [show nr_ = (2 ^ h - 1) + 1 by have := HK.out; omega, List.replicate_succ]
      rfl
     rw [e0] at hz;exact hz.le (by omega)
    obtain rfl : nf = nr_ := by rw [<- hz2.len, List.length_replicate]
    have hx := hx3.trans hx4;have hsx := hx.size;clear hz hx3 hx4
    go_wp2_with (at_builtin; refine wpList_append_row (w0 := w) rfl _ _ rfl rfl rfl (hlow.ext hx) hz2 (by rw [mulL_len, <- HK.out]; omega) (by omega) (by omega) (EW.trans hx) hwb ?_; intro v6 w6 q1 E6)
    obtain ⟨A9, n9, c9, rfl, hq9⟩ := q1.polT;obtain rfl : n9 = n := by rw [<- hq9.len, List.length_append, mulL_len, List.length_replicate, <- HK.out, HN.out]
    go_ret
    rw [HE.out];exact ⟨_, _, rfl, q1.mono hwb, E6⟩
   | false =>
    have HE := Lib.hid (HZA.out hza);clear hza hzb
    go_upto_region 10 with (fail)
    refine wpL.st 9 (fun hQ ES => ?_);refine wpL.uB [9] 0 64 hQ ES ?_
    try simp only [zP]
    refine wpL.uB [8,9] 1 65 hQ ES ?_
    try simp only [zP]
    refine wpL.uB [4,8,9] 2 66 hQ ES ?_
    try simp only [zP]
    refine wpL.uB [4,8,9] 3 67 hQ ES ?_
    try simp only [zP]
    refine wpL.uB [7,8,9] 5 69 hQ ES ?_
    try simp only [zP]
    refine wpL.uB [7,8,9] 6 70 hQ ES ?_
    try simp only [zP]
    refine wpL.uB [8,9] 4 68 hQ ES ?_
    try simp only [zP]
    refine wpL.uB [8,9] 7 71 hQ ES ?_
    try simp only [zP]
    refine wpL.cl (i := 8) rfl (fun K hK => ?_);go_simp
    (go_at_call 44; refine (ih (ts := ts.take h) (Ma := Ma) (Xa := Xa) (Mb := Mb) (Xb := Xb) HTW.out HLT.out HRT.out (hu.ext ES) (ha0.ext ES) (hb1.ext ES) HK.out IA0.out IB1.out HS0.out).mono ?_; rintro ee wk8 ⟨A7, c7, rfl, r7_, hx8⟩; obtain ⟨_, _, _, hv7, r7⟩ := r7_.polT; injection hv7 with v1 v2 v3; subst v1 v2 v3; have F8 := Ext.trans ES hx8)
    refine hK.out _ _ F8 ?_;clear hK K
    try simp only [zP]
    refine wpL.tl (i := 9) rfl (fun K hK => ?_);refine step_append_rowR (w0 := w) rfl _ _ rfl rfl rfl (hlow.ext F8) r7 (by rw [mulL_len, <- HK.out]; omega) (by omega) (Nat.le_trans hbl2 (by have := Ext.size F8; omega)) (EW.trans F8) hwb ?_;intro v6 w6 q1 E6;refine hK.out _ _ ?_
    try simp only [List.getElem_toArray, List.getElem_cons_succ, List.getElem_cons_zero]
    clear hK K
    try simp only [zP]
    refine wpL.tl (i := 10) rfl (fun K hK => ?_);go_simp;refine hK.out _ _ ?_;clear hK K
    try simp only [zP]
    refine wpL.done (by kernel_rfl) ?_ _;clear hQ;obtain ⟨A9, n9, c9, rfl, hq9⟩ := q1.polT;obtain rfl : n9 = n := by rw [<- hq9.len, List.length_append, mulL_len, mulL_len, <- HK.out, HN.out]
    go_wp2_with fail
    go_ret
    rw [HE.out];exact ⟨_, _, rfl, q1.mono hwb, E6⟩
  | false =>
   cases hzb : zeroB (ps.drop nr_) with
   | true =>
    have HE := Lib.hid (HZB.out hzb);clear hza hzb
    go_upto_region 12 with (fail)
    refine wpL.st 9 (fun hQ ES => ?_);refine wpL.uB [9] 0 75 hQ ES ?_
    try simp only [zP]
    refine wpL.uB [8,9] 1 76 hQ ES ?_
    try simp only [zP]
    refine wpL.uB [4,8,9] 2 77 hQ ES ?_
    try simp only [zP]
    refine wpL.uB [4,8,9] 3 78 hQ ES ?_
    try simp only [zP]
    refine wpL.uB [7,8,9] 5 80 hQ ES ?_
    try simp only [zP]
    refine wpL.uB [7,8,9] 6 81 hQ ES ?_
    try simp only [zP]
    refine wpL.uB [8,9] 4 79 hQ ES ?_
    try simp only [zP]
    refine wpL.uB [8,9] 7 82 hQ ES ?_
    try simp only [zP]
    refine wpL.cl (i := 8) rfl (fun K hK => ?_);go_simp
    (go_at_call 44; refine (ih (ts := ts.take h) (Ma := Ma) (Xa := Xa) (Mb := Mb) (Xb := Xb) HTW.out HLT.out HRT.out (hu.ext ES) (ha1.ext ES) (hb0.ext ES) HK.out IA1.out IB0.out HS0.out).mono ?_; rintro ee wk8 ⟨A7, c7, rfl, r7_, hx8⟩; obtain ⟨_, _, _, hv7, r7⟩ := r7_.polT; injection hv7 with v1 v2 v3; subst v1 v2 v3; have F8 := Ext.trans ES hx8)
    refine hK.out _ _ F8 ?_;clear hK K
    try simp only [zP]
    refine wpL.tl (i := 9) rfl (fun K hK => ?_);refine step_append_rowR (w0 := w) rfl _ _ rfl rfl rfl (hlow.ext F8) r7 (by rw [mulL_len, <- HK.out]; omega) (by omega) (Nat.le_trans hbl2 (by have := Ext.size F8; omega)) (EW.trans F8) hwb ?_;intro v6 w6 q1 E6;refine hK.out _ _ ?_
    try simp only [List.getElem_toArray, List.getElem_cons_succ, List.getElem_cons_zero]
    clear hK K
    try simp only [zP]
    refine wpL.tl (i := 10) rfl (fun K hK => ?_);go_simp;refine hK.out _ _ ?_;clear hK K
    try simp only [zP]
    refine wpL.done (by kernel_rfl) ?_ _;clear hQ;obtain ⟨A9, n9, c9, rfl, hq9⟩ := q1.polT;obtain rfl : n9 = n := by rw [<- hq9.len, List.length_append, mulL_len, mulL_len, <- HK.out, HN.out]
    go_wp2_with fail
    go_ret
    rw [HE.out];exact ⟨_, _, rfl, q1.mono hwb, E6⟩
   | false =>
    clear hza hzb
    go_upto_region 13 with (fail)
    have ES0 := Ext.refl V2;refine wp_region_held_drew (S := Ext V2) (by kernel_rfl) ES0.drew (fun ES => ?_);clear ES0;refine Late.s0 ES (fun hAl hQ => ?_);refine Late.u 0 85 hQ ?_
    try simp only [zP]
    refine Late.u 1 86 hQ ?_
    try simp only [zP]
    refine Late.u 2 87 hQ ?_
    try simp only [zP]
    refine Late.u 3 88 hQ ?_
    try simp only [zP]
    refine Late.u 4 89 hQ ?_
    try simp only [zP]
    refine Late.u 5 90 hQ ?_
    try simp only [zP]
    refine Late.u 7 92 hQ ?_
    try simp only [zP]
    refine Late.u 8 93 hQ ?_
    try simp only [zP]
    refine Late.u 11 96 hQ ?_
    try simp only [zP]
    refine Late.u 6 91 hQ ?_
    try simp only [zP]
    refine Late.u 9 94 hQ ?_
    try simp only [zP]
    refine Late.cl (i := 10) rfl hAl hQ (fun w10 e10 E10 K hK => ?_);go_simp
    (go_at_call 44; refine (ih (ts := ts.take h) (Ma := Ma) (Xa := Xa) (Mb := Mb) (Xb := Xb) HTW.out HLT.out HRT.out (hu.ext E10) (ha1.ext E10) (hb1.ext E10) HK.out IA1.out IB1.out HS0.out).mono ?_; rintro e wk10 ⟨A11, c11, rfl, r11, hx10⟩)
    refine hK.out _ _ hx10 ?_;clear hK K
    try simp only [zP]
    refine Late.cl (i := 12) rfl hAl hQ (fun w12 e12 E12 K hK => ?_);go_simp
    (replace r11 := r11.ext e12; go_at_call 44; refine (ih (ts := ts.take h) (Ma := Ma * Mb * prQ Mr h) (Xa := Xa * Xb * prY Mr Xr h) (Mb := Mr h) (Xb := Xr h) HTW.out HLT.out HRT.out (hu.ext E12) r11.pl (hr.ext E12) HK.out IP.out IR.out HS2.out).mono ?_; rintro e wk12 ⟨A12, c12, rfl, r12, hx12⟩; replace r11 := r11.ext hx12)
    refine hK.out _ _ hx12 ?_;clear hK K
    try simp only [zP]
    refine Late.cl (i := 13) rfl hAl hQ (fun w13 e13 E13 K hK => ?_);go_simp
    (replace r11 := r11.ext e13; replace r12 := r12.ext e13; go_at_call 43; refine (q_AddT4 (hlow.ext E13).pl r12.pl (by omega) (by omega) (by omega)).mono ?_; rintro e wk13 ⟨A13, c13, rfl, r13, hx13⟩; replace r11 := r11.ext hx13; replace r12 := r12.ext hx13)
    refine hK.out _ _ hx13 ?_;clear hK K
    try simp only [zP]
    refine Late.u 14 12 hQ ?_
    try simp only [zP]
    refine Late.d0 (fun wz ez Ez => ?_);clear hAl hQ ES;have hlow2 := (r13.tightG (fun q hq => HALL.out q (by rw [HMM.out]; exact List.mem_append_left _ hq))).ext ez;have hwb3 : w.heap.size <= w13.heap.size := by have := EW.size; have := E13.size; omega
    have hbl3 : w13.heap.size <= wz.heap.size := by have := hx13.size; have := ez.size; omega
    replace EW := EW.trans Ez;replace ha0 := ha0.ext Ez;replace ha1 := ha1.ext Ez;replace hb0 := hb0.ext Ez;replace hb1 := hb1.ext Ez;replace hu := hu.ext Ez;clear r11 r12 r13 Ez ez hlow hwb hbl2 hx10 hx12 hx13 E10 E12 E13 e10 e12 e13;generalize w13.heap.size = bl3 at hlow2 hwb3 hbl3;have HE := HMM
    go_upto_region 14 with (fail)
    refine wpL.st 19 (fun hQ ES => ?_);refine wpL.uB [19] 0 99 hQ ES ?_
    try simp only [zP]
    refine wpL.uB [18,19] 1 100 hQ ES ?_
    try simp only [zP]
    refine wpL.uB [9,18,19] 2 101 hQ ES ?_
    try simp only [zP]
    refine wpL.uB [5,9,18,19] 3 102 hQ ES ?_
    try simp only [zP]
    refine wpL.uB [5,9,18,19] 4 103 hQ ES ?_
    try simp only [zP]
    refine wpL.uB [8,9,18,19] 6 105 hQ ES ?_
    try simp only [zP]
    refine wpL.uB [8,9,18,19] 7 106 hQ ES ?_
    try simp only [zP]
    refine wpL.uB [17,18,19] 10 109 hQ ES ?_
    try simp only [zP]
    refine wpL.uB [13,17,18,19] 11 110 hQ ES ?_
    try simp only [zP]
    refine wpL.uB [13,17,18,19] 12 111 hQ ES ?_
    try simp only [zP]
    refine wpL.uB [16,17,18,19] 14 113 hQ ES ?_
    try simp only [zP]
    refine wpL.uB [16,17,18,19] 15 114 hQ ES ?_
    try simp only [zP]
    refine wpL.uB [9,18,19] 5 104 hQ ES ?_
    try simp only [zP]
    refine wpL.uB [9,18,19] 8 107 hQ ES ?_
    try simp only [zP]
    refine wpL.uB [17,18,19] 13 112 hQ ES ?_
    try simp only [zP]
    refine wpL.uB [17,18,19] 16 115 hQ ES ?_
    try simp only [zP]
    refine wpL.cl (i := 9) rfl (fun K hK => ?_);go_simp
    (go_at_call 44; refine (ih (ts := ts.take h) (Ma := Ma) (Xa := Xa) (Mb := Mb) (Xb := Xb) HTW.out HLT.out HRT.out (hu.ext ES) (ha0.ext ES) (hb1.ext ES) HK.out IA0.out IB1.out HS0.out).mono ?_; rintro ee wk9 ⟨A7, c7, rfl, r7, hx9⟩; have F9 := Ext.trans ES hx9)
    refine hK.out _ _ F9 ?_;clear hK K
    try simp only [zP]
    refine wpL.cl (i := 17) rfl (fun K hK => ?_);go_simp
    (go_at_call 44; refine (ih (ts := ts.take h) (Ma := Ma) (Xa := Xa) (Mb := Mb) (Xb := Xb) HTW.out HLT.out HRT.out (hu.ext F9) (ha1.ext F9) (hb0.ext F9) HK.out IA1.out IB0.out HS0.out).mono ?_; rintro ee wk17 ⟨A8, c8, rfl, r8, hx17⟩; have F17 := Ext.trans F9 hx17)
    refine hK.out _ _ F17 ?_;clear hK K
    try simp only [zP]
    refine wpL.cl (i := 18) rfl (fun K hK => ?_);go_simp
    (go_at_call 43; refine (q_AddT4 (r7.ext hx17).pl r8.pl (by omega) (by omega) (by omega)).mono ?_; rintro ee wk18 ⟨A10, c10, rfl, r10, hx18⟩; have F18 := Ext.trans F17 hx18)
    refine hK.out _ _ F18 ?_;clear hK K
    try simp only [zP]
    refine wpL.tl (i := 19) rfl (fun K hK => ?_);refine step_append_rowR (w0 := w) rfl _ _ rfl rfl rfl (hlow2.ext F18) (r10.tightG (fun q hq => HALL.out q (by rw [HMM.out]; exact List.mem_append_right _ hq))).pl (by rw [show (List.zipWith (fun x y : Rat => x + y) (mulL R h (qs.take nr_) (ps.take nr_)) (mulL R h (mulL R h (qs.drop nr_) (ps.drop nr_)) (R h))).length = 2 ^ h from addL_len mulL_len mulL_len, <- HK.out]; omega) (by omega) (Nat.le_trans hbl3 (by have := Ext.size F18; omega)) (EW.trans F18) hwb3 ?_;intro v6 w6 q1 E6;refine hK.out _ _ ?_
    try simp only [List.getElem_toArray, List.getElem_cons_succ, List.getElem_cons_zero]
    clear hK K
    try simp only [zP]
    refine wpL.tl (i := 20) rfl (fun K hK => ?_);go_simp;refine hK.out _ _ ?_;clear hK K
    try simp only [zP]
    refine wpL.done (by kernel_rfl) ?_ _;clear hQ;obtain ⟨A9, n9, c9, rfl, hq9⟩ := q1.polT
    obtain rfl : n9 = n := by
     have h1 := hq9.len;rw [List.length_append, show (List.zipWith (fun x y : Rat => x + y) (mulL R h (qs.take nr_) (ps.drop nr_)) (mulL R h (qs.drop nr_) (ps.take nr_))).length = 2 ^ h from addL_len mulL_len mulL_len, show (List.zipWith (fun x y : Rat => x + y) (mulL R h (qs.take nr_) (ps.take nr_)) (mulL R h (mulL R h (qs.drop nr_) (ps.drop nr_)) (R h))).length = 2 ^ h from addL_len mulL_len mulL_len, <- HK.out] at h1;rw [<- h1, HN.out]
    go_wp2_with fail
    go_ret
    rw [HE.out];exact ⟨_, _, rfl, q1.mono hwb3, E6⟩
end
end
end Go.Proofs.YtgagcochepnelaaGreatDoor
