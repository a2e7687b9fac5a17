/- For every three lists of numbers the law PolynomialMul returns true: Mul returns the specified product, the factors may be exchanged, and the product with a sum is the sum of the products, the arguments keep their values, and the examples of the chapter hold. Condition: the table math/bits.deBruijn64tab holds what its initialiser lays (tied by the given card). -/
import Derived.Test.YtpeddoaknfjbbaaGreatDoorM0
import Derived.Test.YtpeddoaknfjbbaaGreatDoorM1
import Derived.Test.YtpeddoaknfjbbaaGreatDoorM2
import Derived.Test.YtpeddoaknfjbbaaGreatDoorM3
import Derived.Test.YtpeddoaknfjbbaaGreatDoorM4
import Derived.Test.YtpeddoaknfjbbaaGreatDoorM5
import Derived.Test.YtpeddoaknfjbbaaGreatDoorM6
import Derived.Test.YtpeddoaknfjbbaaGreatDoorM7
import Derived.Test.YtpeddoaknfjbbaaGreatDoorM8
import Derived.Test.YtpeddoaknfjbbaaGreatDoorM9
import Derived.Test.YtpeddoaknfjbbaaGreatDoorM10
import Derived.Test.YtpeddoaknfjbbaaGreatDoorM11
import Derived.Test.YtpeddoaknfjbbaaGreatDoorM12
import Derived.Test.YtpeddoaknfjbbaaGreatDoorM13
set_option linter.unusedSimpArgs false
set_option linter.unusedVariables false
set_option maxHeartbeats 64000000
namespace Go.Proofs.YtpeddoaknfjbbaaGreatDoor
section
open Go.RowKit
attribute [local go_sem ↓] Go.wp_at_zero Go.wp_at_succ
section
variable {w w' : World} {A B D : Option Addr} {n c m d l e : Nat} {rs ss ts : List RawR}
theorem few3_P {g : Nat} {T : TypeId} (hb : Box w g T #[.slice A n c, .slice B m d, .slice D l e]) (h0 : RawP w A n c rs) (h1 : RawP w B m d ss) (h2 : RawP w D l e ts) : Calls Tryz.prog 10 #[.slice (some ⟨g, 0, none⟩) 3 3] w fun e w' => e = .returned (.bool (smallB rs 8 && (smallB ss 8 && smallB ts 8))) /\ Ext w w' := by
 go_enter Tryz.func10, Tryz.ntmps10
 go_wp2_with fail
 go_loopw [7] (fun i wr => ∃ k : Nat, k <= 3 /\ i = .int .i64 (k : Int) /\ Ext w wr /\ (0 < k -> smallB rs 8 = true) /\ (1 < k -> smallB ss 8 = true) /\ (2 < k -> smallB ts 8 = true)) (fun i _ => 3 - (intOf i).toNat)
 case atStart => exact ⟨0, by omega, rfl, Ext.refl _, by simp⟩
 case round =>
  obtain ⟨k, hk, rfl, ext, hall⟩ := hrel;have HA := Lib.hid hall;clear hall;have c0 := (hb.ext ext).cell 0 (.slice A n c) rfl;have c1 := (hb.ext ext).cell 1 (.slice B m d) rfl;have c2 := (hb.ext ext).cell 2 (.slice D l e) rfl;have hk2 : k = 0 \/ k = 1 \/ k = 2 \/ k = 3 := by omega
  rcases hk2 with rfl | rfl | rfl | rfl
  ·go_wp2_with fail
   refine (q_Small (h0.ext ext) 8 (by omega)).mono ?_;rintro e V ⟨rfl, hxv⟩;replace ext := ext.trans hxv
   cases hf : smallB rs 8 with
   | true =>
    have HF := Lib.hid hf;clear hf
    go_wp2_with fail
    go_roundw
    case rel => exact ⟨1, by omega, rfl, ext, by have := HA.out; simp [HF.out] at this ⊢ <;> first | done | exact this | assumption⟩
    case measure => simp [intOf]
   | false =>
    have HF := Lib.hid hf;clear hf
    go_wp2_with fail
    go_ret
    exact ⟨by have := HA.out; simp [HF.out] at this ⊢, ext⟩
  ·go_wp2_with fail
   refine (q_Small (h1.ext ext) 8 (by omega)).mono ?_;rintro e V ⟨rfl, hxv⟩;replace ext := ext.trans hxv
   cases hf : smallB ss 8 with
   | true =>
    have HF := Lib.hid hf;clear hf
    go_wp2_with fail
    go_roundw
    case rel => exact ⟨2, by omega, rfl, ext, by have := HA.out; simp [HF.out] at this ⊢ <;> first | done | exact this | assumption⟩
    case measure => simp [intOf]
   | false =>
    have HF := Lib.hid hf;clear hf
    go_wp2_with fail
    go_ret
    exact ⟨by have := HA.out; simp [HF.out] at this ⊢, ext⟩
  ·go_wp2_with fail
   refine (q_Small (h2.ext ext) 8 (by omega)).mono ?_;rintro e V ⟨rfl, hxv⟩;replace ext := ext.trans hxv
   cases hf : smallB ts 8 with
   | true =>
    have HF := Lib.hid hf;clear hf
    go_wp2_with fail
    go_roundw
    case rel => exact ⟨3, by omega, rfl, ext, by have := HA.out; simp [HF.out] at this ⊢ <;> first | done | exact this | assumption⟩
    case measure => simp [intOf]
   | false =>
    have HF := Lib.hid hf;clear hf
    go_wp2_with fail
    go_ret
    exact ⟨by have := HA.out; simp [HF.out] at this ⊢, ext⟩
  ·go_wp2_with fail
   go_ret
   exact ⟨by have := HA.out; simp at this; simp [this], ext⟩
end
section
variable {w w' : World} {base L : Nat} {v : Value} {qs ps : List Rat} {A : Option Addr} {n c : Nat}
theorem run_append_row {ty : TypeId} (h : Row4 w base v qs L) (hp : Pol w A n c ps L) (h0 : 0 < n) (hl : qs.length <= 1000) (hn : n <= 1000) (hbase : base <= w.heap.size) :
  ∃ v' w', (Builtin.append_ #[22, 22] ty #[v, .slice A n c]).run Tryz.prog w = .ok v' w' /\ Row4 w' base v' (qs ++ ps) L /\ w.grownBy w' v.ownBlock /\ (v'.ownBlock = v.ownBlock \/ v'.ownBlock = some w.heap.size) := by
 obtain ⟨i0, hi, hz0, hz1, hz2⟩ := info_partsB Tryz.infoR;obtain ⟨cs, h1, h2⟩ := h.own;have hne : ps ≠ [] := fun e => by have := hp.len; rw [e] at this; simp at this; omega
 obtain ⟨b, off, rfl, hrat⟩ := hp.at_ hne;obtain ⟨ds, k1, k2⟩ := hrat.list;have hdl : ds.length = n * 4 := by rw [k1.len, hp.len]
 rw [<- hz1] at h1
 obtain ⟨v', w', hr, j1, j2, j3, j4⟩ := run_append_nw (P := Tryz.prog) (ty := ty) (c := c) Tryz.underlying22 hi hz0 hz2 (by rw [hz1]; rfl) (by omega) (by
  intro u hu k e;simp [Value.cells] at hu
  rcases hu with rfl | rfl | rfl | rfl <;> cases e) h1 h.nwb (m := n) (by rw [hz1]; exact hdl) (fun j u hj => k2 j u hj) k1.one k1.nwl h0 (by unfold maxLen; omega) (by omega) hbase
 rw [hz1] at j1;refine ⟨v', w', hr, ⟨⟨cs ++ ds, ?_, (h2.own h.nwb j2).append (k1.own h.nwb j2)⟩, j4⟩, j2, j3⟩;rw [List.length_append, hp.len];exact j1
end
section
variable {w w' : World} {base L : Nat} {v : Value} {qs ps : List Rat} {A : Option Addr} {n c : Nat}
theorem run_append_row0 {ty : TypeId} (h : Row4 w base v qs L) :
  (Builtin.append_ #[22, 22] ty #[v, .slice A 0 c]).run Tryz.prog w = .ok v w := by
 have hq := Tryz.infoRat
 cases hi : Tryz.prog.info? 27 with
 | none => rw [hi] at hq; cases hq
 | some i =>
 rw [hi] at hq;simp only [Option.map_some, Option.some.injEq, Prod.mk.injEq] at hq;obtain ⟨cs, h1, h2⟩ := h.own
 rcases h1.2 with ⟨rfl, h0⟩ | ⟨g, cap, cur, rfl, hbg, hg, hnc, hcm, hcs, htake⟩
 ·cases A with
  | none => simp [Builtin.append_, run_underlying Tryz.underlying22, sizeOf, typeInfo, hi, Builtin.lenOf, Builtin.firstCells]
  | some ad => simp [Builtin.append_, run_underlying Tryz.underlying22, sizeOf, typeInfo, hi, Builtin.lenOf, Builtin.firstCells, loadCells, loadCellsFrom]
 ·cases A with
  | none => simp [Builtin.append_, run_underlying Tryz.underlying22, sizeOf, typeInfo, hi, Builtin.lenOf, Builtin.firstCells, storeCells, hnc]
  | some ad => simp [Builtin.append_, run_underlying Tryz.underlying22, sizeOf, typeInfo, hi, Builtin.lenOf, Builtin.firstCells, loadCells, loadCellsFrom, storeCells, hnc]
theorem wpList_append_row {w0 : World} {ops : Array Oper} {rest : List Oper} {o : Oper} {a : Act} {Q : Exit -> Act -> World -> Prop} (hgd : o.guard = none) (x y : Operand)
  (ho : o.op = .call { callee := .builtin .append, args := #[x, y], argTypes := #[22, 22] })
  (hx : a.eval x = v) (hy : a.eval y = .slice A n c)
  (h : Row4 w base v qs L) (hp : Pol w A n c ps L) (hl : qs.length <= 1000) (hn : n <= 1000) (hbase : base <= w.heap.size) (he : Ext w0 w) (hb0 : w0.heap.size <= base)
  (hK : ∀ v' w', Row4 w' base v' (qs ++ ps) L -> Ext w0 w' -> wpList Tryz.prog ops Q rest (a.put o.dst v') w') :
  wpList Tryz.prog ops Q (o :: rest) a w := by
 refine wpList_plain hgd fun K hKK => ?_
 have key : ∃ v' w', (Builtin.append_ #[22, 22] o.type #[v, .slice A n c]).run Tryz.prog w = .ok v' w' /\ Row4 w' base v' (qs ++ ps) L /\ Ext w0 w' := by
  rcases Nat.eq_zero_or_pos n with h0 | h0
  ·subst h0
   have hps : ps = [] := List.eq_nil_of_length_eq_zero hp.len;subst hps;exact ⟨v, w, run_append_row0 h, by rw [List.append_nil]; exact h, he⟩
  ·obtain ⟨v', w', hr, h2, h3, _⟩ := run_append_row (ty := o.type) h hp h0 hl hn hbase
   exact ⟨v', w', hr, h2, Below.grown he h3 he.size (fun k hk => Nat.le_trans hb0 (h.block k hk).1)⟩
 obtain ⟨v', w', hr, h2, h3⟩ := key;unfold Oper.wp execOp;simp only [ho, resolve, invoke, builtin, Sem.run_bind, Sem.run_pure, Result.andThen_ok, List.map_toArray, List.map_cons, List.map_nil, hx, hy, hr];exact hKK _ _ (hK v' w' h2 h3)
end
theorem qsum_rev (f : Nat -> Rat) : ∀ n, qsum f (n + 1) = qsum (fun i => f (n - i)) (n + 1)
 | 0 => rfl
 | n + 1 => by
  rw [qsum_head (fun i => f (n + 1 - i)) (n + 1)]
  show qsum f (n + 1) + f (n + 1) = f (n + 1 - 0) + qsum (fun i => f (n + 1 - (i + 1))) (n + 1)
  rw [qsum_rev f n, Nat.sub_zero, qsum_congr (f := fun i => f (n + 1 - (i + 1))) (g := fun i => f (n - i)) _ (fun i _ => by rw [Nat.add_sub_add_right])]
  grind
theorem termQ_comm (a b : List Rat) (s : Nat) : qsum (termQ a b s) a.length = qsum (termQ b a s) b.length := by
 rw [termQ_all, termQ_all, qsum_rev];refine qsum_congr _ (fun i hi => ?_);unfold termQ;rw [if_pos (by omega), if_pos (by omega), show s - (s - i) = i by omega]
 grind
section
variable {w w' : World} {A B : Option Addr} {n c m d L M : Nat} {qs ps : List Rat}
set_option maxRecDepth 100000 in
theorem q_ShiftP {k : Nat} (h : Pol w A n c qs L) (hL2 : 2 <= L) (hL : L <= 400) (hn : n <= 400) (hk : k <= 400) : Calls Tryz.prog 65 #[.slice A n c, .int .i64 (k : Int)] w (RetPol (trimP (List.replicate k 0 ++ qs)) L w) := by
 go_enter Tryz.func65, Tryz.ntmps65
 go_wp2_with fail
 go_loopw [5, 6] (fun v i wr => ∃ j : Nat, j <= k /\ i = .int .i64 (j : Int) /\ Ext w wr /\ Row4 wr w.heap.size v (List.replicate j 0) L) (fun _ i _ => k - (intOf i).toNat)
 case atStart => exact ⟨0, Nat.zero_le _, rfl, Ext.refl w, Row4.nil _ _ _⟩
 case round =>
  obtain ⟨j, hj, rfl, extr, hrow⟩ := hrel
  by_cases hlt : j < k
  ·have hI : (j : Int) < (k : Int) := by omega
   have hlen : (List.replicate j (0 : Rat)).length <= 1000 := by rw [List.length_replicate]; omega
   go_wp2_with fail
   refine (q_zeroR).mono ?_;rintro e W5 ⟨s7, A7, n7, c7, t7, B7, m7, d7, rfl, h7, ext5⟩;have ha5 := (ext5).alloc (.cells #[.bool s7, .slice A7 n7 c7, .bool t7, .slice B7 m7 d7] 27);replace extr := extr.trans ha5;replace hrow := hrow.ext ha5;have h7' := (h7.le hL2).ext ((Ext.refl W5).alloc (.cells #[.bool s7, .slice A7 n7 c7, .bool t7, .slice B7 m7 d7] 27));clear ext5 ha5
   go_wp2_with (at_builtin; refine wpList_append_rat rfl _ _ rfl rfl rfl hrow h7' (Box.new W5 _ _) hlen extr.size ?_; intro v6 W6 hrow6 hgr hob)
   go_roundw
   case rel =>
    refine ⟨j + 1, by omega, by go_num, Below.grown extr hgr extr.size (fun k hk => (hrow.block k hk).1), ?_⟩;rw [List.replicate_succ'];exact hrow6
   case measure => simp [intOf]; omega
  ·have hkn : j = k := by omega
   subst hkn;have hI : (j : Int) <= (j : Int) := Int.le_refl _;have hlen : (List.replicate j (0 : Rat)).length <= 1000 := by rw [List.length_replicate]; omega
   go_wp2_with (at_builtin; refine wpList_append_row rfl _ _ rfl rfl rfl hrow (h.ext extr) hlen (by omega) extr.size extr (Nat.le_refl _) ?_; intro v6 W6 hrow6 ext6)
   obtain ⟨A6, n6, c6, rfl, hp6⟩ := hrow6.pol;have hn6 : n6 <= 800 := by rw [<- hp6.len, List.length_append, List.length_replicate, h.len]; omega
   refine (q_TrimP hp6 (by omega) (by omega)).mono ?_;rintro e V ⟨A8, n8, c8, rfl, h8, x8⟩
   go_wp2_with fail
   go_ret
   exact ⟨A8, n8, c8, rfl, h8, ext6.trans x8⟩
end
theorem atP_shift (k : Nat) (t : List Rat) (s : Nat) : atP (List.replicate k 0 ++ t) s = if k <= s then atP t (s - k) else 0 := by
 unfold atP
 by_cases h : k <= s
 ·rw [if_pos h, List.getD_eq_getElem?_getD, List.getElem?_append_right (by rw [List.length_replicate]; exact h), List.length_replicate, List.getD_eq_getElem?_getD]
 ·rw [if_neg h, List.getD_eq_getElem?_getD, List.getElem?_append_left (by rw [List.length_replicate]; omega), List.getElem?_replicate, if_pos (by omega)]
  rfl
theorem atP_scale (a : List Rat) (x : Rat) (i : Nat) : atP (scaleP a x) i = atP a i * x := by
 by_cases h : i < a.length
 ·rw [atP_lt (by unfold scaleP; simpa using h), atP_lt h]
  simp [scaleP]
 ·rw [atP_ge (by unfold scaleP; simpa using h), atP_ge (by omega)]
  show (0 : Rat) = 0 * x
  grind
section
variable {w w' : World} {A B : Option Addr} {n c m d L M : Nat} {qs ps : List Rat}
set_option maxRecDepth 100000 in
theorem q_MulP (h : Pol w A n c qs L) (h' : Pol w B m d ps M) (hL2 : 2 <= L) (hM2 : 2 <= M) (hK : 2 + m * (L + M + 1) <= 400) (hn : n <= 200) (hm : m <= 200) : Calls Tryz.prog 25 #[.slice A n c, .slice B m d] w (fun e w' => ∃ os, trimP os = os /\ (∀ s, atP os s = qsum (termQ ps qs s) m) /\ os.length <= n + m /\ RetPol os (2 + m * (L + M + 1)) w e w') := by
 have Hlen := Lib.hid h.len;have Hlen' := Lib.hid h'.len;have HK := Lib.hid hK;clear hK
 go_enter Tryz.func25, Tryz.ntmps25
 go_wp2_with fail
 go_loopw [5, 6] (fun v i wr => ∃ (k : Nat) (os : List Rat) (A5 : Option Addr) (n5 c5 : Nat), k <= m /\ i = .int .i64 (k : Int) /\ v = .slice A5 n5 c5 /\ Ext w wr /\ Pol wr A5 n5 c5 os (2 + k * (L + M + 1)) /\ trimP os = os /\ (∀ s, atP os s = qsum (termQ ps qs s) k) /\ os.length <= n + k) (fun _ i _ => m - (intOf i).toNat)
 case atStart => exact ⟨0, [], none, 0, 0, Nat.zero_le _, rfl, rfl, Ext.refl w, Pol.none _ _, rfl, fun s => rfl, Nat.zero_le _⟩
 case round =>
  obtain ⟨k, os, A5, n5, c5, hk, rfl, rfl, extr, hos, ht, hc, hl⟩ := hrel;have HT := Lib.hid ht;have HC := Lib.hid hc;have HL := Lib.hid hl;clear ht hc hl
  by_cases hlt : k < m
  ·have hI : (k : Int) < (m : Int) := by omega
   have hkl : k < ps.length := by rw [Hlen'.out]; exact hlt
   have HB := Lib.hid (show 2 + k * (L + M + 1) + (L + M) + 1 = 2 + (k + 1) * (L + M + 1) by rw [Nat.succ_mul]; omega);have HB2 := Lib.hid (show 2 + (k + 1) * (L + M + 1) <= 400 from Nat.le_trans (Nat.add_le_add_left (Nat.mul_le_mul_right _ hlt) 2) HK.out);obtain ⟨b, off, rfl, hr⟩ := (h'.ext extr).at_ (fun e => by rw [e] at hkl; exact absurd hkl (Nat.not_lt_zero _));obtain ⟨sy, Ay, ny, cy, ty, By, my, dy, e0, e1, e2, e3, hy⟩ := hr.at_ k hkl;have e0' : wr.cell? ⟨b, off + k * 4, none⟩ = some (.bool sy) := by rw [Nat.mul_comm]; exact e0
   have e1' : wr.cell? ⟨b, off + k * 4 + 1, none⟩ = some (.slice Ay ny cy) := by rw [Nat.mul_comm]; exact e1
   have e2' : wr.cell? ⟨b, off + k * 4 + 2, none⟩ = some (.bool ty) := by rw [Nat.mul_comm]; exact e2
   have e3' : wr.cell? ⟨b, off + k * 4 + 3, none⟩ = some (.slice By my dy) := by rw [Nat.mul_comm]; exact e3
   clear e0 e1 e2 e3;have HP := Lib.hid (show atP ps k = ps[k] from atP_lt hkl);generalize ps[k] = x at hy HP
   go_wp2_with fail
   refine (q_ScaleP (h.ext extr) hy (by have := HB2.out; have := HB.out; omega) (by have := HB2.out; have := HB.out; omega) (by omega)).mono ?_;rintro e V1 ⟨A1, n1, c1, rfl, h1, x1⟩
   have hn1 : n1 <= 200 := by
    rw [<- h1.len];have := trimP_len (scaleP qs x);rw [show (scaleP qs x).length = qs.length by unfold scaleP; simp, Hlen.out] at this;omega
   have HN1 := Lib.hid (show (trimP (scaleP qs x)).length <= n by
    have := trimP_len (scaleP qs x);rw [show (scaleP qs x).length = qs.length by unfold scaleP; simp, Hlen.out] at this;exact this)
   clear e0' e1' e2' e3'
   go_wp2_with fail
   refine (q_ShiftP (k := k) h1 (by omega) (by have := HB2.out; have := HB.out; omega) (by omega) (by omega)).mono ?_;rintro e V2 ⟨A2, n2, c2, rfl, h2, x2⟩
   have HN2 := Lib.hid (show (trimP (List.replicate k 0 ++ trimP (scaleP qs x))).length <= k + n by
    have := trimP_len (List.replicate k 0 ++ trimP (scaleP qs x));rw [List.length_append, List.length_replicate] at this;have := HN1.out;omega)
   have hn2 : n2 <= 400 := by rw [<- h2.len]; have := HN2.out; omega
   have hn5 : n5 <= 400 := by rw [<- hos.len]; have := HL.out; omega
   go_wp2_with fail
   refine (q_AddP (hos.ext (x1.trans x2)) h2 (by omega) (by omega) (by have := HB2.out; have := HB.out; omega) (by have := HB2.out; have := HB.out; omega) (by omega) (by omega)).mono ?_;rintro e V3 ⟨A3, n3, c3, rfl, h3, x3⟩;rw [HB.out] at h3;have ext3 := ((extr.trans x1).trans x2).trans x3
   go_wp2_with fail
   go_roundw
   case rel =>
    refine ⟨k + 1, _, A3, n3, c3, by omega, by go_num, rfl, ext3, h3, trimP_idem _, fun s => ?_, ?_⟩
    ·rw [atP_trimP, atP_sumP, HC.out, atP_trimP, atP_shift, atP_trimP, atP_scale]
     show _ = qsum (termQ ps qs s) k + termQ ps qs s k
     unfold termQ;rw [HP.out]
     split <;> grind
    ·have h8 := trimP_len (sumP os (trimP (List.replicate k 0 ++ trimP (scaleP qs x))))
     rw [sumP_len] at h8;have := HN2.out;have := HL.out;omega
   case measure => simp [intOf]; omega
  ·have hkn : k = m := by omega
   subst hkn;have hI : (k : Int) <= (k : Int) := Int.le_refl _
   go_wp2_with fail
   go_ret
   exact ⟨os, HT.out, HC.out, HL.out, A5, n5, c5, rfl, hos, extr⟩
end
end
section
open Go.RowKit
theorem last_cfI {l : List Int} : l.getLastD 0 = cfI l (l.length - 1) := by
 unfold cfI;rw [List.getLastD_eq_getLast?, List.getLast?_eq_getElem?, List.getD_eq_getElem?_getD]
theorem prodI_last {xs ys : List Int} (hx : xs ≠ []) (hy : ys ≠ []) : (prodI xs ys).length = xs.length + ys.length - 1 /\ cfI (prodI xs ys) (xs.length + ys.length - 2) = xs.getLastD 0 * ys.getLastD 0 := by
 have h1 := List.length_pos_iff.2 hx;have h2 := List.length_pos_iff.2 hy;refine ⟨?_, ?_⟩
 ·unfold prodI
  rw [if_neg (by omega)];unfold mulI;simp
 ·rw [prodI_coef, last_cfI, last_cfI]
  obtain ⟨l, hl⟩ : ∃ l, xs.length = l + 1 := ⟨xs.length - 1, by omega⟩;rw [hl]
  show psum (termI xs ys (l + 1 + ys.length - 2)) l + termI xs ys (l + 1 + ys.length - 2) l = _
  rw [psum_more (n := 0) (Nat.zero_le _) (fun i _ hi => by
   unfold termI;rw [if_pos (by omega), cfI_ge (l := ys) (by omega), Int.mul_zero])]
  unfold termI;rw [if_pos (by omega), show l + 1 + ys.length - 2 - l = ys.length - 1 by omega, show l + 1 - 1 = l by omega]
  show (0 : Int) + _ = _
  rw [Int.zero_add]
theorem prod_trim (qs ps : List Rat) : trimP ((prodI (trimI (numsP qs)) (trimI (numsP ps))).map (fun z => mkQ z (((denP qs : Nat) : Int) * ((denP ps : Nat) : Int)))) = (prodI (trimI (numsP qs)) (trimI (numsP ps))).map (fun z => mkQ z (((denP qs : Nat) : Int) * ((denP ps : Nat) : Int))) := by
 have hD : 0 < ((denP qs : Nat) : Int) * ((denP ps : Nat) : Int) := Int.mul_pos (by have := denP_pos qs; omega) (by have := denP_pos ps; omega)
 by_cases hx : trimI (numsP qs) = []
 ·rw [hx, show prodI [] (trimI (numsP ps)) = [] by simp [prodI]]; rfl
 by_cases hy : trimI (numsP ps) = []
 ·rw [hy, show prodI (trimI (numsP qs)) [] = [] by simp [prodI]]; rfl
 obtain ⟨h1, h2⟩ := prodI_last hx hy;have h3 := List.length_pos_iff.2 hx;have h4 := List.length_pos_iff.2 hy;have h5 : (trimI (numsP qs)).getLastD 0 * (trimI (numsP ps)).getLastD 0 ≠ 0 := Int.mul_ne_zero (trimI_last hx) (trimI_last hy);rw [<- h2] at h5;generalize prodI (trimI (numsP qs)) (trimI (numsP ps)) = l at h1 h5;generalize ((denP qs : Nat) : Int) * ((denP ps : Nat) : Int) = D at hD;have hl : 0 < l.length := by omega
 have hlast : (trimI (numsP qs)).length + (trimI (numsP ps)).length - 2 = l.length - 1 := by omega
 rw [hlast, cfI_lt (by omega)] at h5
 have e : l = l.take (l.length - 1) ++ [l[l.length - 1]] := by
  rw [<- List.take_succ_eq_append_getElem (by omega), show l.length - 1 + 1 = l.length by omega, List.take_length]
 generalize l[l.length - 1] = z at h5 e;rw [e, List.map_append]
 show trimP (_ ++ [mkQ z D]) = _ ++ [mkQ z D]
 refine trimP_snoc _ ?_;rw [mkQ_div hD];intro h0
 have h6 : ((z : Int) : Rat) ≠ 0 := by
  intro e1;exact h5 (by exact_mod_cast e1)
 have h7 : ((D : Int) : Rat) ≠ 0 := by
  intro e1;have : D = 0 := by exact_mod_cast e1
  omega
 grind
theorem prod_same {qs ps os : List Rat} (ht : trimP os = os) (hc : ∀ s, atP os s = qsum (termQ ps qs s) ps.length) : (prodI (trimI (numsP qs)) (trimI (numsP ps))).map (fun z => mkQ z (((denP qs : Nat) : Int) * ((denP ps : Nat) : Int))) = os := by
 rw [<- prod_trim, <- ht];refine trimP_ext (fun i => ?_);rw [mul_coef, hc, termQ_comm]
theorem Bnd.sum {qs ps : List Rat} {N D M E : Nat} (h : Bnd qs N D) (k : Bnd ps M E) (hD : 1 <= D) (hE : 1 <= E) : Bnd (trimP (sumP qs ps)) (N * E + M * D) (D * E) := Bnd.trim fun q hq => by
 unfold sumP at hq;obtain ⟨i, _, rfl⟩ := List.mem_map.1 hq;exact (h.at_ hD i).add (k.at_ hE i)
theorem Bnd.few2 {qs ps : List Rat} (h : Bnd qs B120 B120) (k : Bnd ps B120 B120) (hl : qs.length <= 8) (hl' : ps.length <= 8) : SizeP (trimP (sumP qs ps)) 61 := by
 have h1 := h.sum k (by decide +kernel) (by decide +kernel);have h2 := trimP_len (sumP qs ps);rw [sumP_len] at h2;exact sizeP_of h1 (by decide +kernel) (k := 8) (by omega) (by decide +kernel) (by decide +kernel)
theorem prodQ_trim (qs ps : List Rat) : trimP (prodQ qs ps) = prodQ qs ps := prod_trim qs ps
theorem prodQ_comm (qs ps : List Rat) : prodQ qs ps = prodQ ps qs := by
 rw [<- prodQ_trim qs, <- prodQ_trim ps];refine trimP_ext (fun s => ?_);rw [prodQ_at, prodQ_at, <- termQ_all, <- termQ_all, termQ_comm]
theorem prodQ_add (qs ps os : List Rat) : prodQ qs (trimP (sumP ps os)) = trimP (sumP (prodQ qs ps) (prodQ qs os)) := by
 rw [<- prodQ_trim qs (trimP (sumP ps os))];refine trimP_ext (fun s => ?_);rw [atP_sumP, prodQ_at, prodQ_at, prodQ_at, <- qsum_add];refine qsum_congr _ (fun i hi => ?_);unfold termQ;rw [if_pos (by omega), if_pos (by omega), if_pos (by omega), atP_trimP, atP_sumP]
 grind
section
variable {w w' : World} {A B : Option Addr} {n c m d L M : Nat} {qs ps : List Rat}
theorem q_MulQ (h : Pol w A n c qs L) (h' : Pol w B m d ps M) (hL2 : 2 <= L) (hM2 : 2 <= M) (hK : 2 + m * (L + M + 1) <= 400) (hn : n <= 200) (hm : m <= 200) : Calls Tryz.prog 25 #[.slice A n c, .slice B m d] w (RetPol (prodQ qs ps) (2 + m * (L + M + 1)) w) := by
 refine (q_MulP h h' hL2 hM2 hK hn hm).mono ?_;rintro e V ⟨os, h1, h2, _, hr⟩;have e1 : prodQ qs ps = os := prod_same h1 (fun s => by rw [h2 s, h'.len]);rw [e1];exact hr
end
end
section
open Go.RowKit
attribute [local go_sem ↓] Go.wp_at_zero Go.wp_at_succ
set_option maxRecDepth 100000 in
theorem mul4_no0 {w : World} {Aa : Option Addr} {na ca : Nat} {rs : List RawR} {Ab : Option Addr} {nb cb : Nat} {ss : List RawR} {Ac : Option Addr} {nc cc : Nat} {ts : List RawR} (hA : Awake4) (hT : Tab w) (h0 : RawP w Aa na ca rs) (h1 : RawP w Ab nb cb ss) (h2 : RawP w Ac nc cc ts) (hf0 : (smallB rs 8 && (smallB ss 8 && smallB ts 8)) = false) :
  Calls Tryz.prog 4 #[.slice Aa na ca, .slice Ab nb cb, .slice Ac nc cc] w fun e w' => e = .returned (.bool true) /\ Ext w w' := by
 have HF0 := Lib.hid hf0;clear hf0;have HA := Lib.hid hA;clear hA
 go_enter Tryz.func4, Tryz.ntmps4
 have extW := Ext.refl w
 go_wp2_with fail
 refine (HA.out _ (hT.ext extW)).mono ?_;rintro e W ⟨rfl, hxt⟩;replace extW := extW.trans hxt;clear hxt;have e1 := (Ext.refl W).alloc (.cells #[.slice Aa na ca, .slice Ab nb cb, .slice Ac nc cc] 22)
 go_wp2_with fail
 refine (few3_P (Box.new _ _ _) (h0.ext (extW.trans e1)) (h1.ext (extW.trans e1)) (h2.ext (extW.trans e1))).mono ?_;rintro e W1 ⟨rfl, hxt⟩;rw [HF0.out];replace extW := extW.trans (e1.trans hxt);clear e1 hxt
 go_wp2_with fail
 go_ret
 exact ⟨rfl, extW⟩
set_option maxRecDepth 100000 in
theorem mul4_yes {w : World} {Aa : Option Addr} {na ca : Nat} {rs : List RawR} {Ab : Option Addr} {nb cb : Nat} {ss : List RawR} {Ac : Option Addr} {nc cc : Nat} {ts : List RawR} (hA : Awake4) (hT : Tab w) (h0 : RawP w Aa na ca rs) (h1 : RawP w Ab nb cb ss) (h2 : RawP w Ac nc cc ts) (hf0 : (smallB rs 8 && (smallB ss 8 && smallB ts 8)) = true) :
  Calls Tryz.prog 4 #[.slice Aa na ca, .slice Ab nb cb, .slice Ac nc cc] w fun e w' => e = .returned (.bool true) /\ Ext w w' := by
 have hf' := hf0;simp only [smallB, Bool.and_eq_true, decide_eq_true_eq] at hf';obtain ⟨⟨l0, f0⟩, ⟨l1, f1⟩, l2, f2⟩ := hf';have p0 := h0.pol f0;have m0 : (rs.map RawR.q).length <= 8 := by rw [List.length_map]; exact l0
 have b0 := h0.bnd f0;generalize rs.map RawR.q = qa at p0 m0 b0;have n0 : na <= 8 := by rw [<- p0.len]; exact m0
 clear l0 f0;have p1 := h1.pol f1;have m1 : (ss.map RawR.q).length <= 8 := by rw [List.length_map]; exact l1
 have b1 := h1.bnd f1;generalize ss.map RawR.q = qb at p1 m1 b1;have n1 : nb <= 8 := by rw [<- p1.len]; exact m1
 clear l1 f1;have p2 := h2.pol f2;have m2 : (ts.map RawR.q).length <= 8 := by rw [List.length_map]; exact l2
 have b2 := h2.bnd f2;generalize ts.map RawR.q = qc at p2 m2 b2;have n2 : nc <= 8 := by rw [<- p2.len]; exact m2
 clear l2 f2;have HF0 := Lib.hid hf0;have HA := Lib.hid hA;clear hA
 go_enter Tryz.func4, Tryz.ntmps4
 have extW := Ext.refl w
 go_wp2_with fail
 refine (HA.out _ (hT.ext extW)).mono ?_;rintro e W ⟨rfl, hxt⟩;replace extW := extW.trans hxt;clear hxt;have e1 := (Ext.refl W).alloc (.cells #[.slice Aa na ca, .slice Ab nb cb, .slice Ac nc cc] 22)
 go_wp2_with fail
 refine (few3_P (Box.new _ _ _) (h0.ext (extW.trans e1)) (h1.ext (extW.trans e1)) (h2.ext (extW.trans e1))).mono ?_;rintro e W1 ⟨rfl, hxt⟩;rw [HF0.out];replace extW := extW.trans (e1.trans hxt);clear e1 hxt;replace p0 := p0.ext extW;replace p1 := p1.ext extW;replace p2 := p2.ext extW;have S0 : SizeP qa 30 := b0.few m0;have S1 : SizeP qb 30 := b1.few m1;have S2 : SizeP qc 30 := b2.few m2;have S3 : SizeP (trimP (sumP qb qc)) 61 := b1.few2 b2 m1 m2;have T0 : (prodQ qa qb).length <= 16 := by have := prodQ_len qa qb; omega
 have T1 : (trimP (sumP qb qc)).length <= 8 := by have := trimP_len (sumP qb qc); rw [sumP_len] at this; omega
 have T2 : (prodQ qa (trimP (sumP qb qc))).length <= 16 := by have := prodQ_len qa (trimP (sumP qb qc)); omega
 have T3 : (prodQ qb qa).length <= 16 := by have := prodQ_len qb qa; omega
 have T4 : (prodQ qa qc).length <= 16 := by have := prodQ_len qa qc; omega
 have T5 : (trimP (sumP (prodQ qa qb) (prodQ qa qc))).length <= 16 := by have := trimP_len (sumP (prodQ qa qb) (prodQ qa qc)); rw [sumP_len] at this; omega
 have E0 := Ext.refl W1
 go_wp2_with fail
 refine (own_P (p0.ext E0) (by omega)).mono ?_;rintro e wk0 ⟨A16_, n16_, c16_, rfl, o1, hx0⟩;have E1 := E0.trans hx0;clear E0 hx0;have u16 : n16_ <= 8 := by rw [<- o1.len]; exact m0
 go_wp2_with fail
 refine (own_P (p1.ext E1) (by omega)).mono ?_;rintro e wk1 ⟨A17_, n17_, c17_, rfl, o2, hx1⟩;replace o1 := o1.ext hx1;have E2 := E1.trans hx1;clear E1 hx1;have u17 : n17_ <= 8 := by rw [<- o2.len]; exact m1
 go_wp2_with fail
 refine (p_MulQ o1 o2 (by omega) (by omega) (by omega) (by omega) S0 S1 (by omega) (by omega) (by omega) (hT.ext (extW.trans E2))).mono ?_;rintro e wk2 ⟨A18_, n18_, c18_, rfl, x1, hx2⟩;clear o1 o2;have E3 := E2.trans hx2;clear E2 hx2;have u18 : n18_ <= 16 := by rw [<- x1.len]; exact T0
 go_wp2_with fail
 refine (own_P (p0.ext E3) (by omega)).mono ?_;rintro e wk3 ⟨A19_, n19_, c19_, rfl, o3, hx3⟩;replace x1 := x1.ext hx3;have E4 := E3.trans hx3;clear E3 hx3;have u19 : n19_ <= 8 := by rw [<- o3.len]; exact m0
 go_wp2_with fail
 refine (own_P (p1.ext E4) (by omega)).mono ?_;rintro e wk4 ⟨A20_, n20_, c20_, rfl, o4, hx4⟩;replace x1 := x1.ext hx4;replace o3 := o3.ext hx4;have E5 := E4.trans hx4;clear E4 hx4;have u20 : n20_ <= 8 := by rw [<- o4.len]; exact m1
 go_wp2_with fail
 refine (own_P (p2.ext E5) (by omega)).mono ?_;rintro e wk5 ⟨A21_, n21_, c21_, rfl, o5, hx5⟩;replace x1 := x1.ext hx5;replace o3 := o3.ext hx5;replace o4 := o4.ext hx5;have E6 := E5.trans hx5;clear E5 hx5;have u21 : n21_ <= 8 := by rw [<- o5.len]; exact m2
 go_wp2_with fail
 refine (p_AddP o4 o5 (by omega) (by omega) (by omega) (by omega) (hT.ext (extW.trans E6))).mono ?_;rintro e wk6 ⟨A22_, n22_, c22_, rfl, s1, hx6⟩;clear o4 o5;replace x1 := x1.ext hx6;replace o3 := o3.ext hx6;have E7 := E6.trans hx6;clear E6 hx6;have u22 : n22_ <= 8 := by rw [<- s1.len]; exact T1
 go_wp2_with fail
 refine (p_MulQ o3 s1 (by omega) (by omega) (by omega) (by omega) S0 S3 (by omega) (by omega) (by omega) (hT.ext (extW.trans E7))).mono ?_;rintro e wk7 ⟨A23_, n23_, c23_, rfl, y1, hx7⟩;clear o3 s1;replace x1 := x1.ext hx7;have E8 := E7.trans hx7;clear E7 hx7;have u23 : n23_ <= 16 := by rw [<- y1.len]; exact T2
 go_wp2_with fail
 refine (q_MulQ (p0.ext E8) (p1.ext E8) (by omega) (by omega) (by omega) (by omega) (by omega)).mono ?_;rintro e wk8 ⟨A24_, n24_, c24_, rfl, r1, hx8⟩;replace x1 := x1.ext hx8;replace y1 := y1.ext hx8;have E9 := E8.trans hx8;clear E8 hx8;have u24 : n24_ <= 16 := by rw [<- r1.len]; exact T0
 go_wp2_with fail
 refine (good_same x1 r1 rfl (by omega) (by omega) (by omega) (by omega) (by omega)).mono ?_;rintro e wk9 ⟨rfl, hx9⟩;clear r1;replace x1 := x1.ext hx9;replace y1 := y1.ext hx9;have E10 := E9.trans hx9;clear E9 hx9
 go_wp2_with fail
 refine (own_P (p1.ext E10) (by omega)).mono ?_;rintro e wk10 ⟨A25_, n25_, c25_, rfl, o6, hx10⟩;replace x1 := x1.ext hx10;replace y1 := y1.ext hx10;have E11 := E10.trans hx10;clear E10 hx10;have u25 : n25_ <= 8 := by rw [<- o6.len]; exact m1
 go_wp2_with fail
 refine (own_P (p0.ext E11) (by omega)).mono ?_;rintro e wk11 ⟨A26_, n26_, c26_, rfl, o7, hx11⟩;replace x1 := x1.ext hx11;replace y1 := y1.ext hx11;replace o6 := o6.ext hx11;have E12 := E11.trans hx11;clear E11 hx11;have u26 : n26_ <= 8 := by rw [<- o7.len]; exact m0
 go_wp2_with fail
 refine (p_MulQ o6 o7 (by omega) (by omega) (by omega) (by omega) S1 S0 (by omega) (by omega) (by omega) (hT.ext (extW.trans E12))).mono ?_;rintro e wk12 ⟨A27_, n27_, c27_, rfl, z1, hx12⟩;clear o6 o7;replace x1 := x1.ext hx12;replace y1 := y1.ext hx12;have E13 := E12.trans hx12;clear E12 hx12;have u27 : n27_ <= 16 := by rw [<- z1.len]; exact T3
 go_wp2_with fail
 refine (good_same z1 x1 (prodQ_comm qb qa) (by omega) (by omega) (by omega) (by omega) (by omega)).mono ?_;rintro e wk13 ⟨rfl, hx13⟩;clear z1;replace x1 := x1.ext hx13;replace y1 := y1.ext hx13;have E14 := E13.trans hx13;clear E13 hx13
 go_wp2_with fail
 refine (own_P (p0.ext E14) (by omega)).mono ?_;rintro e wk14 ⟨A28_, n28_, c28_, rfl, o8, hx14⟩;replace x1 := x1.ext hx14;replace y1 := y1.ext hx14;have E15 := E14.trans hx14;clear E14 hx14;have u28 : n28_ <= 8 := by rw [<- o8.len]; exact m0
 go_wp2_with fail
 refine (own_P (p2.ext E15) (by omega)).mono ?_;rintro e wk15 ⟨A29_, n29_, c29_, rfl, o9, hx15⟩;replace x1 := x1.ext hx15;replace y1 := y1.ext hx15;replace o8 := o8.ext hx15;have E16 := E15.trans hx15;clear E15 hx15;have u29 : n29_ <= 8 := by rw [<- o9.len]; exact m2
 go_wp2_with fail
 refine (p_MulQ o8 o9 (by omega) (by omega) (by omega) (by omega) S0 S2 (by omega) (by omega) (by omega) (hT.ext (extW.trans E16))).mono ?_;rintro e wk16 ⟨A30_, n30_, c30_, rfl, t1, hx16⟩;clear o8 o9;replace x1 := x1.ext hx16;replace y1 := y1.ext hx16;have E17 := E16.trans hx16;clear E16 hx16;have u30 : n30_ <= 16 := by rw [<- t1.len]; exact T4
 go_wp2_with fail
 refine (p_AddP x1 t1 (by omega) (by omega) (by omega) (by omega) (hT.ext (extW.trans E17))).mono ?_;rintro e wk17 ⟨A31_, n31_, c31_, rfl, u1, hx17⟩;clear x1 t1;replace y1 := y1.ext hx17;have E18 := E17.trans hx17;clear E17 hx17;have u31 : n31_ <= 16 := by rw [<- u1.len]; exact T5
 go_wp2_with fail
 refine (good_same y1 u1 (prodQ_add qa qb qc) (by omega) (by omega) (by omega) (by omega) (by omega)).mono ?_;rintro e wk18 ⟨rfl, hx18⟩;clear y1 u1;have E19 := E18.trans hx18;clear E18 hx18
 go_wp2_with fail
 go_ret
 exact ⟨rfl, extW.trans E19⟩
theorem mul4_any {w : World} {Aa : Option Addr} {na ca : Nat} {rs : List RawR} {Ab : Option Addr} {nb cb : Nat} {ss : List RawR} {Ac : Option Addr} {nc cc : Nat} {ts : List RawR} (hA : Awake4) (hT : Tab w) (h0 : RawP w Aa na ca rs) (h1 : RawP w Ab nb cb ss) (h2 : RawP w Ac nc cc ts) :
  Calls Tryz.prog 4 #[.slice Aa na ca, .slice Ab nb cb, .slice Ac nc cc] w fun e w' => e = .returned (.bool true) /\ Ext w w' := by
 by_cases hf0 : (smallB rs 8 && (smallB ss 8 && smallB ts 8)) = true
 ·exact mul4_yes hA hT h0 h1 h2 hf0
 ·exact mul4_no0 hA hT h0 h1 h2 (Bool.eq_false_iff.2 hf0)
end
section
open Go.ChangeShapes Go.WideShapes Go.ChangeAt Go.RowKit Go.Joins
set_option maxRecDepth 100000
theorem mul4_lifted (os : Os) (started : os.Started) (H : Type) (enc : TypeId × Value -> H) :
  ReturnsInHanded {} Tryz.checked os 4 .any (fun w args => (Rows.polynomialMulSpec.pre enc Tryz.prog Tryz.f4 [] false w args /\ laidMetH Tryz.prog laidI w) /\ sizedMet enc Tryz.prog Tryz.f4 (OpenSpec.ofChange Rows.polynomialMulSpec) false w args)
   (Rows.polynomialMulSpec.post enc Tryz.prog Tryz.f4 false true false false) := by
 refine returnsInHanded_of_change_and (C := Tryz.checked) (X := fun w _ => laidMetH Tryz.prog laidI w) (fun _ _ _ hh h => h.of_heap hh) Tryz.own started (by kernel_rfl) Tryz.func4
  (ChangeSpec.witness_shaped (enc := enc) (C := Tryz.checked) (os := os) (X := fun w _ => laidMetH Tryz.prog laidI w) false (World.doorLaid Tryz.prog 400 os) #[.slice none 0 0, .slice none 0 0, .slice none 0 0] 8 rfl (World.shaped_of_RefB (by kernel_rfl) (by kernel_rfl)) (by kernel_rfl) (by kernel_rfl) (by kernel_rfl) (doorI_met os _)) ?_
 intro W base args ds gs before hval0 hW _ _ hL _;have hval : ∀ (j : Nat) t v, Tryz.f4.params[j]? = some t -> args[j]? = some v -> Value.okWide Tryz.prog W .any base t v := hval0;have hW' := hW;have hlt : ∀ p ∈ before, p.block < W.heap.size := fun p hp => hW.lt p hp
 obtain ⟨p, q, hA0, hV, rfl, _, _⟩ := hW;have hA : DataW.TrodAll enc Tryz.prog W 0 (fun _ => true) true Tryz.f4.params.toList args.toList ds p := hA0;rw [Tryz.params4] at hA hval;obtain ⟨v0, v1, v2, d0, d1, d2, p0, p1, p2, rfl, rfl, rfl, h0, h1, h2⟩ := trodAll_three hA;obtain ⟨rfl, rfl⟩ := trodVars_none hV;simp only [List.append_nil] at hW' hlt;obtain ⟨A0, n0, c0, rs0, rfl, hr0⟩ := open_rats (hval 0 22 v0 rfl rfl) h0;obtain ⟨A1, n1, c1, rs1, rfl, hr1⟩ := open_rats (hval 1 22 v1 rfl rfl) h1;obtain ⟨A2, n2, c2, rs2, rfl, hr2⟩ := open_rats (hval 2 22 v2 rfl rfl) h2;clear hA0 hval0;have hT := tab_of_laidH hL;refine (mul4_any awake4 hT hr0 hr1 hr2).mono fun e W' ⟨he, hext⟩ => ?_
 subst he;have hb : Below W.heap.size W W' := hext;have g0 := Below.trod Tryz.laidOut (by kernel_rfl) (of_decide_eq_true (by kernel_rfl)) h0 hb (fun p hp => hlt p (List.mem_append.2 (.inl (List.mem_append.2 (.inl hp)))));have g1 := Below.trod Tryz.laidOut (by kernel_rfl) (of_decide_eq_true (by kernel_rfl)) h1 hb (fun p hp => hlt p (List.mem_append.2 (.inl (List.mem_append.2 (.inr hp)))));have g2 := Below.trod Tryz.laidOut (by kernel_rfl) (of_decide_eq_true (by kernel_rfl)) h2 hb (fun p hp => hlt p (List.mem_append.2 (.inr hp)));exact ⟨_, rfl, _, _, _, [], (p0 ++ (p1 ++ p2)), [], hW', trodAll_mk1 (shut_bool Tryz.underlying4 true), trodAll_mk3 g0 g1 g2, rfl, Below.frame hb _, fun h => by cases h⟩
theorem mul4_row_holds : Rows.PolynomialMulSaid :=
 OpenClaim.holds_of_wide 4 Tryz.f4 rfl rfl rfl rfl rfl rfl rfl ⟨rfl, rfl, rfl, rfl, rfl⟩ rfl rfl rfl rfl rfl (by kernel_rfl) Tryz.func4 (by kernel_rfl)
  (of_decide_eq_true (by kernel_rfl)) (by unfold Func.isWrapper; first | (rw [if_neg (of_decide_eq_false (by kernel_rfl))]; exact ⟨rfl, rfl⟩) | (rw [if_pos (by decide +kernel)]; kernel_rfl))
  (fun os started H enc _ => mul4_lifted os started H enc)
theorem mul4_holds : Rows.PolynomialMulCardSaid :=
 Claim7.holds_tied_plain_at .later [] [.data] true Rows.polynomialMulCard.stood.harness false
  mul4_row_holds (fun _ h => by cases h) (by kernel_rfl) (fun _ h => by cases h) polynomialMul_row_tie rfl ⟨rfl, rfl⟩ (by kernel_rfl) rfl
  (fun f fn hf hfn => by
   obtain rfl : f = 4 := Option.some.inj ((show Tryz.prog.funcNamed "setsquare/setsquarelaw04.PolynomialMul" = some 4 by kernel_rfl).symm.trans hf) |>.symm;obtain rfl : fn = Tryz.f4 := (Option.some.inj (Tryz.func4.symm.trans hfn)).symm
   exact ⟨by kernel_rfl, fun j t ht => by
    rw [Tryz.params4] at ht;have hm : t ∈ [22, 22, 22] := by simpa using Array.mem_of_getElem? ht
    have hall : ([22, 22, 22].all fun u => !Tryz.prog.wantsStandIn u) = true := by kernel_rfl
    exact (show Tryz.prog.wantsStandIn t = false by simpa using List.all_eq_true.1 hall t hm)⟩)
  (by kernel_rfl)
end
end Go.Proofs.YtpeddoaknfjbbaaGreatDoor
