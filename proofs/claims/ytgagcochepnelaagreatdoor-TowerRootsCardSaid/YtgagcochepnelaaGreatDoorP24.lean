/- For every tower with three elements the law TowerRoots returns true: the square of each root is its radicand, and the examples of the chapter hold. Condition: the table math/bits.deBruijn64tab holds what its initialiser lays (tied by the given card). -/
import Derived.Test.YtgagcochepnelaaGreatDoorP0
import Derived.Test.YtgagcochepnelaaGreatDoorP1
import Derived.Test.YtgagcochepnelaaGreatDoorP2
import Derived.Test.YtgagcochepnelaaGreatDoorP3
import Derived.Test.YtgagcochepnelaaGreatDoorP4
import Derived.Test.YtgagcochepnelaaGreatDoorP5
import Derived.Test.YtgagcochepnelaaGreatDoorP6
import Derived.Test.YtgagcochepnelaaGreatDoorP7
import Derived.Test.YtgagcochepnelaaGreatDoorP8
import Derived.Test.YtgagcochepnelaaGreatDoorP9
import Derived.Test.YtgagcochepnelaaGreatDoorP10
import Derived.Test.YtgagcochepnelaaGreatDoorP11
import Derived.Test.YtgagcochepnelaaGreatDoorP12
import Derived.Test.YtgagcochepnelaaGreatDoorP13
import Derived.Maps.AppendAt
import Derived.Test.YtgagcochepnelaaGreatDoorCards
import Derived.Test.YtgagcochepnelaaGreatDoorTie
import Derived.LaidMore
import Derived.OpenShut
import Derived.Lib.SmallJoins
import Derived.LaidLaws
import Derived.Deep.Slices
import Derived.Lib.LaidTab
import Derived.SevenTiedAt
import Derived.Stop.Joined
set_option linter.unusedSimpArgs false
set_option linter.unusedVariables false
set_option maxHeartbeats 64000000
namespace Go.Proofs.YtgagcochepnelaaGreatDoor
section
open Go.RowKit
theorem Tryz.infoRat : (Tryz.prog.info? 30).map (fun i => (i.zero, i.size, i.bytes)) = some (some (.agg #[.bool false, .slice none 0 0, .bool false, .slice none 0 0]), 4, 64) := by kernel_rfl
end
section
open Go.RowKit
attribute [local go_sem ↓] Go.wp_at_zero Go.wp_at_succ
theorem NI.le_pow {w : World} {z : Int} {L : Nat} {s : Bool} {A : Option Addr} {n c : Nat} (h : NI w z L s A n c) : z.natAbs <= 4294967296 ^ L := by
 obtain ⟨xs, h1, h2, h3, h4, h5, h6⟩ := h.out;rw [<- h5.abs];exact Nat.le_trans (Nat.le_of_lt (val_lt h5.w32)) (Nat.pow_le_pow_right (by omega) (by omega))
section
variable {w : World} {L n : Nat}
def lenS : Value -> Nat
 | .slice _ n _ => n
 | _ => 0
end
section
variable {w w' : World} {base L : Nat} {v : Value} {qs ps : List Rat} {A : Option Addr} {n c : Nat}
theorem run_append_row {ty : TypeId} (h : Row4 w base v qs L) (hp : Pol w A n c ps L) (h0 : 0 < n) (hl : qs.length <= 1000) (hn : n <= 1000) (hbase : base <= w.heap.size) :
  ∃ v' w', (Builtin.append_ #[23, 23] ty #[v, .slice A n c]).run Tryz.prog w = .ok v' w' /\ Row4 w' base v' (qs ++ ps) L /\ w.grownBy w' v.ownBlock /\ (v'.ownBlock = v.ownBlock \/ v'.ownBlock = some w.heap.size) := by
 obtain ⟨i0, hi, hz0, hz1, hz2⟩ := info_partsB Tryz.infoR;obtain ⟨cs, h1, h2⟩ := h.own;have hne : ps ≠ [] := fun e => by have := hp.len; rw [e] at this; simp at this; omega
 obtain ⟨b, off, rfl, hrat⟩ := hp.at_ hne;obtain ⟨ds, k1, k2⟩ := hrat.list;have hdl : ds.length = n * 4 := by rw [k1.len, hp.len]
 rw [<- hz1] at h1
 obtain ⟨v', w', hr, j1, j2, j3, j4⟩ := run_append_nw (P := Tryz.prog) (ty := ty) (c := c) Tryz.underlying23 hi hz0 hz2 (by rw [hz1]; rfl) (by omega) (by
  intro u hu k e;simp [Value.cells] at hu
  rcases hu with rfl | rfl | rfl | rfl <;> cases e) h1 h.nwb (m := n) (by rw [hz1]; exact hdl) (fun j u hj => k2 j u hj) k1.one k1.nwl h0 (by unfold maxLen; omega) (by omega) hbase
 rw [hz1] at j1;refine ⟨v', w', hr, ⟨⟨cs ++ ds, ?_, (h2.own h.nwb j2).append (k1.own h.nwb j2)⟩, j4⟩, j2, j3⟩;rw [List.length_append, hp.len];exact j1
theorem run_append_row0 {ty : TypeId} (h : Row4 w base v qs L) :
  (Builtin.append_ #[23, 23] ty #[v, .slice A 0 c]).run Tryz.prog w = .ok v w := by
 have hq := Tryz.infoRat
 cases hi : Tryz.prog.info? 30 with
 | none => rw [hi] at hq; cases hq
 | some i =>
 rw [hi] at hq;simp only [Option.map_some, Option.some.injEq, Prod.mk.injEq] at hq;obtain ⟨cs, h1, h2⟩ := h.own
 rcases h1.2 with ⟨rfl, h0⟩ | ⟨g, cap, cur, rfl, hbg, hg, hnc, hcm, hcs, htake⟩
 ·cases A with
  | none => simp [Builtin.append_, run_underlying Tryz.underlying23, sizeOf, typeInfo, hi, Builtin.lenOf, Builtin.firstCells]
  | some ad => simp [Builtin.append_, run_underlying Tryz.underlying23, sizeOf, typeInfo, hi, Builtin.lenOf, Builtin.firstCells, loadCells, loadCellsFrom]
 ·cases A with
  | none => simp [Builtin.append_, run_underlying Tryz.underlying23, sizeOf, typeInfo, hi, Builtin.lenOf, Builtin.firstCells, storeCells, hnc]
  | some ad => simp [Builtin.append_, run_underlying Tryz.underlying23, sizeOf, typeInfo, hi, Builtin.lenOf, Builtin.firstCells, loadCells, loadCellsFrom, storeCells, hnc]
theorem wpList_append_row {w0 : World} {ops : Array Oper} {rest : List Oper} {o : Oper} {a : Act} {Q : Exit -> Act -> World -> Prop} (hgd : o.guard = none) (x y : Operand)
  (ho : o.op = .call { callee := .builtin .append, args := #[x, y], argTypes := #[23, 23] })
  (hx : a.eval x = v) (hy : a.eval y = .slice A n c)
  (h : Row4 w base v qs L) (hp : Pol w A n c ps L) (hl : qs.length <= 1000) (hn : n <= 1000) (hbase : base <= w.heap.size) (he : Ext w0 w) (hb0 : w0.heap.size <= base)
  (hK : ∀ v' w', Row4 w' base v' (qs ++ ps) L -> Ext w0 w' -> wpList Tryz.prog ops Q rest (a.put o.dst v') w') :
  wpList Tryz.prog ops Q (o :: rest) a w := by
 refine wpList_plain hgd fun K hKK => ?_
 have key : ∃ v' w', (Builtin.append_ #[23, 23] o.type #[v, .slice A n c]).run Tryz.prog w = .ok v' w' /\ Row4 w' base v' (qs ++ ps) L /\ Ext w0 w' := by
  rcases Nat.eq_zero_or_pos n with h0 | h0
  ·subst h0
   have hps : ps = [] := List.eq_nil_of_length_eq_zero hp.len;subst hps;exact ⟨v, w, run_append_row0 h, by rw [List.append_nil]; exact h, he⟩
  ·obtain ⟨v', w', hr, h2, h3, _⟩ := run_append_row (ty := o.type) h hp h0 hl hn hbase
   exact ⟨v', w', hr, h2, Below.grown he h3 he.size (fun k hk => Nat.le_trans hb0 (h.block k hk).1)⟩
 obtain ⟨v', w', hr, h2, h3⟩ := key;unfold Oper.wp execOp;simp only [ho, resolve, invoke, builtin, Sem.run_bind, Sem.run_pure, Result.andThen_ok, List.map_toArray, List.map_cons, List.map_nil, hx, hy, hr];exact hKK _ _ (hK v' w' h2 h3)
end
section
variable {w w' : World} {q x : Rat} {L M : Nat} {s t : Bool} {A B : Option Addr} {n c m d : Nat} {sx tx : Bool} {Ax Bx : Option Addr} {nx cx mx dx : Nat} {qs ps : List Rat} {rs : List RawR} {ts us : List (List RawR)}
def rightB (ts : List (List RawR)) (a b c : List RawR) : Bool := fewB4 ts [a, b, c] && (formedB ts [a] && (formedB ts [b] && formedB ts [c]))
theorem fewB4_parts {ts : List (List RawR)} {a b c : List RawR} (h : fewB4 ts [a, b, c] = true) : ts.length <= 4 /\ (∀ l ∈ ts, l.length <= 16 /\ l.all (fun r => r.le 4) = true) /\ (a.length <= 16 /\ a.all (fun r => r.le 4) = true) /\ (b.length <= 16 /\ b.all (fun r => r.le 4) = true) /\ (c.length <= 16 /\ c.all (fun r => r.le 4) = true) := by
 unfold fewB4 fewL at h;rw [Bool.and_eq_true, decide_eq_true_eq, List.all_eq_true] at h
 have hp : ∀ l ∈ ts ++ [a, b, c], l.length <= 16 /\ l.all (fun r => r.le 4) = true := fun l hl => by
  have := h.2 l hl;rw [Bool.and_eq_true, decide_eq_true_eq] at this;exact this
 exact ⟨h.1, fun l hl => hp l (List.mem_append_left _ hl), hp a (by simp), hp b (by simp), hp c (by simp)⟩
theorem RawT.three {g : Nat} {T : TypeId} {D : Option Addr} {l e : Nat} {r1 r2 r3 : List RawR} (hb : Box w g T #[.slice A n c, .slice B m d, .slice D l e]) (h : RawP w A n c r1) (h' : RawP w B m d r2) (h'' : RawP w D l e r3) : RawT w (some ⟨g, 0, .none⟩) 3 3 [r1, r2, r3] :=
 ⟨rfl, Nat.le_refl _, by unfold maxLen; omega, fun _ => ⟨g, 0, rfl, fun i hi => by
  have hi' : i = 0 \/ i = 1 \/ i = 2 := by simp at hi; omega
  rcases hi' with rfl | rfl | rfl
  ·exact ⟨A, n, c, hb.cell 0 _ rfl, h⟩
  ·exact ⟨B, m, d, hb.cell 1 _ rfl, h'⟩
  ·exact ⟨D, l, e, hb.cell 2 _ rfl, h''⟩⟩⟩
theorem p_rightL {A1 A2 A3 : Option Addr} {n1 c1 n2 c2 n3 c3 : Nat} {r1 r2 r3 : List RawR} (h : RawT w A n c ts) (h1 : RawP w A1 n1 c1 r1) (h2 : RawP w A2 n2 c2 r2) (h3 : RawP w A3 n3 c3 r3) :
  Calls Tryz.prog 32 #[.agg #[.slice A n c, .slice A1 n1 c1, .slice A2 n2 c2, .slice A3 n3 c3]] w fun e w' => e = .returned (.bool (rightB ts r1 r2 r3)) /\ Ext w w' := by
 have hsz := World.size_alloc w (.cells #[.slice A n c, .slice A1 n1 c1, .slice A2 n2 c2, .slice A3 n3 c3] 25)
 go_enter Tryz.func32, Tryz.ntmps32
 go_upto_region 1 with (fail)
 obtain ⟨W, hW, EW, bx, hz⟩ := box1 w 25 #[.slice A n c, .slice A1 n1 c1, .slice A2 n2 c2, .slice A3 n3 c3];rw [<- hW];clear hW hz hsz;have hnb := Box.new W 23 #[.slice A1 n1 c1, .slice A2 n2 c2, .slice A3 n3 c3];have e1 := (Ext.refl W).alloc (.cells #[.slice A1 n1 c1, .slice A2 n2 c2, .slice A3 n3 c3] 23);have x0 := bx.cell 0 (.slice A n c) rfl;have x1 := bx.cell 1 (.slice A1 n1 c1) rfl;have x2 := bx.cell 2 (.slice A2 n2 c2) rfl;have x3 := bx.cell 3 (.slice A3 n3 c3) rfl
 go_wp2_with fail
 refine (q_FewT (h.ext (EW.trans e1)) (RawT.three hnb (h1.ext (EW.trans e1)) (h2.ext (EW.trans e1)) (h3.ext (EW.trans e1))) (by omega)).mono ?_;rintro e V ⟨rfl, hx⟩;clear x0 x1 x2 x3 hnb;replace EW := EW.trans (e1.trans hx);replace bx := bx.ext (e1.trans hx);clear e1 hx
 cases hf : fewB4 ts [r1, r2, r3] with
 | false =>
  have HF := Lib.hid hf;clear hf
  go_wp2_with fail
  go_ret
  exact ⟨by unfold rightB; rw [HF.out]; rfl, EW⟩
 | true =>
  obtain ⟨p0, p1, p2, p3, p4⟩ := fewB4_parts hf;have HF := Lib.hid hf;have hn4 : n <= 16 := by rw [<- h.len]; omega
  have hr : ∀ l ∈ ts, l.all (fun r => r.le 1000) = true := fun l hl => le_1000 (p1 l hl).2
  have hrl : ∀ l ∈ ts, l.length <= 100000 := fun l hl => Nat.le_trans (p1 l hl).1 (by omega)
  have q1 := le_1000 p2.2;have q2 := le_1000 p3.2;have q3 := le_1000 p4.2;have m1 : n1 <= 16 := by rw [<- h1.len]; exact p2.1
  have m2 : n2 <= 16 := by rw [<- h2.len]; exact p3.1
  have m3 : n3 <= 16 := by rw [<- h3.len]; exact p4.1
  clear hf p0 p1 p2 p3 p4;have x0 := bx.cell 0 (.slice A n c) rfl;have x1 := bx.cell 1 (.slice A1 n1 c1) rfl
  go_wp2_with fail
  refine (q_FormedT (h.ext EW) (h1.ext EW) hn4 (by omega) hr hrl q1).mono ?_;rintro e V2 ⟨rfl, hx⟩;clear x0 x1;replace EW := EW.trans hx;replace bx := bx.ext hx;clear hx
  cases hf1 : formedB ts [r1] with
  | false =>
   have H1 := Lib.hid hf1;clear hf1
   go_wp2_with fail
   go_ret
   exact ⟨by unfold rightB; rw [HF.out, H1.out]; rfl, EW⟩
  | true =>
   have H1 := Lib.hid hf1;clear hf1;have x0 := bx.cell 0 (.slice A n c) rfl;have x2 := bx.cell 2 (.slice A2 n2 c2) rfl
   go_wp2_with fail
   refine (q_FormedT (h.ext EW) (h2.ext EW) hn4 (by omega) hr hrl q2).mono ?_;rintro e V3 ⟨rfl, hx⟩;clear x0 x2;replace EW := EW.trans hx;replace bx := bx.ext hx;clear hx
   cases hf2 : formedB ts [r2] with
   | false =>
    have H2 := Lib.hid hf2;clear hf2
    go_wp2_with fail
    go_ret
    exact ⟨by unfold rightB; rw [HF.out, H1.out, H2.out]; rfl, EW⟩
   | true =>
    have H2 := Lib.hid hf2;clear hf2;have x0 := bx.cell 0 (.slice A n c) rfl;have x3 := bx.cell 3 (.slice A3 n3 c3) rfl
    go_wp2_with fail
    refine (q_FormedT (h.ext EW) (h3.ext EW) hn4 (by omega) hr hrl q3).mono ?_;rintro e V4 ⟨rfl, hx⟩
    go_wp2_with fail
    go_ret
    exact ⟨by unfold rightB; rw [HF.out, H1.out, H2.out]; rfl, EW.trans hx⟩
end
section
variable {w w' : World} {A A1 A2 A3 : Option Addr} {n c n1 c1 n2 c2 n3 c3 L : Nat} {qs : List Rat} {ts : List (List RawR)} {r1 r2 r3 : List RawR}
theorem NR.sm {q : Rat} {s t : Bool} {B : Option Addr} {m d : Nat} (h : NR w q 4 s A n c t B m d) : SmQ q := ⟨h.num.le_pow, by have := h.den.le_pow; rw [Int.natAbs_natCast] at this; exact this⟩
theorem Pol.sm (h : Pol w A n c qs 4) : ∀ q ∈ qs, SmQ q := by
 intro q hq;obtain ⟨i, hi, rfl⟩ := List.getElem_of_mem hq;obtain ⟨b, off, _, h2⟩ := h.at_ (fun e => by subst e; exact absurd hi (Nat.not_lt_zero _));obtain ⟨_, _, _, _, _, _, _, _, _, _, _, _, hx⟩ := h2.at_ i hi;exact hx.sm
theorem PolT.sm {T : List (List Rat)} (h : PolT w A n c T 4) : ∀ r ∈ T, ∀ q ∈ r, SmQ q := by
 intro r hr;obtain ⟨i, hi, rfl⟩ := List.getElem_of_mem hr;obtain ⟨b, off, _, h2⟩ := h.at_ (fun e => by subst e; exact absurd hi (Nat.not_lt_zero _));obtain ⟨_, _, _, _, hp⟩ := h2 i hi;exact hp.sm
theorem formed_bundle (h : RawT w A n c ts) (h1 : RawP w A1 n1 c1 r1) (hf : formedB ts [r1] = true) (l4 : ∀ l ∈ ts, l.all (fun r => r.le L) = true) (k4 : r1.all (fun r => r.le L) = true) :
  PolT w A n c (ts.map fun l => l.map RawR.q) L /\ TowL (ts.map fun l => l.map RawR.q) /\ Pol w A1 n1 c1 (r1.map RawR.q) L /\ n1 = 2 ^ n := by
 unfold formedB at hf;rw [Bool.and_eq_true] at hf;obtain ⟨f1, f2⟩ := hf;have f3 := towerB_at ts 0 f1;simp only [List.all_cons, List.all_nil, Bool.and_true] at f2;obtain ⟨g1, g2⟩ := validL_parts f2;refine ⟨h.polT (fun l hl => ?_) l4, fun i hi => ?_, h1.polV g2 k4, ?_⟩
 ·obtain ⟨i, hi, rfl⟩ := List.getElem_of_mem hl
  exact (validL_parts (f3 i hi)).2
 ·rw [List.length_map] at hi
  rw [List.getElem_map, List.length_map, (validL_parts (f3 i hi)).1, Nat.zero_add]
 ·rw [<- h1.len, g1, h.len]
theorem right_bundle (h : RawT w A n c ts) (h1 : RawP w A1 n1 c1 r1) (h2 : RawP w A2 n2 c2 r2) (h3 : RawP w A3 n3 c3 r3) (hr : rightB ts r1 r2 r3 = true) :
  ∃ T qa qb qc, PolT w A n c T 4 /\ TowL T /\ n <= 4 /\ (Pol w A1 n1 c1 qa 4 /\ n1 = 2 ^ n) /\ (Pol w A2 n2 c2 qb 4 /\ n2 = 2 ^ n) /\ (Pol w A3 n3 c3 qc 4 /\ n3 = 2 ^ n) := by
 unfold rightB at hr;simp only [Bool.and_eq_true] at hr;obtain ⟨f0, f1, f2, f3⟩ := hr;obtain ⟨p0, p1, p2, p3, p4⟩ := fewB4_parts f0;have l4 : ∀ l ∈ ts, l.all (fun r => r.le 4) = true := fun l hl => (p1 l hl).2
 obtain ⟨a1, a2, a3, a4⟩ := formed_bundle h h1 f1 l4 p2.2;obtain ⟨_, _, b3, b4⟩ := formed_bundle h h2 f2 l4 p3.2;obtain ⟨_, _, c3, c4⟩ := formed_bundle h h3 f3 l4 p4.2;exact ⟨_, _, _, _, a1, a2, by rw [<- h.len]; exact p0, ⟨a3, a4⟩, ⟨b3, b4⟩, ⟨c3, c4⟩⟩
end
end
section
open Go.ChangeShapes Go.WideShapes Go.ChangeAt Go.RowKit Go.Joins
section
variable {H : Type} {enc : TypeId × Value -> H} {W : World} {base : Nat} {held : Bool}
set_option maxRecDepth 100000 in
theorem open_case {r : Reach} {b0 : Nat} {v : Value} {d : DataW H} {p : List MemPlace} (hv : Value.okWide Tryz.prog W r b0 25 v) (h : DataW.Trod enc Tryz.prog W base (fun _ => true) held 25 v d p) :
  ∃ A n c A1 n1 c1 A2 n2 c2 A3 n3 c3 ts r1 r2 r3, v = .agg #[.slice A n c, .slice A1 n1 c1, .slice A2 n2 c2, .slice A3 n3 c3] /\ RawT W A n c ts /\ RawP W A1 n1 c1 r1 /\ RawP W A2 n2 c2 r2 /\ RawP W A3 n3 c3 r3 := by
 obtain ⟨v0, v1, v2, v3, y0, y1, y2, y3, n, rfl, _, _, h0, h1, h2, h3⟩ := open_agg4 Tryz.underlying25 (by kernel_rfl) (by kernel_rfl) hv h;obtain ⟨A, n, c, ts, rfl, g⟩ := open_ratss h0;obtain ⟨A1, n1, c1, r1, rfl, g1⟩ := open_ratsc h1;obtain ⟨A2, n2, c2, r2, rfl, g2⟩ := open_ratsc h2;obtain ⟨A3, n3, c3, r3, rfl, g3⟩ := open_ratsc h3;exact ⟨A, n, c, A1, n1, c1, A2, n2, c2, A3, n3, c3, ts, r1, r2, r3, rfl, g, g1, g2, g3⟩
end
end
section
open Go.RowKit
attribute [local go_sem ↓] Go.wp_at_zero Go.wp_at_succ
section
variable {w w' : World} {q x : Rat} {L M : Nat} {s t : Bool} {A B : Option Addr} {n c m d : Nat} {sx tx : Bool} {Ax Bx : Option Addr} {nx cx mx dx : Nat} {qs ps : List Rat} {rs : List RawR} {ts us : List (List RawR)}
set_option maxRecDepth 100000 in
theorem q_LiftT {k N : Nat} (h : Pol w A n c qs L) (hL : 2 <= L) (hn0 : 0 < n) (hN : N = n * 2 ^ k) (hN1 : N <= 64) (hk : k <= 16) : Calls Tryz.prog 41 #[.slice A n c, .int .i64 (k : Int)] w (RetPol (qs ++ List.replicate (N - n) 0) L w) := by
 have hW2 : wrap64 ((n : Int) * (2 : Int) ^ k) = (N : Int) := by
  have e1 : ((n : Int) * (2 : Int) ^ k) = ((n * 2 ^ k : Nat) : Int) := by push_cast; rfl
  rw [e1, <- hN];unfold wrap64;omega
 have hnN : n <= N := by rw [hN]; exact Nat.le_mul_of_pos_right _ (Nat.pow_pos (by omega))
 have hql := h.len;have HQL := Lib.hid hql;clear hN hql;have hR0 : Row4 (w.alloc (.cells #[] 30)) w.heap.size (.slice (some ⟨w.heap.size, 0, Option.none⟩) 0 0) [] L := RRow.row4 ⟨[], Box.new w _ _, .nil⟩ (Nat.le_refl _) rfl (by omega);have hE0 := (Ext.refl w).alloc (.cells #[] 30)
 go_enter Tryz.func41, Tryz.ntmps41
 go_wp2_with (at_builtin; refine wpList_append_row rfl _ _ rfl rfl rfl hR0 (h.ext hE0) (by simp) (by omega) hE0.size hE0 (Nat.le_refl _) ?_; intro v1 W1 hrow1 extr1)
 rw [List.nil_append] at hrow1
 have hv1 : lenS v1 = n + 0 := by
  obtain ⟨g5, cap5, e5, _⟩ := hrow1.shape (fun e => by have := HQL.out; rw [e] at this; simp at this; omega);rw [e5];simp only [lenS];rw [HQL.out]
  rfl
 go_loopw [5] (fun v wr => ∃ j : Nat, n + j <= N /\ Ext w wr /\ lenS v = n + j /\ Row4 wr w.heap.size v (qs ++ List.replicate j 0) L) (fun v _ => N - lenS v)
 case atStart => exact ⟨0, by omega, extr1, hv1, by rw [List.replicate_zero, List.append_nil]; exact hrow1⟩
 case round =>
  clear hR0 hE0 hrow1 extr1 hv1;obtain ⟨j, hk1, extr, hlv, hrow⟩ := hrel;have hlq : (qs ++ List.replicate j (0 : Rat)).length = n + j := by rw [List.length_append, List.length_replicate, HQL.out]
  obtain ⟨g5, cap5, rfl, _⟩ := hrow.shape (fun e => by rw [e] at hlq; simp at hlq; omega);rw [hlq] at hrow ⊢;have HLQ := Lib.hid hlq;clear hlv hlq
  by_cases hlt : n + j < N
  ·have hkI : ((n + j : Nat) : Int) < (N : Int) := by omega
   have hkJ : (n : Int) + (j : Int) < (N : Int) := by omega
   go_wp2_with fail
   refine (q_FromIntR 0 (by omega) (by omega)).mono ?_;rintro e W5 ⟨s7, A7, n7, c7, t7, B7, m7, d7, rfl, h7, ext5⟩;have ha5 := (ext5).alloc (.cells #[.bool s7, .slice A7 n7 c7, .bool t7, .slice B7 m7 d7] 30);replace extr := extr.trans ha5;replace hrow := hrow.ext ha5;replace h7 := (h7.ext ((Ext.refl W5).alloc (.cells #[.bool s7, .slice A7 n7 c7, .bool t7, .slice B7 m7 d7] 30))).le hL;clear ext5 ha5;have hlen : (qs ++ List.replicate j (0 : Rat)).length <= 1000 := by rw [HLQ.out]; omega
   go_wp2_with (at_builtin; refine wpList_append_rat rfl _ _ rfl rfl rfl hrow h7 (Box.new W5 _ _) hlen extr.size ?_; intro v6 W6 hrow6 hgr hob)
   have hl6 : (qs ++ List.replicate j (0 : Rat)) ++ [((0 : Int) : Rat)] = qs ++ List.replicate (j + 1) 0 := by
    rw [List.replicate_succ', List.append_assoc]
    rfl
   rw [hl6] at hrow6;have hl8 : (qs ++ List.replicate (j + 1) (0 : Rat)).length = n + (j + 1) := by rw [List.length_append, List.length_replicate, HQL.out]
   obtain ⟨g6, cap6, e6, _⟩ := hrow6.shape (fun e => by rw [e] at hl8; simp at hl8);have hl7 : lenS v6 = n + (j + 1) := by rw [e6]; simp only [lenS]; exact hl8
   clear hl8
   go_roundw
   case rel => exact ⟨j + 1, by omega, Below.grown extr hgr extr.size (fun k hk => (hrow.block k hk).1), hl7, hrow6⟩
   case measure => rw [hl7]; simp only [lenS]; omega
  ·have hkI : (N : Int) <= ((n + j : Nat) : Int) := by omega
   have hkJ : (N : Int) <= (n : Int) + (j : Int) := by omega
   obtain ⟨A9, n9, c9, e9, hp⟩ := hrow.polT
   injection e9 with e1 e2 e3
   subst e1 e2 e3;have hkP : j = N - n := by omega
   go_wp2_with fail
   go_ret
   rw [<- hkP];exact ⟨_, _, _, rfl, hp, extr⟩
end
theorem addL_zero {n : Nat} {c : List Rat} (hc : c.length = n) : addL (List.replicate n 0) c = c := by
 refine List.ext_getElem (by rw [addL_len List.length_replicate hc, hc]) fun i h1 h2 => ?_
 simp [addL, Rat.zero_add]
theorem root_sq {T : List (List Rat)} (ht : TowL T) {i : Nat} (hi : i < T.length) : mulL (radQ T) T.length ((List.replicate (2 ^ T.length) 0).set (2 ^ i) 1) ((List.replicate (2 ^ T.length) 0).set (2 ^ i) 1) = T[i] ++ List.replicate (2 ^ T.length - 2 ^ i) 0 := by
 have h0 : 0 < 2 ^ i := Nat.pow_pos (by omega);have hle : 2 ^ (i + 1) <= 2 ^ T.length := Nat.pow_le_pow_right (by omega) (by omega);have h2 := two_pow_s i
 have e1 : (List.replicate (2 ^ T.length) (0 : Rat)).set (2 ^ i) 1 = (List.replicate (2 ^ i) 0 ++ (1 :: List.replicate (2 ^ i - 1) 0)) ++ List.replicate (2 ^ T.length - 2 ^ (i + 1)) 0 := by
  have e : List.replicate (2 ^ T.length) (0 : Rat) = List.replicate (2 ^ i) 0 ++ (0 :: (List.replicate (2 ^ i - 1) 0 ++ List.replicate (2 ^ T.length - 2 ^ (i + 1)) 0)) := by
   rw [List.replicate_append_replicate, <- List.replicate_succ, List.replicate_append_replicate]
   congr 1
   omega
  rw [e, List.set_append_right _ _ (by rw [List.length_replicate]; omega), List.length_replicate, Nat.sub_self, List.set_cons_zero, List.append_assoc]
  rfl
 have lo : (1 :: List.replicate (2 ^ i - 1) (0 : Rat)).length = 2 ^ i := by rw [List.length_cons, List.length_replicate]; omega
 have lr : (List.replicate (2 ^ i) (0 : Rat) ++ (1 :: List.replicate (2 ^ i - 1) 0)).length = 2 ^ (i + 1) := by rw [List.length_append, List.length_replicate, lo]; omega
 obtain ⟨j, hj⟩ : ∃ j, T.length = (i + 1) + j := ⟨T.length - (i + 1), by omega⟩
 have hone : ∀ c : List Rat, c.length = 2 ^ i -> mulL (radQ T) i (1 :: List.replicate (2 ^ i - 1) 0) c = c := by
  intro c hc;rw [mul_const (radQ_len ht) lo hc (by unfold zeroB; rw [List.all_eq_true]; intro q hq; rw [List.eq_of_mem_replicate hq]; rfl)]
  conv => rhs; rw [<- List.map_id c]
  exact List.map_congr_left fun x _ => Rat.one_mul x
 have hT : T[i].length = 2 ^ i := ht i hi;rw [e1];have hu := mulL_up (radQ_len ht) (k := i + 1) lr lr j;rw [<- hj] at hu;rw [hu, mulL]
 have t1 : (List.replicate (2 ^ i) (0 : Rat) ++ (1 :: List.replicate (2 ^ i - 1) 0)).take (2 ^ i) = List.replicate (2 ^ i) 0 := by
  rw [List.take_append_of_le_length (by rw [List.length_replicate]; omega), List.take_of_length_le (by rw [List.length_replicate]; omega)]
 have t2 : (List.replicate (2 ^ i) (0 : Rat) ++ (1 :: List.replicate (2 ^ i - 1) 0)).drop (2 ^ i) = 1 :: List.replicate (2 ^ i - 1) 0 := by
  have := List.drop_left (l₁ := List.replicate (2 ^ i) (0 : Rat)) (l₂ := 1 :: List.replicate (2 ^ i - 1) 0);rw [List.length_replicate] at this;exact this
 rw [t1, t2, mulL_zero_left (radQ_len ht) List.length_replicate, hone _ lo, hone _ (radQ_len ht i), mulL_zero_left (radQ_len ht) lo, hone _ List.length_replicate, addL_zero (radQ_len ht i), addL_zero List.length_replicate, radQ_at hi, List.append_assoc, List.replicate_append_replicate]
 congr 2
 omega
theorem bd_01 {qs : List Rat} (h : ∀ q ∈ qs, q = 0 \/ q = 1) : BdQ 0 0 qs :=
 ⟨fun q hq => by rcases h q hq with rfl | rfl <;> decide, 1, Nat.one_pos, Nat.le_refl _, fun q hq => by rcases h q hq with rfl | rfl <;> decide⟩
theorem root_01 {n i : Nat} : ∀ q ∈ (List.replicate n (0 : Rat)).set i 1, q = 0 \/ q = 1 := fun q hq => by
 rcases List.mem_or_eq_of_mem_set hq with h | h
 ·exact Or.inl (List.eq_of_mem_replicate h)
 ·exact Or.inr h
set_option maxRecDepth 100000 in
theorem roots6_any {w : World} {A A1 A2 A3 : Option Addr} {n c n1 c1 n2 c2 n3 c3 : Nat} {ts : List (List RawR)} {r1 r2 r3 : List RawR} (hA : Awake6) (hT : Tab w) (h : RawT w A n c ts) (h1 : RawP w A1 n1 c1 r1) (h2 : RawP w A2 n2 c2 r2) (h3 : RawP w A3 n3 c3 r3) :
  Calls Tryz.prog 8 #[.agg #[.slice A n c, .slice A1 n1 c1, .slice A2 n2 c2, .slice A3 n3 c3]] w (fun e w' => e = .returned (.bool true) /\ Ext w w') := by
 go_enter Tryz.func8, Tryz.ntmps8
 go_upto_region 1 with (fail)
 obtain ⟨W, hW, EW, bx, hz⟩ := box1 w 25 #[.slice A n c, .slice A1 n1 c1, .slice A2 n2 c2, .slice A3 n3 c3];rw [<- hW];clear hW hz;have HA := Lib.hid hA;clear hA
 go_wp2_with fail
 refine (HA.out _ (hT.ext EW)).mono ?_;rintro e V1 ⟨rfl, hx⟩;replace bx := bx.ext hx;replace EW := EW.trans hx;clear hx;have x0 := bx.cell 0 (.slice A n c) rfl;have x1 := bx.cell 1 (.slice A1 n1 c1) rfl;have x2 := bx.cell 2 (.slice A2 n2 c2) rfl;have x3 := bx.cell 3 (.slice A3 n3 c3) rfl
 go_wp2_with fail
 refine (p_rightL (h.ext EW) (h1.ext EW) (h2.ext EW) (h3.ext EW)).mono ?_;rintro e V2 ⟨rfl, hx⟩;replace bx := bx.ext hx;replace EW := EW.trans hx;clear hx x0 x1 x2 x3
 cases hrb : rightB ts r1 r2 r3 with
 | false =>
  go_wp2_with fail
  refine (HA.out _ (hT.ext EW)).mono ?_;rintro e V3 ⟨rfl, hx⟩
  go_wp2_with fail
  go_ret
  exact ⟨rfl, EW.trans hx⟩
 | true =>
  obtain ⟨T, qa, qb, qc, hp, ht, hn4, ⟨ha, ha2⟩, ⟨hb, hb2⟩, ⟨hc, hc2⟩⟩ := right_bundle h h1 h2 h3 hrb;have HN1 := Lib.hid ha2;have HN2 := Lib.hid hb2;have HN3 := Lib.hid hc2;have hm1 : n1 <= 16 := by rw [ha2]; exact (m_few n (by omega)).2.2.2.2.2.2
  have hm2 : n2 <= 16 := by rw [hb2]; exact (m_few n (by omega)).2.2.2.2.2.2
  have hm3 : n3 <= 16 := by rw [hc2]; exact (m_few n (by omega)).2.2.2.2.2.2
  replace hp := hp.ext EW;replace ha := ha.ext EW;replace hb := hb.ext EW;replace hc := hc.ext EW;clear h h1 h2 h3 hrb ha2 hb2 hc2;clear ha hb hc HN1 HN2 HN3 hm1 hm2 hm3;have HTLn := Lib.hid hp.len;have HSM := Lib.hid hp.sm;have HN64 := Lib.hid (show 2 ^ n <= 64 from Nat.le_trans (m_few n (by omega)).2.2.2.2.2.2 (by omega));have hcap := hp.cap;have x0 := bx.cell 0 (.slice A n c) rfl
  go_wp2_with fail
  go_loopw [16] (fun i wr => ∃ k : Nat, k <= n /\ i = .int .i64 (k : Int) /\ Ext V2 wr) (fun i _ => n - (intOf i).toNat)
  case atStart => exact ⟨0, Nat.zero_le _, rfl, Ext.refl _⟩
  case round =>
   clear x0;obtain ⟨k, hk, rfl, ext⟩ := hrel
   by_cases hlt : k < n
   ·have hj : k < T.length := by rw [HTLn.out]; exact hlt
    have hI : (k : Int) < (n : Int) := by omega
    have hWs : IntKind.i64.wrap ((n : Int) - (k : Int)) = ((n - k : Nat) : Int) := by rw [IntWalk.i64_in _ (by omega)]; omega
    obtain ⟨b, off, rfl, hat⟩ := hp.at_ (fun e => by rw [e] at hj; exact absurd hj (Nat.not_lt_zero _));obtain ⟨At, nt, ct, e0, hti⟩ := hat k hj;have HTL2 := Lib.hid (show 2 ^ n - nt = 2 ^ n - 2 ^ k by rw [<- hti.len, ht k hj]);have HNN := Lib.hid (show 2 ^ n = nt * 2 ^ (n - k) by rw [<- hti.len, ht k hj, <- Nat.pow_add]; congr 1; omega);have HI0 := Lib.hid (show 0 < nt by rw [<- hti.len, ht k hj]; exact Nat.pow_pos (by omega));have HRL := Lib.hid (show T[k].length <= 64 by rw [ht k hj]; exact Nat.le_trans (Nat.pow_le_pow_right (by omega) hk) HN64.out);have hsq := root_sq ht hj;rw [HTLn.out] at hsq;have HSQ := Lib.hid hsq;clear hsq;generalize T[k] = r at hti HSQ HRL;have x0 := (bx.ext ext).cell 0 (.slice (some ⟨b, off, Option.none⟩) n c) rfl
    go_wp2_with fail
    refine (p_RootT (hp.ext ext) ht k hlt (by omega) (by omega) (hT.ext (EW.trans ext))).mono ?_;rintro e V4 ⟨A7, n7, c7, rfl, hr, hx4⟩;have HR2 := Lib.hid (show n7 = 2 ^ n by rw [<- hr.len, List.length_set, List.length_replicate]);replace ext := ext.trans hx4;replace e0 := ext.cellv e0;clear x0 hx4
    go_upto_region 7 with (fail)
    replace bx := bx.ext ext;have ES0 := Ext.refl V4;refine wp_region_held_drew (S := Ext V4) (by kernel_rfl) ES0.drew (fun ES => ?_);clear ES0;refine Late.s0 ES (fun hAl hQ => ?_);refine Late.u 0 23 hQ ?_
    try simp only [zP]
    refine Late.u 2 25 hQ ?_
    try simp only [zP]
    refine Late.u 3 26 hQ ?_
    try simp only [zP]
    refine Late.u 5 28 hQ ?_
    try simp only [zP]
    refine Late.u 7 30 hQ ?_
    try simp only [zP]
    refine Late.u 10 33 hQ ?_
    try simp only [zP]
    refine Late.u 13 36 hQ ?_
    try simp only [zP]
    refine Late.t 1 24 ?v_7 hQ ?y_7 ?_
    case y_7 => intro w' hSw;have q0_ := hSw.cellv e0;have k00 := (bx.ext hSw).c4;go_simp;try rfl
    try simp only [zP]
    refine Late.t 6 29 ?v_8 hQ ?y_8 ?_
    case y_8 => intro w' hSw;have q0_ := hSw.cellv e0;have k00 := (bx.ext hSw).c4;go_simp;try rfl
    try simp only [zP]
    refine Late.t 11 34 ?v_9 hQ ?y_9 ?_
    case y_9 => intro w' hSw;have q0_ := hSw.cellv e0;have k00 := (bx.ext hSw).c4;go_simp;try rfl
    try simp only [zP]
    refine Late.u 8 31 hQ ?_
    try simp only [zP]
    refine Late.u 12 35 hQ ?_
    try simp only [zP]
    refine Late.t 9 32 ?v_c hQ ?y_c ?_
    case y_c => intro w' hSw;have q0_ := hSw.cellv e0;have k00 := (bx.ext hSw).c4;go_simp;try rfl
    try simp only [zP]
    refine Late.u 14 37 hQ ?_
    try simp only [zP]
    refine Late.cl (i := 4) rfl hAl hQ (fun w4 e4 E4 K hK => ?_);go_simp
    (go_at_call 23; refine (p_MulT (u1 := 0) (v1 := 0) (u2 := 0) (v2 := 0) (hp.ext (ext.trans E4)) ht HSM.out hn4 (hr.ext E4) HR2.out (hr.ext E4) HR2.out (by omega) (by omega) (by omega) (bd_01 root_01) (bd_01 root_01) (by omega) (hT.ext (EW.trans (ext.trans E4)))).mono ?_; rintro e wk4 ⟨A8, n8, c8, rfl, hmu, hx4⟩)
    refine hK.out _ _ hx4 ?_;clear hK K
    try simp only [zP]
    refine Late.cl (i := 15) rfl hAl hQ (fun w15 e15 E15 K hK => ?_);go_simp
    (replace hmu := hmu.ext e15; go_at_call 41; refine (q_LiftT (N := 2 ^ n) (hti.ext (ext.trans E15)) (by omega) HI0.out HNN.out HN64.out (by omega)).mono ?_; rintro e wk15 ⟨A9, n9, c9, rfl, hli, hx15⟩; replace hmu := hmu.ext hx15; rw [HSQ.out] at hmu; rw [HTL2.out] at hli)
    refine hK.out _ _ hx15 ?_;clear hK K
    try simp only [zP]
    refine Late.cl (i := 16) rfl hAl hQ (fun w16 e16 E16 K hK => ?_);go_simp
    (replace hmu := hmu.ext e16; replace hli := hli.ext e16; go_at_call 19; refine (q_SameT hmu hli (by omega) (by omega) (by rw [<- hmu.len, List.length_append, List.length_replicate]; exact Nat.le_trans (Nat.add_le_add HRL.out (Nat.le_trans (Nat.sub_le _ _) HN64.out)) (by omega))).mono ?_; rintro e wk16 ⟨rfl, hx16⟩; replace hmu := hmu.ext hx16; replace hli := hli.ext hx16)
    refine hK.out _ _ hx16 ?_;clear hK K
    try simp only [zP]
    refine Late.u 17 40 hQ ?_
    try simp only [zP]
    refine Late.d0 (fun wz ez Ez => ?_);clear hAl hQ ES
    go_wp2_with fail
    go_roundw
    case rel => exact ⟨k + 1, by omega, by go_num, ext.trans Ez⟩
    case measure => simp [intOf]; omega
   ·have hI : (n : Int) <= (k : Int) := by omega
    go_wp2_with fail
    go_ret
    exact ⟨rfl, EW.trans ext⟩
end
section
open Go.ChangeShapes Go.WideShapes Go.ChangeAt Go.RowKit Go.Joins
set_option maxRecDepth 100000
theorem roots6_lifted (os : Os) (started : os.Started) (H : Type) (enc : TypeId × Value -> H) :
  ReturnsInHanded {} Tryz.checked os 8 .any (fun w args => (Rows.towerRootsSpec.pre enc Tryz.prog Tryz.f8 [] false w args /\ laidMetH Tryz.prog laidI w) /\ sizedMet enc Tryz.prog Tryz.f8 (OpenSpec.ofChange Rows.towerRootsSpec) false w args)
   (Rows.towerRootsSpec.post enc Tryz.prog Tryz.f8 false true false false) := by
 refine returnsInHanded_of_change_and (C := Tryz.checked) (X := fun w _ => laidMetH Tryz.prog laidI w) (fun _ _ _ hh h => h.of_heap hh) Tryz.own started (by kernel_rfl) Tryz.func8
  (ChangeSpec.witness_shaped (enc := enc) (C := Tryz.checked) (os := os) (X := fun w _ => laidMetH Tryz.prog laidI w) false (World.doorLaid Tryz.prog 400 os) #[Value.agg #[Value.slice none 0 0, Value.slice none 0 0, Value.slice none 0 0, Value.slice none 0 0]] 8 rfl (World.shaped_of_RefB (by kernel_rfl) (by kernel_rfl)) (by kernel_rfl) (by kernel_rfl) (by kernel_rfl) (doorI_met os _)) ?_
 intro W base args ds gs before hval0 hW _ _ hL _;have hval : ∀ (j : Nat) t v, Tryz.f8.params[j]? = some t -> args[j]? = some v -> Value.okWide Tryz.prog W .any base t v := hval0;have hW' := hW;have hlt : ∀ p ∈ before, p.block < W.heap.size := fun p hp => hW.lt p hp
 obtain ⟨p, q, hA0, hV, rfl, _, _⟩ := hW;have hA : DataW.TrodAll enc Tryz.prog W 0 (fun _ => true) true Tryz.f8.params.toList args.toList ds p := hA0;rw [Tryz.params8] at hA hval;obtain ⟨v0, d0, rfl, rfl, h0⟩ := trodAll_one hA;obtain ⟨rfl, rfl⟩ := trodVars_none hV;simp only [List.append_nil] at hW' hlt;obtain ⟨A, n, c, A1, n1, c1, A2, n2, c2, A3, n3, c3, ts, r1, r2, r3, rfl, hr0, hr1, hr2, hr3⟩ := open_case (hval 0 25 v0 rfl rfl) h0;clear hA0 hval0;have hT := tab_of_laidH hL;refine (roots6_any awake6 hT hr0 hr1 hr2 hr3).mono fun e W' ⟨he, hext⟩ => ?_
 subst he;have hb : Below W.heap.size W W' := hext;have g0 := Below.trod Tryz.laidOut (by kernel_rfl) (of_decide_eq_true (by kernel_rfl)) h0 hb (fun p hp => hlt p hp);exact ⟨_, rfl, _, _, _, [], p, [], hW', trodAll_mk1 (shut_bool Tryz.underlying4 true), trodAll_mk1 g0, rfl, Below.frame hb _, fun h => by cases h⟩
theorem roots6_row_holds : Rows.TowerRootsSaid :=
 OpenClaim.holds_of_wide 8 Tryz.f8 rfl rfl rfl rfl rfl rfl rfl ⟨rfl, rfl, rfl, rfl, rfl⟩ rfl rfl rfl rfl rfl (by kernel_rfl) Tryz.func8 (by kernel_rfl)
  (of_decide_eq_true (by kernel_rfl)) (by unfold Func.isWrapper; first | (rw [if_neg (of_decide_eq_false (by kernel_rfl))]; exact ⟨rfl, rfl⟩) | (rw [if_pos (by decide +kernel)]; kernel_rfl))
  (fun os started H enc _ => roots6_lifted os started H enc)
theorem roots6_holds : Rows.TowerRootsCardSaid :=
 Claim7.holds_tied_plain_at .later [] [.data] true Rows.towerRootsCard.stood.harness false
  roots6_row_holds (fun _ h => by cases h) (by kernel_rfl) (fun _ h => by cases h) towerRoots_row_tie rfl ⟨rfl, rfl⟩ (by kernel_rfl) rfl
  (fun f fn hf hfn => by
   obtain rfl : f = 8 := Option.some.inj ((show Tryz.prog.funcNamed "setsquare/setsquarelaw06.TowerRoots" = some 8 by kernel_rfl).symm.trans hf) |>.symm;obtain rfl : fn = Tryz.f8 := (Option.some.inj (Tryz.func8.symm.trans hfn)).symm
   exact ⟨by kernel_rfl, fun j t ht => by
    rw [Tryz.params8] at ht;have hm : t ∈ [25] := by simpa using Array.mem_of_getElem? ht
    have hall : ([25].all fun u => !Tryz.prog.wantsStandIn u) = true := by kernel_rfl
    exact (show Tryz.prog.wantsStandIn t = false by simpa using List.all_eq_true.1 hall t hm)⟩)
  (by kernel_rfl)
end
end Go.Proofs.YtgagcochepnelaaGreatDoor
