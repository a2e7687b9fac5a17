/- Walks and laws, a part. -/
import Derived.Test.YtijdljfnmdoffaaGreatDoorP9
import Derived.Test.YtijdljfnmdoffaaGreatDoorP7
import Derived.Test.YtijdljfnmdoffaaGreatDoorP8
import Derived.Test.YtijdljfnmdoffaaGreatDoorP5
import Derived.Test.YtijdljfnmdoffaaGreatDoorP0
import Derived.Test.YtijdljfnmdoffaaGreatDoorP6
import Derived.Maps.AppendAt
set_option linter.unusedSimpArgs false
set_option linter.unusedVariables false
set_option maxHeartbeats 64000000
namespace Go.Proofs.YtijdljfnmdoffaaGreatDoor
section
open Go.RowKit
def ringR (ts : List (List Rat)) : List (List Int) × List Int :=
 ts.foldl (fun g r => (g.1 ++ [(numsP (partL r g.2)).map (· * ((denP (partL r g.2) : Nat) : Int))], g.2 ++ g.2.map (· * ((denP (partL r g.2) : Nat) : Int)))) ([], [1])
theorem ringR_snoc (ts : List (List Rat)) (r : List Rat) : ringR (ts ++ [r]) = ((ringR ts).1 ++ [(numsP (partL r (ringR ts).2)).map (· * ((denP (partL r (ringR ts).2) : Nat) : Int))], (ringR ts).2 ++ (ringR ts).2.map (· * ((denP (partL r (ringR ts).2) : Nat) : Int))) := by
 unfold ringR;rw [List.foldl_append]
 rfl
theorem ringR_take {ts : List (List Rat)} (ht : TowL ts) : ∀ k, k <= ts.length -> (ringR (ts.take k)).1.length = k /\ (ringR (ts.take k)).2.length = 2 ^ k /\ (∀ f ∈ (ringR (ts.take k)).2, 0 < f) /\ (∀ R ∈ (ringR (ts.take k)).1, R ≠ []) /\ TowI (ringR (ts.take k)).1 := by
 intro k
 induction k with
 | zero =>
  intro _;rw [List.take_zero];refine ⟨rfl, rfl, ?_, ?_, ?_⟩
  ·intro f hf
   rw [List.mem_singleton.1 hf]
   decide
  ·intro R hR
   cases hR
  ·intro i hi
   cases hi
 | succ k ih =>
  intro hk;obtain ⟨h1, h2, h3, h4, h5⟩ := ih (by omega);have hj : k < ts.length := by omega
  have hl := ht k hj;rw [List.take_succ_eq_append_getElem hj, ringR_snoc];generalize ts[k] = r at hl;generalize ringR (ts.take k) = G at h1 h2 h3 h4 h5
  have hn : ((numsP (partL r G.2)).map (· * ((denP (partL r G.2) : Nat) : Int))).length = 2 ^ k := by
   rw [List.length_map, numsP_len];unfold partL;rw [List.length_zipWith, hl, h2, Nat.min_self]
  refine ⟨by simp [h1], by rw [List.length_append, List.length_map, h2, Nat.pow_succ]; omega, ?_, ?_, ?_⟩
  ·intro f hf
   rcases List.mem_append.1 hf with hf | hf
   ·exact h3 f hf
   ·obtain ⟨g, hg, rfl⟩ := List.mem_map.1 hf
    exact Int.mul_pos (h3 g hg) (by have := denP_pos (partL r G.2); omega)
  ·intro R hR
   rcases List.mem_append.1 hR with hR | hR
   ·exact h4 R hR
   ·rw [List.mem_singleton.1 hR]
    intro e;rw [e] at hn;have := Nat.pow_pos (n := k) (show 0 < 2 by omega);simp at hn;omega
  ·intro i hi
   rcases Nat.lt_or_ge i k with hik | hik
   ·rw [List.getElem_append_left (by omega)]
    exact h5 i (by omega)
   ·simp only [List.length_append, List.length_singleton] at hi
    have e : i = k := by omega
    subst e;rw [List.getElem_append_right (by omega)];simp only [h1, Nat.sub_self, List.getElem_cons_zero];exact hn
theorem grownC (w : World) (a : Addr) (u : Value) : w.grownBy (w.setCell a u) (some a.block) :=
 ⟨rfl, rfl, rfl, by simp, fun k _ hk => heap_setCell_other w a k u (fun e => hk (by rw [e]))⟩
def Off (v : Value) (A : Option Addr) : Prop := ∀ a, A = some a -> v.ownBlock ≠ some a.block
structure RowO (w : World) (base : Nat) (v : Value) (Rs : List (List Int)) (L : Nat) (f : Value) : Prop where
 own : ∃ cs, w.ownsRow base 70 1 v Rs.length cs /\ SCells w L Rs cs /\ ∀ A n c, Value.slice A n c ∈ cs -> Off f A
 nsb : NSB w v
section
variable {w w' : World} {base L M : Nat} {v v0 f f' : Value} {Rs : List (List Int)} {zs ys : List Int} {A B : Option Addr} {n c m d : Nat} {cs : List Value}
theorem owns_lt {b sz n : Nat} {e : TypeId} {xs : List Value} (h : w.ownsRow b e sz v n xs) : ∀ g, v.ownBlock = some g -> g < w.heap.size := by
 intro g hg
 rcases h.2 with ⟨rfl, _⟩ | ⟨g1, cap, cur, rfl, _, h1, _⟩
 ·cases hg
 ·injection hg with hg
  subst hg
  rcases Nat.lt_or_ge g1 w.heap.size with j | j
  ·exact j
  ·rw [Array.getElem?_eq_none j] at h1
   cases h1
theorem owns_ne {b b' sz sz' n n' : Nat} {e e' : TypeId} {xs xs' : List Value} (h : w.ownsRow b e sz v n xs) (h' : w.ownsRow b' e' sz' v0 n' xs') (he : e ≠ e') : ∀ g, v.ownBlock = some g -> v0.ownBlock ≠ some g := by
 intro g hg hg'
 rcases h.2 with ⟨rfl, _⟩ | ⟨g1, cap, cur, rfl, _, h1, _⟩
 ·cases hg
 rcases h'.2 with ⟨rfl, _⟩ | ⟨g2, cap2, cur2, rfl, _, h2, _⟩
 ·cases hg'
 injection hg with hg
 injection hg' with hg'
 have e2 : g1 = g2 := hg.trans hg'.symm;subst e2;rw [h1] at h2
 injection h2 with h2
 injection h2 with _ h3
 exact he h3
theorem owns_box {b sz n g : Nat} {e T : TypeId} {xs : List Value} {bs : Array Value} (h : w.ownsRow b e sz v n xs) (hb : Box w g T bs) (he : e ≠ T) : v.ownBlock ≠ some g := by
 intro hg
 rcases h.2 with ⟨rfl, _⟩ | ⟨g1, cap, cur, rfl, _, h1, _⟩
 ·cases hg
 injection hg with hg
 have e2 : g1 = g := hg;subst e2;unfold Box at hb;rw [h1] at hb
 injection hb with h2
 injection h2 with _ h3
 exact he h3
theorem owns_far {b sz n : Nat} {e : TypeId} {xs : List Value} {row : Option Nat} (h : w.ownsRow b e sz v n xs) (k : w.grownBy w' row) (hne : ∀ g, v.ownBlock = some g -> row ≠ some g) : w'.ownsRow b e sz v n xs := by
 have hlt := owns_lt h;refine ⟨h.1, h.2.imp id ?_⟩;rintro ⟨g, cap, cur, hv, hb, hh, h1⟩;have hg : v.ownBlock = some g := by rw [hv]; rfl
 exact ⟨g, cap, cur, hv, hb, (k.block g (hlt g hg) (fun e => hne g hg e.symm)).trans hh, h1⟩
theorem RowO.lt (h : RowO w base v Rs L f) : ∀ g, v.ownBlock = some g -> base <= g /\ g < w.heap.size := by
 intro g hg;obtain ⟨cs, h1, _⟩ := h.own;exact ⟨owns_block h1 g hg, owns_lt h1 g hg⟩
theorem RowO.ext (h : RowO w base v Rs L f) (e : Ext w w') : RowO w' base v Rs L f := by
 obtain ⟨cs, h1, h2, h3⟩ := h.own;exact ⟨⟨cs, owns_ext h1 e, h2.ext e, h3⟩, h.nsb.ext e⟩
theorem RowO.nil (w : World) (base L : Nat) (f : Value) : RowO w base (.slice Option.none 0 0) [] L f := ⟨⟨[], owns_nil _ _ _ _, .nil, fun _ _ _ h => by cases h⟩, fun g hg => by cases hg⟩
theorem RowO.ownN (h : RowO w base v Rs L f) (hv : NSB w v0) (k : w.grownBy w' v0.ownBlock) (hne : ∀ g, v.ownBlock = some g -> v0.ownBlock ≠ some g) : RowO w' base v Rs L f := by
 obtain ⟨cs, h1, h2, h3⟩ := h.own;refine ⟨⟨cs, owns_far h1 k hne, h2.own hv k, h3⟩, ?_⟩;intro g hg;obtain ⟨cur, e, fz, q1, q2⟩ := h.nsb g hg;exact ⟨cur, e, fz, (k.block g (owns_lt h1 g hg) (fun e => hne g hg e.symm)).trans q1, q2⟩
theorem Row2.ownN (h : Row2 w base v zs L) (hv : NSB w v0) (k : w.grownBy w' v0.ownBlock) (hne : ∀ g, v.ownBlock = some g -> v0.ownBlock ≠ some g) : Row2 w' base v zs L := by
 obtain ⟨cs, h1, h2⟩ := h.own;refine ⟨⟨cs, owns_far h1 k hne, h2.own hv.nwb k⟩, ?_⟩;intro g hg;obtain ⟨cur, e, fz, q1, q2⟩ := h.nwb g hg;exact ⟨cur, e, fz, (k.block g (owns_lt h1 g hg) (fun e => hne g hg e.symm)).trans q1, q2⟩
theorem IPol.ownR (h : IPol w A n c zs L) (hv : NWB w v) (k : w.grownBy w' v.ownBlock) (ho : Off v A) : IPol w' A n c zs L := by
 refine ⟨h.len, h.cap, h.top, fun hq => ?_⟩;obtain ⟨b, off, h1, h2⟩ := h.at_ hq;refine ⟨b, off, h1, ⟨fun i hi => ?_⟩⟩;obtain ⟨s, A', n', c', e0, e1, hx⟩ := h2.at_ i hi;have hne : v.ownBlock ≠ some b := ho _ h1
 have hc : ∀ o u, w.cell? ⟨b, o, Option.none⟩ = some u -> w'.cell? ⟨b, o, Option.none⟩ = some u := fun o u hu => by
  have hlt := cell_lt hu;rw [World.cell?_of_block (k.block b hlt (fun e => hne e.symm)), hu]
 exact ⟨s, A', n', c', hc _ _ e0, hc _ _ e1, hx.own hv k⟩
theorem SCells.ownR (h : SCells w L Rs cs) (hv : NWB w v) (k : w.grownBy w' v.ownBlock) (ho : ∀ A n c, Value.slice A n c ∈ cs -> Off v A) : SCells w' L Rs cs := by
 induction h with
 | nil => exact .nil
 | cons h _ ih => exact .cons (h.ownR hv k (ho _ _ _ List.mem_cons_self)) (ih (fun A n c hm => ho A n c (List.mem_cons_of_mem _ hm)))
theorem SCells.lt (h : SCells w L Rs cs) (hR : ∀ R ∈ Rs, R ≠ []) : ∀ A n c, Value.slice A n c ∈ cs -> ∀ a, A = some a -> a.block < w.heap.size := by
 induction h with
 | nil => intro A n c hm; cases hm
 | @cons zs Rs A0 n0 c0 cs0 h _ ih =>
  intro A n c hm a ha
  rcases List.mem_cons.1 hm with e | hm
  ·injection e with e1
   subst e1;have hz := hR zs List.mem_cons_self;obtain ⟨b, off, h1, h2⟩ := h.at_ hz;rw [h1] at ha
   injection ha with ha
   subst ha;obtain ⟨s, A', n', c', e0, _⟩ := h2.at_ 0 (List.length_pos_iff.2 hz);exact cell_lt e0
  ·exact ih (fun R hr => hR R (List.mem_cons_of_mem _ hr)) A n c hm a ha
theorem RowO.grow (h : RowO w base v Rs L f) (hv : NWB w f) (k : w.grownBy w' f.ownBlock) (hne : ∀ g, v.ownBlock = some g -> f.ownBlock ≠ some g) (hR : ∀ R ∈ Rs, R ≠ []) (k2 : f'.ownBlock = f.ownBlock \/ f'.ownBlock = some w.heap.size) : RowO w' base v Rs L f' := by
 obtain ⟨cs, h1, h2, h3⟩ := h.own;have hlt := h2.lt hR;refine ⟨⟨cs, owns_far h1 k hne, h2.ownR hv k h3, ?_⟩, ?_⟩
 ·intro A n c hm a ha
  rcases k2 with e | e
  ·rw [e]; exact h3 A n c hm a ha
  ·rw [e]
   have := hlt A n c hm a ha;intro e2
   injection e2 with e2
   omega
 ·intro g hg
  obtain ⟨cur, e, fz, q1, q2⟩ := h.nsb g hg;exact ⟨cur, e, fz, (k.block g (owns_lt h1 g hg) (fun e => hne g hg e.symm)).trans q1, q2⟩
theorem RowO.isl (h : RowO w base v Rs L f) : ∃ A n c, v = .slice A n c /\ ISl w A n c Rs L := by
 obtain ⟨cs, h1, h2, _⟩ := h.own
 rcases h1.2 with ⟨rfl, h0⟩ | ⟨g, cap, cur, rfl, hbg, hg, hnc, hcm, hcs, htk⟩
 ·have hz : Rs = [] := List.length_eq_zero_iff.1 h0
  subst hz;exact ⟨_, _, _, rfl, rfl, Nat.le_refl _, Nat.zero_le _, fun h => absurd rfl h⟩
 ·refine ⟨_, _, _, rfl, rfl, hnc, hcm, fun _ => ⟨g, 0, rfl, fun i hi => ?_⟩⟩
  obtain ⟨A, n, c, e0, e1⟩ := h2.get i hi;refine ⟨A, n, c, ?_, e1⟩;rw [Nat.zero_add, cell_of_row w g _ _ _ _ hg];rw [<- htk] at e0;rw [List.getElem?_take] at e0
  split at e0
  ·simpa using e0
  ·cases e0
theorem run_append_sliceO {ty : TypeId} {g : Nat} (h : RowO w base v Rs L f) (hq : IPol w A n c zs L) (ho : Off f A) (hb : Box w g 70 #[.slice A n c]) (hl : Rs.length <= 1000) (hbase : base <= w.heap.size) :
  ∃ v' w', (Builtin.append_ #[69, 69] ty #[v, .slice (some ⟨g, 0, Option.none⟩) 1 1]).run Tryz.prog w = .ok v' w' /\ RowO w' base v' (Rs ++ [zs]) L f /\ w.grownBy w' v.ownBlock /\ (v'.ownBlock = v.ownBlock \/ v'.ownBlock = some w.heap.size) := by
 obtain ⟨i0, hi, hz0, hz1, hz2⟩ := info_partsB Tryz.infoSl;obtain ⟨cs, h1, h2, h3⟩ := h.own;have hone : SCells w L [zs] [.slice A n c] := .cons hq .nil
 have hnews : ∀ j u, ([.slice A n c] : List Value)[j]? = some u -> w.cell? ((⟨g, 0, Option.none⟩ : Addr).add j) = some u := by
  intro j u hj
  match j, hj with
  | 0, hj => exact hb.cell 0 u hj
  | j + 1, hj => simp at hj
 rw [<- hz1] at h1
 obtain ⟨v', w', hr, k1, k2, k3, k4⟩ := run_append_sl (P := Tryz.prog) (ty := ty) (c := 1) Tryz.underlying69 hi hz0 hz2 (by rw [hz1]; rfl) (by omega) (by
  intro u hu;simp [Value.cells] at hu;subst hu;exact ⟨_, _, _, rfl⟩) h1 h.nsb (m := 1) (by rw [hz1]; rfl) hnews (by intro u hu; rw [List.mem_singleton.1 hu]; rfl) (by intro u hu; rw [List.mem_singleton.1 hu]; exact ⟨_, _, _, rfl⟩) (by omega) (by unfold maxLen; omega) (by omega) hbase
 rw [hz1] at k1;refine ⟨v', w', hr, ⟨⟨cs ++ [.slice A n c], ?_, (h2.own h.nsb k2).append (hone.own h.nsb k2), ?_⟩, k4⟩, k2, k3⟩
 ·rw [List.length_append]
  exact k1
 ·intro A' n' c' hm
  rcases List.mem_append.1 hm with hm | hm
  ·exact h3 A' n' c' hm
  ·have e := List.mem_singleton.1 hm
   injection e with e1
   subst e1;exact ho
theorem step_append_rowO {ops : Array Oper} {o : Oper} {a : Act} {K : Act -> World -> Prop} {Q : Exit -> Act -> World -> Prop} {E : Prop} {g : Nat} (hgd : o.guard = Option.none) (x y : Operand)
  (hop : o.op = .call { callee := .builtin .append, args := #[x, y], argTypes := #[69, 69] })
  (hx : a.eval x = v) (hy : a.eval y = .slice (some ⟨g, 0, Option.none⟩) 1 1)
  (h : RowO w base v Rs L f) (hq : IPol w A n c zs L) (ho : Off f A) (hb : Box w g 70 #[.slice A n c]) (hl : Rs.length <= 1000) (hbase : base <= w.heap.size)
  (hK : ∀ v' w', RowO w' base v' (Rs ++ [zs]) L f -> w.grownBy w' v.ownBlock -> K (a.put o.dst v') w') :
  if Region.wanted o (yielded ops a.tmps) = true then Oper.wp Tryz.prog o a w K Q else E := by
 have hw : Region.wanted o (yielded ops a.tmps) = true := by simp [Region.wanted, hgd]
 rw [if_pos hw];obtain ⟨v', w', hr, h2, h3, _⟩ := run_append_sliceO (ty := o.type) h hq ho hb hl hbase;unfold Oper.wp execOp;simp only [hop, resolve, invoke, builtin, Sem.run_bind, Sem.run_pure, Result.andThen_ok, List.map_toArray, List.map_cons, List.map_nil, hx, hy, hr];exact hK v' w' h2 h3
theorem step_append_row2 {ops : Array Oper} {o : Oper} {a : Act} {K : Act -> World -> Prop} {Q : Exit -> Act -> World -> Prop} {E : Prop} (hgd : o.guard = Option.none) (x y : Operand)
  (hop : o.op = .call { callee := .builtin .append, args := #[x, y], argTypes := #[70, 70] })
  (hx : a.eval x = v) (hy : a.eval y = .slice A n c)
  (h : Row2 w base v zs L) (hp : IPol w A n c ys L) (h0 : 0 < n) (hl : zs.length <= 1000) (hn : n <= 1000) (hbase : base <= w.heap.size)
  (hK : ∀ v' w', Row2 w' base v' (zs ++ ys) L -> w.grownBy w' v.ownBlock -> (v'.ownBlock = v.ownBlock \/ v'.ownBlock = some w.heap.size) -> K (a.put o.dst v') w') :
  if Region.wanted o (yielded ops a.tmps) = true then Oper.wp Tryz.prog o a w K Q else E := by
 have hw : Region.wanted o (yielded ops a.tmps) = true := by simp [Region.wanted, hgd]
 rw [if_pos hw];obtain ⟨v', w', hr, h2, h3, h4⟩ := run_append_rowI (ty := o.type) h hp h0 hl hn hbase;unfold Oper.wp execOp;simp only [hop, resolve, invoke, builtin, Sem.run_bind, Sem.run_pure, Result.andThen_ok, List.map_toArray, List.map_cons, List.map_nil, hx, hy, hr];exact hK v' w' h2 h3 h4
theorem NSB.box {g : Nat} {T : TypeId} {bs : Array Value} (hb : Box w g T bs) (hn : NSW bs) : NSB w (.slice (some ⟨g, 0, Option.none⟩) 2 2) := by
 intro g' hg
 injection hg with hg
 have e : g = g' := hg;subst e;exact ⟨_, _, _, hb, hn⟩
theorem p_multipleN {y : Int} {sy : Bool} {Ay : Option Addr} {ny cy : Nat} (h : IPol w A n c zs L) (hk : NI w y M sy Ay ny cy) (hL : L <= 40000) (hM : M <= 40000) (hLM : L + M <= 50000) (hn : n <= 1000) : Calls Tryz.prog 73 #[.slice A n c, .agg #[.bool sy, .slice Ay ny cy]] w (fun e w' => ∃ A' c', e = .returned (.slice A' n c') /\ IPol w' A' n c' (zs.map (· * y)) (L + M) /\ (A' = A \/ ∃ g, A' = some ⟨g, 0, Option.none⟩ /\ w.heap.size <= g) /\ Ext w w') := by
 have hmf : ∀ (fn : Fn) (first cap : Array Value) (w : World), (Instr.makeFunc fn first cap).run Tryz.prog w = .ok (.func fn first cap) w := fun _ _ _ _ => rfl
 go_enter Tryz.func73, Tryz.ntmps73
 go_upto_region 1 with (fail)
 obtain ⟨W, hW, ext, bx, hz⟩ := box1 w 28 #[.bool sy, .slice Ay ny cy];rw [<- hW];clear hW hz;have x0 := bx.cell 0 (.bool sy) rfl;have x1 := bx.cell 1 (.slice Ay ny cy) rfl
 by_cases hone : y = 1
 ·have H1 := Lib.hid hone
  go_wp2_with fail
  refine (p_isOneT (hk.ext ext)).mono ?_;rintro e V ⟨rfl, hxt⟩;rw [decide_eq_true H1.out]
  go_wp2_with fail
  go_ret
  refine ⟨A, c, rfl, ?_, Or.inl rfl, ext.trans hxt⟩;rw [H1.out, show zs.map (· * (1 : Int)) = zs by simp];exact (h.ext (ext.trans hxt)).leT (by omega)
 ·have H1 := Lib.hid hone
  clear hone
  go_wp2_with fail
  refine (p_isOneT (hk.ext ext)).mono ?_;rintro e V ⟨rfl, hxt⟩;rw [decide_eq_false H1.out];have e2 := ext.trans hxt
  go_wp2_with fail
  refine (p_eachI_multiple (h.ext e2) (by omega) hn (hk.ext e2) (bx.ext hxt) hLM).mono ?_;rintro e V2 ⟨rfl, hF, hx⟩
  go_wp2_with fail
  go_ret
  exact ⟨_, n, rfl, hF.pol (by rw [List.length_map, h.len]) (by unfold maxLen; omega), Or.inr ⟨_, rfl, e2.size⟩, e2.trans hx⟩
end
structure RingS (w wr : World) (g3 : Nat) (vr vf : Value) (Rs : List (List Int)) (fs : List Int) (LR F : Nat) : Prop where
 ext : Ext w wr
 b2 : Box wr w.heap.size 72 #[.slice Option.none 0 0, .slice Option.none 0 0]
 b3 : Box wr g3 72 #[vr, vf]
 hO : RowO wr (w.heap.size + 1) vr Rs LR vf
 hF : Row2 wr (w.heap.size + 1) vf fs F
 lo : w.heap.size < g3
section
variable {w wr w' : World} {g3 LR F F' : Nat} {vr vf v' : Value} {Rs Rs' : List (List Int)} {fs fs' : List Int}
theorem RingS.next (h : RingS w wr g3 vr vf Rs fs LR F) (e : Ext wr w') : RingS w w' g3 vr vf Rs fs LR F :=
 ⟨h.ext.trans e, h.b2.ext e, h.b3.ext e, h.hO.ext e, h.hF.ext e, h.lo⟩
theorem sl_ne_ring : 70 ≠ 72 := by decide
theorem int_ne_ring : 28 ≠ 72 := by decide
theorem sl_ne_int : 70 ≠ 28 := by decide
theorem RowO.shape (h : RowO wr g3 vr Rs LR vf) : ∃ A n c, vr = .slice A n c := by
 obtain ⟨A, n, c, e, _⟩ := h.isl;exact ⟨A, n, c, e⟩
theorem Row2.shape (h : Row2 wr g3 vf fs F) : ∃ A n c, vf = .slice A n c := by
 obtain ⟨A, n, c, e, _⟩ := h.pol;exact ⟨A, n, c, e⟩
theorem nsw2 {a b : Value} (ha : ∃ A n c, a = .slice A n c) (hb : ∃ A n c, b = .slice A n c) : NSW #[a, b] := by
 intro u hu;simp at hu
 rcases hu with rfl | rfl
 ·exact ha
 ·exact hb
theorem RowO.boxne' {base : Nat} (h : RowO wr base vr Rs LR vf) {g : Nat} {bs : Array Value} {T : TypeId} (hb : Box wr g T bs) (hT : 70 ≠ T) : vr.ownBlock ≠ some g := by
 obtain ⟨cs, h1, _⟩ := h.own;exact owns_box h1 hb hT
theorem Row2.boxne {base : Nat} (h : Row2 wr base vf fs F) {g : Nat} {bs : Array Value} {T : TypeId} (hb : Box wr g T bs) (hT : 28 ≠ T) : vf.ownBlock ≠ some g := by
 obtain ⟨cs, h1, _⟩ := h.own;exact owns_box h1 hb hT
theorem RowO.row_ne {base base' : Nat} (h : RowO wr base vr Rs LR v') (k : Row2 wr base' vf fs F) : ∀ g, vr.ownBlock = some g -> vf.ownBlock ≠ some g := by
 obtain ⟨cs, h1, _⟩ := h.own;obtain ⟨ds, k1, _⟩ := k.own;exact owns_ne h1 k1 sl_ne_int
theorem RowO.row_ne' {base base' : Nat} (h : RowO wr base vr Rs LR v') (k : Row2 wr base' vf fs F) : ∀ g, vf.ownBlock = some g -> vr.ownBlock ≠ some g := fun g hg e => h.row_ne k g e hg
theorem RingS.off (h : RingS w wr g3 vr vf Rs fs LR F) {g : Nat} (hg : wr.heap.size <= g) : Off vf (some ⟨g, 0, Option.none⟩) := by
 intro a ha e
 injection ha with ha
 subst ha;obtain ⟨cs, h1, _⟩ := h.hF.own;have := owns_lt h1 g e;omega
theorem RingS.midR (h : RingS w wr g3 vr vf Rs fs LR F) (k : wr.grownBy w' vr.ownBlock) : Box w' g3 72 #[vr, vf] :=
 h.b3.own k (h.hO.boxne' h.b3 sl_ne_ring)
theorem RingS.midF (h : RingS w wr g3 vr vf Rs fs LR F) (k : wr.grownBy w' vf.ownBlock) : Box w' g3 72 #[vr, vf] :=
 h.b3.own k (h.hF.boxne h.b3 int_ne_ring)
theorem RingS.addR (h : RingS w wr g3 vr vf Rs fs LR F) (k : wr.grownBy w' vr.ownBlock) (hO' : RowO w' (w.heap.size + 1) v' Rs' LR vf) :
  RingS w (w'.setCell ⟨g3, 0, Option.none⟩ v') g3 v' vf Rs' fs LR F /\ (∀ z L s A n c, NI wr z L s A n c -> NI (w'.setCell ⟨g3, 0, Option.none⟩ v') z L s A n c) /\ (∀ g bs, Box wr g 28 bs -> Box (w'.setCell ⟨g3, 0, Option.none⟩ v') g 28 bs) := by
 have hm := h.midR k;have hlt := h.hO.lt;have e1 : Ext w w' := Below.grown h.ext k h.ext.size (fun g hg => by have := (hlt g hg).1; omega);have hF1 := h.hF.ownN h.hO.nsb k (h.hO.row_ne' h.hF);have hv : NSB w' (.slice (some ⟨g3, 0, Option.none⟩) 2 2) := NSB.box hm (nsw2 h.hO.shape h.hF.shape);have kc : w'.grownBy (w'.setCell ⟨g3, 0, Option.none⟩ v') (Value.slice (some ⟨g3, 0, Option.none⟩) 2 2).ownBlock := grownC w' ⟨g3, 0, Option.none⟩ v';have lo := h.lo;refine ⟨⟨e1.setCell (Nat.le_of_lt lo) _, ?_, ?_, ?_, ?_, lo⟩, ?_, ?_⟩
 ·exact (h.b2.own k (h.hO.boxne' h.b2 sl_ne_ring)).far (show w.heap.size ≠ g3 by omega) _
 ·have := hm.set 0 v'
  simpa using this
 ·exact hO'.ownN hv kc (fun g hg e => hO'.boxne' hm sl_ne_ring (hg.trans e.symm))
 ·exact hF1.ownN hv kc (fun g hg e => hF1.boxne hm int_ne_ring (hg.trans e.symm))
 ·intro z L s A n c hz
  exact (hz.own h.hO.nsb.nwb k).own hv.nwb kc
 ·intro g bs hb
  have hb1 := hb.own k (h.hO.boxne' hb sl_ne_int);refine hb1.own kc (fun e => ?_)
  injection e with e
  have e2 : g3 = g := e;subst e2;unfold Box at hm hb1;rw [hm] at hb1
  injection hb1 with h2
  injection h2 with _ h3
  exact int_ne_ring h3.symm
theorem RingS.addF (h : RingS w wr g3 vr vf Rs fs LR F) (k : wr.grownBy w' vf.ownBlock) (hF' : Row2 w' (w.heap.size + 1) v' fs' F') (k2 : v'.ownBlock = vf.ownBlock \/ v'.ownBlock = some wr.heap.size) (hR : ∀ R ∈ Rs, R ≠ []) :
  RingS w (w'.setCell ⟨g3, 1, Option.none⟩ v') g3 vr v' Rs fs' LR F' := by
 have hm := h.midF k;obtain ⟨cs, f1, _⟩ := h.hF.own;have e1 : Ext w w' := Below.grown h.ext k h.ext.size (fun g hg => by have := owns_block f1 g hg; omega);have hO1 := h.hO.grow h.hF.nwb k (h.hO.row_ne h.hF) hR k2;have hv : NSB w' (.slice (some ⟨g3, 0, Option.none⟩) 2 2) := NSB.box hm (nsw2 h.hO.shape h.hF.shape);have kc : w'.grownBy (w'.setCell ⟨g3, 1, Option.none⟩ v') (Value.slice (some ⟨g3, 0, Option.none⟩) 2 2).ownBlock := grownC w' ⟨g3, 1, Option.none⟩ v';have lo := h.lo;refine ⟨e1.setCell (Nat.le_of_lt lo) _, ?_, ?_, ?_, ?_, lo⟩
 ·exact (h.b2.own k (h.hF.boxne h.b2 int_ne_ring)).far (show w.heap.size ≠ g3 by omega) _
 ·have := hm.set 1 v'
  simpa using this
 ·exact hO1.ownN hv kc (fun g hg e => hO1.boxne' hm sl_ne_ring (hg.trans e.symm))
 ·exact hF'.ownN hv kc (fun g hg e => hF'.boxne hm int_ne_ring (hg.trans e.symm))
end
def W4 : Nat := 4294967296 ^ 4
def SmQ (q : Rat) : Prop := q.num.natAbs <= W4 /\ q.den <= W4
theorem W4_pos : 0 < W4 := Nat.pow_pos (by omega)
theorem mkRat_sizes (n : Int) (d : Nat) (hd : d ≠ 0) : (mkRat n d).den ∣ d /\ (mkRat n d).num.natAbs <= n.natAbs := by
 obtain ⟨n', d', z', c, h⟩ : ∃ n' d' z' c, mkRat n d = ⟨n', d', z', c⟩ := ⟨_, _, _, _, rfl⟩;obtain ⟨m, h1, h2, h3⟩ := Rat.mkRat_num_den hd h;rw [h];refine ⟨⟨m, h3⟩, ?_⟩
 show n'.natAbs <= n.natAbs
 rw [h2, Int.natAbs_mul];exact Nat.le_mul_of_pos_right _ (by simp only [Int.natAbs_natCast]; omega)
theorem partQ_parts {q : Rat} {f : Int} (hf : 0 < f) : (partQ q f).den ∣ q.den * f.natAbs /\ (partQ q f).num.natAbs <= q.num.natAbs := by
 have h0 : (0 : Int) < ((q.den : Nat) : Int) * f := Int.mul_pos (by have := q.den_pos; omega) hf;have h1 : (((q.den : Nat) : Int) * f).natAbs = q.den * f.natAbs := by rw [Int.natAbs_mul, Int.natAbs_natCast]
 unfold partQ mkQ;rw [if_neg (by omega), h1];exact mkRat_sizes _ _ (by rw [<- h1]; omega)
theorem denP_dvd_of {ps : List Rat} {M : Nat} (h : ∀ q ∈ ps, q.den ∣ M) : denP ps ∣ M := by
 have key : ∀ (ps : List Rat) (d : Nat), d ∣ M -> (∀ q ∈ ps, q.den ∣ M) -> ps.foldl (fun d q => Nat.lcm d q.den) d ∣ M := by
  intro ps
  induction ps with
  | nil => intro d hd _; exact hd
  | cons p ps ih => intro d hd hp; exact ih _ (Nat.lcm_dvd hd (hp p List.mem_cons_self)) (fun q hq => hp q (List.mem_cons_of_mem _ hq))
 exact key ps 1 (Nat.one_dvd M) h
def prodD (qs : List Rat) : Nat := qs.foldr (fun q a => q.den * a) 1
theorem prodD_dvd {qs : List Rat} : ∀ q ∈ qs, q.den ∣ prodD qs := by
 induction qs with
 | nil => intro q hq; cases hq
 | cons p qs ih =>
  intro q hq
  rcases List.mem_cons.1 hq with rfl | hq
  ·exact Nat.dvd_mul_right _ _
  ·exact Nat.dvd_trans (ih q hq) (Nat.dvd_mul_left _ _)
theorem prodD_le {qs : List Rat} (h : ∀ q ∈ qs, SmQ q) : 0 < prodD qs /\ prodD qs <= W4 ^ qs.length := by
 induction qs with
 | nil => exact ⟨Nat.one_pos, Nat.le_refl _⟩
 | cons p qs ih =>
  obtain ⟨h1, h2⟩ := ih (fun q hq => h q (List.mem_cons_of_mem _ hq));refine ⟨Nat.mul_pos p.den_pos h1, ?_⟩;rw [List.length_cons, Nat.pow_succ, Nat.mul_comm (W4 ^ qs.length)];exact Nat.mul_le_mul (h p List.mem_cons_self).2 h2
theorem partL_mem {qs : List Rat} {fs : List Int} {p : Rat} (h : p ∈ partL qs fs) : ∃ q ∈ qs, ∃ f ∈ fs, p = partQ q f := by
 induction qs generalizing fs with
 | nil => cases h
 | cons q qs ih =>
  cases fs with
  | nil => cases h
  | cons f fs =>
   rcases List.mem_cons.1 h with rfl | h
   ·exact ⟨q, List.mem_cons_self, f, List.mem_cons_self, rfl⟩
   ·obtain ⟨q', h1, f', h2, h3⟩ := ih h
    exact ⟨q', List.mem_cons_of_mem _ h1, f', List.mem_cons_of_mem _ h2, h3⟩
def FacD (fs : List Int) (D : Nat) : Prop := ∀ f ∈ fs, 0 < f /\ f.natAbs ∣ D
theorem den_le {qs : List Rat} {fs : List Int} {D : Nat} (hs : ∀ q ∈ qs, SmQ q) (hf : FacD fs D) (hD : 0 < D) : denP (partL qs fs) <= W4 ^ qs.length * D := by
 have h1 : denP (partL qs fs) ∣ prodD qs * D := by
  refine denP_dvd_of fun p hp => ?_
  obtain ⟨q, hq, f, hff, rfl⟩ := partL_mem hp;exact Nat.dvd_trans (partQ_parts (hf f hff).1).1 (Nat.mul_dvd_mul (prodD_dvd q hq) (hf f hff).2)
 have h2 := prodD_le hs;exact Nat.le_trans (Nat.le_of_dvd (Nat.mul_pos h2.1 hD) h1) (Nat.mul_le_mul_right _ h2.2)
theorem nums_le {qs : List Rat} {fs : List Int} {D : Nat} (hs : ∀ q ∈ qs, SmQ q) (hf : FacD fs D) : ∀ z ∈ numsP (partL qs fs), z.natAbs <= W4 * denP (partL qs fs) := by
 intro z hz;obtain ⟨p, hp, rfl⟩ := List.mem_map.1 hz;obtain ⟨q, hq, f, hff, hpq⟩ := partL_mem hp;have h1 : p.num.natAbs <= W4 := by rw [hpq]; exact Nat.le_trans (partQ_parts (hf f hff).1).2 (hs q hq).1
 rw [Int.natAbs_mul];refine Nat.mul_le_mul h1 ?_;have e : ((denP (partL qs fs) : Nat) : Int) / ((p.den : Nat) : Int) = ((denP (partL qs fs) / p.den : Nat) : Int) := by push_cast; rfl
 rw [e, Int.natAbs_natCast];exact Nat.div_le_self _ _
def eF : Nat -> Nat
 | 0 => 0
 | k + 1 => eF k + (2 ^ k + eF k)
theorem ringR_val {ts : List (List Rat)} (ht : TowL ts) (hs : ∀ r ∈ ts, ∀ q ∈ r, SmQ q) : ∀ k, k <= ts.length -> ∃ D, 0 < D /\ D <= W4 ^ eF k /\ FacD (ringR (ts.take k)).2 D := by
 intro k
 induction k with
 | zero =>
  intro _;rw [List.take_zero];refine ⟨1, Nat.one_pos, Nat.le_refl _, fun f hf => ?_⟩;rw [List.mem_singleton.1 hf];exact ⟨by decide, Nat.dvd_refl _⟩
 | succ k ih =>
  intro hk;have hj : k < ts.length := by omega
  obtain ⟨D, h1, h2, h3⟩ := ih (by omega);have hl := ht k hj;have hq : ∀ q ∈ ts[k], SmQ q := hs _ (List.getElem_mem hj);rw [List.take_succ_eq_append_getElem hj, ringR_snoc];generalize ts[k] = r at hl hq;generalize ringR (ts.take k) = G at h3;have hd := den_le hq h3 h1;have hdp := denP_pos (partL r G.2);refine ⟨D * denP (partL r G.2), Nat.mul_pos h1 hdp, ?_, ?_⟩
  ·show _ <= W4 ^ (eF k + (2 ^ k + eF k))
   rw [Nat.pow_add, Nat.pow_add, <- hl];exact Nat.mul_le_mul h2 (Nat.le_trans hd (Nat.mul_le_mul_left _ h2))
  ·intro f hf
   rcases List.mem_append.1 hf with hf | hf
   ·exact ⟨(h3 f hf).1, Nat.dvd_trans (h3 f hf).2 (Nat.dvd_mul_right _ _)⟩
   ·obtain ⟨g, hg, rfl⟩ := List.mem_map.1 hf
    refine ⟨Int.mul_pos (h3 g hg).1 (by omega), ?_⟩;rw [Int.natAbs_mul, Int.natAbs_natCast];exact Nat.mul_dvd_mul_right (h3 g hg).2 _
theorem W4_words {x e : Nat} (h : x <= W4 ^ e) : x < 4294967296 ^ (4 * e + 1) := by
 refine Nat.lt_of_le_of_lt h ?_;unfold W4;rw [<- Nat.pow_mul];exact Nat.pow_lt_pow_right (by decide) (by omega)
theorem split_val {ts : List (List Rat)} (ht : TowL ts) (hs : ∀ r ∈ ts, ∀ q ∈ r, SmQ q) {k : Nat} (hk : k <= ts.length) {qs : List Rat} (hl : qs.length = 2 ^ k) (hq : ∀ q ∈ qs, SmQ q) :
  denP (partL qs (ringR (ts.take k)).2) < 4294967296 ^ (4 * (2 ^ k + eF k) + 1) /\ ∀ z ∈ numsP (partL qs (ringR (ts.take k)).2), z.natAbs < 4294967296 ^ (4 * (1 + (2 ^ k + eF k)) + 1) := by
 obtain ⟨D, h1, h2, h3⟩ := ringR_val ht hs k hk
 have hd : denP (partL qs (ringR (ts.take k)).2) <= W4 ^ (2 ^ k + eF k) := by
  rw [Nat.pow_add, <- hl];exact Nat.le_trans (den_le hq h3 h1) (Nat.mul_le_mul_left _ h2)
 refine ⟨W4_words hd, fun z hz => W4_words ?_⟩;rw [Nat.pow_add, Nat.pow_one];exact Nat.le_trans (nums_le hq h3 z hz) (Nat.mul_le_mul_left _ hd)
def AbsL (a : List Int) (x : Nat) : Prop := ∀ z ∈ a, z.natAbs <= x
theorem AbsL.le {a : List Int} {x y : Nat} (h : AbsL a x) (hxy : x <= y) : AbsL a y := fun z hz => Nat.le_trans (h z hz) hxy
theorem AbsL.take {a : List Int} {x : Nat} (h : AbsL a x) (n : Nat) : AbsL (a.take n) x := fun z hz => h z (List.mem_of_mem_take hz)
theorem AbsL.drop {a : List Int} {x : Nat} (h : AbsL a x) (n : Nat) : AbsL (a.drop n) x := fun z hz => h z (List.mem_of_mem_drop hz)
theorem AbsL.append {a b : List Int} {x : Nat} (h : AbsL a x) (k : AbsL b x) : AbsL (a ++ b) x := fun z hz => (List.mem_append.1 hz).elim (h z) (k z)
theorem zipWith_abs (f : Int -> Int -> Int) {x y : Nat} (hf : ∀ u v : Int, u.natAbs <= x -> v.natAbs <= y -> (f u v).natAbs <= x + y) : ∀ {a b : List Int}, AbsL a x -> AbsL b y -> AbsL (List.zipWith f a b) (x + y)
 | [], _, _, _ => fun z hz => by cases hz
 | _ :: _, [], _, _ => fun z hz => by cases hz
 | u :: a, v :: b, ha, hb => by
  intro z hz
  rcases List.mem_cons.1 hz with rfl | hz
  ·exact hf u v (ha u List.mem_cons_self) (hb v List.mem_cons_self)
  ·exact zipWith_abs f hf (fun z hz => ha z (List.mem_cons_of_mem _ hz)) (fun z hz => hb z (List.mem_cons_of_mem _ hz)) z hz
theorem addL_abs {a b : List Int} {x y : Nat} (ha : AbsL a x) (hb : AbsL b y) : AbsL (addL a b) (x + y) := zipWith_abs _ (fun u v h k => by have := Int.natAbs_add_le u v; omega) ha hb
theorem subI_abs {a b : List Int} {x y : Nat} (ha : AbsL a x) (hb : AbsL b y) : AbsL (subI a b) (x + y) := zipWith_abs _ (fun u v h k => by have := Int.natAbs_sub_le u v; omega) ha hb
def vV (r : Nat -> Nat) : Nat -> Nat
 | 0 => 1
 | h + 1 => vV r h * (2 + r h * vV r h)
theorem mulL_abs {R : Nat -> List Int} {r : Nat -> Nat} (hR : ∀ i, AbsL (R i) (r i)) : ∀ {h : Nat} {a b : List Int} {x y : Nat}, AbsL a x -> AbsL b y -> AbsL (mulL R h a b) (x * y * vV r h)
 | 0, a, b, x, y, ha, hb => by
  have h0 : ∀ {a : List Int} {x : Nat}, AbsL a x -> (a.headD 0).natAbs <= x := by
   intro a x ha
   cases a with
   | nil => exact Nat.zero_le _
   | cons u a => exact ha u List.mem_cons_self
  intro z hz;rw [mulL, List.mem_singleton] at hz;rw [hz, Int.natAbs_mul, vV, Nat.mul_one];exact Nat.mul_le_mul (h0 ha) (h0 hb)
 | h + 1, a, b, x, y, ha, hb => by
  have h1 := mulL_abs (h := h) hR (ha.take (2 ^ h)) (hb.take (2 ^ h));have h2 := mulL_abs (h := h) hR (ha.drop (2 ^ h)) (hb.drop (2 ^ h));have h3 := mulL_abs (h := h) hR h2 (hR h);have h4 := mulL_abs (h := h) hR (ha.take (2 ^ h)) (hb.drop (2 ^ h));have h5 := mulL_abs (h := h) hR (ha.drop (2 ^ h)) (hb.take (2 ^ h));rw [mulL]
  have e : x * y * vV r (h + 1) = x * y * vV r h + x * y * vV r h + x * y * vV r h * r h * vV r h := by
   rw [vV];generalize vV r h = V;generalize r h = t;generalize x * y = p;rw [Nat.mul_add, Nat.mul_add];rw [show V * 2 = V + V by omega, Nat.mul_add]
   congr 1
   simp only [Nat.mul_left_comm, Nat.mul_comm]
  rw [e];refine AbsL.append ((addL_abs h1 h3).le ?_) ((addL_abs h4 h5).le ?_)
  ·omega
  ·omega
theorem normLI_abs {R : Nat -> List Int} {r : Nat -> Nat} (hR : ∀ i, AbsL (R i) (r i)) {h : Nat} {a : List Int} {x : Nat} (ha : AbsL a x) : AbsL (normLI R h a) (x * x * vV r (h + 1)) := by
 have h1 := mulL_abs (h := h) hR (ha.take (2 ^ h)) (ha.take (2 ^ h));have h2 := mulL_abs (h := h) hR (ha.drop (2 ^ h)) (ha.drop (2 ^ h));have h3 := mulL_abs (h := h) hR h2 (hR h);unfold normLI;refine (subI_abs h1 h3).le ?_
 have e : x * x * vV r (h + 1) = x * x * vV r h + x * x * vV r h + x * x * vV r h * r h * vV r h := by
  rw [vV];generalize vV r h = V;generalize r h = t;generalize x * x = p;rw [Nat.mul_add, Nat.mul_add];rw [show V * 2 = V + V by omega, Nat.mul_add]
  congr 1
  simp only [Nat.mul_left_comm, Nat.mul_comm]
 omega
def rW (k : Nat) : Nat := W4 ^ (1 + 2 * (2 ^ k + eF k))
theorem rad_val {ts : List (List Rat)} (ht : TowL ts) (hs : ∀ r ∈ ts, ∀ q ∈ r, SmQ q) : ∀ k, k <= ts.length -> ∀ i (hi : i < (ringR (ts.take k)).1.length), AbsL (ringR (ts.take k)).1[i] (rW i) := by
 intro k
 induction k with
 | zero => intro _ i hi; cases hi
 | succ k ih =>
  intro hk i hi;have hj : k < ts.length := by omega
  obtain ⟨g1, _⟩ := ringR_take ht k (by omega);obtain ⟨D, h1, h2, h3⟩ := ringR_val ht hs k (by omega);have hl := ht k hj;have hq : ∀ q ∈ ts[k], SmQ q := hs _ (List.getElem_mem hj);have ih := ih (by omega);have e := ringR_snoc (ts.take k) ts[k];rw [<- List.take_succ_eq_append_getElem hj] at e;have e1 := congrArg Prod.fst e;simp only at e1;generalize (ringR (ts.take (k + 1))).1 = X at hi e1;subst e1;clear e;generalize ts[k] = r at hl hq hi;generalize ringR (ts.take k) = G at g1 h3 ih hi
  rcases Nat.lt_or_ge i k with hik | hik
  ·rw [List.getElem_append_left (by omega)]
   exact ih i (by omega)
  ·simp only [List.length_append, List.length_singleton] at hi
   have e : i = k := by omega
   subst e;rw [List.getElem_append_right (by omega)];simp only [g1, Nat.sub_self, List.getElem_cons_zero];intro z hz;obtain ⟨u, hu, rfl⟩ := List.mem_map.1 hz;have hd := den_le hq h3 h1;have hn := nums_le hq h3 u hu
   have hd2 : denP (partL r G.2) <= W4 ^ (2 ^ i + eF i) := by
    rw [Nat.pow_add, <- hl];exact Nat.le_trans hd (Nat.mul_le_mul_left _ h2)
   rw [Int.natAbs_mul, Int.natAbs_natCast];unfold rW;rw [Nat.pow_add, Nat.pow_one, Nat.two_mul, Nat.pow_add, <- Nat.mul_assoc];exact Nat.mul_le_mul (Nat.le_trans hn (Nat.mul_le_mul_left _ hd2)) hd2
theorem radI_val {ts : List (List Rat)} (ht : TowL ts) (hs : ∀ r ∈ ts, ∀ q ∈ r, SmQ q) : ∀ i, AbsL (radI (ringR ts).1 i) (rW i) := by
 intro i;have h := rad_val ht hs ts.length (Nat.le_refl _);rw [List.take_length] at h
 rcases Nat.lt_or_ge i (ringR ts).1.length with hi | hi
 ·rw [radI_at hi]
  exact h i hi
 ·unfold radI
  rw [List.getD_eq_getElem?_getD, List.getElem?_eq_none hi];intro z hz;have : z = 0 := List.eq_of_mem_replicate hz;rw [this];exact Nat.zero_le _
section
variable {K : Type} [Lean.Grind.CommRing K]
theorem El.psi_smul (D : Nat -> K) : (h : Nat) -> (k : K) -> (a : El K h) -> El.psi D h (El.smul h k a) = El.smul h k (El.psi D h a)
 | 0, _, _ => rfl
 | h + 1, k, a => by
  simp only [El.psi, El.smul, El.psi_smul D h, El.smul_smul];refine El.ext rfl ?_
  show El.smul h (D h * k) _ = El.smul h (k * D h) _
  rw [Lean.Grind.CommSemiring.mul_comm]
end
theorem int_ne {z : Int} (h : z ≠ 0) : ((z : Int) : Rat) ≠ 0 := fun e => h (Rat.intCast_inj.1 (e.trans Rat.intCast_zero.symm))
theorem mkQ_quo {z y : Int} (h : y ≠ 0) : mkQ z y = ((z : Int) : Rat) / ((y : Int) : Rat) := by
 unfold mkQ
 split
 ·rename_i hy
  have e : ((-y).natAbs : Int) = -y := by omega
  have hn := int_ne h;rw [Rat.mkRat_eq_div, show (((-y).natAbs : Nat) : Rat) = (((-y).natAbs : Int) : Rat) from by push_cast; rfl, e, Rat.intCast_neg, Rat.intCast_neg]
  grind
 ·rename_i hy
  have e : (y.natAbs : Int) = y := by omega
  rw [Rat.mkRat_eq_div, show ((y.natAbs : Nat) : Rat) = ((y.natAbs : Int) : Rat) from by push_cast; rfl, e]
def castL (a : List Int) : List Rat := a.map fun z : Int => (z : Rat)
theorem castL_len (a : List Int) : (castL a).length = a.length := List.length_map _
theorem castL_take (a : List Int) (n : Nat) : castL (a.take n) = (castL a).take n := by unfold castL; rw [List.map_take]
theorem castL_drop (a : List Int) (n : Nat) : castL (a.drop n) = (castL a).drop n := by unfold castL; rw [List.map_drop]
theorem castL_app (a b : List Int) : castL (a ++ b) = castL a ++ castL b := List.map_append
theorem castL_add : ∀ a b : List Int, castL (addL a b) = addL (castL a) (castL b)
 | [], _ => rfl
 | _ :: _, [] => rfl
 | x :: a, y :: b => by
  have ih := castL_add a b;unfold addL castL at *;simp only [List.zipWith_cons_cons, List.map_cons];rw [ih, Rat.intCast_add]
theorem castL_mul (R : Nat -> List Int) : ∀ (h : Nat) (a b : List Int), castL (mulL R h a b) = mulL (fun i => castL (R i)) h (castL a) (castL b)
 | 0, a, b => by
  have e : ∀ a : List Int, ((a.headD 0 : Int) : Rat) = (castL a).headD 0 := by
   intro a
   cases a with
   | nil => rfl
   | cons x a => rfl
  show [((a.headD 0 * b.headD 0 : Int) : Rat)] = [(castL a).headD 0 * (castL b).headD 0]
  rw [Rat.intCast_mul, e, e]
 | h + 1, a, b => by
  rw [mulL, mulL, castL_app, castL_add, castL_add];simp only [castL_mul R h, castL_take, castL_drop]
def radQ (ts : List (List Rat)) (i : Nat) : List Rat := ts.getD i (List.replicate (2 ^ i) 0)
theorem radQ_len {ts : List (List Rat)} (h : TowL ts) (i : Nat) : (radQ ts i).length = 2 ^ i := by
 unfold radQ
 rcases Nat.lt_or_ge i ts.length with hi | hi
 ·rw [List.getD_eq_getElem?_getD, List.getElem?_eq_getElem hi]
  exact h i hi
 ·rw [List.getD_eq_getElem?_getD, List.getElem?_eq_none hi]
  exact List.length_replicate
theorem radQ_at {ts : List (List Rat)} {i : Nat} (hi : i < ts.length) : radQ ts i = ts[i] := by
 unfold radQ;rw [List.getD_eq_getElem?_getD, List.getElem?_eq_getElem hi]
 rfl
def denK (ts : List (List Rat)) (k : Nat) : Int := ((denP (partL (radQ ts k) (ringR (ts.take k)).2) : Nat) : Int)
theorem fac_ring (ts : List (List Rat)) : ∀ k, k <= ts.length -> castL (ringR (ts.take k)).2 = facL (fun i => ((denK ts i : Int) : Rat)) k := by
 intro k
 induction k with
 | zero => intro _; rw [List.take_zero]; rfl
 | succ k ih =>
  intro hk;have hj : k < ts.length := by omega
  have ih := ih (by omega);rw [List.take_succ_eq_append_getElem hj, ringR_snoc, facL, <- ih];simp only [castL_app]
  congr 1
  unfold castL denK;rw [radQ_at hj, List.map_map, List.map_map]
  congr 1
  funext x
  exact Rat.intCast_mul x _
theorem ring_len (ts : List (List Rat)) : ∀ k, k <= ts.length -> (ringR (ts.take k)).1.length = k := by
 intro k
 induction k with
 | zero => intro _; rw [List.take_zero]; rfl
 | succ k ih =>
  intro hk;rw [List.take_succ_eq_append_getElem (show k < ts.length by omega), ringR_snoc];simp only [List.length_append, ih (by omega), List.length_singleton]
theorem rat_quo (q : Rat) : q = ((q.num : Int) : Rat) / (((q.den : Nat) : Int) : Rat) := by
 rw [Rat.intCast_natCast, <- Rat.mkRat_eq_div, Rat.mkRat_self]
theorem rad_ring (ts : List (List Rat)) : ∀ k, k <= ts.length -> ∀ i, i < k -> radI (ringR (ts.take k)).1 i = (numsP (partL (radQ ts i) (ringR (ts.take i)).2)).map (· * denK ts i) := by
 intro k
 induction k with
 | zero => intro _ i hi; omega
 | succ k ih =>
  intro hk i hi;have hj : k < ts.length := by omega
  have h1 := ring_len ts k (by omega);have ih := ih (by omega);have e := congrArg Prod.fst (ringR_snoc (ts.take k) ts[k]);rw [<- List.take_succ_eq_append_getElem hj] at e;simp only at e;have h2 : (ringR (ts.take (k + 1))).1.length = k + 1 := by rw [e, List.length_append, h1]; rfl
  rw [radI_at (by rw [h2]; exact hi)]
  rcases Nat.lt_or_ge i k with hik | hik
  ·rw [<- ih i hik, radI_at (by rw [h1]; exact hik)]
   simp only [e];rw [List.getElem_append_left (by rw [h1]; exact hik)]
  ·have hie : i = k := by omega
   subst hie;simp only [e];rw [List.getElem_append_right (by rw [h1]; omega)];simp only [h1, Nat.sub_self, List.getElem_cons_zero];unfold denK;rw [radQ_at hj]
theorem part_val {q : Rat} {f : Int} (hf : 0 < f) : partQ q f * (f : Rat) = q := by
 have hd : (0 : Int) < ((q.den : Nat) : Int) := by have := q.den_pos; omega
 have h0 : (0 : Int) < ((q.den : Nat) : Int) * f := Int.mul_pos hd hf
 have key : ∀ N D F x : Rat, D ≠ 0 -> F ≠ 0 -> x = N / D -> N / (D * F) * F = x := by
  intro N D F x h1 h2 h3;subst h3
  grind
 unfold partQ;rw [mkQ_quo (by omega), Rat.intCast_mul];exact key _ _ _ _ (int_ne (by omega)) (int_ne (by omega)) (rat_quo q)
theorem num_val {ps : List Rat} {q : Rat} (h : q ∈ ps) : ((q.num * (((denP ps : Nat) : Int) / ((q.den : Nat) : Int)) : Int) : Rat) = ((denP ps : Int) : Rat) * q := by
 obtain ⟨c, hc⟩ := denP_dvd h;have hd : (0 : Int) < ((q.den : Nat) : Int) := by have := q.den_pos; omega
 have e : ((denP ps : Nat) : Int) / ((q.den : Nat) : Int) = (c : Int) := by
  rw [hc]
  push_cast
  exact Int.mul_ediv_cancel_left _ (by omega)
 have e2 : ((denP ps : Nat) : Int) = ((q.den : Nat) : Int) * (c : Int) := by rw [hc]; push_cast; rfl
 have key : ∀ N D C x : Rat, D ≠ 0 -> x = N / D -> N * C = D * C * x := by
  intro N D C x h1 h3;subst h3
  grind
 rw [e, e2, Rat.intCast_mul, Rat.intCast_mul];exact key _ _ _ _ (int_ne (by omega)) (rat_quo q)
theorem split_mean {qs : List Rat} {fs : List Int} (hl : qs.length = fs.length) (hf : ∀ f ∈ fs, 0 < f) : timesL (castL (numsP (partL qs fs))) (castL fs) = qs.map (((denP (partL qs fs) : Int) : Rat) * ·) := by
 have hpl : (partL qs fs).length = qs.length := by unfold partL; rw [List.length_zipWith, hl, Nat.min_self]
 refine List.ext_getElem ?_ fun i h1 h2 => ?_
 ·unfold timesL
  rw [List.length_zipWith, castL_len, castL_len, numsP_len, hpl, List.length_map, hl, Nat.min_self]
 ·rw [List.length_map] at h2
  have hi : i < (partL qs fs).length := by rw [hpl]; exact h2
  have hif : i < fs.length := by rw [<- hl]; exact h2
  have e0 : (timesL (castL (numsP (partL qs fs))) (castL fs))[i] = (((numsP (partL qs fs))[i]'(by rw [numsP_len]; exact hi) : Int) : Rat) * ((fs[i] : Int) : Rat) := by simp [timesL, castL]
  rw [e0, List.getElem_map, numsP_at _ i (by rw [numsP_len]; exact hi) hi, num_val (List.getElem_mem hi)];have e : (partL qs fs)[i] = partQ qs[i] fs[i] := by simp [partL]
  rw [e, Rat.mul_assoc, part_val (hf _ (List.getElem_mem hif))]
theorem map_toE {h : Nat} {a : List Rat} (ha : a.length = 2 ^ h) (k : Rat) : toE h (a.map (k * ·)) = El.smul h k (toE h a) := toE_map_mul ha k
theorem rad_mean {ts : List (List Rat)} (ht : TowL ts) (i : Nat) (hi : i < ts.length) :
  El.psi (fun i => ((denK ts i : Int) : Rat)) i (toE i (castL (radI (ringR ts).1 i))) = El.smul i (((denK ts i : Int) : Rat) * ((denK ts i : Int) : Rat)) (toE i (radQ ts i)) := by
 have h0 := rad_ring ts ts.length (Nat.le_refl _) i hi;rw [List.take_length] at h0;obtain ⟨_, g2, g3, _, _⟩ := ringR_take ht i (Nat.le_of_lt hi);have hf := fac_ring ts i (Nat.le_of_lt hi);have hl : (radQ ts i).length = (ringR (ts.take i)).2.length := by rw [radQ_len ht, g2]
 have hm := split_mean hl g3
 have hpl : (numsP (partL (radQ ts i) (ringR (ts.take i)).2)).length = 2 ^ i := by
  rw [numsP_len];unfold partL;rw [List.length_zipWith, <- hl, Nat.min_self, radQ_len ht]
 have e1 : castL ((numsP (partL (radQ ts i) (ringR (ts.take i)).2)).map (· * denK ts i)) = (castL (numsP (partL (radQ ts i) (ringR (ts.take i)).2))).map (((denK ts i : Int) : Rat) * ·) := by
  unfold castL;rw [List.map_map, List.map_map]
  congr 1
  funext x
  show ((x * denK ts i : Int) : Rat) = (denK ts i : Rat) * (x : Rat)
  rw [Rat.intCast_mul, Rat.mul_comm]
 rw [h0, e1, map_toE (by rw [castL_len, hpl]), El.psi_smul, <- toE_fac _ (by rw [castL_len, hpl]), <- hf, hm, map_toE (radQ_len ht i), El.smul_smul]
 rfl
theorem join_mean {zs fs : List Int} {y : Int} (hy : y ≠ 0) : List.zipWith (fun z f : Int => mkQ (z * f) y) zs fs = (timesL (castL zs) (castL fs)).map ((((y : Int) : Rat)⁻¹) * ·) := by
 induction zs generalizing fs with
 | nil => rfl
 | cons z zs ih =>
  cases fs with
  | nil => rfl
  | cons f fs =>
   have ih := ih (fs := fs);unfold timesL castL at *;simp only [List.zipWith_cons_cons, List.map_cons];rw [ih, mkQ_quo hy, Rat.intCast_mul, Rat.div_def, Rat.mul_comm]
theorem join_elem {ts : List (List Rat)} (ht : TowL ts) {zs : List Int} {y : Int} (hy : y ≠ 0) (hz : zs.length = 2 ^ ts.length) {os : List Rat} (ho : os.length = 2 ^ ts.length)
  (h : El.psi (fun i => ((denK ts i : Int) : Rat)) ts.length (toE ts.length (castL zs)) = El.smul ts.length ((y : Int) : Rat) (toE ts.length os)) :
  List.zipWith (fun z f : Int => mkQ (z * f) y) zs (ringR ts).2 = os := by
 have hf := fac_ring ts ts.length (Nat.le_refl _);rw [List.take_length] at hf;have hg := (ringR_take ht ts.length (Nat.le_refl _)).2.1;rw [List.take_length] at hg;have hy1 := int_ne hy;rw [join_mean hy];have hl : (timesL (castL zs) (castL (ringR ts).2)).length = 2 ^ ts.length := timesL_len (by rw [castL_len, hz]) (by rw [castL_len, hg]);refine toE_inj (by rw [List.length_map, hl]) ho ?_;rw [map_toE hl, hf, toE_fac _ (by rw [castL_len, hz]), h, El.smul_smul, Rat.inv_mul_cancel _ hy1, El.smul_one]
theorem split_elem {ts : List (List Rat)} (ht : TowL ts) {qs : List Rat} (hq : qs.length = 2 ^ ts.length) :
  El.psi (fun i => ((denK ts i : Int) : Rat)) ts.length (toE ts.length (castL (numsP (partL qs (ringR ts).2)))) = El.smul ts.length ((denP (partL qs (ringR ts).2) : Int) : Rat) (toE ts.length qs) := by
 have hf := fac_ring ts ts.length (Nat.le_refl _);rw [List.take_length] at hf;obtain ⟨_, g2, g3, _, _⟩ := ringR_take ht ts.length (Nat.le_refl _);rw [List.take_length] at g2 g3;have hm := split_mean (qs := qs) (fs := (ringR ts).2) (by rw [hq, g2]) g3
 have hpl : (numsP (partL qs (ringR ts).2)).length = 2 ^ ts.length := by
  rw [numsP_len];unfold partL;rw [List.length_zipWith, hq, g2, Nat.min_self]
 rw [<- toE_fac _ (by rw [castL_len, hpl]), <- hf, hm, map_toE hq]
theorem radI_ring_len {ts : List (List Rat)} (ht : TowL ts) (i : Nat) : (castL (radI (ringR ts).1 i)).length = 2 ^ i := by
 have h := (ringR_take ht ts.length (Nat.le_refl _)).2.2.2.2;rw [List.take_length] at h;rw [castL_len, radI_len h]
theorem mul_psi {ts : List (List Rat)} (ht : TowL ts) {h : Nat} (hh : h <= ts.length) {a b : List Int} (ha : a.length = 2 ^ h) (hb : b.length = 2 ^ h) :
  El.psi (fun i => ((denK ts i : Int) : Rat)) h (toE h (castL (mulL (radI (ringR ts).1) h a b))) = El.mul (fun i => toE i (radQ ts i)) h (El.psi (fun i => ((denK ts i : Int) : Rat)) h (toE h (castL a))) (El.psi (fun i => ((denK ts i : Int) : Rat)) h (toE h (castL b))) := by
 rw [castL_mul, toE_mul (radI_ring_len ht) (by rw [castL_len, ha]) (by rw [castL_len, hb])];exact El.psi_mul _ _ h (fun i hi => rad_mean ht i (by omega)) _ _
theorem mul_mean {ts : List (List Rat)} (ht : TowL ts) {qs ps : List Rat} (hq : qs.length = 2 ^ ts.length) (hp : ps.length = 2 ^ ts.length) :
  List.zipWith (fun z f : Int => mkQ (z * f) (((denP (partL qs (ringR ts).2) : Nat) : Int) * ((denP (partL ps (ringR ts).2) : Nat) : Int))) (mulL (radI (ringR ts).1) ts.length (numsP (partL qs (ringR ts).2)) (numsP (partL ps (ringR ts).2))) (ringR ts).2 = mulL (radQ ts) ts.length qs ps := by
 have g2 := (ringR_take ht ts.length (Nat.le_refl _)).2.1;rw [List.take_length] at g2
 have hn : ∀ qs : List Rat, qs.length = 2 ^ ts.length -> (numsP (partL qs (ringR ts).2)).length = 2 ^ ts.length := by
  intro qs hq;rw [numsP_len];unfold partL;rw [List.length_zipWith, hq, g2, Nat.min_self]
 have d1 := denP_pos (partL qs (ringR ts).2);have d2 := denP_pos (partL ps (ringR ts).2);refine join_elem ht (Int.mul_ne_zero (by omega) (by omega)) mulL_len mulL_len ?_;rw [mul_psi ht (Nat.le_refl _) (hn qs hq) (hn ps hp), split_elem ht hq, split_elem ht hp, El.smul_mul, El.mul_smul, El.smul_smul, toE_mul (radQ_len ht) hq hp, Rat.intCast_mul]
theorem mulL_low {R : Nat -> List Rat} (hR : ∀ i, (R i).length = 2 ^ i) {h : Nat} {a b : List Rat} (ha : a.length = 2 ^ h) (hb : b.length = 2 ^ h) :
  mulL R (h + 1) (a ++ List.replicate (2 ^ h) 0) (b ++ List.replicate (2 ^ h) 0) = mulL R h a b ++ List.replicate (2 ^ h) 0 := by
 have hz : ∀ c : List Rat, c.length = 2 ^ h -> addL c (List.replicate (2 ^ h) 0) = c := by
  intro c hc;refine List.ext_getElem (by rw [addL_len hc List.length_replicate, hc]) fun i h1 h2 => ?_
  simp [addL, Rat.add_zero]
 rw [mulL];rw [<- ha, List.take_left, List.drop_left, ha, <- hb, List.take_left, List.drop_left, hb];rw [mulL_zero_left hR hb, mulL_zero_right hR ha, mulL_zero_left hR List.length_replicate, mulL_zero_left hR (hR h), hz _ mulL_len, hz _ List.length_replicate]
theorem mulL_up {R : Nat -> List Rat} (hR : ∀ i, (R i).length = 2 ^ i) {k : Nat} {a b : List Rat} (ha : a.length = 2 ^ k) (hb : b.length = 2 ^ k) : ∀ j, mulL R (k + j) (a ++ List.replicate (2 ^ (k + j) - 2 ^ k) 0) (b ++ List.replicate (2 ^ (k + j) - 2 ^ k) 0) = mulL R k a b ++ List.replicate (2 ^ (k + j) - 2 ^ k) 0
 | 0 => by simp
 | j + 1 => by
  have hle : 2 ^ k <= 2 ^ (k + j) := Nat.pow_le_pow_right (by omega) (by omega)
  have e : 2 ^ (k + (j + 1)) - 2 ^ k = (2 ^ (k + j) - 2 ^ k) + 2 ^ (k + j) := by
   rw [<- Nat.add_assoc, two_pow_s];omega
  have hl : ∀ c : List Rat, c.length = 2 ^ k -> (c ++ List.replicate (2 ^ (k + j) - 2 ^ k) 0).length = 2 ^ (k + j) := by
   intro c hc;rw [List.length_append, List.length_replicate, hc];omega
  rw [e, <- List.replicate_append_replicate, <- List.append_assoc, <- List.append_assoc, <- List.append_assoc, <- mulL_up hR ha hb j];exact mulL_low hR (hl a ha) (hl b hb)
theorem radQ_take {ts : List (List Rat)} {k i : Nat} (hi : i < k) (hk : k <= ts.length) : radQ (ts.take k) i = radQ ts i := by
 rw [radQ_at (by rw [List.length_take]; omega), radQ_at (by omega), List.getElem_take]
theorem mulL_congr {R S : Nat -> List Rat} : ∀ {h : Nat}, (∀ i, i < h -> R i = S i) -> ∀ a b, mulL R h a b = mulL S h a b
 | 0, _, _, _ => rfl
 | h + 1, e, a, b => by
  rw [mulL, mulL];simp only [mulL_congr (h := h) (fun i hi => e i (by omega)), e h (by omega)]
end
section
open Go.RowKit
attribute [local go_sem ↓] Go.wp_at_zero Go.wp_at_succ
def eD (k : Nat) : Nat := 2 ^ k + eF k
def fS : Nat -> Nat
 | 0 => 2
 | k + 1 => fS k + (4 * eD k + 1)
theorem fS_step (k : Nat) : fS (k + 1) = fS k + (4 * eD k + 1) := rfl
theorem fS_few : ∀ k, k < 4 -> 2 <= fS k /\ fS k <= 60 /\ 8 * eD k + 6 <= 166 /\ 2 ^ k * (4 + fS k) <= 1000 := by
 intro k hk
 match k, hk with
 | 0, _ => decide
 | 1, _ => decide
 | 2, _ => decide
 | 3, _ => decide
section
variable {w : World} {A : Option Addr} {n c : Nat} {ts : List (List Rat)}
set_option maxRecDepth 100000 in
theorem p_ringOf (h : PolT w A n c ts 4) (ht : TowL ts) (hs : ∀ r ∈ ts, ∀ q ∈ r, SmQ q) (hn : n <= 4) (hT : Tab w) : Calls Tryz.prog 65 #[.slice A n c] w (fun e w' => ∃ Ar cr Af cf, e = .returned (.agg #[.slice Ar n cr, .slice Af (2 ^ n) cf]) /\ ISl w' Ar n cr (ringR ts).1 166 /\ IPol w' Af (2 ^ n) cf (ringR ts).2 (fS n) /\ Ext w w') := by
 have Hlen := Lib.hid h.len;have HSM := Lib.hid hs;clear hs
 go_enter Tryz.func65, Tryz.ntmps65
 go_upto_region 1 with (fail)
 obtain ⟨W0, hW0, ext0, b2, hz0⟩ := box1 w 72 #[.slice Option.none 0 0, .slice Option.none 0 0];rw [<- hW0];clear hW0
 go_wp2_with fail
 refine (p_FromInt 1 (by omega) (by omega)).mono ?_;rintro e W1 ⟨s1, A1, n1, c1, rfl, h1, hx1⟩
 go_upto_region 2 with (fail)
 obtain ⟨W2, hW2, ext2, b9, b3, hz2⟩ := box2 W1 28 72 #[.bool s1, .slice A1 n1 c1] #[.slice Option.none 0 0, .slice (some ⟨W1.heap.size, 0, Option.none⟩) 1 1];rw [<- hW2];clear hW2;have hlo : w.heap.size + 1 <= W1.heap.size := by have := hx1.size; omega
 have S0 : RingS w W2 (W1.heap.size + 1) (.slice Option.none 0 0) (.slice (some ⟨W1.heap.size, 0, Option.none⟩) 1 1) [] [1] 166 (fS 0) := by
  have hrow : IRow W2 W1.heap.size [1] (fS 0) := ⟨_, b9, .cons (h1.ext ext2) .nil⟩;exact ⟨(ext0.trans hx1).trans ext2, (b2.ext hx1).ext ext2, b3, RowO.nil _ _ _ _, hrow.row2 hlo rfl (by omega), by omega⟩
 clear b9 b3 b2 ext0 hx1 hz0 ext2 h1 hlo hz2
 go_wp2_with fail
 go_loopw [13] (fun i wr => ∃ (k : Nat) (vr vf : Value), k <= n /\ i = .int .i64 (k : Int) /\ RingS w wr (W1.heap.size + 1) vr vf (ringR (ts.take k)).1 (ringR (ts.take k)).2 166 (fS k)) (fun i _ => n - (intOf i).toNat)
 case atStart => exact ⟨0, _, _, Nat.zero_le _, rfl, S0⟩
 case round =>
  clear S0;obtain ⟨k, vr, vf, hk, rfl, S⟩ := hrel;obtain ⟨G1, G2, G3, G4, _⟩ := ringR_take ht k (by rw [Hlen.out]; exact hk)
  by_cases hlt : k < n
  ·have hj : k < ts.length := by rw [Hlen.out]; exact hlt
   have hI : (k : Int) < (n : Int) := by omega
   obtain ⟨b, off, rfl, hr⟩ := h.at_ (fun e => by rw [e] at hj; exact absurd hj (Nat.not_lt_zero _));obtain ⟨Aq, nq, cq, e0, hq⟩ := hr k hj;replace e0 := S.ext.cellv e0;replace hq := hq.ext S.ext;have HN := ringR_snoc (ts.take k) ts[k];rw [<- List.take_succ_eq_append_getElem hj] at HN;have HLT := ht k hj;have HSR := HSM.out _ (List.getElem_mem hj);have hlq := hq.len;generalize ts[k] = r at hq HN HLT hlq HSR;obtain ⟨Ar, nr, cr, rfl⟩ := S.hO.shape;obtain ⟨Af, nf, cf, hvf, hfp⟩ := S.hF.pol;subst hvf;have hlf := hfp.len;have hqf : nq = nf := by rw [<- hlq, <- hlf, G2, HLT]
   have hN2 : nf = 2 ^ k := by rw [<- hlf, G2]
   have Hqf := Lib.hid hqf;have HNK := Lib.hid hN2;have hfew := fS_few k (by omega);have HSV := Lib.hid (split_val ht HSM.out (Nat.le_of_lt hj) HLT HSR);rw [<- hN2, <- hqf] at hfew;have HSZ := Lib.hid (fS_step k)
   have hn8 : nq <= 8 := by
    rw [hqf, hN2];exact Nat.le_trans (Nat.pow_le_pow_right (by omega) (show k <= 3 by omega)) (by decide)
   have hn0 : 0 < nq := by
    rw [hqf, hN2];exact Nat.pow_pos (by omega)
   obtain ⟨P, hP⟩ : ∃ P, P = 4 + fS k := ⟨_, rfl⟩;rw [<- hP] at hfew;obtain ⟨E, hE⟩ : ∃ E, E = eD k := ⟨_, rfl⟩;have hE2 : 2 ^ k + eF k = E := hE.symm;have hE1 : 1 <= E := by have := Nat.pow_pos (n := k) (show 0 < 2 by omega); omega
   rw [<- hE] at hfew HSZ;rw [hE2] at HSV;clear hE hE2;have HLR := Lib.hid (show (4 * (1 + E) + 1) + (4 * E + 1) <= 166 by omega);have HL1 := Lib.hid (show (ringR (ts.take k)).1.length <= 1000 by omega);have HL2 := Lib.hid (show (ringR (ts.take k)).2.length <= 1000 by omega);have HG3 := Lib.hid G3;have HG4 := Lib.hid G4;have HHN := Lib.hid HN;clear hN2 G3 G4 HN hlq hlf hqf;have hnf8 : nf <= 8 := by rw [<- Hqf.out]; exact hn8
   have hnf0 : 0 < nf := by rw [<- Hqf.out]; exact hn0
   have x0 := S.b3.cell 0 (.slice Ar nr cr) rfl;have x1 := S.b3.cell 1 (.slice Af nf cf) rfl
   go_wp2_with fail
   refine (p_splitT hq hfp Hqf.out HG3.out hP (by omega) (by omega) hn0 (by omega) HSV.out.1 (by omega) (by omega) (hT.ext S.ext)).mono ?_;rintro e V1 ⟨g6, s7, B7, m7, d7, rfl, hg6, hz, hy, hx1⟩;have hof := S.off hg6;replace hz := hz.tight HSV.out.2;replace hy := hy.tight' (by rw [Int.natAbs_natCast]; exact HSV.out.1);clear HSV
   go_upto_region 6 with (fail)
   obtain ⟨V2, hV2, ex2, b7, hz7⟩ := box1 V1 28 #[.bool s7, .slice B7 m7 d7];rw [<- hV2];clear hV2 hz7 x0 x1 e0 hq;replace hz := hz.ext ex2;replace hy := hy.ext ex2;replace S := S.next (hx1.trans ex2);clear hx1 ex2 hg6;generalize V1.heap.size = g8 at *;refine wpL.st 6 (fun hQ ES => ?_);refine wpL.uB [1,6] 0 23 hQ ES ?_
   try simp only [zP]
   refine wpL.tB [6] 1 24 ?v_1 hQ ?y_1 ES ?_
   case y_1 => intro w' hSw;have k00 := (S.b3.ext hSw).cell 0 _ rfl;have k01 := (S.b3.ext hSw).cell 1 _ rfl;have k10 := (b7.ext hSw).c2;go_simp;try rfl
   try simp only [zP]
   refine wpL.uB [4,5,6] 2 25 hQ ES ?_
   try simp only [zP]
   refine wpL.tB [4,5,6] 3 26 ?v_3 hQ ?y_3 ES ?_
   case y_3 => intro w' hSw;have k00 := (S.b3.ext hSw).cell 0 _ rfl;have k01 := (S.b3.ext hSw).cell 1 _ rfl;have k10 := (b7.ext hSw).c2;go_simp;try rfl
   try simp only [zP]
   refine wpL.cl (i := 4) rfl (fun K hK => ?_);go_simp
   (go_at_call 73; refine (p_multipleN (hz.ext ES) (hy.ext ES) (by omega) (by omega) (by omega) (by omega)).mono ?_; rintro e wa ⟨A5, c5, rfl, h5, hf5, hx0⟩; have E4 := Ext.trans ES hx0)
   refine hK.out _ _ E4 ?_;clear hK K
   try simp only [zP]
   refine wpL.cl (i := 5) rfl (fun K hK => ?_);go_simp;obtain ⟨wb, hwb, exb, bb, hzb⟩ := box1 wa 70 #[.slice A5 nq c5];rw [<- hwb];have E5 := E4.trans exb;refine hK.out _ _ E5 ?_;clear hK K hwb hzb
   try simp only [zP]
   have SB := S.next E5
   have hoA : Off (.slice Af nf cf) A5 := by
    rcases hf5 with rfl | ⟨g, rfl, hg⟩
    ·exact hof
    ·exact S.off hg
   refine wpL.tl (i := 6) rfl (fun K hK => ?_);refine step_append_rowO rfl _ _ rfl rfl rfl SB.hO ((h5.ext exb).leT HLR.out) hoA bb HL1.out (by have := SB.ext.size; have := SB.lo; have := SB.b3.lt; omega) ?_;intro v6 w6 q1 q2;refine hK.out _ _ ?_
   try simp only [List.getElem_toArray, List.getElem_cons_succ, List.getElem_cons_zero]
   clear hK K
   try simp only [zP]
   have m3 := SB.midR q2;obtain ⟨A6, n6, c6, rfl⟩ := q1.shape;refine wpL.tl (i := 7) rfl (fun K hK => ?_);go_simp;refine hK.out _ _ ?_;clear hK K
   try simp only [zP]
   have z0 := m3.cell 0 _ rfl;have f0 := m3.frozen 0;refine wpL.tl (i := 8) rfl (fun K hK => ?_);go_simp;refine hK.out _ _ ?_;clear hK K
   try simp only [zP]
   refine wpL.done (by kernel_rfl) ?_ _;clear hQ;have SA := SB.addR q2 q1;have b7' := SA.2.2 _ _ (b7.ext E5);have hy' := SA.2.1 _ _ _ _ _ _ (hy.ext E5);have S' := SA.1;clear SA SB S b7 hy z0 f0 m3 q1 q2 E4 E5 exb bb hx0 ES h5 hz hfp hof hoA hf5;refine at_exit (fun U => RingS w U (W1.heap.size + 1) (.slice A6 n6 c6) (.slice Af nf cf) ((ringR (ts.take k)).1 ++ [(numsP (partL r (ringR (ts.take k)).2)).map (· * ((denP (partL r (ringR (ts.take k)).2) : Nat) : Int))]) (ringR (ts.take k)).2 166 (fS k) /\ Box U g8 28 #[.bool s7, .slice B7 m7 d7] /\ NI U ((denP (partL r (ringR (ts.take k)).2) : Nat) : Int) (4 * E + 1) s7 B7 m7 d7) ⟨S', b7', hy'⟩ ?_;clear S' b7' hy';rintro V3 ⟨S, b7, hy⟩;obtain ⟨Af', nf', cf', hvf, hfp⟩ := S.hF.pol
   injection hvf with hv1 hv2 hv3
   subst hv1 hv2 hv3
   go_upto_region 7 with (fail)
   refine wpL.st 6 (fun hQ ES => ?_);refine wpL.uB [1,6] 0 31 hQ ES ?_
   try simp only [zP]
   refine wpL.tB [6] 1 32 ?v_5 hQ ?y_5 ES ?_
   case y_5 => intro w' hSw;have k00 := (S.b3.ext hSw).cell 0 _ rfl;have k01 := (S.b3.ext hSw).cell 1 _ rfl;have k10 := (b7.ext hSw).c2;go_simp;try rfl
   try simp only [zP]
   refine wpL.uB [3,5,6] 2 33 hQ ES ?_
   try simp only [zP]
   refine wpL.tB [5,6] 3 34 ?v_7 hQ ?y_7 ES ?_
   case y_7 => intro w' hSw;have k00 := (S.b3.ext hSw).cell 0 _ rfl;have k01 := (S.b3.ext hSw).cell 1 _ rfl;have k10 := (b7.ext hSw).c2;go_simp;try rfl
   try simp only [zP]
   refine wpL.tB [5,6] 4 35 ?v_8 hQ ?y_8 ES ?_
   case y_8 => intro w' hSw;have k00 := (S.b3.ext hSw).cell 0 _ rfl;have k01 := (S.b3.ext hSw).cell 1 _ rfl;have k10 := (b7.ext hSw).c2;go_simp;try rfl
   try simp only [zP]
   refine wpL.cl (i := 5) rfl (fun K hK => ?_);go_simp
   (go_at_call 73; refine (p_multipleN (hfp.ext ES) (hy.ext ES) (by omega) (by omega) (by omega) (by omega)).mono ?_; rintro e wa ⟨A5, c5, rfl, h5, hf5, hx0⟩; have E4 := Ext.trans ES hx0)
   refine hK.out _ _ E4 ?_;clear hK K
   try simp only [zP]
   have SB := S.next E4;refine wpL.tl (i := 6) rfl (fun K hK => ?_);refine step_append_row2 rfl _ _ rfl rfl rfl (SB.hF.leT (show fS k <= fS (k + 1) by have := HSZ.out; omega)) (h5.leT (by have := HSZ.out; omega)) (by omega) HL2.out (by omega) (by have := SB.ext.size; have := SB.lo; have := SB.b3.lt; omega) ?_;intro v6 w6 q1 q2 q3;refine hK.out _ _ ?_
   try simp only [List.getElem_toArray, List.getElem_cons_succ, List.getElem_cons_zero]
   clear hK K
   try simp only [zP]
   have m3 := SB.midF q2;obtain ⟨A6, n6, c6, rfl⟩ := q1.shape;refine wpL.tl (i := 7) rfl (fun K hK => ?_);go_simp;refine hK.out _ _ ?_;clear hK K
   try simp only [zP]
   have z0 := m3.cell 1 _ rfl;have f0 := m3.frozen 1;refine wpL.tl (i := 8) rfl (fun K hK => ?_);go_simp;refine hK.out _ _ ?_;clear hK K
   try simp only [zP]
   refine wpL.done (by kernel_rfl) ?_ _;clear hQ
   have S' := SB.addF q2 q1 q3 (by
    intro R hR
    rcases List.mem_append.1 hR with hR | hR
    ·exact HG4.out R hR
    ·rw [List.mem_singleton.1 hR]
     intro e;have e2 := congrArg List.length e;rw [List.length_map, numsP_len] at e2;unfold partL at e2;rw [List.length_zipWith, HLT, G2, Nat.min_self] at e2;have := Nat.pow_pos (n := k) (show 0 < 2 by omega);simp at e2)
   clear SB S b7 hy z0 f0 m3 q1 q2 q3 E4 hx0 ES h5 hfp hf5
   go_wp2_with fail
   go_roundw
   case rel => exact ⟨k + 1, _, _, by omega, by go_num, by rw [HHN.out]; exact S'⟩
   case measure => simp [intOf]; omega
  ·have hkn : k = n := by omega
   subst hkn;rw [List.take_of_length_le (Nat.le_of_eq Hlen.out)] at S G1 G2;have hI : (k : Int) <= (k : Int) := Int.le_refl _;obtain ⟨Ar, nr, cr, hvr, hir⟩ := S.hO.isl;subst hvr;obtain ⟨Af, nf, cf, hvf, hfp⟩ := S.hF.pol;subst hvf;have hnr : k = nr := by rw [<- hir.len, G1]
   have hnf : nf = 2 ^ k := by rw [<- hfp.len, G2]
   have x0 := S.b3.cell 0 (.slice Ar nr cr) rfl;have x1 := S.b3.cell 1 (.slice Af nf cf) rfl;have z0 := S.b2.cell 0 _ rfl;have z1 := S.b2.cell 1 _ rfl;have f0 := S.b2.frozen 0;have f1 := S.b2.frozen 1;have hv : NSB wr (.slice (some ⟨w.heap.size, 0, Option.none⟩) 2 2) := NSB.box S.b2 (nsw2 ⟨_, _, _, rfl⟩ ⟨_, _, _, rfl⟩);have kc := (grownC wr ⟨w.heap.size, 0, Option.none⟩ (.slice Ar nr cr)).trans (grownC _ ⟨w.heap.size, 1, Option.none⟩ (.slice Af nf cf));have ex := (S.ext.setCell (p := ⟨w.heap.size, 0, Option.none⟩) (Nat.le_refl _) (.slice Ar nr cr)).setCell (p := ⟨w.heap.size, 1, Option.none⟩) (Nat.le_refl _) (.slice Af nf cf);have hb := (S.b2.set 0 (.slice Ar nr cr)).set 1 (.slice Af nf cf);have hO2 := S.hO.ownN hv kc (fun g hg e => S.hO.boxne' S.b2 sl_ne_ring (hg.trans e.symm));have hF2 := S.hF.ownN hv kc (fun g hg e => S.hF.boxne S.b2 int_ne_ring (hg.trans e.symm));obtain ⟨_, _, _, q1, hi2⟩ := hO2.isl
   injection q1 with q1 q2 q3
   subst q1 q2 q3;obtain ⟨_, _, _, q1, hp2⟩ := hF2.pol
   injection q1 with q1 q2 q3
   subst q1 q2 q3;have r0 := hb.cell 0 (.slice Ar nr cr) (by simp);have r1 := hb.cell 1 (.slice Af nf cf) (by simp)
   go_wp2_with fail
   subst hnr;rw [<- hnf];refine bodyPost_ret (v := .agg #[.slice Ar k cr, .slice Af nf cf]) (by simp [results, Tryz.results65, go_sem, r0, r1]) rfl ⟨_, _, _, _, rfl, hi2, hp2, ex⟩
end
def eV : Nat -> Nat
 | 0 => 0
 | h + 1 => eV h + (1 + 2 * (2 ^ h + eF h) + eV h + 1)
theorem vV_le : ∀ h, vV rW h <= W4 ^ eV h
 | 0 => Nat.le_refl _
 | h + 1 => by
  have ih := vV_le h
  have h1 : rW h * vV rW h <= W4 ^ (1 + 2 * (2 ^ h + eF h) + eV h) := by
   rw [Nat.pow_add];exact Nat.mul_le_mul (Nat.le_refl _) ih
  have h2 : 2 + rW h * vV rW h <= W4 ^ (1 + 2 * (2 ^ h + eF h) + eV h + 1) := by
   rw [Nat.pow_succ];have h3 : 0 < W4 ^ (1 + 2 * (2 ^ h + eF h) + eV h) := Nat.pow_pos W4_pos;generalize W4 ^ (1 + 2 * (2 ^ h + eF h) + eV h) = p at h1 h3;have h4 : p * 3 <= p * W4 := Nat.mul_le_mul_left _ (by decide +kernel);omega
  show vV rW h * (2 + rW h * vV rW h) <= W4 ^ (eV h + (1 + 2 * (2 ^ h + eF h) + eV h + 1))
  rw [Nat.pow_add];exact Nat.mul_le_mul ih h2
theorem W4_abs {a : List Int} {e : Nat} (h : AbsL a (W4 ^ e)) : ∀ z ∈ a, z.natAbs < 4294967296 ^ (4 * e + 1) := fun z hz => W4_words (h z hz)
theorem norm_abs {ts : List (List Rat)} (ht : TowL ts) (hs : ∀ r ∈ ts, ∀ q ∈ r, SmQ q) {h e : Nat} {a : List Int} (ha : AbsL a (W4 ^ e)) : AbsL (normLI (radI (ringR ts).1) h a) (W4 ^ (e + e + eV (h + 1))) := by
 refine (normLI_abs (radI_val ht hs) ha).le ?_;rw [Nat.pow_add, Nat.pow_add];exact Nat.mul_le_mul_left _ (vV_le _)
section
variable {w w' : World} {q x : Rat} {L M : Nat} {s t : Bool} {A B : Option Addr} {n c m d : Nat} {sx tx : Bool} {Ax Bx : Option Addr} {nx cx mx dx : Nat} {qs ps : List Rat} {rs : List RawR} {ts us : List (List RawR)}
theorem q_rightT (h : RawP w A n c rs) (k : Nat) (hn : n <= 100000) (hk0 : k <= 100000) (hr : rs.all (fun r => r.le 1000) = true) : Calls Tryz.prog 50 #[.slice A n c, .int .i64 (k : Int)] w fun e w' => e = .returned (.bool (validL rs k)) /\ Ext w w' := by
 have Hlen := Lib.hid h.len
 go_enter Tryz.func50, Tryz.ntmps50
 go_wp2_with fail
 go_loopw [5] (fun i wr => ∃ k : Nat, k <= n /\ i = .int .i64 (k : Int) /\ Ext w wr /\ (rs.take k).all RawR.valid = true) (fun i _ => n - (intOf i).toNat)
 case atStart => exact ⟨0, by omega, rfl, Ext.refl _, by simp⟩
 case round =>
  obtain ⟨j, hk, rfl, ext, hall⟩ := hrel;have HA := Lib.hid hall;clear hall
  by_cases hlt : j < n
  ·have hj : j < rs.length := by rw [Hlen.out]; exact hlt
   have hI : (j : Int) < (n : Int) := by omega
   obtain ⟨p, off, rfl, hr'⟩ := h.at_ (fun e => by rw [e] at hj; exact absurd hj (Nat.not_lt_zero _));obtain ⟨Ax, nx, cx, Bx, mx, dx, e0, e1, e2, e3, hx, hy⟩ := (hr' j hj).ext ext;have HT := Lib.hid (show (rs.take (j + 1)).all RawR.valid = ((rs.take j).all RawR.valid && RawR.valid rs[j]) by rw [List.take_succ_eq_append_getElem hj, List.all_append]; simp)
   have HM := Lib.hid (fun hf : RawR.valid rs[j] = false => show validL rs k = false by
    unfold validL;rw [Bool.and_eq_false_iff]
    right
    rw [List.all_eq_false];exact ⟨rs[j], List.getElem_mem hj, by rw [hf]; simp⟩)
   have hle := List.all_eq_true.1 hr rs[j] (List.getElem_mem hj);unfold RawR.le at hle;simp only [Bool.and_eq_true, decide_eq_true_eq] at hle;have l1 := hle.1;have l2 := hle.2;have x1 := hx.len;have x2 := hy.len;clear hle;generalize rs[j] = r at e0 e1 e2 e3 hx hy HT HM l1 l2 x1 x2;have l3 : nx <= 1000 := by omega
   have l4 : mx <= 1000 := by omega
   clear l1 l2 x1 x2;have e0' : wr.cell? ⟨p, off + j * 4, none⟩ = some (.bool r.s) := by rw [Nat.mul_comm]; exact e0
   have e1' : wr.cell? ⟨p, off + j * 4 + 1, none⟩ = some (.slice Ax nx cx) := by rw [Nat.mul_comm]; exact e1
   have e2' : wr.cell? ⟨p, off + j * 4 + 2, none⟩ = some (.bool r.t) := by rw [Nat.mul_comm]; exact e2
   have e3' : wr.cell? ⟨p, off + j * 4 + 3, none⟩ = some (.slice Bx mx dx) := by rw [Nat.mul_comm]; exact e3
   cases hs : validQ r.s r.xs r.t r.ys with
   | false =>
    have HS := Lib.hid hs;clear hs
    go_wp2_with fail
    refine (q_ValidRaw hx hy (by omega) (by omega)).mono ?_;rintro e V ⟨rfl, hxv⟩;rw [HS.out]
    go_wp2_with fail
    go_ret
    exact ⟨by rw [HM.out HS.out]; rfl, ext.trans hxv⟩
   | true =>
    have HS := Lib.hid hs;clear hs
    go_wp2_with fail
    refine (q_ValidRaw hx hy (by omega) (by omega)).mono ?_;rintro e V ⟨rfl, hxv⟩;rw [HS.out]
    go_wp2_with fail
    go_roundw
    case rel => exact ⟨j + 1, by omega, by go_num, ext.trans hxv, by rw [HT.out, HA.out]; exact HS.out⟩
    case measure => simp [intOf]; omega
  ·have hI : (n : Int) <= (j : Int) := by omega
   have ha := HA.out;rw [List.take_of_length_le (by rw [Hlen.out]; omega)] at ha;have hv : validL rs k = decide (n = k) := by unfold validL; rw [ha, Hlen.out, Bool.and_true]
   have Hv := Lib.hid hv
   have hbq : ((n : Int) == (k : Int)) = decide (n = k) := by
    by_cases h : n = k
    ·subst h; simp
    ·rw [decide_eq_false h]; exact beq_eq_false_iff_ne.2 (by omega)
   have Hbq := Lib.hid hbq;clear ha hv hbq
   go_wp2_with fail
   go_ret
   exact ⟨by rw [Hv.out, <- Hbq.out]; rfl, ext⟩
theorem q_TowerT (h : RawT w A n c ts) (hn : n <= 16) (hr : ∀ l ∈ ts, l.all (fun r => r.le 1000) = true) (hrl : ∀ l ∈ ts, l.length <= 100000) : Calls Tryz.prog 17 #[.slice A n c] w fun e w' => e = .returned (.bool (towerB ts 0)) /\ Ext w w' := by
 have Hlen := Lib.hid h.len
 go_enter Tryz.func17, Tryz.ntmps17
 go_wp2_with fail
 go_loopw [3] (fun i wr => ∃ k : Nat, k <= n /\ i = .int .i64 (k : Int) /\ Ext w wr /\ towerB (ts.take k) 0 = true) (fun i _ => n - (intOf i).toNat)
 case atStart => exact ⟨0, by omega, rfl, Ext.refl _, rfl⟩
 case round =>
  obtain ⟨j, hj, rfl, ext, hall⟩ := hrel;have HA := Lib.hid hall;clear hall
  by_cases hlt : j < n
  ·have hjl : j < ts.length := by rw [Hlen.out]; exact hlt
   have hI : (j : Int) < (n : Int) := by omega
   obtain ⟨P, hP⟩ : ∃ P, P = 2 ^ j := ⟨_, rfl⟩
   have hPb : P <= 65536 := by
    rw [hP];exact Nat.le_trans (Nat.pow_le_pow_right (by omega) (show j <= 16 by omega)) (by decide)
   have hW3 : wrap64 ((2 : Int) ^ j) = (P : Int) := by
    rw [hP];have e1 : ((2 : Int) ^ j) = ((2 ^ j : Nat) : Int) := by push_cast; rfl
    rw [e1];unfold wrap64;omega
   have hW4 : IntKind.i64.wrap ((2 : Int) ^ j) = (P : Int) := by rw [<- hW3, IntKind.wrap_i64]; unfold wrap64; omega
   have HP := Lib.hid hP;clear hP;obtain ⟨p, off, rfl, hr0⟩ := h.at_ (fun e => by rw [e] at hjl; exact absurd hjl (Nat.not_lt_zero _));obtain ⟨A', n', c', e0, hx⟩ := hr0 j hjl;replace e0 := ext.cellv e0;replace hx := hx.ext ext;have hle := hr ts[j] (List.getElem_mem hjl);have hnl : n' <= 100000 := by rw [<- hx.len]; exact hrl ts[j] (List.getElem_mem hjl)
   have HT := Lib.hid (towerB_step hjl HA.out);have HM := Lib.hid (fun hf : validL ts[j] (2 ^ j) = false => towerB_stop hjl hf);generalize ts[j] = l at hx hle HT HM
   go_upto_region 4 with (fail)
   have ES0 := Ext.refl wr;refine wp_region_held_drew (S := Ext wr) (by kernel_rfl) ES0.drew (fun ES => ?_);clear ES0;refine Late.s0 ES (fun hAl hQ => ?_);refine Late.u 0 10 hQ ?_
   try simp only [zP]
   refine Late.u 1 11 hQ ?_
   try simp only [zP]
   refine Late.u 4 14 hQ ?_
   try simp only [zP]
   refine Late.u 2 12 hQ ?_
   try simp only [zP]
   refine Late.u 5 15 hQ ?_
   try simp only [zP]
   refine Late.t 3 13 ?v_5 hQ ?y_5 ?_
   case y_5 => intro w' hSw;have q0_ := hSw.cellv e0;go_simp;try rfl
   try simp only [zP]
   refine Late.cl (i := 6) rfl hAl hQ (fun w6 e6 E6 K hK => ?_);go_simp
   (go_at_call 50; refine (q_rightT (hx.ext E6) P hnl (by omega) hle).mono ?_; rintro e wk6 ⟨rfl, hx6⟩)
   refine hK.out _ _ hx6 ?_;clear hK K
   try simp only [zP]
   refine Late.u 7 17 hQ ?_
   try simp only [zP]
   refine Late.d0 (fun wz ez Ez => ?_);clear hAl hQ ES
   cases hs : validL l P with
   | false =>
    have HS := Lib.hid hs;clear hs
    go_wp2_with fail
    go_ret
    exact ⟨by rw [HM.out (by rw [<- HP.out]; exact HS.out)]; rfl, ext.trans Ez⟩
   | true =>
    have HS := Lib.hid hs;clear hs
    go_wp2_with fail
    go_roundw
    case rel => exact ⟨j + 1, by omega, by go_num, ext.trans Ez, by rw [HT.out, <- HP.out]; exact HS.out⟩
    case measure => simp [intOf]; omega
  ·have hI : (n : Int) <= (j : Int) := by omega
   have ha := HA.out;rw [List.take_of_length_le (by rw [Hlen.out]; omega)] at ha;have Ha := Lib.hid ha;clear ha
   go_wp2_with fail
   go_ret
   exact ⟨by rw [Ha.out]; rfl, ext⟩
theorem q_FormedT (h : RawT w A n c ts) (ha : RawP w B m d rs) (hn : n <= 16) (hm : m <= 100000) (hr : ∀ l ∈ ts, l.all (fun r => r.le 1000) = true) (hrl : ∀ l ∈ ts, l.length <= 100000) (hr' : rs.all (fun r => r.le 1000) = true) : Calls Tryz.prog 15 #[.slice A n c, .slice B m d] w fun e w' => e = .returned (.bool (formedB ts [rs])) /\ Ext w w' := by
 obtain ⟨P, hP⟩ : ∃ P, P = 2 ^ n := ⟨_, rfl⟩
 have hPb : P <= 65536 := by
  rw [hP];exact Nat.le_trans (Nat.pow_le_pow_right (by omega) hn) (by decide)
 have hW3 : wrap64 ((2 : Int) ^ n) = (P : Int) := by
  rw [hP];have e1 : ((2 : Int) ^ n) = ((2 ^ n : Nat) : Int) := by push_cast; rfl
  rw [e1];unfold wrap64;omega
 have hW4 : IntKind.i64.wrap ((2 : Int) ^ n) = (P : Int) := by rw [<- hW3, IntKind.wrap_i64]; unfold wrap64; omega
 have hfb : formedB ts [rs] = (towerB ts 0 && validL rs P) := by unfold formedB; rw [h.len, <- hP]; simp
 have Hfb := Lib.hid hfb;clear hP hfb
 cases ht : towerB ts 0 with
 | false =>
  have HT := Lib.hid ht;clear ht
  go_enter Tryz.func15, Tryz.ntmps15
  go_wp2_with fail
  refine (q_TowerT h hn hr hrl).mono ?_;rintro e V ⟨rfl, hx⟩;rw [HT.out]
  go_wp2_with fail
  go_ret
  exact ⟨by rw [Hfb.out, HT.out]; rfl, hx⟩
 | true =>
  have HT := Lib.hid ht;clear ht
  go_enter Tryz.func15, Tryz.ntmps15
  go_wp2_with fail
  refine (q_TowerT h hn hr hrl).mono ?_;rintro e V ⟨rfl, hx⟩;rw [HT.out]
  go_wp2_with fail
  refine (q_rightT (ha.ext hx) P hm (by omega) hr').mono ?_;rintro e V2 ⟨rfl, hx2⟩
  go_wp2_with fail
  go_ret
  exact ⟨by rw [Hfb.out, HT.out]; rfl, hx.trans hx2⟩
theorem Pol.dropT {b o k : Nat} (h : Pol w (some ⟨b, o, Option.none⟩) n c qs L) (hk : k <= n) : Pol w (some ⟨b, o + k * 4, Option.none⟩) (n - k) (c - k) (qs.drop k) L := by
 refine ⟨by rw [List.length_drop, h.len], by have := h.cap; omega, by have := h.top; omega, fun hq => ?_⟩;obtain ⟨b', o', h1, h2⟩ := h.at_ (fun e => hq (by rw [e]; simp))
 injection h1 with h1
 injection h1 with q1 q2
 subst q1 q2;refine ⟨b, o + k * 4, rfl, ⟨fun i hi => ?_⟩⟩;rw [List.length_drop] at hi;have := h2.at_ (k + i) (by omega);rw [List.getElem_drop];rw [show o + 4 * (k + i) = o + k * 4 + 4 * i by omega] at this;exact this
theorem Pol.nilT (w : World) (A : Option Addr) (c L : Nat) (hc : c <= maxLen) : Pol w A 0 c [] L := ⟨rfl, Nat.zero_le _, hc, fun h => absurd rfl h⟩
theorem zeroB_nil : zeroB [] = true := rfl
theorem p_heightT {m : Nat} (h : Pol w A n c qs L) (hn : n = 2 ^ m) (hm : m <= 16) (hL : L <= 1000) : Calls Tryz.prog 60 #[.slice A n c] w (fun e w' => ∃ k, k <= m /\ e = .returned (.int .i64 (k : Int)) /\ zeroB (qs.drop (2 ^ k)) = true /\ (∀ j, j < k -> zeroB (qs.drop (2 ^ j)) = false) /\ Ext w w') := by
 have hcap := h.cap;have htop := h.top;have hn0 : 0 < n := by rw [hn]; exact Nat.pow_pos (by omega)
 have hn1 : n <= 65536 := by rw [hn]; exact Nat.le_trans (Nat.pow_le_pow_right (by omega) hm) (by decide)
 obtain ⟨b, off, rfl, _⟩ := h.at_ (fun e => by have := h.len; rw [e] at this; simp at this; omega);have HN := Lib.hid hn;have hnc : (n : Int) <= (c : Int) := by omega
 clear hn
 go_enter Tryz.func60, Tryz.ntmps60
 go_wp2_with fail
 go_loopw [3] (fun i wr => ∃ k : Nat, k <= m /\ i = .int .i64 (k : Int) /\ Ext w wr /\ ∀ j, j < k -> zeroB (qs.drop (2 ^ j)) = false) (fun i _ => m - (intOf i).toNat)
 case atStart => exact ⟨0, Nat.zero_le _, rfl, Ext.refl _, fun j hj => by omega⟩
 case round =>
  obtain ⟨k, hk, rfl, ext, hall⟩ := hrel;have HA := Lib.hid hall;clear hall;obtain ⟨P, hP⟩ : ∃ P, P = 2 ^ k := ⟨_, rfl⟩;have hPn : P <= n := by rw [hP, HN.out]; exact Nat.pow_le_pow_right (by omega) hk
  have HP := Lib.hid hP
  have hW2 : wrap64 ((2 : Int) ^ k) = (P : Int) := by
   rw [hP];have e1 : ((2 : Int) ^ k) = ((2 ^ k : Nat) : Int) := by push_cast; rfl
   rw [e1];unfold wrap64;omega
  have hW3 : IntKind.i64.wrap ((2 : Int) ^ k) = (P : Int) := by rw [<- hW2, IntKind.wrap_i64]; unfold wrap64; omega
  clear hP;have hI1 : (P : Int) <= (n : Int) := by omega
  have hI2 : (P : Int) <= (c : Int) := by omega
  by_cases hcP : c = P
  ·go_wp2_with fail
   rw [show n - P = 0 by omega];refine (p_ZeroT (Pol.nilT wr _ 0 L (Nat.zero_le _)) hL (by omega)).mono ?_;rintro e V ⟨rfl, hx1⟩;rw [zeroB_nil];have hz0 : zeroB (qs.drop P) = true := by rw [List.drop_of_length_le (by rw [h.len]; omega)]; rfl
   have HZ := Lib.hid hz0;clear hz0
   go_wp2_with fail
   go_ret
   exact ⟨k, hk, rfl, by rw [<- HP.out]; exact HZ.out, HA.out, ext.trans hx1⟩
  ·have hcP2 : ¬ c - P = 0 := by omega
   go_wp2_with fail
   refine (p_ZeroT ((h.dropT hPn).ext ext) hL (by omega)).mono ?_;rintro e V ⟨rfl, hx1⟩
   cases hzb : zeroB (qs.drop P) with
   | true =>
    have HZ := Lib.hid hzb;clear hzb
    go_wp2_with fail
    go_ret
    exact ⟨k, hk, rfl, by rw [<- HP.out]; exact HZ.out, HA.out, ext.trans hx1⟩
   | false =>
    have HZ := Lib.hid hzb;clear hzb
    have hkm : k < m := by
     rcases Nat.lt_or_ge k m with q | q
     ·exact q
     ·have e : k = m := by omega
      have hz := HZ.out;rw [HP.out, e, List.drop_of_length_le (by rw [h.len, HN.out]; omega)] at hz
      cases hz
    go_wp2_with fail
    go_roundw
    case rel =>
     refine ⟨k + 1, by omega, by go_num, ext.trans hx1, fun j hj => ?_⟩
     rcases Nat.lt_or_ge j k with q | q
     ·exact HA.out j q
     ·have e : j = k := by omega
      subst e;rw [<- HP.out];exact HZ.out
    case measure => simp [intOf]; omega
end
def BdQ (e d : Nat) (qs : List Rat) : Prop := (∀ q ∈ qs, q.num.natAbs <= W4 ^ e) /\ ∃ M, 0 < M /\ M <= W4 ^ d /\ ∀ q ∈ qs, q.den ∣ M
theorem BdQ.sm {qs : List Rat} {d : Nat} (h : ∀ q ∈ qs, SmQ q) (hd : qs.length <= d) : BdQ 1 d qs :=
 ⟨fun q hq => by rw [Nat.pow_one]; exact (h q hq).1, prodD qs, (prodD_le h).1, Nat.le_trans (prodD_le h).2 (Nat.pow_le_pow_right W4_pos hd), prodD_dvd⟩
theorem BdQ.sub {e d : Nat} {qs ps : List Rat} (h : BdQ e d qs) (hs : ∀ p ∈ ps, p ∈ qs) : BdQ e d ps := by
 obtain ⟨h1, M, h2, h3, h4⟩ := h;exact ⟨fun q hq => h1 q (hs q hq), M, h2, h3, fun q hq => h4 q (hs q hq)⟩
theorem BdQ.take {e d : Nat} {qs : List Rat} (h : BdQ e d qs) (n : Nat) : BdQ e d (qs.take n) := h.sub fun _ hp => List.mem_of_mem_take hp
theorem split_bd {ts : List (List Rat)} (ht : TowL ts) (hs : ∀ r ∈ ts, ∀ q ∈ r, SmQ q) {e d : Nat} {qs : List Rat} (hq : BdQ e d qs) :
  AbsL (numsP (partL qs (ringR ts).2)) (W4 ^ (e + (d + eF ts.length))) /\ denP (partL qs (ringR ts).2) <= W4 ^ (d + eF ts.length) := by
 obtain ⟨D, h1, h2, h3⟩ := ringR_val ht hs ts.length (Nat.le_refl _);rw [List.take_length] at h3;obtain ⟨q1, M, q2, q3, q4⟩ := hq
 have hd : denP (partL qs (ringR ts).2) <= W4 ^ (d + eF ts.length) := by
  have h4 : denP (partL qs (ringR ts).2) ∣ M * D := by
   refine denP_dvd_of fun p hp => ?_
   obtain ⟨q, hq, f, hff, rfl⟩ := partL_mem hp;exact Nat.dvd_trans (partQ_parts (h3 f hff).1).1 (Nat.mul_dvd_mul (q4 q hq) (h3 f hff).2)
  rw [Nat.pow_add];exact Nat.le_trans (Nat.le_of_dvd (Nat.mul_pos q2 h1) h4) (Nat.mul_le_mul q3 h2)
 refine ⟨fun z hz => ?_, hd⟩;obtain ⟨p, hp, rfl⟩ := List.mem_map.1 hz;obtain ⟨q, hq, f, hff, hpq⟩ := partL_mem hp;have h5 : p.num.natAbs <= W4 ^ e := by rw [hpq]; exact Nat.le_trans (partQ_parts (h3 f hff).1).2 (q1 q hq)
 rw [Int.natAbs_mul, Nat.pow_add];refine Nat.mul_le_mul h5 (Nat.le_trans ?_ hd);have e : ((denP (partL qs (ringR ts).2) : Nat) : Int) / ((p.den : Nat) : Int) = ((denP (partL qs (ringR ts).2) / p.den : Nat) : Int) := by push_cast; rfl
 rw [e, Int.natAbs_natCast];exact Nat.div_le_self _ _
theorem mul_abs {ts : List (List Rat)} (ht : TowL ts) (hs : ∀ r ∈ ts, ∀ q ∈ r, SmQ q) {h e e' : Nat} {a b : List Int} (ha : AbsL a (W4 ^ e)) (hb : AbsL b (W4 ^ e')) : AbsL (mulL (radI (ringR ts).1) h a b) (W4 ^ (e + e' + eV h)) := by
 refine (mulL_abs (radI_val ht hs) ha hb).le ?_;rw [Nat.pow_add, Nat.pow_add];exact Nat.mul_le_mul_left _ (vV_le _)
theorem m_few : ∀ k, k < 5 -> eF k <= 32 /\ eV k <= 142 /\ fS k <= 140 /\ 2 <= fS k /\ szP 166 k <= 2600 /\ 2 ^ k * (40 + fS k) <= 2898 /\ 2 ^ k <= 16 := by
 intro k hk
 match k, hk with
 | 0, _ => decide
 | 1, _ => decide
 | 2, _ => decide
 | 3, _ => decide
 | 4, _ => decide
theorem zeroB_repl : ∀ {l : List Rat}, zeroB l = true -> l = List.replicate l.length 0
 | [], _ => rfl
 | q :: l, h => by
  unfold zeroB at h;rw [List.all_cons, Bool.and_eq_true, decide_eq_true_eq] at h;have ih := zeroB_repl (l := l) h.2;rw [List.length_cons, List.replicate_succ, <- ih, h.1]
theorem zeroB_drop {l : List Rat} {a b : Nat} (h : zeroB (l.drop a) = true) (hab : a <= b) : zeroB (l.drop b) = true := by
 unfold zeroB at *;rw [List.all_eq_true] at *;intro q hq;refine h q ?_;rw [show b = a + (b - a) by omega, <- List.drop_drop] at hq;exact List.mem_of_mem_drop hq
theorem low_zero {qs : List Rat} {n k : Nat} (hl : qs.length = 2 ^ n) (hz : zeroB (qs.drop (2 ^ k)) = true) : qs = qs.take (2 ^ k) ++ List.replicate (2 ^ n - 2 ^ k) 0 := by
 have h := zeroB_repl hz;rw [List.length_drop, hl] at h;rw [<- h, List.take_append_drop]
theorem take_TowL {ts : List (List Rat)} (h : TowL ts) (k : Nat) : TowL (ts.take k) := fun i hi => by
 rw [List.length_take] at hi;rw [List.getElem_take];exact h i (by omega)
theorem mul_low {ts : List (List Rat)} (ht : TowL ts) {qs ps : List Rat} {k : Nat} (hk : k <= ts.length) (hq : qs.length = 2 ^ ts.length) (hp : ps.length = 2 ^ ts.length) (zq : zeroB (qs.drop (2 ^ k)) = true) (zp : zeroB (ps.drop (2 ^ k)) = true) :
  mulL (radQ ts) ts.length qs ps = mulL (radQ (ts.take k)) (ts.take k).length (qs.take (2 ^ k)) (ps.take (2 ^ k)) ++ List.replicate (2 ^ ts.length - 2 ^ k) 0 := by
 have hle : 2 ^ k <= 2 ^ ts.length := Nat.pow_le_pow_right (by omega) hk;have e1 := low_zero hq zq;have e2 := low_zero hp zp;have e3 : (ts.take k).length = k := by rw [List.length_take]; omega
 obtain ⟨j, hj⟩ : ∃ j, ts.length = k + j := ⟨ts.length - k, by omega⟩;have lq : (qs.take (2 ^ k)).length = 2 ^ k := by rw [List.length_take, hq]; omega
 have lp : (ps.take (2 ^ k)).length = 2 ^ k := by rw [List.length_take, hp]; omega
 rw [e3, mulL_congr (h := k) (S := radQ ts) (fun i hi => radQ_take hi hk)]
 conv => lhs; rw [e1, e2]
 rw [hj];exact mulL_up (radQ_len ht) lq lp j
theorem toE_const {K : Type} [Lean.Grind.CommRing K] (q : K) : ∀ h, toE h (q :: List.replicate (2 ^ h - 1) 0) = El.smul h q (El.one h)
 | 0 => (Lean.Grind.Semiring.mul_one (α := K) q).symm
 | h + 1 => by
  have h1 : 0 < 2 ^ h := Nat.pow_pos (by omega)
  have e : q :: List.replicate (2 ^ (h + 1) - 1) (0 : K) = (q :: List.replicate (2 ^ h - 1) 0) ++ List.replicate (2 ^ h) 0 := by
   rw [List.cons_append, List.replicate_append_replicate, two_pow_s]
   congr 2
   omega
  rw [e, toE_app (by rw [List.length_cons, List.length_replicate]; omega) List.length_replicate, toE_const q h, toE_zero]
  show (El.smul h q (El.one h), El.zero h) = (El.smul h q (El.one h), El.smul h q (El.zero h))
  rw [El.smul_zero]
theorem mul_const {R : Nat -> List Rat} (hR : ∀ i, (R i).length = 2 ^ i) {h : Nat} {qs ps : List Rat} {q : Rat} (hq : (q :: qs).length = 2 ^ h) (hp : ps.length = 2 ^ h) (hz : zeroB qs = true) : mulL R h (q :: qs) ps = ps.map (q * ·) := by
 have e : qs = List.replicate (2 ^ h - 1) 0 := by
  have := zeroB_repl hz;rw [List.length_cons] at hq;rw [this, show qs.length = 2 ^ h - 1 by omega]
 refine toE_inj mulL_len (by rw [List.length_map, hp]) ?_;rw [toE_mul hR hq hp, e, toE_const, El.smul_mul, El.mul_comm, El.mul_one, map_toE hp]
theorem mulL_comm {R : Nat -> List Rat} (hR : ∀ i, (R i).length = 2 ^ i) {h : Nat} {qs ps : List Rat} (hq : qs.length = 2 ^ h) (hp : ps.length = 2 ^ h) : mulL R h qs ps = mulL R h ps qs :=
 toE_inj mulL_len mulL_len (by rw [toE_mul hR hq hp, toE_mul hR hp hq, El.mul_comm])
theorem mul_const' {R : Nat -> List Rat} (hR : ∀ i, (R i).length = 2 ^ i) {h : Nat} {qs ps : List Rat} {p : Rat} (hq : qs.length = 2 ^ h) (hp : (p :: ps).length = 2 ^ h) (hz : zeroB ps = true) : mulL R h qs (p :: ps) = qs.map (· * p) := by
 rw [mulL_comm hR hq hp, mul_const hR hp hq hz];exact List.map_congr_left fun x _ => Rat.mul_comm _ _
theorem mul_all {ts : List (List Rat)} (ht : TowL ts) {n N : Nat} (hTL : ts.length = n) (hN : N <= n) {qs ps : List Rat} (hq : qs.length = 2 ^ n) (hp : ps.length = 2 ^ n) (zq : zeroB (qs.drop (2 ^ N)) = true) (zp : zeroB (ps.drop (2 ^ N)) = true) :
  List.zipWith (fun z f : Int => mkQ (z * f) (((denP (partL (qs.take (2 ^ N)) (ringR (ts.take N)).2) : Nat) : Int) * ((denP (partL (ps.take (2 ^ N)) (ringR (ts.take N)).2) : Nat) : Int))) (mulL (radI (ringR (ts.take N)).1) N (numsP (partL (qs.take (2 ^ N)) (ringR (ts.take N)).2)) (numsP (partL (ps.take (2 ^ N)) (ringR (ts.take N)).2))) (ringR (ts.take N)).2 ++ List.replicate (2 ^ n - 2 ^ N) 0 = mulL (radQ ts) n qs ps := by
 subst hTL;have hle : 2 ^ N <= 2 ^ ts.length := Nat.pow_le_pow_right (by omega) hN;have e3 : (ts.take N).length = N := by rw [List.length_take]; omega
 have h1 := mul_mean (take_TowL ht N) (qs := qs.take (2 ^ N)) (ps := ps.take (2 ^ N)) (by rw [e3, List.length_take, hq]; omega) (by rw [e3, List.length_take, hp]; omega);rw [mul_low ht hN hq hp zq zp, <- h1, e3]
theorem mul_bds {ts : List (List Rat)} (ht : TowL ts) (hs : ∀ r ∈ ts, ∀ q ∈ r, SmQ q) {N u1 v1 u2 v2 : Nat} (hN : N <= ts.length) {qs ps : List Rat} (hq : BdQ u1 v1 qs) (hp : BdQ u2 v2 ps) :
  (∀ z ∈ numsP (partL qs (ringR (ts.take N)).2), z.natAbs < 4294967296 ^ (4 * (u1 + (v1 + eF N)) + 1)) /\ (∀ z ∈ numsP (partL ps (ringR (ts.take N)).2), z.natAbs < 4294967296 ^ (4 * (u2 + (v2 + eF N)) + 1)) /\
  denP (partL qs (ringR (ts.take N)).2) < 4294967296 ^ (4 * (v1 + eF N) + 1) /\ denP (partL ps (ringR (ts.take N)).2) < 4294967296 ^ (4 * (v2 + eF N) + 1) /\
  ∀ z ∈ mulL (radI (ringR (ts.take N)).1) N (numsP (partL qs (ringR (ts.take N)).2)) (numsP (partL ps (ringR (ts.take N)).2)), z.natAbs < 4294967296 ^ (4 * (u1 + (v1 + eF N) + (u2 + (v2 + eF N)) + eV N) + 1) := by
 have e3 : (ts.take N).length = N := by rw [List.length_take]; omega
 have hs' : ∀ r ∈ ts.take N, ∀ q ∈ r, SmQ q := fun r hr => hs r (List.mem_of_mem_take hr)
 obtain ⟨a1, a2⟩ := split_bd (take_TowL ht N) hs' hq;obtain ⟨b1, b2⟩ := split_bd (take_TowL ht N) hs' hp;rw [e3] at a1 a2 b1 b2;exact ⟨W4_abs a1, W4_abs b1, W4_words a2, W4_words b2, W4_abs (mul_abs (take_TowL ht N) hs' a1 b1)⟩
end
section
open Go.RowKit
def InM (M X : Nat) (q : Rat) : Prop := ∃ z : Int, q = mkRat z M /\ z.natAbs <= X
theorem InM.zero {M X : Nat} : InM M X 0 := ⟨0, (Rat.zero_mkRat M).symm, Nat.zero_le _⟩
theorem nat_ne {M : Nat} (h : 0 < M) : ((M : Nat) : Rat) ≠ 0 := by
 have := int_ne (z := ((M : Nat) : Int)) (by omega)
 rwa [Rat.intCast_natCast] at this
theorem InM.mul {M X M' X' : Nat} {p q : Rat} (h : InM M X p) (k : InM M' X' q) : InM (M * M') (X * X') (p * q) := by
 obtain ⟨z, rfl, h2⟩ := h;obtain ⟨y, rfl, k2⟩ := k;refine ⟨z * y, Rat.mkRat_mul_mkRat _ _ _ _, ?_⟩;rw [Int.natAbs_mul];exact Nat.mul_le_mul h2 k2
theorem InM.add {M X X' : Nat} {p q : Rat} (hM : 0 < M) (h : InM M X p) (k : InM M X' q) : InM M (X + X') (p + q) := by
 obtain ⟨z, rfl, h2⟩ := h;obtain ⟨y, rfl, k2⟩ := k;refine ⟨z + y, ?_, Nat.le_trans (Int.natAbs_add_le _ _) (Nat.add_le_add h2 k2)⟩;have := nat_ne hM;rw [Rat.mkRat_eq_div, Rat.mkRat_eq_div, Rat.mkRat_eq_div, Rat.intCast_add]
 grind
theorem InM.scale {M X : Nat} {q : Rat} (hM : 0 < M) (k : Nat) (hk : 0 < k) (h : InM M X q) : InM (M * k) (X * k) q := by
 obtain ⟨z, rfl, h2⟩ := h;refine ⟨z * (k : Int), ?_, by rw [Int.natAbs_mul, Int.natAbs_natCast]; exact Nat.mul_le_mul_right _ h2⟩;have h3 := nat_ne hM;have h4 := nat_ne hk;rw [Rat.mkRat_eq_div, Rat.mkRat_eq_div, Rat.intCast_mul, Rat.natCast_mul, Rat.intCast_natCast]
 grind
theorem InM.le {M X X' : Nat} {q : Rat} (h : InM M X q) (hx : X <= X') : InM M X' q := by
 obtain ⟨z, h1, h2⟩ := h;exact ⟨z, h1, Nat.le_trans h2 hx⟩
theorem InM.size {M X : Nat} {q : Rat} (hM : 0 < M) (h : InM M X q) : q.num.natAbs <= X /\ q.den <= M := by
 obtain ⟨z, rfl, h2⟩ := h;obtain ⟨h3, h4⟩ := mkRat_sizes z M (by omega);exact ⟨Nat.le_trans h4 h2, Nat.le_of_dvd hM h3⟩
def AllM (M X : Nat) (qs : List Rat) : Prop := ∀ q ∈ qs, InM M X q
theorem AllM.take {M X : Nat} {qs : List Rat} (h : AllM M X qs) (n : Nat) : AllM M X (qs.take n) := fun q hq => h q (List.mem_of_mem_take hq)
theorem AllM.drop {M X : Nat} {qs : List Rat} (h : AllM M X qs) (n : Nat) : AllM M X (qs.drop n) := fun q hq => h q (List.mem_of_mem_drop hq)
theorem AllM.append {M X : Nat} {qs ps : List Rat} (h : AllM M X qs) (k : AllM M X ps) : AllM M X (qs ++ ps) := fun q hq => (List.mem_append.1 hq).elim (h q) (k q)
theorem AllM.headD {M X : Nat} {qs : List Rat} (h : AllM M X qs) : InM M X (qs.headD 0) := by
 cases qs with
 | nil => exact InM.zero
 | cons q qs => exact h q List.mem_cons_self
theorem AllM.add {M X X' : Nat} (hM : 0 < M) : ∀ {a b : List Rat}, AllM M X a -> AllM M X' b -> AllM M (X + X') (addL a b)
 | [], _, _, _ => fun q hq => by cases hq
 | _ :: _, [], _, _ => fun q hq => by cases hq
 | p :: a, q :: b, ha, hb => by
  intro x hx
  rcases List.mem_cons.1 hx with rfl | hx
  ·exact InM.add hM (ha p List.mem_cons_self) (hb q List.mem_cons_self)
  ·exact AllM.add hM (a := a) (b := b) (fun y hy => ha y (List.mem_cons_of_mem _ hy)) (fun y hy => hb y (List.mem_cons_of_mem _ hy)) x hx
def prQ (Mr : Nat -> Nat) : Nat -> Nat
 | 0 => 1
 | h + 1 => prQ Mr h * (Mr h * prQ Mr h)
def prY (Mr Xr : Nat -> Nat) : Nat -> Nat
 | 0 => 1
 | h + 1 => prY Mr Xr h * (Mr h * prQ Mr h) + prY Mr Xr h * (Mr h * prQ Mr h) + prY Mr Xr h * (Xr h * prY Mr Xr h)
theorem prQ_pos {Mr : Nat -> Nat} (hM : ∀ i, 0 < Mr i) : ∀ h, 0 < prQ Mr h
 | 0 => Nat.one_pos
 | h + 1 => Nat.mul_pos (prQ_pos hM h) (Nat.mul_pos (hM h) (prQ_pos hM h))
theorem mulL_in {R : Nat -> List Rat} {Mr Xr : Nat -> Nat} (hM : ∀ i, 0 < Mr i) (hR : ∀ i, AllM (Mr i) (Xr i) (R i)) : ∀ (h : Nat) {a b : List Rat} {Ma Xa Mb Xb : Nat}, 0 < Ma -> 0 < Mb -> AllM Ma Xa a -> AllM Mb Xb b -> AllM (Ma * Mb * prQ Mr h) (Xa * Xb * prY Mr Xr h) (mulL R h a b)
 | 0, a, b, Ma, Xa, Mb, Xb, _, _, ha, hb => by
  intro q hq;rw [mulL, List.mem_singleton] at hq;rw [hq, prQ, prY, Nat.mul_one, Nat.mul_one];exact ha.headD.mul hb.headD
 | h + 1, a, b, Ma, Xa, Mb, Xb, pa, pb, ha, hb => by
  have hq := prQ_pos hM h;have hk : 0 < Mr h * prQ Mr h := Nat.mul_pos (hM h) hq;have pm : 0 < Ma * Mb * prQ Mr h := Nat.mul_pos (Nat.mul_pos pa pb) hq;have i0 := mulL_in hM hR h pa pb (ha.take (2 ^ h)) (hb.take (2 ^ h));have i1 := mulL_in hM hR h pa pb (ha.drop (2 ^ h)) (hb.drop (2 ^ h));have i2 := mulL_in hM hR h pm (hM h) i1 (hR h);have i3 := mulL_in hM hR h pa pb (ha.take (2 ^ h)) (hb.drop (2 ^ h));have i4 := mulL_in hM hR h pa pb (ha.drop (2 ^ h)) (hb.take (2 ^ h));have eM : Ma * Mb * prQ Mr (h + 1) = Ma * Mb * prQ Mr h * (Mr h * prQ Mr h) := by rw [prQ]; simp only [Nat.mul_assoc]
  have e2 : Ma * Mb * prQ Mr h * Mr h * prQ Mr h = Ma * Mb * prQ Mr h * (Mr h * prQ Mr h) := by rw [Nat.mul_assoc]
  have eX : Xa * Xb * prY Mr Xr (h + 1) = Xa * Xb * prY Mr Xr h * (Mr h * prQ Mr h) + Xa * Xb * prY Mr Xr h * (Mr h * prQ Mr h) + Xa * Xb * prY Mr Xr h * Xr h * prY Mr Xr h := by
   rw [prY];simp only [Nat.mul_add, Nat.mul_assoc]
  rw [e2] at i2;rw [eM, eX, mulL];have sc : ∀ {c : List Rat} {X : Nat}, AllM (Ma * Mb * prQ Mr h) X c -> AllM (Ma * Mb * prQ Mr h * (Mr h * prQ Mr h)) (X * (Mr h * prQ Mr h)) c := fun hc q hq => (hc q hq).scale pm _ hk
  have p2 := Nat.mul_pos pm hk;refine AllM.append (fun q hq => ((AllM.add p2 (sc i0) i2) q hq).le ?_) (fun q hq => ((AllM.add p2 (sc i3) (sc i4)) q hq).le ?_)
  ·generalize Xa * Xb * prY Mr Xr h * (Mr h * prQ Mr h) = u
   generalize Xa * Xb * prY Mr Xr h * Xr h * prY Mr Xr h = v;omega
  ·generalize Xa * Xb * prY Mr Xr h * (Mr h * prQ Mr h) = u
   generalize Xa * Xb * prY Mr Xr h * Xr h * prY Mr Xr h = v;omega
end
section
open Go.RowKit
attribute [local go_sem ↓] Go.wp_at_zero Go.wp_at_succ
section
variable {w w' : World} {q x : Rat} {L M : Nat} {s t : Bool} {A B : Option Addr} {n c m d : Nat} {sx tx : Bool} {Ax Bx : Option Addr} {nx cx mx dx : Nat} {qs ps : List Rat} {rs : List RawR} {ts us : List (List RawR)}
variable {sy ty : Bool} {Ay By : Option Addr} {ny cy my dy : Nat}
theorem q_SameT (h : Pol w A n c qs L) (h' : Pol w B m d qs M) (hL : L <= 1000) (hM : M <= 1000) (hn : n <= 100000) : Calls Tryz.prog 19 #[.slice A n c, .slice B m d] w fun e w' => e = .returned (.bool true) /\ Ext w w' := by
 have Hlen := Lib.hid h.len;have hb : m = n := by rw [<- h.len, <- h'.len]
 subst hb
 go_enter Tryz.func19, Tryz.ntmps19
 go_wp2_with fail
 go_loopw [5] (fun i wr => ∃ k : Nat, k <= m /\ i = .int .i64 (k : Int) /\ Ext w wr) (fun i _ => m - (intOf i).toNat)
 case atStart => exact ⟨0, by omega, rfl, Ext.refl _⟩
 case round =>
  obtain ⟨k, hk, rfl, ext⟩ := hrel
  by_cases hlt : k < m
  ·have hj : k < qs.length := by rw [Hlen.out]; exact hlt
   have hI : (k : Int) < (m : Int) := by omega
   obtain ⟨b, off, rfl, hr⟩ := h.at_ (fun e => by rw [e] at hj; exact absurd hj (Nat.not_lt_zero _));obtain ⟨b', off', rfl, hr'⟩ := h'.at_ (fun e => by rw [e] at hj; exact absurd hj (Nat.not_lt_zero _));obtain ⟨sx, Ax, nx, cx, tx, Bx, mx, dx, e0, e1, e2, e3, hx⟩ := (hr.ext ext).at_ k hj;have e0' : wr.cell? ⟨b, off + k * 4, none⟩ = some (.bool sx) := by rw [Nat.mul_comm]; exact e0
   have e1' : wr.cell? ⟨b, off + k * 4 + 1, none⟩ = some (.slice Ax nx cx) := by rw [Nat.mul_comm]; exact e1
   have e2' : wr.cell? ⟨b, off + k * 4 + 2, none⟩ = some (.bool tx) := by rw [Nat.mul_comm]; exact e2
   have e3' : wr.cell? ⟨b, off + k * 4 + 3, none⟩ = some (.slice Bx mx dx) := by rw [Nat.mul_comm]; exact e3
   obtain ⟨sy, Ay, ny, cy, ty, By, my, dy, i0, i1, i2, i3, hy⟩ := (hr'.ext ext).at_ k hj;have i0' : wr.cell? ⟨b', off' + k * 4, none⟩ = some (.bool sy) := by rw [Nat.mul_comm]; exact i0
   have i1' : wr.cell? ⟨b', off' + k * 4 + 1, none⟩ = some (.slice Ay ny cy) := by rw [Nat.mul_comm]; exact i1
   have i2' : wr.cell? ⟨b', off' + k * 4 + 2, none⟩ = some (.bool ty) := by rw [Nat.mul_comm]; exact i2
   have i3' : wr.cell? ⟨b', off' + k * 4 + 3, none⟩ = some (.slice By my dy) := by rw [Nat.mul_comm]; exact i3
   generalize qs[k] = x1 at hx hy;clear e0 e1 e2 e3 i0 i1 i2 i3
   go_upto_region 6 with (fail)
   have ES0 := Ext.refl wr;refine wp_region_held_drew (S := Ext wr) (by kernel_rfl) ES0.drew (fun ES => ?_);clear ES0;refine Late.s0 ES (fun hAl hQ => ?_);refine Late.u 0 17 hQ ?_
   try simp only [zP]
   refine Late.u 1 18 hQ ?_
   try simp only [zP]
   refine Late.u 4 21 hQ ?_
   try simp only [zP]
   refine Late.u 5 22 hQ ?_
   try simp only [zP]
   refine Late.u 2 19 hQ ?_
   try simp only [zP]
   refine Late.u 6 23 hQ ?_
   try simp only [zP]
   refine Late.t 3 20 ?v_6 hQ ?y_6 ?_
   case y_6 => intro w' hSw;have q0_ := hSw.cellv e0';have q1_ := hSw.cellv e1';have q2_ := hSw.cellv e2';have q3_ := hSw.cellv e3';have q4_ := hSw.cellv i0';have q5_ := hSw.cellv i1';have q6_ := hSw.cellv i2';have q7_ := hSw.cellv i3';go_simp;try rfl
   try simp only [zP]
   refine Late.t 7 24 ?v_7 hQ ?y_7 ?_
   case y_7 => intro w' hSw;have q0_ := hSw.cellv e0';have q1_ := hSw.cellv e1';have q2_ := hSw.cellv e2';have q3_ := hSw.cellv e3';have q4_ := hSw.cellv i0';have q5_ := hSw.cellv i1';have q6_ := hSw.cellv i2';have q7_ := hSw.cellv i3';go_simp;try rfl
   try simp only [zP]
   refine Late.cl (i := 8) rfl hAl hQ (fun w8 e8 E8 K hK => ?_);go_simp
   (go_at_call 37; refine (q_Same (hx.ext E8) (hy.ext E8)).mono ?_; rintro e wk8 ⟨rfl, hx8⟩)
   refine hK.out _ _ hx8 ?_;clear hK K
   try simp only [zP]
   refine Late.u 9 26 hQ ?_
   try simp only [zP]
   refine Late.d0 (fun wz ez Ez => ?_);clear hAl hQ ES
   go_wp2_with fail
   go_roundw
   case rel => exact ⟨k + 1, by omega, by go_num, ext.trans Ez⟩
   case measure => simp [intOf]; omega
  ·have hI : (m : Int) <= (k : Int) := by omega
   go_wp2_with fail
   go_ret
   exact ⟨rfl, ext⟩
end
end
end Go.Proofs.YtijdljfnmdoffaaGreatDoor
