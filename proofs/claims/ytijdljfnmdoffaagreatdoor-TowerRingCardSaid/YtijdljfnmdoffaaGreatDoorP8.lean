/- Walks and laws, a part. -/
import Derived.Test.YtijdljfnmdoffaaGreatDoorP7
import Derived.Test.YtijdljfnmdoffaaGreatDoorP4
import Derived.Test.YtijdljfnmdoffaaGreatDoorP5
import Derived.Test.YtijdljfnmdoffaaGreatDoorP6
import Derived.Test.YtijdljfnmdoffaaGreatDoorP0
import Derived.Test.YtijdljfnmdoffaaGreatDoorP1
import Derived.RangeFuncLeaves
import Derived.RangeFuncBox
import Derived.RangeFuncCalls
import Derived.RangeFuncNested
import Derived.OrdersIn
import Derived.Maps.AppendAt
set_option linter.unusedSimpArgs false
set_option linter.unusedVariables false
set_option maxHeartbeats 64000000
namespace Go.Proofs.YtijdljfnmdoffaaGreatDoor
section
open Go.RowKit
attribute [local go_sem ↓] Go.wp_at_zero Go.wp_at_succ
theorem NI.le_pow {w : World} {z : Int} {L : Nat} {s : Bool} {A : Option Addr} {n c : Nat} (h : NI w z L s A n c) : z.natAbs <= 4294967296 ^ L := by
 obtain ⟨xs, h1, h2, h3, h4, h5, h6⟩ := h.out;rw [<- h5.abs];exact Nat.le_trans (Nat.le_of_lt (val_lt h5.w32)) (Nat.pow_le_pow_right (by omega) (by omega))
def denP (qs : List Rat) : Nat := qs.foldl (fun d q => Nat.lcm d q.den) 1
theorem denP_snoc (qs : List Rat) (q : Rat) : denP (qs ++ [q]) = Nat.lcm (denP qs) q.den := by unfold denP; rw [List.foldl_append]; rfl
theorem foldl_lcm (qs : List Rat) : ∀ d, 0 < d -> 0 < qs.foldl (fun d q => Nat.lcm d q.den) d /\ d ∣ qs.foldl (fun d q => Nat.lcm d q.den) d /\ ∀ q ∈ qs, q.den ∣ qs.foldl (fun d q => Nat.lcm d q.den) d := by
 induction qs with
 | nil => intro d hd; exact ⟨hd, Nat.dvd_refl _, fun q h => by cases h⟩
 | cons p qs ih =>
  intro d hd;obtain ⟨h1, h2, h3⟩ := ih (Nat.lcm d p.den) (Nat.lcm_pos hd p.den_pos);refine ⟨h1, Nat.dvd_trans (Nat.dvd_lcm_left _ _) h2, fun q hq => ?_⟩
  rcases List.mem_cons.1 hq with rfl | hq
  ·exact Nat.dvd_trans (Nat.dvd_lcm_right _ _) h2
  ·exact h3 q hq
theorem denP_pos (qs : List Rat) : 0 < denP qs := (foldl_lcm qs 1 Nat.one_pos).1
theorem denP_dvd {qs : List Rat} {q : Rat} (h : q ∈ qs) : q.den ∣ denP qs := (foldl_lcm qs 1 Nat.one_pos).2.2 q h
def numsP (qs : List Rat) : List Int := qs.map fun q => q.num * (((denP qs : Nat) : Int) / ((q.den : Nat) : Int))
theorem numsP_len (qs : List Rat) : (numsP qs).length = qs.length := List.length_map _
theorem numsP_at (qs : List Rat) (j : Nat) (h : j < (numsP qs).length) (h' : j < qs.length) : (numsP qs)[j] = qs[j].num * (((denP qs : Nat) : Int) / ((qs[j].den : Nat) : Int)) := by simp [numsP]
theorem lcm_step (d e : Nat) : (d : Int) * ((e : Int) / ((Nat.gcd d e : Nat) : Int)) = ((Nat.lcm d e : Nat) : Int) := by
 unfold Nat.lcm;rw [Nat.mul_div_assoc _ (Nat.gcd_dvd_right d e)]
 push_cast
 rfl
theorem set_fill {l : List Int} {k n : Nat} (hk : k < l.length) (hn : l.length = n) : (l.take k ++ List.replicate (n - k) 0).set k l[k] = l.take (k + 1) ++ List.replicate (n - (k + 1)) 0 := by
 have e : n - k = (n - (k + 1)) + 1 := by omega
 rw [e, List.replicate_succ, List.set_append_right _ _ (by rw [List.length_take]; omega), List.length_take, Nat.min_eq_left (by omega), Nat.sub_self, List.set_cons_zero, List.take_succ_eq_append_getElem hk, List.append_assoc]
 rfl
section
variable {w w' : World} {q x : Rat} {L M : Nat} {s t : Bool} {A B : Option Addr} {n c m d : Nat} {sx tx : Bool} {Ax Bx : Option Addr} {nx cx mx dx : Nat} {qs ps : List Rat}
theorem denP_take (qs : List Rat) (j : Nat) : denP (qs.take j) ∣ denP qs := by
 have e : denP qs = (qs.drop j).foldl (fun d q => Nat.lcm d q.den) (denP (qs.take j)) := by
  unfold denP;rw [<- List.foldl_append, List.take_append_drop]
 rw [e];exact (foldl_lcm _ _ (denP_pos _)).2.1
end
theorem IPol.tight {w : World} {A : Option Addr} {n c L M : Nat} {zs : List Int} (h : IPol w A n c zs L) (hb : ∀ z ∈ zs, z.natAbs < 4294967296 ^ M) : IPol w A n c zs M := by
 refine ⟨h.len, h.cap, h.top, fun hq => ?_⟩;obtain ⟨b, off, h1, h2⟩ := h.at_ hq;refine ⟨b, off, h1, ⟨fun i hi => ?_⟩⟩;obtain ⟨s, A, n, c, k1, k2, k3⟩ := h2.at_ i hi;exact ⟨s, A, n, c, k1, k2, k3.tight' (hb _ (List.getElem_mem hi))⟩
end
section
open Go.RowKit
section bridge
variable {P : Program} {ops : Array Oper} {Q : Exit -> Act -> World -> Prop} {md : Region.Mode} {l n : Nat}
end bridge
section kept
variable {w w' a : World} {z : Int} {zs : List Int} {L b o g n c : Nat} {s : Bool} {A : Option Addr} {cs : List Value} {xs : List Nat}
end kept
end
section
open Go.RowKit
attribute [local go_sem ↓] Go.wp_at_zero Go.wp_at_succ
section
variable {w w' : World} {z : Int} {zs : List Int} {L M b o g n c k : Nat} {s : Bool} {A : Option Addr}
theorem IntsAt.list (w : World) (b L : Nat) : ∀ (zs : List Int) (o : Nat), IntsAt w b o zs L -> ∃ cs, ICells w L zs cs /\ ∀ j u, cs[j]? = some u -> w.cell? ⟨b, o + j, none⟩ = some u
 | [], o, _ => ⟨[], .nil, fun j u h => by simp at h⟩
 | z :: zs, o, h => by
  obtain ⟨s, A, n, c, h1, h2, h3⟩ := h.at_ 0 (by simp)
  obtain ⟨cs, k1, k2⟩ := IntsAt.list w b L zs (o + 2) ⟨fun i hi => by
   obtain ⟨s, A, n, c, h1, h2, h3⟩ := h.at_ (i + 1) (by simpa using hi);rw [show o + 2 * (i + 1) = o + 2 + 2 * i by omega] at h1 h2;exact ⟨s, A, n, c, h1, h2, h3⟩⟩
  refine ⟨.bool s :: .slice A n c :: cs, .cons h3 k1, fun j u hj => ?_⟩
  match j, hj with
  | 0, hj => simp at hj; subst hj; exact h1
  | 1, hj => simp at hj; subst hj; exact h2
  | j + 2, hj =>
   rw [show o + (j + 2) = o + 2 + j by omega];exact k2 j u hj
end
end
section
open Go.RowKit
structure Row2 (w : World) (base : Nat) (v : Value) (zs : List Int) (L : Nat) : Prop where
 own : ∃ cs, w.ownsRow base 28 2 v zs.length cs /\ ICells w L zs cs
 nwb : NWB w v
section
variable {w w' : World} {base L M : Nat} {v : Value} {zs : List Int} {z : Int} {s : Bool} {A : Option Addr} {n c g : Nat} {cs : List Value}
theorem ICells.own (h : ICells w L zs cs) (hv : NWB w v) (k : w.grownBy w' v.ownBlock) : ICells w' L zs cs := h.ni fun _ _ _ _ _ _ h => h.own hv k
theorem Row2.ext (h : Row2 w base v zs L) (e : Ext w w') : Row2 w' base v zs L := by
 obtain ⟨cs, h1, h2⟩ := h.own;exact ⟨⟨cs, owns_ext h1 e, h2.ext e⟩, h.nwb.ext e⟩
theorem Row2.nil (w : World) (base L : Nat) : Row2 w base (.slice none 0 0) [] L := ⟨⟨[], owns_nil _ _ _ _, .nil⟩, fun g hg => by cases hg⟩
theorem Row2.block (h : Row2 w base v zs L) : ∀ k, v.ownBlock = some k -> base <= k /\ k < w.heap.size := by
 intro k hk;obtain ⟨cs, h1, _⟩ := h.own;refine ⟨owns_block h1 k hk, ?_⟩;obtain ⟨cur, e', fz, h2, _⟩ := h.nwb k hk
 rcases Nat.lt_or_ge k w.heap.size with j | j
 ·exact j
 ·rw [Array.getElem?_eq_none j] at h2; cases h2
end
def NSL (l : List Value) : Prop := ∀ u ∈ l, ∃ A n c, u = .slice A n c
def NSW (cs : Array Value) : Prop := NSL cs.toList
theorem NSL.arr {l : List Value} (h : NSL l) : NSW l.toArray := by unfold NSW; simpa using h
theorem NSL.of {cs : Array Value} (h : NSW cs) : NSL cs.toList := h
theorem NSL.arr' {cs : Array Value} (h : NSL cs.toList) : NSW cs := h
theorem NSL.append {l l' : List Value} (h : NSL l) (h' : NSL l') : NSL (l ++ l') := by
 intro u hu
 rcases List.mem_append.1 hu with hu | hu
 ·exact h u hu
 ·exact h' u hu
theorem NSL.take {l : List Value} (h : NSL l) (n : Nat) : NSL (l.take n) := fun u hu => h u (List.mem_of_mem_take hu)
theorem NSL.drop {l : List Value} (h : NSL l) (n : Nat) : NSL (l.drop n) := fun u hu => h u (List.mem_of_mem_drop hu)
theorem NSL.zero {z : Array Value} (h : NSL z.toList) (n : Nat) : NSL (Builtin.zeroCells z n).toList := by
 intro u hu;simp only [Builtin.zeroCells, Array.mem_toList_iff, Array.mem_map, Array.mem_range] at hu;obtain ⟨i, hi, rfl⟩ := hu
 have hz : 0 < z.size := by
  rcases Nat.eq_zero_or_pos z.size with h0 | h0
  ·rw [h0] at hi; omega
  ·exact h0
 have hm : i % z.size < z.size := Nat.mod_lt _ hz;rw [getElem!_pos z _ hm];exact h _ (by simp)
def NSB (w : World) (v : Value) : Prop := ∀ g, v.ownBlock = some g -> ∃ cur e fz, w.heap[g]? = some (.cells cur e fz) /\ NSW cur
section
variable {P : Program} {w : World}
theorem run_append_sl {base : Nat} {t ty e : TypeId} {i : TypeInfo} {z : Value} {bytes : Nat} (ht : P.underlying t = some (.slice e)) (hi : P.info? e = some i) (hz : i.zero = some z)
  (hby : i.bytes = bytes) (hzs : z.cells.size = i.size) (hsz : 0 < i.size) (hzw : NSL z.cells.toList)
  {v : Value} {n : Nat} {xs : List Value} (hown : w.ownsRow base e i.size v n xs) (hv : NSB w v)
  {a : Addr} {m c : Nat} {news : List Value} (hl : news.length = m * i.size) (hnews : ∀ j u, news[j]? = some u -> w.cell? (a.add j) = some u) (h1 : ∀ u ∈ news, u.oneCell' = true) (hnw : NSL news) (hm : 0 < m)
  (h63 : n + m <= maxLen) (hbytes : (n + m) * bytes <= 140737488355328) (hbase : base <= w.heap.size) :
  ∃ v' w', (Builtin.append_ #[t, t] ty #[v, .slice (some a) m c]).run P w = .ok v' w' /\ w'.ownsRow base e i.size v' (n + m) (xs ++ news) /\ w.grownBy w' v.ownBlock /\
   (v'.ownBlock = v.ownBlock \/ v'.ownBlock = some w.heap.size) /\ NSB w' v' := by
 obtain ⟨v', w', hr, h2, h3, _, h5⟩ := run_append_own_at (P := P) w base t ty e i z i.size bytes ht hi hz rfl hby hzs hsz v n xs hown a m c news hl hnews h1 h63 hbytes hbase;refine ⟨v', w', hr, h2, h3, h5, ?_⟩;subst hby;have hsmall : n + m <= 9223372036854775807 := by simp only [maxLen] at h63; omega
 rcases hown.2 with ⟨rfl, rfl⟩ | ⟨g, cap, cur, rfl, hbg, hg, hnc, hcm, hcs, htake⟩
 ·have hr2 := run_append_nil (P := P) w t ty e i z ht hi hz a m c news hl hnews hm (by omega) (by have hb := hbytes; simp only [Nat.zero_add] at hb; omega)
  rw [hr] at hr2
  injection hr2 with e1 e2
  subst e1 e2;intro g hg
  injection hg with hg
  subst hg;refine ⟨_, _, _, heap_alloc_new w.drew _, ?_⟩;refine NSL.arr' ?_;rw [Array.toList_append];exact hnw.append (hzw.zero _)
 ·obtain ⟨cur', e', fz, hg', hcw⟩ := hv g rfl
  rw [hg] at hg'
  injection hg' with hg'
  injection hg' with q1 q2 q3
  subst q1;have hc := NSL.of hcw
  by_cases hroom : n + m <= cap
  ·have hfit : n * i.size + news.length <= cur.size := by rw [hl, hcs, <- Nat.add_mul]; exact Nat.mul_le_mul_right _ hroom
   have hr2 := run_append_room (P := P) w t ty e i ht hi g n cap cur hg a m c news hl hnews h1 hroom hfit;rw [hr] at hr2
   injection hr2 with e1 e2
   subst e1 e2;intro g' hg'
   injection hg' with hg'
   subst hg';exact ⟨_, _, _, setRow_heap w g cur _ e _ hg, (((hc.take _).append hnw).append (hc.drop _)).arr⟩
  ·have holds : ∀ j u, xs[j]? = some u -> w.cell? ((⟨g, 0, none⟩ : Addr).add j) = some u := hown.cells (g := g) rfl
   have hr2 := run_append_grow (P := P) w t ty e i z ht hi hz ⟨g, 0, none⟩ n cap xs hown.1 holds a m c news hl hnews (by omega) (by omega) (growslice_fits (by omega) hbytes);rw [hr] at hr2
   injection hr2 with e1 e2
   subst e1 e2;intro g' hg'
   injection hg' with hg'
   subst hg';refine ⟨_, _, _, heap_alloc_new w.drew _, ?_⟩;have hx : NSL xs := by rw [<- htake]; exact hc.take _
   refine NSL.arr' ?_;rw [Array.toList_append, Array.toList_append];exact (hx.append hnw).append (hzw.zero _)
variable {w' : World} {A A' B B' : Option Addr} {xs : List Nat} {v : Value} {z : Int} {zs : List Int} {L M n c m d n' c' m' d' base : Nat} {s t s' t' : Bool} {cs : List Value} {Rs : List (List Int)}
theorem NSB.nwb (h : NSB w v) : NWB w v := by
 intro g hg;obtain ⟨cur, e, fz, h1, h2⟩ := h g hg;refine ⟨cur, e, fz, h1, fun i k hk => ?_⟩;obtain ⟨A, n, c, h3⟩ := h2 _ (Array.mem_toList_iff.2 (Array.mem_of_getElem? hk))
 cases h3
theorem NSB.ext (h : NSB w v) (e : Ext w w') : NSB w' v := by
 intro g hg;obtain ⟨cur, e', fz, h1, h2⟩ := h g hg;refine ⟨cur, e', fz, ?_, h2⟩
 have hlt : g < w.heap.size := by
  rcases Nat.lt_or_ge g w.heap.size with k | k
  ·exact k
  ·rw [Array.getElem?_eq_none k] at h1; cases h1
 rw [<- h1];exact Below.block e g hlt
theorem IPol.own (h : IPol w A n c zs L) (hv : NSB w v) (k : w.grownBy w' v.ownBlock) : IPol w' A n c zs L := by
 refine ⟨h.len, h.cap, h.top, fun hq => ?_⟩;obtain ⟨b, off, h1, h2⟩ := h.at_ hq;refine ⟨b, off, h1, ⟨fun i hi => ?_⟩⟩;obtain ⟨s, A', n', c', e0, e1, hx⟩ := h2.at_ i hi
 have hne : v.ownBlock ≠ some b := by
  intro hb;obtain ⟨cur, e, fz, hg, hn⟩ := hv b hb;rw [cell_of_row w b _ _ _ _ hg] at e0;obtain ⟨A, n, c, h3⟩ := hn _ (Array.mem_toList_iff.2 (Array.mem_of_getElem? e0))
  cases h3
 have hc : ∀ o u, w.cell? ⟨b, o, Option.none⟩ = some u -> w'.cell? ⟨b, o, Option.none⟩ = some u := fun o u hu => by
  have hlt := cell_lt hu;rw [World.cell?_of_block (k.block b hlt (fun e => hne e.symm)), hu]
 exact ⟨s, A', n', c', hc _ _ e0, hc _ _ e1, hx.own hv.nwb k⟩
inductive SCells (w : World) (L : Nat) : List (List Int) -> List Value -> Prop
 | nil : SCells w L [] []
 | cons {zs : List Int} {Rs : List (List Int)} {A : Option Addr} {n c : Nat} {cs : List Value} : IPol w A n c zs L -> SCells w L Rs cs -> SCells w L (zs :: Rs) (.slice A n c :: cs)
theorem SCells.ext (h : SCells w L Rs cs) (e : Ext w w') : SCells w' L Rs cs := by
 induction h with
 | nil => exact .nil
 | cons h _ ih => exact .cons (h.ext e) ih
theorem SCells.own (h : SCells w L Rs cs) (hv : NSB w v) (k : w.grownBy w' v.ownBlock) : SCells w' L Rs cs := by
 induction h with
 | nil => exact .nil
 | cons h _ ih => exact .cons (h.own hv k) ih
theorem SCells.append {Rs' : List (List Int)} {ds : List Value} (h : SCells w L Rs cs) (k : SCells w L Rs' ds) : SCells w L (Rs ++ Rs') (cs ++ ds) := by
 induction h with
 | nil => exact k
 | cons h _ ih => exact .cons h ih
theorem SCells.get (h : SCells w L Rs cs) : ∀ i (hi : i < Rs.length), ∃ A n c, cs[i]? = some (.slice A n c) /\ IPol w A n c Rs[i] L := by
 induction h with
 | nil => intro i hi; cases hi
 | cons h _ ih =>
  intro i hi
  cases i with
  | zero => exact ⟨_, _, _, rfl, h⟩
  | succ i =>
   obtain ⟨A, n, c, h1, h2⟩ := ih i (by simpa using hi);exact ⟨A, n, c, by simpa using h1, by simpa using h2⟩
theorem Tryz.infoSl : (Tryz.prog.info? 70).map (fun i => (i.zero, i.size, i.bytes)) = some (some (.slice Option.none 0 0), 1, 24) := by kernel_rfl
end
section
variable {w w' : World} {base L : Nat} {v : Value} {zs ys : List Int} {A : Option Addr} {n c : Nat}
theorem addr_addI (b o j : Nat) : (⟨b, o, Option.none⟩ : Addr).add j = ⟨b, o + j, Option.none⟩ := addr_add b o j
theorem IRow.row2 {g : Nat} (h : IRow w g zs L) (hg : base <= g) (hn : zs.length = n) (hm : n <= 1000000) : Row2 w base (.slice (some ⟨g, 0, Option.none⟩) n n) zs L := by
 obtain ⟨cs, h1, h2⟩ := h;have hl := h2.len;refine ⟨⟨cs, ⟨hl, Or.inr ⟨g, n, cs.toArray, by rw [hn], hg, h1, by omega, by unfold maxLen; omega, by simp [hl, hn], by simp [<- hl]⟩⟩, h2⟩, ?_⟩
 ·intro g' hg'
  injection hg' with hg'
  subst hg';exact ⟨_, _, _, h1, h2.nwl.arr⟩
theorem Row2.pol (h : Row2 w base v zs L) : ∃ A n c, v = .slice A n c /\ IPol w A n c zs L := by
 obtain ⟨cs, h1, h2⟩ := h.own
 rcases h1.2 with ⟨rfl, h0⟩ | ⟨g, cap, cur, rfl, hbg, hg, hnc, hcm, hcs, htk⟩
 ·have hz : zs = [] := List.length_eq_zero_iff.1 h0
  subst hz;exact ⟨_, _, _, rfl, IPol.none _ _⟩
 ·refine ⟨_, _, _, rfl, rfl, hnc, hcm, fun _ => ⟨g, 0, rfl, ⟨fun i hi => ?_⟩⟩⟩
  obtain ⟨s, A, n, c, e0, e1, e2⟩ := h2.get i hi
  have hc : ∀ j u, cs[j]? = some u -> w.cell? ⟨g, j, Option.none⟩ = some u := fun j u hj => by
   rw [cell_of_row w g _ _ _ _ hg];rw [<- htk] at hj;have := List.mem_of_getElem? hj;rw [List.getElem?_take] at hj
   split at hj
   ·simpa using hj
   ·cases hj
  exact ⟨s, A, n, c, by rw [Nat.zero_add]; exact hc _ _ e0, by rw [Nat.zero_add]; exact hc _ _ e1, e2⟩
theorem Row2.leT (h : Row2 w base v zs L) {M : Nat} (hl : L <= M) : Row2 w base v zs M := by
 obtain ⟨cs, h1, h2⟩ := h.own;exact ⟨⟨cs, h1, h2.le hl⟩, h.nwb⟩
theorem run_append_rowI {ty : TypeId} (h : Row2 w base v zs L) (hp : IPol w A n c ys L) (h0 : 0 < n) (hl : zs.length <= 1000) (hn : n <= 1000) (hbase : base <= w.heap.size) :
  ∃ v' w', (Builtin.append_ #[70, 70] ty #[v, .slice A n c]).run Tryz.prog w = .ok v' w' /\ Row2 w' base v' (zs ++ ys) L /\ w.grownBy w' v.ownBlock /\ (v'.ownBlock = v.ownBlock \/ v'.ownBlock = some w.heap.size) := by
 obtain ⟨i0, hi, hz0, hz1, hz2⟩ := info_partsB Tryz.infoInt;obtain ⟨cs, h1, h2⟩ := h.own;have hne : ys ≠ [] := fun e => by have := hp.len; rw [e] at this; simp at this; omega
 obtain ⟨b, off, rfl, hrat⟩ := hp.at_ hne;obtain ⟨ds, k1, k2'⟩ := IntsAt.list w b L ys off hrat;have k2 : ∀ j u, ds[j]? = some u -> w.cell? ((⟨b, off, Option.none⟩ : Addr).add j) = some u := fun j u hj => by rw [addr_addI]; exact k2' j u hj
 have hdl : ds.length = n * 2 := by rw [k1.len, hp.len]
 rw [<- hz1] at h1
 obtain ⟨v', w', hr, j1, j2, j3, j4⟩ := run_append_nw (P := Tryz.prog) (ty := ty) (c := c) Tryz.underlying70 hi hz0 hz2 (by rw [hz1]; rfl) (by omega) (by
  intro u hu k e;simp [Value.cells] at hu
  rcases hu with rfl | rfl <;> cases e) h1 h.nwb (m := n) (by rw [hz1]; exact hdl) (fun j u hj => k2 j u hj) k1.one k1.nwl h0 (by unfold maxLen; omega) (by omega) hbase
 rw [hz1] at j1;refine ⟨v', w', hr, ⟨⟨cs ++ ds, ?_, (h2.own h.nwb j2).append (k1.own h.nwb j2)⟩, j4⟩, j2, j3⟩;rw [List.length_append, hp.len];exact j1
theorem run_append_rowI0 {ty : TypeId} (h : Row2 w base v zs L) :
  (Builtin.append_ #[70, 70] ty #[v, .slice A 0 c]).run Tryz.prog w = .ok v w := by
 have hq := Tryz.infoInt
 cases hi : Tryz.prog.info? 28 with
 | none => rw [hi] at hq; cases hq
 | some i =>
 rw [hi] at hq;simp only [Option.map_some, Option.some.injEq, Prod.mk.injEq] at hq;obtain ⟨cs, h1, h2⟩ := h.own
 rcases h1.2 with ⟨rfl, h0⟩ | ⟨g, cap, cur, rfl, hbg, hg, hnc, hcm, hcs, htake⟩
 ·cases A with
  | none => simp [Builtin.append_, run_underlying Tryz.underlying70, sizeOf, typeInfo, hi, Builtin.lenOf, Builtin.firstCells]
  | some ad => simp [Builtin.append_, run_underlying Tryz.underlying70, sizeOf, typeInfo, hi, Builtin.lenOf, Builtin.firstCells, loadCells, loadCellsFrom]
 ·cases A with
  | none => simp [Builtin.append_, run_underlying Tryz.underlying70, sizeOf, typeInfo, hi, Builtin.lenOf, Builtin.firstCells, storeCells, hnc]
  | some ad => simp [Builtin.append_, run_underlying Tryz.underlying70, sizeOf, typeInfo, hi, Builtin.lenOf, Builtin.firstCells, loadCells, loadCellsFrom, storeCells, hnc]
theorem run_append_rowF {ty : TypeId} {g n m c : Nat} (h : IRow w g zs L) (hn : zs.length = n) (hp : IPol w A m c ys L) (h0 : 0 < m) (hn1 : n <= 1000) (hm1 : m <= 1000) :
  ∃ v' w', (Builtin.append_ #[70, 70] ty #[.slice (some ⟨g, 0, Option.none⟩) n n, .slice A m c]).run Tryz.prog w = .ok v' w' /\ Row2 w' w.heap.size v' (zs ++ ys) L /\ Ext w w' := by
 have hrow : Row2 w g (.slice (some ⟨g, 0, Option.none⟩) n n) zs L := h.row2 (Nat.le_refl _) hn (by omega);obtain ⟨v', w', hr, h2, h3, h4⟩ := run_append_rowI (ty := ty) hrow hp h0 (by omega) hm1 (Nat.le_of_lt h.lt);obtain ⟨i0, hi, hz0, hz1, hz2⟩ := info_partsB Tryz.infoInt;obtain ⟨cs, b1, b2⟩ := h;have hne : ys ≠ [] := fun e => by have := hp.len; rw [e] at this; simp at this; omega
 obtain ⟨b, off, rfl, hrat⟩ := hp.at_ hne;obtain ⟨ds, k1, k2'⟩ := IntsAt.list w b L ys off hrat;have k2 : ∀ j u, ds[j]? = some u -> w.cell? ((⟨b, off, Option.none⟩ : Addr).add j) = some u := fun j u hj => by rw [addr_addI]; exact k2' j u hj
 have hdl : ds.length = m * 2 := by rw [k1.len, hp.len]
 have hcl : cs.length = n * 2 := by rw [b2.len, hn]
 have hr2 := run_append_grow (P := Tryz.prog) w 70 ty 28 i0 _ Tryz.underlying70 hi hz0 ⟨g, 0, Option.none⟩ n n cs (by rw [hz1]; exact hcl) (fun j u hj => by rw [addr_addI, Nat.zero_add]; exact b1.cell j u (by simpa using hj)) ⟨b, off, Option.none⟩ m c ds (by rw [hz1]; exact hdl) (fun j u hj => k2 j u hj) (by omega) (by omega) (by rw [hz2]; exact growslice_fits (by omega) (by omega));rw [hr] at hr2
 injection hr2 with e1 e2
 subst e1 e2;obtain ⟨cs2, q1, q2⟩ := h2.own;refine ⟨_, _, hr, ⟨⟨cs2, ⟨q1.1, ?_⟩, q2⟩, h2.nwb⟩, ((Ext.refl w).drew).alloc _⟩
 rcases q1.2 with q3 | ⟨g', cap', cur', q4, q5, q6⟩
 ·exact Or.inl q3
 ·refine Or.inr ⟨g', cap', cur', q4, ?_, q6⟩
  injection q4 with q4
  injection q4 with q4
  injection q4 with q4
  rw [<- q4];exact Nat.le_refl _
theorem step_append_rowF {ops : Array Oper} {o : Oper} {a : Act} {K : Act -> World -> Prop} {Q : Exit -> Act -> World -> Prop} {E : Prop} {g n m c : Nat} (hgd : o.guard = Option.none) (x y : Operand)
  (ho : o.op = .call { callee := .builtin .append, args := #[x, y], argTypes := #[70, 70] })
  (hx : a.eval x = .slice (some ⟨g, 0, Option.none⟩) n n) (hy : a.eval y = .slice A m c)
  (h : IRow w g zs L) (hn : zs.length = n) (hp : IPol w A m c ys L) (h0 : 0 < m) (hn1 : n <= 1000) (hm1 : m <= 1000)
  (hK : ∀ v' w', Row2 w' w.heap.size v' (zs ++ ys) L -> Ext w w' -> K (a.put o.dst v') w') :
  if Region.wanted o (yielded ops a.tmps) = true then Oper.wp Tryz.prog o a w K Q else E := by
 have hw : Region.wanted o (yielded ops a.tmps) = true := by simp [Region.wanted, hgd]
 rw [if_pos hw];obtain ⟨v', w', hr, h2, h3⟩ := run_append_rowF (ty := o.type) h hn hp h0 hn1 hm1;unfold Oper.wp execOp;simp only [ho, resolve, invoke, builtin, Sem.run_bind, Sem.run_pure, Result.andThen_ok, List.map_toArray, List.map_cons, List.map_nil, hx, hy, hr];exact hK v' w' h2 h3
end
end
section
open Go.RowKit
attribute [local go_sem ↓] Go.wp_at_zero Go.wp_at_succ
structure ISl (w : World) (A : Option Addr) (n c : Nat) (Rs : List (List Int)) (L : Nat) : Prop where
 len : Rs.length = n
 cap : n <= c
 top : c <= maxLen
 at_ : Rs ≠ [] -> ∃ b off, A = some ⟨b, off, Option.none⟩ /\ ∀ i (h : i < Rs.length), ∃ A' n' c', w.cell? ⟨b, off + i, Option.none⟩ = some (.slice A' n' c') /\ IPol w A' n' c' Rs[i] L
def radI (Rs : List (List Int)) (i : Nat) : List Int := Rs.getD i (List.replicate (2 ^ i) 0)
def TowI (Rs : List (List Int)) : Prop := ∀ i (h : i < Rs.length), Rs[i].length = 2 ^ i
theorem radI_len {Rs : List (List Int)} (h : TowI Rs) (i : Nat) : (radI Rs i).length = 2 ^ i := by
 unfold radI;rw [List.getD_eq_getElem?_getD]
 rcases Nat.lt_or_ge i Rs.length with hi | hi
 ·rw [List.getElem?_eq_getElem hi]; exact h i hi
 ·rw [List.getElem?_eq_none hi]; simp
theorem radI_at {Rs : List (List Int)} {i : Nat} (hi : i < Rs.length) : radI Rs i = Rs[i] := by
 unfold radI;rw [List.getD_eq_getElem?_getD, List.getElem?_eq_getElem hi]; rfl
theorem bitLen_pow : ∀ h : Fin 17, Lib.bitLen (2 ^ h.val) = h.val + 1 := by decide +kernel
section
variable {w w' : World} {L M : Nat} {A B : Option Addr} {n c m d : Nat} {zs : List Int} {Rs : List (List Int)}
theorem ISl.ext (h : ISl w A n c Rs L) (e : Ext w w') : ISl w' A n c Rs L :=
 ⟨h.len, h.cap, h.top, fun hq => by
  obtain ⟨b, off, h1, h2⟩ := h.at_ hq;refine ⟨b, off, h1, fun i hi => ?_⟩;obtain ⟨A', n', c', h3, h4⟩ := h2 i hi;exact ⟨A', n', c', e.cellv h3, h4.ext e⟩⟩
theorem lenPow (w : World) (h m : Nat) (h16 : h <= 16) (hm : m = 2 ^ h) : Calls Tryz.prog 144 #[.int .u64 (m : Int)] w fun e w' => e = .returned (.int .i64 ((h : Int) + 1)) /\ Ext w w' := by
 have hm1 : m <= 65536 := by rw [hm]; exact Nat.le_trans (Nat.pow_le_pow_right (by omega) h16) (by decide)
 refine (lenU (m : Int) w (by omega) (by omega)).mono ?_;rintro e w' ⟨rfl, rfl⟩;have hbl := bitLen_pow ⟨h, by omega⟩;simp only at hbl;rw [Int.toNat_natCast, hm, hbl];exact ⟨by push_cast; rfl, Ext.refl _⟩
theorem p_lastT {Af : Option Addr} {nf cf h : Nat} (hRt : TowI Rs) (hR : ISl w A n c Rs L) (hh : h < n) (h16 : h <= 16) (hn : n <= 1000) (hm : m = 2 ^ h) : Calls Tryz.prog 111 #[.agg #[.slice A n c, .slice Af nf cf], .slice B m d] w fun e w' => ∃ A' c', e = .returned (.slice A' m c') /\ IPol w' A' m c' (radI Rs h) L /\ Ext w w' := by
 have hl : h < Rs.length := by rw [hR.len]; exact hh
 obtain ⟨b, off, rfl, hr⟩ := hR.at_ (fun e => by rw [e] at hl; exact absurd hl (Nat.not_lt_zero _));obtain ⟨A', n', c', e0, hx⟩ := hr h hl;rw [<- radI_at hl] at hx;have hnm : m = n' := by rw [<- hx.len, radI_len hRt, hm]
 subst hnm;have hm1 : m <= 65536 := by rw [hm]; exact Nat.le_trans (Nat.pow_le_pow_right (by omega) h16) (by decide)
 have Hlp := Lib.hid (fun w => lenPow w h m h16 hm);have hwu : IntKind.u64.wrap (m : Int) = (m : Int) := IntWalk.u64_in _ (by omega);have hI : (h : Int) < (n : Int) := by omega
 have hWh : IntKind.i64.wrap (h : Int) = (h : Int) := IntWalk.i64_in _ (by omega);clear hm
 go_enter Tryz.func111, Tryz.ntmps111
 go_upto_region 1 with (fail)
 obtain ⟨W, hW, extW, bx, hz⟩ := box1 w 72 #[.slice (some ⟨b, off, Option.none⟩) n c, .slice Af nf cf];rw [<- hW];clear hW hz;replace hx := hx.ext extW;replace e0 := extW.cellv e0;have x0 := bx.cell 0 (.slice (some ⟨b, off, Option.none⟩) n c) rfl;have ES0 := Ext.refl W;refine wp_region_held_drew (S := Ext W) (by kernel_rfl) ES0.drew (fun ES => ?_);clear ES0;refine Late.s0 ES (fun hAl hQ => ?_);refine Late.u 0 5 hQ ?_
 try simp only [zP]
 refine Late.u 2 7 hQ ?_
 try simp only [zP]
 refine Late.t 1 6 ?v_2 hQ ?y_2 ?_
 case y_2 => intro w' hSw;have q0_ := hSw.cellv e0;have k00 := (bx.ext hSw).c2;go_simp;try rfl
 try simp only [zP]
 refine Late.u 3 8 hQ ?_
 try simp only [zP]
 refine Late.u 4 9 hQ ?_
 try simp only [zP]
 refine Late.cl (i := 5) rfl hAl hQ (fun w5 e5 E5 K hK => ?_);go_simp
 (go_at_call 144; refine (Hlp.out _).mono ?_; rintro e wk5 ⟨rfl, hx5⟩)
 refine hK.out _ _ hx5 ?_;clear hK K
 try simp only [zP]
 refine Late.u 6 11 hQ ?_
 try simp only [zP]
 refine Late.u 7 12 hQ ?_
 try simp only [zP]
 refine Late.t 8 13 ?v_7 hQ ?y_7 ?_
 case y_7 => intro w' hSw;have q0_ := hSw.cellv e0;have k00 := (bx.ext hSw).c2;go_simp;try rfl
 try simp only [zP]
 refine Late.u 9 4 hQ ?_
 try simp only [zP]
 refine Late.d0 (fun wz ez Ez => ?_);clear hAl hQ ES
 go_wp2_with fail
 go_ret
 exact ⟨_, _, rfl, hx.ext Ez, extW.trans Ez⟩
theorem p_denseT (h : IPol w A n c zs L) (hL : L <= 50000) (hn : n <= 100000) : Calls Tryz.prog 108 #[.slice A n c] w fun e w' => (∃ b, e = .returned (.bool b)) /\ Ext w w' := by
 have Hlen := Lib.hid h.len
 go_enter Tryz.func108, Tryz.ntmps108
 go_wp2_with fail
 go_loopw [3, 8] (fun u i wr => ∃ k j : Nat, k <= n /\ j <= k /\ u = .int .i64 (j : Int) /\ i = .int .i64 (k : Int) /\ Ext w wr) (fun _ i _ => n - (intOf i).toNat)
 case atStart => exact ⟨0, 0, by omega, by omega, rfl, rfl, Ext.refl _⟩
 case round =>
  obtain ⟨k, u, hk, hu, rfl, rfl, ext⟩ := hrel
  by_cases hlt : k < n
  ·have hj : k < zs.length := by rw [Hlen.out]; exact hlt
   have hI : (k : Int) < (n : Int) := by omega
   obtain ⟨p, off, rfl, hr⟩ := h.at_ (fun e => by rw [e] at hj; exact absurd hj (Nat.not_lt_zero _));obtain ⟨sx, Ax, nx, cx, e0, e1, hx⟩ := (hr.ext ext).at_ k hj;have e0' : wr.cell? ⟨p, off + k * 2, none⟩ = some (.bool sx) := by rw [Nat.mul_comm]; exact e0
   have e1' : wr.cell? ⟨p, off + k * 2 + 1, none⟩ = some (.slice Ax nx cx) := by rw [Nat.mul_comm]; exact e1
   generalize zs[k] = r at hx
   go_upto_region 5 with (fail)
   obtain ⟨W, hW, extW, bx, hz⟩ := box1 wr 28 #[.bool sx, .slice Ax nx cx];rw [<- hW];clear hW hz e0 e1 e0' e1';replace hx := hx.ext extW;replace ext := ext.trans extW;have x0 := bx.cell 0 (.bool sx) rfl;have x1 := bx.cell 1 (.slice Ax nx cx) rfl
   by_cases hq : r = 0
   ·have HS := Lib.hid (show r.sign = 0 by rw [hq]; rfl)
    clear hq
    go_wp2_with fail
    refine (p_Sign hx (by omega)).mono ?_;rintro e V ⟨rfl, hxt⟩;rw [HS.out]
    go_wp2_with fail
    go_roundw
    case rel => exact ⟨k + 1, u, by omega, by omega, rfl, by go_num, ext.trans hxt⟩
    case measure => simp [intOf]; omega
   ·obtain ⟨S, hS, dS⟩ : ∃ S, r.sign = S /\ (S == 0) = false := ⟨_, rfl, beq_eq_false_iff_ne.2 (fun e => hq (Int.sign_eq_zero_iff_zero.1 e))⟩
    have HS := Lib.hid hS;clear hS hq
    go_wp2_with fail
    refine (p_Sign hx (by omega)).mono ?_;rintro e V ⟨rfl, hxt⟩;rw [HS.out]
    go_wp2_with fail
    go_roundw
    case rel => exact ⟨k + 1, u + 1, by omega, by omega, by go_num, by go_num, ext.trans hxt⟩
    case measure => simp [intOf]; omega
  ·have hI : (n : Int) <= (k : Int) := by omega
   go_wp2_with fail
   all_goals (go_ret; first | exact ⟨⟨_, rfl⟩, ext⟩ | exact ⟨Or.inl rfl, ext⟩ | exact ⟨Or.inr rfl, ext⟩)
end
end
section
section
variable {K : Type} [Lean.Grind.CommRing K]
theorem El.sub_self (h : Nat) (a : El K h) : El.add h a (El.neg h a) = El.zero h := by rw [El.add_comm, El.neg_add]
theorem El.cancel3 (h : Nat) (p q r s : El K h) : El.add h (El.add h (El.add h (El.add h p q) (El.add h r s)) (El.neg h p)) (El.neg h s) = El.add h q r := by
 have e1 : El.add h (El.add h (El.add h p q) (El.add h r s)) (El.neg h p) = El.add h q (El.add h r s) := by
  rw [El.add_comm h (El.add h p q), El.add_assoc h, El.add_comm h p q, El.add_assoc h q, El.sub_self, El.add_zero, El.add_comm]
 rw [e1, El.add_assoc h q, El.add_assoc h r, El.sub_self, El.add_zero]
theorem El.kar (R : (h : Nat) -> El K h) (h : Nat) (a0 a1 b0 b1 : El K h) :
  El.add h (El.add h (El.mul R h (El.add h a0 a1) (El.add h b0 b1)) (El.neg h (El.mul R h a0 b0))) (El.neg h (El.mul R h a1 b1)) = El.add h (El.mul R h a0 b1) (El.mul R h a1 b0) := by
 rw [El.add_mul, El.mul_add, El.mul_add];exact El.cancel3 h _ _ _ _
theorem toE_zero : (h : Nat) -> toE h (List.replicate (2 ^ h) (0 : K)) = El.zero h
 | 0 => rfl
 | h + 1 => by
  have e : List.replicate (2 ^ (h + 1)) (0 : K) = List.replicate (2 ^ h) 0 ++ List.replicate (2 ^ h) 0 := by rw [List.replicate_append_replicate, two_pow_s]
  rw [e, toE_app List.length_replicate List.length_replicate, toE_zero h]
  rfl
theorem mulL_zero_left {R : Nat -> List K} (hR : ∀ i, (R i).length = 2 ^ i) {h : Nat} {b : List K} (hb : b.length = 2 ^ h) : mulL R h (List.replicate (2 ^ h) 0) b = List.replicate (2 ^ h) 0 :=
 toE_inj mulL_len List.length_replicate (by rw [toE_mul hR List.length_replicate hb, toE_zero, El.mul_comm, El.mul_zero])
theorem mulL_zero_right {R : Nat -> List K} (hR : ∀ i, (R i).length = 2 ^ i) {h : Nat} {a : List K} (ha : a.length = 2 ^ h) : mulL R h a (List.replicate (2 ^ h) 0) = List.replicate (2 ^ h) 0 :=
 toE_inj mulL_len List.length_replicate (by rw [toE_mul hR ha List.length_replicate, toE_zero, El.mul_zero])
end
def subI (a b : List Int) : List Int := List.zipWith (fun x y : Int => x - y) a b
theorem subI_eq : ∀ (a b : List Int), subI a b = addL a (negL b)
 | [], _ => by simp [subI, addL, negL]
 | _ :: _, [] => by simp [subI, addL, negL]
 | x :: a, y :: b => by
  have ih := subI_eq a b;unfold subI addL negL at ih ⊢;rw [List.zipWith_cons_cons, List.map_cons, List.zipWith_cons_cons, ih]
  congr 1
theorem subI_len {a b : List Int} {n : Nat} (ha : a.length = n) (hb : b.length = n) : (subI a b).length = n := by
 unfold subI; rw [List.length_zipWith, ha, hb, Nat.min_self]
theorem kar_list {R : Nat -> List Int} (hR : ∀ i, (R i).length = 2 ^ i) {h : Nat} {a0 a1 b0 b1 : List Int} (h0 : a0.length = 2 ^ h) (h1 : a1.length = 2 ^ h) (k0 : b0.length = 2 ^ h) (k1 : b1.length = 2 ^ h) :
  subI (subI (mulL R h (addL a0 a1) (addL b0 b1)) (mulL R h a0 b0)) (mulL R h a1 b1) = addL (mulL R h a0 b1) (mulL R h a1 b0) := by
 have l0 : (negL (mulL R h a0 b0)).length = 2 ^ h := by rw [negL_len, mulL_len]
 have l1 : (negL (mulL R h a1 b1)).length = 2 ^ h := by rw [negL_len, mulL_len]
 refine toE_inj (subI_len (subI_len mulL_len mulL_len) mulL_len) (addL_len mulL_len mulL_len) ?_
 rw [subI_eq, subI_eq, toE_add (addL_len mulL_len l0) l1, toE_add mulL_len l0, toE_neg mulL_len, toE_neg mulL_len, toE_mul hR (addL_len h0 h1) (addL_len k0 k1), toE_add h0 h1, toE_add k0 k1, toE_mul hR h0 k0, toE_mul hR h1 k1,
  toE_add mulL_len mulL_len, toE_mul hR h0 k1, toE_mul hR h1 k0]
 exact El.kar _ _ _ _ _ _
theorem noneB_repl {zs : List Int} {n : Nat} (hn : zs.length = n) (h : noneB zs = true) : zs = List.replicate n 0 := by
 refine List.eq_replicate_iff.2 ⟨hn, fun z hz => ?_⟩;have := List.all_eq_true.1 h z hz
 simpa using this
def szP (K h : Nat) : Nat := (2 ^ h - 1) * (K + 4)
theorem szP_step (K h : Nat) : szP K h + szP K h + K + 4 = szP K (h + 1) := by
 unfold szP;have h1 : 1 <= 2 ^ h := Nat.pow_pos (by omega);obtain ⟨p, hp⟩ : ∃ p, 2 ^ h = p + 1 := ⟨2 ^ h - 1, by omega⟩;rw [two_pow_s, hp];simp only [Nat.add_sub_cancel];rw [show p + 1 + (p + 1) - 1 = p + p + 1 by omega, Nat.add_mul, Nat.add_mul, Nat.one_mul];omega
end
section
open Go.RowKit
attribute [local go_sem ↓] Go.wp_at_zero Go.wp_at_succ
theorem Row2.mono {w : World} {base base2 : Nat} {v : Value} {zs : List Int} {L : Nat} (h : Row2 w base v zs L) (hb : base2 <= base) : Row2 w base2 v zs L := by
 obtain ⟨cs, h1, h2⟩ := h.own;refine ⟨⟨cs, ⟨h1.1, ?_⟩, h2⟩, h.nwb⟩
 rcases h1.2 with q | ⟨g, cap, cur, q1, q2, q3⟩
 ·exact Or.inl q
 ·exact Or.inr ⟨g, cap, cur, q1, Nat.le_trans hb q2, q3⟩
section
variable {Ar Af : Option Addr} {nr cr nf cf : Nat} {Rs : List (List Int)} {KK : Nat}
set_option maxRecDepth 100000 in
theorem p_timesT (hRt : TowI Rs) (hnr : nr <= 8) (h : Nat) : ∀ {w : World} {A B : Option Addr} {n c d : Nat} {xs ys : List Int} {X Y : Nat} (_hR : ISl w Ar nr cr Rs KK) (_ha : IPol w A n c xs X) (_hb : IPol w B n d ys Y) (_hn : n = 2 ^ h) (_hh : h <= nr) (_hsz : X + Y + szP KK h <= 40000),
  Calls Tryz.prog 69 #[.agg #[.slice Ar nr cr, .slice Af nf cf], .slice A n c, .slice B n d] w (fun e w' => ∃ A' c', e = .returned (.slice A' n c') /\ IPol w' A' n c' (mulL (radI Rs) h xs ys) (X + Y + szP KK h) /\ Row2 w' w.heap.size (.slice A' n c') (mulL (radI Rs) h xs ys) (X + Y + szP KK h) /\ Ext w w') := by
 induction h with
 | zero =>
  intro w A B n c d xs ys X Y hR ha hb hn hh hsz;have hn1 : n = 1 := hn;subst hn1;have hX : X + Y <= 40000 := by unfold szP at hsz; omega
  have hj : 0 < xs.length := by rw [ha.len]; omega
  have hj' : 0 < ys.length := by rw [hb.len]; omega
  obtain ⟨b, off, rfl, hr⟩ := ha.at_ (fun e => by rw [e] at hj; exact absurd hj (Nat.not_lt_zero _));obtain ⟨b', off', rfl, hr'⟩ := hb.at_ (fun e => by rw [e] at hj'; exact absurd hj' (Nat.not_lt_zero _))
  have hm : mulL (radI Rs) 0 xs ys = [xs[0] * ys[0]] := by
   rw [mulL, List.headD_eq_head?_getD, List.headD_eq_head?_getD, List.head?_eq_getElem?, List.head?_eq_getElem?, List.getElem?_eq_getElem hj, List.getElem?_eq_getElem hj']
   rfl
  have Hm := Lib.hid hm;clear hm
  go_enter Tryz.func69, Tryz.ntmps69
  go_upto_region 2 with (fail)
  obtain ⟨W, hW, extW, bx, hz⟩ := box1 w 72 #[.slice Ar nr cr, .slice Af nf cf];rw [<- hW];clear hW hz;obtain ⟨sx, Ax, nx, cx, e0', e1', hx⟩ := (hr.ext extW).at_ 0 hj;obtain ⟨sy, Ay, ny, cy, i0', i1', hy⟩ := (hr'.ext extW).at_ 0 hj';generalize xs[0] = x0 at *;generalize ys[0] = y0 at *;rw [Nat.mul_zero, Nat.add_zero] at e0' e1' i0' i1';have ES0 := Ext.refl W;refine wp_region_held_drew (S := Ext W) (by kernel_rfl) ES0.drew (fun ES => ?_);clear ES0;refine Late.s0 ES (fun hAl hQ => ?_);refine Late.u 0 18 hQ ?_
  try simp only [zP]
  refine Late.u 3 21 hQ ?_
  try simp only [zP]
  refine Late.u 1 19 hQ ?_
  try simp only [zP]
  refine Late.u 4 22 hQ ?_
  try simp only [zP]
  refine Late.t 2 20 ?v_4 hQ ?y_4 ?_
  case y_4 => intro w' hSw;have q0_ := hSw.cellv e0';have q1_ := hSw.cellv e1';have q2_ := hSw.cellv i0';have q3_ := hSw.cellv i1';go_simp;try rfl
  try simp only [zP]
  refine Late.t 5 23 ?v_5 hQ ?y_5 ?_
  case y_5 => intro w' hSw;have q0_ := hSw.cellv e0';have q1_ := hSw.cellv e1';have q2_ := hSw.cellv i0';have q3_ := hSw.cellv i1';go_simp;try rfl
  try simp only [zP]
  refine Late.cl (i := 6) rfl hAl hQ (fun w6 e6 E6 K hK => ?_);go_simp
  (go_at_call 70; refine (p_MulG (hx.ext E6) (hy.ext E6) (by omega) (by omega)).mono ?_; rintro e wk6 ⟨s7, A7, n7, c7, rfl, h7, hx6⟩)
  refine hK.out _ _ hx6 ?_;clear hK K
  try simp only [zP]
  refine Late.cl (i := 7) rfl hAl hQ (fun w7 e7 E7 K hK => ?_);go_simp;refine hK.out _ _ ((Ext.refl _).alloc _) ?_;clear hK K
  try simp only [zP]
  refine Late.u 8 6 hQ ?_
  try simp only [zP]
  refine Late.d0 (fun wz ez Ez => ?_);clear hAl hQ ES;have hbx := (Box.new w7 28 #[.bool s7, .slice A7 n7 c7]).ext ez;have h7z := h7.ext (e7.trans (((Ext.refl w7).alloc _).trans ez));have hrow : IRow wz w7.heap.size [x0 * y0] (X + Y + szP KK 0) := ⟨_, hbx, .cons (h7z.le (by omega)) .nil⟩;have hsz7 := (extW.trans E7).size
  go_wp2_with fail
  go_ret
  rw [Hm.out];exact ⟨_, 1, rfl, hrow.pol rfl (by unfold maxLen; omega), hrow.row2 hsz7 rfl (by omega), extW.trans Ez⟩
 | succ h ih =>
  intro w A B n c d xs ys X Y hR ha hb hn hh hsz;obtain ⟨k, hk⟩ : ∃ k, k = 2 ^ h := ⟨_, rfl⟩;have hnk : n = k + k := by rw [hn, hk, two_pow_s]
  have hk0 : 0 < k := by rw [hk]; exact Nat.pow_pos (by omega)
  have hk1 : k <= 128 := by rw [hk]; exact Nat.le_trans (Nat.pow_le_pow_right (by omega) (show h <= 7 by omega)) (by decide)
  have hst := szP_step KK h;have HK := Lib.hid hk;have Hst := Lib.hid hst;have Hn := Lib.hid hn;have Hnk := Lib.hid hnk;have hz0 : X + Y + szP KK h + szP KK h + KK + 4 <= 40000 := by omega
  have hn2 : n <= 256 := by omega
  have g1 : ((n : Int) == 1) = false := beq_eq_false_iff_ne.2 (by omega);have hmk := mk_ints n (by omega);clear hn hk hst hnk
  go_enter Tryz.func69, Tryz.ntmps69
  go_upto_region 1 with (fail)
  obtain ⟨W, hW, EW, bx, hz⟩ := box1 w 72 #[.slice Ar nr cr, .slice Af nf cf];rw [<- hW];clear hW hz
  go_wp2_with fail
  refine (p_noneT (ha.ext EW) (by omega) (by omega)).mono ?_;rintro e V1 ⟨rfl, hx1⟩;replace bx := bx.ext hx1;replace EW := EW.trans hx1
  cases hna : noneB xs with
  | true =>
   have Hxs := Lib.hid (noneB_repl ha.len hna);clear hna
   go_wp2_with fail
   go_ret
   have hrow := IRow.new V1 n (X + Y + szP KK (h + 1))
   have hm : mulL (radI Rs) (h + 1) xs ys = List.replicate n 0 := by
    rw [Hxs.out, Hn.out];exact mulL_zero_left (radI_len hRt) (by rw [hb.len, Hn.out])
   rw [hm];exact ⟨_, n, rfl, hrow.pol (by simp) (by unfold maxLen; omega), hrow.row2 EW.size (by simp) (by omega), EW.trans ((Ext.refl V1).alloc _)⟩
  | false =>
   clear hna
   go_wp2_with fail
   refine (p_noneT (hb.ext EW) (by omega) (by omega)).mono ?_;rintro e V2 ⟨rfl, hx2⟩;replace bx := bx.ext hx2;replace EW := EW.trans hx2
   cases hnb : noneB ys with
   | true =>
    have Hys := Lib.hid (noneB_repl hb.len hnb);clear hnb
    go_wp2_with fail
    go_ret
    have hrow := IRow.new V2 n (X + Y + szP KK (h + 1))
    have hm : mulL (radI Rs) (h + 1) xs ys = List.replicate n 0 := by
     rw [Hys.out, Hn.out];exact mulL_zero_right (radI_len hRt) (by rw [ha.len, Hn.out])
    rw [hm];exact ⟨_, n, rfl, hrow.pol (by simp) (by unfold maxLen; omega), hrow.row2 EW.size (by simp) (by omega), EW.trans ((Ext.refl V2).alloc _)⟩
   | false =>
    clear hnb
    go_wp2_with fail
    refine (p_halvesT (k := k) (ha.ext EW) Hnk.out hk0 (by omega)).mono ?_;rintro e V3 ⟨Aa, rfl, ha0, ha1, hx3⟩;replace bx := bx.ext hx3;replace EW := EW.trans hx3
    go_wp2_with fail
    refine (p_halvesT (k := k) (hb.ext EW) Hnk.out hk0 (by omega)).mono ?_;rintro e V4 ⟨Ab, rfl, hb0, hb1, hx4⟩;replace bx := bx.ext hx4;replace EW := EW.trans hx4;replace ha0 := ha0.ext hx4;replace ha1 := ha1.ext hx4;have ha' := ha.ext EW;have hb' := hb.ext EW;replace hR := hR.ext EW
    go_upto_region 7 with (fail)
    have hdr := (Ext.refl V4).drew;replace ha0 := ha0.ext hdr;replace ha1 := ha1.ext hdr;replace hb0 := hb0.ext hdr;replace hb1 := hb1.ext hdr;replace hR := hR.ext hdr;clear hdr;have ES0 := Ext.refl V4;refine wp_region_held_drew (S := Ext V4) (by kernel_rfl) ES0.drew (fun ES => ?_);clear ES0;refine Late.s0 ES (fun hAl hQ => ?_);refine Late.t 0 46 ?v_7 hQ ?y_7 ?_
    case y_7 => intro w' hSw;have k00 := (bx.ext hSw).c2;go_simp;try rfl
    try simp only [zP]
    refine Late.u 1 47 hQ ?_
    try simp only [zP]
    refine Late.u 2 48 hQ ?_
    try simp only [zP]
    refine Late.t 4 50 ?v_a hQ ?y_a ?_
    case y_a => intro w' hSw;have k00 := (bx.ext hSw).c2;go_simp;try rfl
    try simp only [zP]
    refine Late.u 5 51 hQ ?_
    try simp only [zP]
    refine Late.u 6 52 hQ ?_
    try simp only [zP]
    refine Late.cl (i := 3) rfl hAl hQ (fun w3 e3 E3 K hK => ?_);go_simp
    (replace ha0 := ha0.ext e3; replace ha1 := ha1.ext e3; replace hb0 := hb0.ext e3; replace hb1 := hb1.ext e3; replace hR := hR.ext e3; go_at_call 69; refine (ih hR ha0 hb0 HK.out (by omega) (by omega)).mono ?_; rintro e wk3 ⟨A5, c5, rfl, hlo, _, hx3⟩; replace ha0 := ha0.ext hx3; replace ha1 := ha1.ext hx3; replace hb0 := hb0.ext hx3; replace hb1 := hb1.ext hx3; replace hR := hR.ext hx3)
    refine hK.out _ _ hx3 ?_;clear hK K
    try simp only [zP]
    refine Late.cl (i := 7) rfl hAl hQ (fun w7 e7 E7 K hK => ?_);go_simp
    (replace ha0 := ha0.ext e7; replace ha1 := ha1.ext e7; replace hb0 := hb0.ext e7; replace hb1 := hb1.ext e7; replace hR := hR.ext e7; replace hlo := hlo.ext e7; go_at_call 69; refine (ih hR ha1 hb1 HK.out (by omega) (by omega)).mono ?_; rintro e wk7 ⟨A6, c6, rfl, hhi, _, hx7⟩; replace ha0 := ha0.ext hx7; replace ha1 := ha1.ext hx7; replace hb0 := hb0.ext hx7; replace hb1 := hb1.ext hx7; replace hR := hR.ext hx7; replace hlo := hlo.ext hx7)
    refine hK.out _ _ hx7 ?_;clear hK K
    try simp only [zP]
    refine Late.u 8 11 hQ ?_
    try simp only [zP]
    refine Late.u 9 12 hQ ?_
    try simp only [zP]
    refine Late.d0 (fun wz ez Ez => ?_);clear hAl hQ ES;replace bx := bx.ext Ez;replace EW := EW.trans Ez;have EX5 := Ez;replace ha0 := ha0.ext ez;replace ha1 := ha1.ext ez;replace hb0 := hb0.ext ez;replace hb1 := hb1.ext ez;replace hR := hR.ext ez;replace hlo := hlo.ext ez;replace hhi := hhi.ext ez;clear Ez ez
    go_wp2_with fail
    refine (p_denseT (ha'.ext EX5) (by omega) (by omega)).mono ?_;rintro e V6 ⟨⟨b1, rfl⟩, hx6⟩;replace bx := bx.ext hx6;replace EW := EW.trans hx6;replace ha0 := ha0.ext hx6;replace ha1 := ha1.ext hx6;replace hb0 := hb0.ext hx6;replace hb1 := hb1.ext hx6;replace hR := hR.ext hx6;replace hlo := hlo.ext hx6;replace hhi := hhi.ext hx6
    cases b1
    case' false =>
     go_upto_region 11 with (fail)
     have hdr := (Ext.refl V6).drew;replace ha0 := ha0.ext hdr;replace ha1 := ha1.ext hdr;replace hb0 := hb0.ext hdr;replace hb1 := hb1.ext hdr;replace hR := hR.ext hdr;replace hlo := hlo.ext hdr;replace hhi := hhi.ext hdr;clear hdr;have ES0 := Ext.refl V6;refine wp_region_held_drew (S := Ext V6) (by kernel_rfl) ES0.drew (fun ES => ?_);clear ES0;refine Late.s0 ES (fun hAl hQ => ?_);refine Late.t 0 72 ?v_f hQ ?y_f ?_
     case y_f => intro w' hSw;have k00 := (bx.ext hSw).c2;go_simp;try rfl
     try simp only [zP]
     refine Late.u 1 73 hQ ?_
     try simp only [zP]
     refine Late.u 2 74 hQ ?_
     try simp only [zP]
     refine Late.t 4 76 ?v_i hQ ?y_i ?_
     case y_i => intro w' hSw;have k00 := (bx.ext hSw).c2;go_simp;try rfl
     try simp only [zP]
     refine Late.u 5 77 hQ ?_
     try simp only [zP]
     refine Late.u 6 78 hQ ?_
     try simp only [zP]
     refine Late.cl (i := 3) rfl hAl hQ (fun w3 e3 E3 K hK => ?_);go_simp
     (replace ha0 := ha0.ext e3; replace ha1 := ha1.ext e3; replace hb0 := hb0.ext e3; replace hb1 := hb1.ext e3; replace hR := hR.ext e3; replace hlo := hlo.ext e3; replace hhi := hhi.ext e3; go_at_call 69; refine (ih hR ha0 hb1 HK.out (by omega) (by omega)).mono ?_; rintro e wk3 ⟨A7, c7, rfl, hm1, _, hx3⟩; replace ha0 := ha0.ext hx3; replace ha1 := ha1.ext hx3; replace hb0 := hb0.ext hx3; replace hb1 := hb1.ext hx3; replace hR := hR.ext hx3; replace hlo := hlo.ext hx3; replace hhi := hhi.ext hx3)
     refine hK.out _ _ hx3 ?_;clear hK K
     try simp only [zP]
     refine Late.cl (i := 7) rfl hAl hQ (fun w7 e7 E7 K hK => ?_);go_simp
     (replace ha0 := ha0.ext e7; replace ha1 := ha1.ext e7; replace hb0 := hb0.ext e7; replace hb1 := hb1.ext e7; replace hR := hR.ext e7; replace hlo := hlo.ext e7; replace hhi := hhi.ext e7; replace hm1 := hm1.ext e7; go_at_call 69; refine (ih hR ha1 hb0 HK.out (by omega) (by omega)).mono ?_; rintro e wk7 ⟨A8, c8, rfl, hm2, _, hx7⟩; replace ha0 := ha0.ext hx7; replace ha1 := ha1.ext hx7; replace hb0 := hb0.ext hx7; replace hb1 := hb1.ext hx7; replace hR := hR.ext hx7; replace hlo := hlo.ext hx7; replace hhi := hhi.ext hx7; replace hm1 := hm1.ext hx7)
     refine hK.out _ _ hx7 ?_;clear hK K
     try simp only [zP]
     refine Late.cl (i := 8) rfl hAl hQ (fun w8 e8 E8 K hK => ?_);go_simp
     (replace ha0 := ha0.ext e8; replace ha1 := ha1.ext e8; replace hb0 := hb0.ext e8; replace hb1 := hb1.ext e8; replace hR := hR.ext e8; replace hlo := hlo.ext e8; replace hhi := hhi.ext e8; replace hm1 := hm1.ext e8; replace hm2 := hm2.ext e8; go_at_call 110; refine (p_plusT hm1 hm2 (by omega) (by omega) (by omega)).mono ?_; rintro e wk8 ⟨rfl, hmd, hx8⟩; replace ha0 := ha0.ext hx8; replace ha1 := ha1.ext hx8; replace hb0 := hb0.ext hx8; replace hb1 := hb1.ext hx8; replace hR := hR.ext hx8; replace hlo := hlo.ext hx8; replace hhi := hhi.ext hx8; replace hm1 := hm1.ext hx8; replace hm2 := hm2.ext hx8)
     refine hK.out _ _ hx8 ?_;clear hK K
     try simp only [zP]
     refine Late.u 9 13 hQ ?_
     try simp only [zP]
     refine Late.d0 (fun wz ez Ez => ?_);clear hAl hQ ES;have hmid := (IPol.leT (M := X + Y + szP KK h + 4) (hmd.pol (addL_len hm1.len hm2.len) (by unfold maxLen; omega)) (by omega)).ext ez;replace ha0 := ha0.ext ez;replace ha1 := ha1.ext ez;replace hb0 := hb0.ext ez;replace hb1 := hb1.ext ez;replace hR := hR.ext ez;replace hlo := hlo.ext ez;replace hhi := hhi.ext ez
    case' true =>
     go_wp2_with fail
     refine (p_denseT (hb'.ext (EX5.trans hx6)) (by omega) (by omega)).mono ?_;rintro e V7 ⟨⟨b2, rfl⟩, hx7⟩;replace bx := bx.ext hx7;replace EW := EW.trans hx7;replace ha0 := ha0.ext hx7;replace ha1 := ha1.ext hx7;replace hb0 := hb0.ext hx7;replace hb1 := hb1.ext hx7;replace hR := hR.ext hx7;replace hlo := hlo.ext hx7;replace hhi := hhi.ext hx7
     cases b2
     case' false =>
      go_upto_region 11 with (fail)
      have hdr := (Ext.refl V7).drew;replace ha0 := ha0.ext hdr;replace ha1 := ha1.ext hdr;replace hb0 := hb0.ext hdr;replace hb1 := hb1.ext hdr;replace hR := hR.ext hdr;replace hlo := hlo.ext hdr;replace hhi := hhi.ext hdr;clear hdr;have ES0 := Ext.refl V7;refine wp_region_held_drew (S := Ext V7) (by kernel_rfl) ES0.drew (fun ES => ?_);clear ES0;refine Late.s0 ES (fun hAl hQ => ?_);refine Late.t 0 72 ?v_m hQ ?y_m ?_
      case y_m => intro w' hSw;have k00 := (bx.ext hSw).c2;go_simp;try rfl
      try simp only [zP]
      refine Late.u 1 73 hQ ?_
      try simp only [zP]
      refine Late.u 2 74 hQ ?_
      try simp only [zP]
      refine Late.t 4 76 ?v_p hQ ?y_p ?_
      case y_p => intro w' hSw;have k00 := (bx.ext hSw).c2;go_simp;try rfl
      try simp only [zP]
      refine Late.u 5 77 hQ ?_
      try simp only [zP]
      refine Late.u 6 78 hQ ?_
      try simp only [zP]
      refine Late.cl (i := 3) rfl hAl hQ (fun w3 e3 E3 K hK => ?_);go_simp
      (replace ha0 := ha0.ext e3; replace ha1 := ha1.ext e3; replace hb0 := hb0.ext e3; replace hb1 := hb1.ext e3; replace hR := hR.ext e3; replace hlo := hlo.ext e3; replace hhi := hhi.ext e3; go_at_call 69; refine (ih hR ha0 hb1 HK.out (by omega) (by omega)).mono ?_; rintro e wk3 ⟨A7, c7, rfl, hm1, _, hx3⟩; replace ha0 := ha0.ext hx3; replace ha1 := ha1.ext hx3; replace hb0 := hb0.ext hx3; replace hb1 := hb1.ext hx3; replace hR := hR.ext hx3; replace hlo := hlo.ext hx3; replace hhi := hhi.ext hx3)
      refine hK.out _ _ hx3 ?_;clear hK K
      try simp only [zP]
      refine Late.cl (i := 7) rfl hAl hQ (fun w7 e7 E7 K hK => ?_);go_simp
      (replace ha0 := ha0.ext e7; replace ha1 := ha1.ext e7; replace hb0 := hb0.ext e7; replace hb1 := hb1.ext e7; replace hR := hR.ext e7; replace hlo := hlo.ext e7; replace hhi := hhi.ext e7; replace hm1 := hm1.ext e7; go_at_call 69; refine (ih hR ha1 hb0 HK.out (by omega) (by omega)).mono ?_; rintro e wk7 ⟨A8, c8, rfl, hm2, _, hx7⟩; replace ha0 := ha0.ext hx7; replace ha1 := ha1.ext hx7; replace hb0 := hb0.ext hx7; replace hb1 := hb1.ext hx7; replace hR := hR.ext hx7; replace hlo := hlo.ext hx7; replace hhi := hhi.ext hx7; replace hm1 := hm1.ext hx7)
      refine hK.out _ _ hx7 ?_;clear hK K
      try simp only [zP]
      refine Late.cl (i := 8) rfl hAl hQ (fun w8 e8 E8 K hK => ?_);go_simp
      (replace ha0 := ha0.ext e8; replace ha1 := ha1.ext e8; replace hb0 := hb0.ext e8; replace hb1 := hb1.ext e8; replace hR := hR.ext e8; replace hlo := hlo.ext e8; replace hhi := hhi.ext e8; replace hm1 := hm1.ext e8; replace hm2 := hm2.ext e8; go_at_call 110; refine (p_plusT hm1 hm2 (by omega) (by omega) (by omega)).mono ?_; rintro e wk8 ⟨rfl, hmd, hx8⟩; replace ha0 := ha0.ext hx8; replace ha1 := ha1.ext hx8; replace hb0 := hb0.ext hx8; replace hb1 := hb1.ext hx8; replace hR := hR.ext hx8; replace hlo := hlo.ext hx8; replace hhi := hhi.ext hx8; replace hm1 := hm1.ext hx8; replace hm2 := hm2.ext hx8)
      refine hK.out _ _ hx8 ?_;clear hK K
      try simp only [zP]
      refine Late.u 9 13 hQ ?_
      try simp only [zP]
      refine Late.d0 (fun wz ez Ez => ?_);clear hAl hQ ES;have hmid := (IPol.leT (M := X + Y + szP KK h + 4) (hmd.pol (addL_len hm1.len hm2.len) (by unfold maxLen; omega)) (by omega)).ext ez;replace ha0 := ha0.ext ez;replace ha1 := ha1.ext ez;replace hb0 := hb0.ext ez;replace hb1 := hb1.ext ez;replace hR := hR.ext ez;replace hlo := hlo.ext ez;replace hhi := hhi.ext ez
     case' true =>
      go_upto_region 10 with (fail)
      have hdr := (Ext.refl V7).drew;replace ha0 := ha0.ext hdr;replace ha1 := ha1.ext hdr;replace hb0 := hb0.ext hdr;replace hb1 := hb1.ext hdr;replace hR := hR.ext hdr;replace hlo := hlo.ext hdr;replace hhi := hhi.ext hdr;clear hdr;have ES0 := Ext.refl V7;refine wp_region_held_drew (S := Ext V7) (by kernel_rfl) ES0.drew (fun ES => ?_);clear ES0;refine Late.s0 ES (fun hAl hQ => ?_);refine Late.t 0 60 ?v_t hQ ?y_t ?_
      case y_t => intro w' hSw;have k00 := (bx.ext hSw).c2;go_simp;try rfl
      try simp only [zP]
      refine Late.u 1 61 hQ ?_
      try simp only [zP]
      refine Late.u 2 62 hQ ?_
      try simp only [zP]
      refine Late.u 4 64 hQ ?_
      try simp only [zP]
      refine Late.u 5 65 hQ ?_
      try simp only [zP]
      refine Late.u 8 68 hQ ?_
      try simp only [zP]
      refine Late.u 10 70 hQ ?_
      try simp only [zP]
      refine Late.cl (i := 3) rfl hAl hQ (fun w3 e3 E3 K hK => ?_);go_simp
      (replace ha0 := ha0.ext e3; replace ha1 := ha1.ext e3; replace hb0 := hb0.ext e3; replace hb1 := hb1.ext e3; replace hR := hR.ext e3; replace hlo := hlo.ext e3; replace hhi := hhi.ext e3; go_at_call 110; refine (p_plusT ha0 ha1 (by omega) (by omega) (by omega)).mono ?_; rintro e wk3 ⟨rfl, hs1, hx3⟩; replace ha0 := ha0.ext hx3; replace ha1 := ha1.ext hx3; replace hb0 := hb0.ext hx3; replace hb1 := hb1.ext hx3; replace hR := hR.ext hx3; replace hlo := hlo.ext hx3; replace hhi := hhi.ext hx3)
      refine hK.out _ _ hx3 ?_;clear hK K
      try simp only [zP]
      refine Late.cl (i := 6) rfl hAl hQ (fun w6 e6 E6 K hK => ?_);go_simp
      (replace ha0 := ha0.ext e6; replace ha1 := ha1.ext e6; replace hb0 := hb0.ext e6; replace hb1 := hb1.ext e6; replace hR := hR.ext e6; replace hlo := hlo.ext e6; replace hhi := hhi.ext e6; replace hs1 := hs1.ext e6; go_at_call 110; refine (p_plusT hb0 hb1 (by omega) (by omega) (by omega)).mono ?_; rintro e wk6 ⟨rfl, hs2, hx6⟩; replace ha0 := ha0.ext hx6; replace ha1 := ha1.ext hx6; replace hb0 := hb0.ext hx6; replace hb1 := hb1.ext hx6; replace hR := hR.ext hx6; replace hlo := hlo.ext hx6; replace hhi := hhi.ext hx6; replace hs1 := hs1.ext hx6)
      refine hK.out _ _ hx6 ?_;clear hK K
      try simp only [zP]
      refine Late.cl (i := 7) rfl hAl hQ (fun w7 e7 E7 K hK => ?_);go_simp
      (replace ha0 := ha0.ext e7; replace ha1 := ha1.ext e7; replace hb0 := hb0.ext e7; replace hb1 := hb1.ext e7; replace hR := hR.ext e7; replace hlo := hlo.ext e7; replace hhi := hhi.ext e7; replace hs1 := hs1.ext e7; replace hs2 := hs2.ext e7; go_at_call 69; refine (ih hR (hs1.pol (addL_len ha0.len ha1.len) (by unfold maxLen; omega)) (hs2.pol (addL_len hb0.len hb1.len) (by unfold maxLen; omega)) HK.out (by omega) (by have := Hst.out; omega)).mono ?_; rintro e wk7 ⟨A7, c7, rfl, hm1, _, hx7⟩; replace ha0 := ha0.ext hx7; replace ha1 := ha1.ext hx7; replace hb0 := hb0.ext hx7; replace hb1 := hb1.ext hx7; replace hR := hR.ext hx7; replace hlo := hlo.ext hx7; replace hhi := hhi.ext hx7; replace hs1 := hs1.ext hx7; replace hs2 := hs2.ext hx7)
      refine hK.out _ _ hx7 ?_;clear hK K
      try simp only [zP]
      refine Late.cl (i := 9) rfl hAl hQ (fun w9 e9 E9 K hK => ?_);go_simp
      (replace ha0 := ha0.ext e9; replace ha1 := ha1.ext e9; replace hb0 := hb0.ext e9; replace hb1 := hb1.ext e9; replace hR := hR.ext e9; replace hlo := hlo.ext e9; replace hhi := hhi.ext e9; replace hs1 := hs1.ext e9; replace hs2 := hs2.ext e9; replace hm1 := hm1.ext e9; go_at_call 109; refine (p_minusT hm1 hlo (by omega) (by omega) (by omega)).mono ?_; rintro e wk9 ⟨rfl, hm2, hx9⟩; replace ha0 := ha0.ext hx9; replace ha1 := ha1.ext hx9; replace hb0 := hb0.ext hx9; replace hb1 := hb1.ext hx9; replace hR := hR.ext hx9; replace hlo := hlo.ext hx9; replace hhi := hhi.ext hx9; replace hs1 := hs1.ext hx9; replace hs2 := hs2.ext hx9; replace hm1 := hm1.ext hx9)
      refine hK.out _ _ hx9 ?_;clear hK K
      try simp only [zP]
      refine Late.cl (i := 11) rfl hAl hQ (fun w11 e11 E11 K hK => ?_);go_simp
      (replace ha0 := ha0.ext e11; replace ha1 := ha1.ext e11; replace hb0 := hb0.ext e11; replace hb1 := hb1.ext e11; replace hR := hR.ext e11; replace hlo := hlo.ext e11; replace hhi := hhi.ext e11; replace hs1 := hs1.ext e11; replace hs2 := hs2.ext e11; replace hm1 := hm1.ext e11; replace hm2 := hm2.ext e11; go_at_call 109; refine (p_minusT (hm2.pol (subI_len hm1.len hlo.len) (by unfold maxLen; omega)) hhi (by omega) (by omega) (by omega)).mono ?_; rintro e wk11 ⟨rfl, hmd, hx11⟩; replace ha0 := ha0.ext hx11; replace ha1 := ha1.ext hx11; replace hb0 := hb0.ext hx11; replace hb1 := hb1.ext hx11; replace hR := hR.ext hx11; replace hlo := hlo.ext hx11; replace hhi := hhi.ext hx11; replace hs1 := hs1.ext hx11; replace hs2 := hs2.ext hx11; replace hm1 := hm1.ext hx11; replace hm2 := hm2.ext hx11)
      refine hK.out _ _ hx11 ?_;clear hK K
      try simp only [zP]
      refine Late.u 12 13 hQ ?_
      try simp only [zP]
      refine Late.d0 (fun wz ez Ez => ?_);clear hAl hQ ES;have hmid := (IPol.leT (M := X + Y + szP KK h + 4) (hmd.pol (subI_len (subI_len hm1.len hlo.len) hhi.len) (by unfold maxLen; omega)) (by omega)).ext ez;rw [show List.zipWith (fun x y : Int => x - y) (List.zipWith (fun x y : Int => x - y) (mulL (radI Rs) h (addL (xs.take k) (xs.drop k)) (addL (ys.take k) (ys.drop k))) (mulL (radI Rs) h (xs.take k) (ys.take k))) (mulL (radI Rs) h (xs.drop k) (ys.drop k)) = addL (mulL (radI Rs) h (xs.take k) (ys.drop k)) (mulL (radI Rs) h (xs.drop k) (ys.take k)) from kar_list (radI_len hRt) (ha0.len.trans HK.out) (ha1.len.trans HK.out) (hb0.len.trans HK.out) (hb1.len.trans HK.out)] at hmid;replace ha0 := ha0.ext ez;replace ha1 := ha1.ext ez;replace hb0 := hb0.ext ez;replace hb1 := hb1.ext ez;replace hR := hR.ext ez;replace hlo := hlo.ext ez;replace hhi := hhi.ext ez
    ·replace bx := bx.ext Ez
     replace EW := EW.trans Ez;clear Ez ez
     go_upto_region 12 with (fail)
     have hdr := (Ext.refl wz).drew;replace ha0 := ha0.ext hdr;replace ha1 := ha1.ext hdr;replace hb0 := hb0.ext hdr;replace hb1 := hb1.ext hdr;replace hR := hR.ext hdr;replace hlo := hlo.ext hdr;replace hhi := hhi.ext hdr;replace hmid := hmid.ext hdr;clear hdr;have ES0 := Ext.refl wz;refine wp_region_held_drew (S := Ext wz) (by kernel_rfl) ES0.drew (fun ES => ?_);clear ES0;refine Late.s0 ES (fun hAl hQ => ?_);refine Late.u 0 81 hQ ?_
     try simp only [zP]
     refine Late.t 1 82 ?v_12 hQ ?y_12 ?_
     case y_12 => intro w' hSw;have k00 := (bx.ext hSw).c2;go_simp;try rfl
     try simp only [zP]
     refine Late.u 2 83 hQ ?_
     try simp only [zP]
     refine Late.t 3 84 ?v_14 hQ ?y_14 ?_
     case y_14 => intro w' hSw;have k00 := (bx.ext hSw).c2;go_simp;try rfl
     try simp only [zP]
     refine Late.u 4 85 hQ ?_
     try simp only [zP]
     refine Late.u 8 89 hQ ?_
     try simp only [zP]
     refine Late.cl (i := 5) rfl hAl hQ (fun w5 e5 E5 K hK => ?_);go_simp
     (replace ha0 := ha0.ext e5; replace ha1 := ha1.ext e5; replace hb0 := hb0.ext e5; replace hb1 := hb1.ext e5; replace hR := hR.ext e5; replace hlo := hlo.ext e5; replace hhi := hhi.ext e5; replace hmid := hmid.ext e5; go_at_call 111; refine (p_lastT hRt hR (by omega) (by omega) (by omega) HK.out).mono ?_; rintro e wk5 ⟨A9, c9, rfl, hla, hx5⟩; replace ha0 := ha0.ext hx5; replace ha1 := ha1.ext hx5; replace hb0 := hb0.ext hx5; replace hb1 := hb1.ext hx5; replace hR := hR.ext hx5; replace hlo := hlo.ext hx5; replace hhi := hhi.ext hx5; replace hmid := hmid.ext hx5)
     refine hK.out _ _ hx5 ?_;clear hK K
     try simp only [zP]
     refine Late.cl (i := 6) rfl hAl hQ (fun w6 e6 E6 K hK => ?_);go_simp
     (replace ha0 := ha0.ext e6; replace ha1 := ha1.ext e6; replace hb0 := hb0.ext e6; replace hb1 := hb1.ext e6; replace hR := hR.ext e6; replace hlo := hlo.ext e6; replace hhi := hhi.ext e6; replace hmid := hmid.ext e6; replace hla := hla.ext e6; go_at_call 69; refine (ih hR hhi hla HK.out (by omega) (by omega)).mono ?_; rintro e wk6 ⟨A7, c7, rfl, hhr, _, hx6⟩; replace ha0 := ha0.ext hx6; replace ha1 := ha1.ext hx6; replace hb0 := hb0.ext hx6; replace hb1 := hb1.ext hx6; replace hR := hR.ext hx6; replace hlo := hlo.ext hx6; replace hhi := hhi.ext hx6; replace hmid := hmid.ext hx6; replace hla := hla.ext hx6)
     refine hK.out _ _ hx6 ?_;clear hK K
     try simp only [zP]
     refine Late.cl (i := 7) rfl hAl hQ (fun w7 e7 E7 K hK => ?_);go_simp
     (replace ha0 := ha0.ext e7; replace ha1 := ha1.ext e7; replace hb0 := hb0.ext e7; replace hb1 := hb1.ext e7; replace hR := hR.ext e7; replace hlo := hlo.ext e7; replace hhi := hhi.ext e7; replace hmid := hmid.ext e7; replace hla := hla.ext e7; replace hhr := hhr.ext e7; go_at_call 110; refine (p_plusT hlo hhr (by omega) (by omega) (by omega)).mono ?_; rintro e wk7 ⟨rfl, hpl, hx7⟩; replace ha0 := ha0.ext hx7; replace ha1 := ha1.ext hx7; replace hb0 := hb0.ext hx7; replace hb1 := hb1.ext hx7; replace hR := hR.ext hx7; replace hlo := hlo.ext hx7; replace hhi := hhi.ext hx7; replace hmid := hmid.ext hx7; replace hla := hla.ext hx7; replace hhr := hhr.ext hx7)
     refine hK.out _ _ hx7 ?_;clear hK K
     try simp only [zP]
     refine Late.cl (i := 9) rfl hAl hQ (fun w9 e9 E9 K hK => ?_);refine step_append_rowF (L := X + Y + szP KK (h + 1)) rfl _ _ rfl rfl rfl ((hpl.le (by have := Hst.out; omega)).ext e9) (addL_len hlo.len hhr.len) ((hmid.leT (by have := Hst.out; omega)).ext e9) hk0 (by omega) (by omega) ?_;intro v9 u9 hres h9;refine hK.out _ _ h9 ?_
     try simp only [List.getElem_toArray, List.getElem_cons_succ, List.getElem_cons_zero]
     clear hK K
     try simp only [zP]
     refine Late.u 10 6 hQ ?_
     try simp only [zP]
     refine Late.d0 (fun wy ey Ey => ?_);clear hAl hQ ES;obtain ⟨A0, n0, c0, rfl, hp⟩ := hres.pol
     obtain rfl : n = n0 := by
      rw [<- hp.len, List.length_append, addL_len hlo.len hhr.len, hmid.len, Hnk.out]
     have hm : mulL (radI Rs) (h + 1) xs ys = addL (mulL (radI Rs) h (xs.take k) (ys.take k)) (mulL (radI Rs) h (mulL (radI Rs) h (xs.drop k) (ys.drop k)) (radI Rs h)) ++ addL (mulL (radI Rs) h (xs.take k) (ys.drop k)) (mulL (radI Rs) h (xs.drop k) (ys.take k)) := by
      rw [mulL, <- HK.out]
     go_wp2_with fail
     go_ret
     rw [hm];exact ⟨A0, c0, rfl, hp.ext ey, (hres.ext ey).mono (Nat.le_trans EW.size E9.size), EW.trans Ey⟩
    ·replace bx := bx.ext Ez
     replace EW := EW.trans Ez;clear Ez ez
     go_upto_region 12 with (fail)
     have hdr := (Ext.refl wz).drew;replace ha0 := ha0.ext hdr;replace ha1 := ha1.ext hdr;replace hb0 := hb0.ext hdr;replace hb1 := hb1.ext hdr;replace hR := hR.ext hdr;replace hlo := hlo.ext hdr;replace hhi := hhi.ext hdr;replace hmid := hmid.ext hdr;clear hdr;have ES0 := Ext.refl wz;refine wp_region_held_drew (S := Ext wz) (by kernel_rfl) ES0.drew (fun ES => ?_);clear ES0;refine Late.s0 ES (fun hAl hQ => ?_);refine Late.u 0 81 hQ ?_
     try simp only [zP]
     refine Late.t 1 82 ?v_19 hQ ?y_19 ?_
     case y_19 => intro w' hSw;have k00 := (bx.ext hSw).c2;go_simp;try rfl
     try simp only [zP]
     refine Late.u 2 83 hQ ?_
     try simp only [zP]
     refine Late.t 3 84 ?v_1b hQ ?y_1b ?_
     case y_1b => intro w' hSw;have k00 := (bx.ext hSw).c2;go_simp;try rfl
     try simp only [zP]
     refine Late.u 4 85 hQ ?_
     try simp only [zP]
     refine Late.u 8 89 hQ ?_
     try simp only [zP]
     refine Late.cl (i := 5) rfl hAl hQ (fun w5 e5 E5 K hK => ?_);go_simp
     (replace ha0 := ha0.ext e5; replace ha1 := ha1.ext e5; replace hb0 := hb0.ext e5; replace hb1 := hb1.ext e5; replace hR := hR.ext e5; replace hlo := hlo.ext e5; replace hhi := hhi.ext e5; replace hmid := hmid.ext e5; go_at_call 111; refine (p_lastT hRt hR (by omega) (by omega) (by omega) HK.out).mono ?_; rintro e wk5 ⟨A9, c9, rfl, hla, hx5⟩; replace ha0 := ha0.ext hx5; replace ha1 := ha1.ext hx5; replace hb0 := hb0.ext hx5; replace hb1 := hb1.ext hx5; replace hR := hR.ext hx5; replace hlo := hlo.ext hx5; replace hhi := hhi.ext hx5; replace hmid := hmid.ext hx5)
     refine hK.out _ _ hx5 ?_;clear hK K
     try simp only [zP]
     refine Late.cl (i := 6) rfl hAl hQ (fun w6 e6 E6 K hK => ?_);go_simp
     (replace ha0 := ha0.ext e6; replace ha1 := ha1.ext e6; replace hb0 := hb0.ext e6; replace hb1 := hb1.ext e6; replace hR := hR.ext e6; replace hlo := hlo.ext e6; replace hhi := hhi.ext e6; replace hmid := hmid.ext e6; replace hla := hla.ext e6; go_at_call 69; refine (ih hR hhi hla HK.out (by omega) (by omega)).mono ?_; rintro e wk6 ⟨A7, c7, rfl, hhr, _, hx6⟩; replace ha0 := ha0.ext hx6; replace ha1 := ha1.ext hx6; replace hb0 := hb0.ext hx6; replace hb1 := hb1.ext hx6; replace hR := hR.ext hx6; replace hlo := hlo.ext hx6; replace hhi := hhi.ext hx6; replace hmid := hmid.ext hx6; replace hla := hla.ext hx6)
     refine hK.out _ _ hx6 ?_;clear hK K
     try simp only [zP]
     refine Late.cl (i := 7) rfl hAl hQ (fun w7 e7 E7 K hK => ?_);go_simp
     (replace ha0 := ha0.ext e7; replace ha1 := ha1.ext e7; replace hb0 := hb0.ext e7; replace hb1 := hb1.ext e7; replace hR := hR.ext e7; replace hlo := hlo.ext e7; replace hhi := hhi.ext e7; replace hmid := hmid.ext e7; replace hla := hla.ext e7; replace hhr := hhr.ext e7; go_at_call 110; refine (p_plusT hlo hhr (by omega) (by omega) (by omega)).mono ?_; rintro e wk7 ⟨rfl, hpl, hx7⟩; replace ha0 := ha0.ext hx7; replace ha1 := ha1.ext hx7; replace hb0 := hb0.ext hx7; replace hb1 := hb1.ext hx7; replace hR := hR.ext hx7; replace hlo := hlo.ext hx7; replace hhi := hhi.ext hx7; replace hmid := hmid.ext hx7; replace hla := hla.ext hx7; replace hhr := hhr.ext hx7)
     refine hK.out _ _ hx7 ?_;clear hK K
     try simp only [zP]
     refine Late.cl (i := 9) rfl hAl hQ (fun w9 e9 E9 K hK => ?_);refine step_append_rowF (L := X + Y + szP KK (h + 1)) rfl _ _ rfl rfl rfl ((hpl.le (by have := Hst.out; omega)).ext e9) (addL_len hlo.len hhr.len) ((hmid.leT (by have := Hst.out; omega)).ext e9) hk0 (by omega) (by omega) ?_;intro v9 u9 hres h9;refine hK.out _ _ h9 ?_
     try simp only [List.getElem_toArray, List.getElem_cons_succ, List.getElem_cons_zero]
     clear hK K
     try simp only [zP]
     refine Late.u 10 6 hQ ?_
     try simp only [zP]
     refine Late.d0 (fun wy ey Ey => ?_);clear hAl hQ ES;obtain ⟨A0, n0, c0, rfl, hp⟩ := hres.pol
     obtain rfl : n = n0 := by
      rw [<- hp.len, List.length_append, addL_len hlo.len hhr.len, hmid.len, Hnk.out]
     have hm : mulL (radI Rs) (h + 1) xs ys = addL (mulL (radI Rs) h (xs.take k) (ys.take k)) (mulL (radI Rs) h (mulL (radI Rs) h (xs.drop k) (ys.drop k)) (radI Rs h)) ++ addL (mulL (radI Rs) h (xs.take k) (ys.drop k)) (mulL (radI Rs) h (xs.drop k) (ys.take k)) := by
      rw [mulL, <- HK.out]
     go_wp2_with fail
     go_ret
     rw [hm];exact ⟨A0, c0, rfl, hp.ext ey, (hres.ext ey).mono (Nat.le_trans EW.size E9.size), EW.trans Ey⟩
    ·replace bx := bx.ext Ez
     replace EW := EW.trans Ez;clear Ez ez
     go_upto_region 12 with (fail)
     have hdr := (Ext.refl wz).drew;replace ha0 := ha0.ext hdr;replace ha1 := ha1.ext hdr;replace hb0 := hb0.ext hdr;replace hb1 := hb1.ext hdr;replace hR := hR.ext hdr;replace hlo := hlo.ext hdr;replace hhi := hhi.ext hdr;replace hmid := hmid.ext hdr;clear hdr;have ES0 := Ext.refl wz;refine wp_region_held_drew (S := Ext wz) (by kernel_rfl) ES0.drew (fun ES => ?_);clear ES0;refine Late.s0 ES (fun hAl hQ => ?_);refine Late.u 0 81 hQ ?_
     try simp only [zP]
     refine Late.t 1 82 ?v_1g hQ ?y_1g ?_
     case y_1g => intro w' hSw;have k00 := (bx.ext hSw).c2;go_simp;try rfl
     try simp only [zP]
     refine Late.u 2 83 hQ ?_
     try simp only [zP]
     refine Late.t 3 84 ?v_1i hQ ?y_1i ?_
     case y_1i => intro w' hSw;have k00 := (bx.ext hSw).c2;go_simp;try rfl
     try simp only [zP]
     refine Late.u 4 85 hQ ?_
     try simp only [zP]
     refine Late.u 8 89 hQ ?_
     try simp only [zP]
     refine Late.cl (i := 5) rfl hAl hQ (fun w5 e5 E5 K hK => ?_);go_simp
     (replace ha0 := ha0.ext e5; replace ha1 := ha1.ext e5; replace hb0 := hb0.ext e5; replace hb1 := hb1.ext e5; replace hR := hR.ext e5; replace hlo := hlo.ext e5; replace hhi := hhi.ext e5; replace hmid := hmid.ext e5; go_at_call 111; refine (p_lastT hRt hR (by omega) (by omega) (by omega) HK.out).mono ?_; rintro e wk5 ⟨A9, c9, rfl, hla, hx5⟩; replace ha0 := ha0.ext hx5; replace ha1 := ha1.ext hx5; replace hb0 := hb0.ext hx5; replace hb1 := hb1.ext hx5; replace hR := hR.ext hx5; replace hlo := hlo.ext hx5; replace hhi := hhi.ext hx5; replace hmid := hmid.ext hx5)
     refine hK.out _ _ hx5 ?_;clear hK K
     try simp only [zP]
     refine Late.cl (i := 6) rfl hAl hQ (fun w6 e6 E6 K hK => ?_);go_simp
     (replace ha0 := ha0.ext e6; replace ha1 := ha1.ext e6; replace hb0 := hb0.ext e6; replace hb1 := hb1.ext e6; replace hR := hR.ext e6; replace hlo := hlo.ext e6; replace hhi := hhi.ext e6; replace hmid := hmid.ext e6; replace hla := hla.ext e6; go_at_call 69; refine (ih hR hhi hla HK.out (by omega) (by omega)).mono ?_; rintro e wk6 ⟨A7, c7, rfl, hhr, _, hx6⟩; replace ha0 := ha0.ext hx6; replace ha1 := ha1.ext hx6; replace hb0 := hb0.ext hx6; replace hb1 := hb1.ext hx6; replace hR := hR.ext hx6; replace hlo := hlo.ext hx6; replace hhi := hhi.ext hx6; replace hmid := hmid.ext hx6; replace hla := hla.ext hx6)
     refine hK.out _ _ hx6 ?_;clear hK K
     try simp only [zP]
     refine Late.cl (i := 7) rfl hAl hQ (fun w7 e7 E7 K hK => ?_);go_simp
     (replace ha0 := ha0.ext e7; replace ha1 := ha1.ext e7; replace hb0 := hb0.ext e7; replace hb1 := hb1.ext e7; replace hR := hR.ext e7; replace hlo := hlo.ext e7; replace hhi := hhi.ext e7; replace hmid := hmid.ext e7; replace hla := hla.ext e7; replace hhr := hhr.ext e7; go_at_call 110; refine (p_plusT hlo hhr (by omega) (by omega) (by omega)).mono ?_; rintro e wk7 ⟨rfl, hpl, hx7⟩; replace ha0 := ha0.ext hx7; replace ha1 := ha1.ext hx7; replace hb0 := hb0.ext hx7; replace hb1 := hb1.ext hx7; replace hR := hR.ext hx7; replace hlo := hlo.ext hx7; replace hhi := hhi.ext hx7; replace hmid := hmid.ext hx7; replace hla := hla.ext hx7; replace hhr := hhr.ext hx7)
     refine hK.out _ _ hx7 ?_;clear hK K
     try simp only [zP]
     refine Late.cl (i := 9) rfl hAl hQ (fun w9 e9 E9 K hK => ?_);refine step_append_rowF (L := X + Y + szP KK (h + 1)) rfl _ _ rfl rfl rfl ((hpl.le (by have := Hst.out; omega)).ext e9) (addL_len hlo.len hhr.len) ((hmid.leT (by have := Hst.out; omega)).ext e9) hk0 (by omega) (by omega) ?_;intro v9 u9 hres h9;refine hK.out _ _ h9 ?_
     try simp only [List.getElem_toArray, List.getElem_cons_succ, List.getElem_cons_zero]
     clear hK K
     try simp only [zP]
     refine Late.u 10 6 hQ ?_
     try simp only [zP]
     refine Late.d0 (fun wy ey Ey => ?_);clear hAl hQ ES;obtain ⟨A0, n0, c0, rfl, hp⟩ := hres.pol
     obtain rfl : n = n0 := by
      rw [<- hp.len, List.length_append, addL_len hlo.len hhr.len, hmid.len, Hnk.out]
     have hm : mulL (radI Rs) (h + 1) xs ys = addL (mulL (radI Rs) h (xs.take k) (ys.take k)) (mulL (radI Rs) h (mulL (radI Rs) h (xs.drop k) (ys.drop k)) (radI Rs h)) ++ addL (mulL (radI Rs) h (xs.take k) (ys.drop k)) (mulL (radI Rs) h (xs.drop k) (ys.take k)) := by
      rw [mulL, <- HK.out]
     go_wp2_with fail
     go_ret
     rw [hm];exact ⟨A0, c0, rfl, hp.ext ey, (hres.ext ey).mono (Nat.le_trans EW.size E9.size), EW.trans Ey⟩
end
end
end Go.Proofs.YtijdljfnmdoffaaGreatDoor
