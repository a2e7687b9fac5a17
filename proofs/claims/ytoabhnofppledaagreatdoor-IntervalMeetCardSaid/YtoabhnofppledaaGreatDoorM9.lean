/- Walks and laws, a part. -/
import Derived.Test.YtoabhnofppledaaGreatDoorM8
import Derived.Test.YtoabhnofppledaaGreatDoorM0
import Derived.Test.YtoabhnofppledaaGreatDoorM7
import Derived.Test.YtoabhnofppledaaGreatDoorRows
import Derived.ProofKit
import Derived.Lib.SmallJoins
import Derived.Test.YtoabhnofppledaaGreatDoorCards
import Derived.Test.YtoabhnofppledaaGreatDoorTie
import Derived.LaidMore
import Derived.OpenShut
import Derived.LaidLaws
import Derived.Lib.LaidTab
import Derived.SevenTiedAt
import Derived.Stop.Joined
namespace Go.Proofs.YtoabhnofppledaaGreatDoor
open Go.RowKit
attribute [local go_sem ↓] Go.wp_at_zero Go.wp_at_succ
section
variable {w w' : World} {q p lo hi lo' hi' x : Rat} {L M : Nat} {s t s' t' sx tx u v u' v' : Bool} {A B A' B' Ax Bx C D C' D' : Option Addr} {n c m d n' c' m' d' nx cx mx dx i j k l i' j' k' l' : Nat} {qs : List Rat}
set_option maxHeartbeats 4000000 in
theorem q_SameV (h : IV w lo hi L s A n c t B m d s' A' n' c' t' B' m' d') (g : IV w lo hi M u C i j v D k l u' C' i' j' v' D' k' l') : Calls Tryz.prog 16 #[.agg #[.bool s, .slice A n c, .bool t, .slice B m d, .bool s', .slice A' n' c', .bool t', .slice B' m' d'], .agg #[.bool u, .slice C i j, .bool v, .slice D k l, .bool u', .slice C' i' j', .bool v', .slice D' k' l']] w fun e w' => e = .returned (.bool true) ∧ Ext w w' := by
  go_enter Tryz.func16, Tryz.ntmps16
  go_upto_region 1 with (fail)
  obtain ⟨W, hW, ext, bx, by_, hz⟩ := box2 w 28 28 #[.bool s, .slice A n c, .bool t, .slice B m d, .bool s', .slice A' n' c', .bool t', .slice B' m' d'] #[.bool u, .slice C i j, .bool v, .slice D k l, .bool u', .slice C' i' j', .bool v', .slice D' k' l']
  rw [← hW]
  clear hW hz
  have hh := h.ext ext
  have hg := g.ext ext
  have k0 := bx.cell 0 (.bool s) rfl
  have k1 := bx.cell 1 (.slice A n c) rfl
  have k2 := bx.cell 2 (.bool t) rfl
  have k3 := bx.cell 3 (.slice B m d) rfl
  have k4 := bx.cell 4 (.bool s') rfl
  have k5 := bx.cell 5 (.slice A' n' c') rfl
  have k6 := bx.cell 6 (.bool t') rfl
  have k7 := bx.cell 7 (.slice B' m' d') rfl
  have x0 := by_.cell 0 (.bool u) rfl
  have x1 := by_.cell 1 (.slice C i j) rfl
  have x2 := by_.cell 2 (.bool v) rfl
  have x3 := by_.cell 3 (.slice D k l) rfl
  have x4 := by_.cell 4 (.bool u') rfl
  have x5 := by_.cell 5 (.slice C' i' j') rfl
  have x6 := by_.cell 6 (.bool v') rfl
  have x7 := by_.cell 7 (.slice D' k' l') rfl
  go_wp2_with fail
  refine (q_Same hh.low hg.low).mono ?_
  rintro e V ⟨rfl, hxc⟩
  replace bx := bx.ext hxc
  replace by_ := by_.ext hxc
  replace hh := hh.ext hxc
  replace hg := hg.ext hxc
  replace ext := ext.trans hxc
  clear hxc k0 x0 k1 x1 k2 x2 k3 x3 k4 x4 k5 x5 k6 x6 k7 x7
  have k0 := bx.cell 0 (.bool s) rfl
  have k1 := bx.cell 1 (.slice A n c) rfl
  have k2 := bx.cell 2 (.bool t) rfl
  have k3 := bx.cell 3 (.slice B m d) rfl
  have k4 := bx.cell 4 (.bool s') rfl
  have k5 := bx.cell 5 (.slice A' n' c') rfl
  have k6 := bx.cell 6 (.bool t') rfl
  have k7 := bx.cell 7 (.slice B' m' d') rfl
  have x0 := by_.cell 0 (.bool u) rfl
  have x1 := by_.cell 1 (.slice C i j) rfl
  have x2 := by_.cell 2 (.bool v) rfl
  have x3 := by_.cell 3 (.slice D k l) rfl
  have x4 := by_.cell 4 (.bool u') rfl
  have x5 := by_.cell 5 (.slice C' i' j') rfl
  have x6 := by_.cell 6 (.bool v') rfl
  have x7 := by_.cell 7 (.slice D' k' l') rfl
  go_wp2_with fail
  refine (q_Same hh.high hg.high).mono ?_
  rintro e V2 ⟨rfl, hxc⟩
  replace ext := ext.trans hxc
  go_wp2_with fail
  go_ret
  exact ⟨rfl, ext⟩
end
end Go.Proofs.YtoabhnofppledaaGreatDoor
namespace Go.Proofs.YtoabhnofppledaaGreatDoor
open Go.RowKit
def NWL (l : List Value) : Prop := ∀ u ∈ l, ∀ k, u ≠ .int .u32 k
theorem NWL.arr {l : List Value} (h : NWL l) : NoWord l.toArray := by
  intro i k hk
  exact h _ (List.mem_of_getElem? (by simpa using hk)) k rfl
theorem NWL.of {cs : Array Value} (h : NoWord cs) : NWL cs.toList := by
  intro u hu k e
  obtain ⟨i, hi⟩ := List.mem_iff_getElem?.1 hu
  exact h i k (by rw [← e, ← hi]; simp)
theorem NWL.append {l l' : List Value} (h : NWL l) (h' : NWL l') : NWL (l ++ l') := by
  intro u hu
  rcases List.mem_append.1 hu with hu | hu
  · exact h u hu
  · exact h' u hu
theorem NWL.take {l : List Value} (h : NWL l) (n : Nat) : NWL (l.take n) := fun u hu => h u (List.mem_of_mem_take hu)
theorem NWL.drop {l : List Value} (h : NWL l) (n : Nat) : NWL (l.drop n) := fun u hu => h u (List.mem_of_mem_drop hu)
theorem NWL.zero {z : Array Value} (h : NWL z.toList) (n : Nat) : NWL (Builtin.zeroCells z n).toList := by
  intro u hu k e
  simp only [Builtin.zeroCells, Array.mem_toList_iff, Array.mem_map, Array.mem_range] at hu
  obtain ⟨i, hi, rfl⟩ := hu
  have hz : 0 < z.size := by
    rcases Nat.eq_zero_or_pos z.size with h0 | h0
    · rw [h0] at hi; omega
    · exact h0
  have hm : i % z.size < z.size := Nat.mod_lt _ hz
  rw [getElem!_pos z _ hm] at e
  exact h _ (by simp) k e
theorem NWL.arr' {cs : Array Value} (h : NWL cs.toList) : NoWord cs := h.arr
/-- no cell of the own block of a slice is a word. -/
def NWB (w : World) (v : Value) : Prop := ∀ g, v.ownBlock = some g → ∃ cur e fz, w.heap[g]? = some (.cells cur e fz) ∧ NoWord cur
section
variable {P : Program} {w : World}
theorem run_append_nw {base : Nat} {t ty e : TypeId} {i : TypeInfo} {z : Value} {bytes : Nat} (ht : P.underlying t = some (.slice e)) (hi : P.info? e = some i) (hz : i.zero = some z)
    (hby : i.bytes = bytes) (hzs : z.cells.size = i.size) (hsz : 0 < i.size) (hzw : NWL z.cells.toList)
    {v : Value} {n : Nat} {xs : List Value} (hown : w.ownsRow base e i.size v n xs) (hv : NWB w v)
    {a : Addr} {m c : Nat} {news : List Value} (hl : news.length = m * i.size) (hnews : ∀ j u, news[j]? = some u → w.cell? (a.add j) = some u) (h1 : ∀ u ∈ news, u.oneCell' = true) (hnw : NWL news) (hm : 0 < m)
    (h63 : n + m ≤ maxLen) (hbytes : (n + m) * bytes ≤ 140737488355328) (hbase : base ≤ w.heap.size) :
    ∃ v' w', (Builtin.append_ #[t, t] ty #[v, .slice (some a) m c]).run P w = .ok v' w' ∧ w'.ownsRow base e i.size v' (n + m) (xs ++ news) ∧ w.grownBy w' v.ownBlock ∧
      (v'.ownBlock = v.ownBlock ∨ v'.ownBlock = some w.heap.size) ∧ NWB w' v' := by
  obtain ⟨v', w', hr, h2, h3, _, h5⟩ := run_append_own_at (P := P) w base t ty e i z i.size bytes ht hi hz rfl hby hzs hsz v n xs hown a m c news hl hnews h1 h63 hbytes hbase
  refine ⟨v', w', hr, h2, h3, h5, ?_⟩
  subst hby
  have hsmall : n + m ≤ 9223372036854775807 := by simp only [maxLen] at h63; omega
  rcases hown.2 with ⟨rfl, rfl⟩ | ⟨g, cap, cur, rfl, hbg, hg, hnc, hcm, hcs, htake⟩
  · have hr2 := run_append_nil (P := P) w t ty e i z ht hi hz a m c news hl hnews hm (by omega) (by have hb := hbytes; simp only [Nat.zero_add] at hb; omega)
    rw [hr] at hr2
    injection hr2 with e1 e2
    subst e1 e2
    intro g hg
    injection hg with hg
    subst hg
    refine ⟨_, _, _, heap_alloc_new w.drew _, ?_⟩
    refine NWL.arr' ?_
    rw [Array.toList_append]
    exact hnw.append (hzw.zero _)
  · obtain ⟨cur', e', fz, hg', hcw⟩ := hv g rfl
    rw [hg] at hg'
    injection hg' with hg'
    injection hg' with q1 q2 q3
    subst q1
    have hc := NWL.of hcw
    by_cases hroom : n + m ≤ cap
    · have hfit : n * i.size + news.length ≤ cur.size := by rw [hl, hcs, ← Nat.add_mul]; exact Nat.mul_le_mul_right _ hroom
      have hr2 := run_append_room (P := P) w t ty e i ht hi g n cap cur hg a m c news hl hnews h1 hroom hfit
      rw [hr] at hr2
      injection hr2 with e1 e2
      subst e1 e2
      intro g' hg'
      injection hg' with hg'
      subst hg'
      exact ⟨_, _, _, setRow_heap w g cur _ e _ hg, (((hc.take _).append hnw).append (hc.drop _)).arr⟩
    · have holds : ∀ j u, xs[j]? = some u → w.cell? ((⟨g, 0, none⟩ : Addr).add j) = some u := hown.cells (g := g) rfl
      have hr2 := run_append_grow (P := P) w t ty e i z ht hi hz ⟨g, 0, none⟩ n cap xs hown.1 holds a m c news hl hnews (by omega) (by omega) (growslice_fits (by omega) hbytes)
      rw [hr] at hr2
      injection hr2 with e1 e2
      subst e1 e2
      intro g' hg'
      injection hg' with hg'
      subst hg'
      refine ⟨_, _, _, heap_alloc_new w.drew _, ?_⟩
      have hx : NWL xs := by rw [← htake]; exact hc.take _
      refine NWL.arr' ?_
      rw [Array.toList_append, Array.toList_append]
      exact (hx.append hnw).append (hzw.zero _)
variable {w' : World} {A A' B B' : Option Addr} {xs : List Nat} {v : Value} {z : Int} {L n c m d n' c' m' d' : Nat} {s t s' t' : Bool} {q lo hi : Rat}
theorem ext_none (h : w.grownBy w' none) : Ext w w' := ⟨h.os, h.tape, h.output, h.size, fun i hi => h.block i hi (by simp)⟩
theorem Rd.own (h : Rd w A xs) (hv : NWB w v) (k : w.grownBy w' v.ownBlock) : Rd w' A xs := by
  cases hb : v.ownBlock with
  | none => rw [hb] at k; exact h.ext (ext_none k)
  | some g =>
    rw [hb] at k
    refine h.mod k ?_
    intro hx a ha hag
    obtain ⟨b, off, hA, _, hc⟩ := h.2 hx
    rw [ha] at hA
    injection hA with hA
    subst hA
    obtain ⟨cur, e, fz, hg, hn⟩ := hv g hb
    have h0 : 0 < xs.length := List.length_pos_iff.2 hx
    have hc0 := hc 0 h0
    have hag' : b = g := hag
    subst hag'
    rw [cell_of_row w b _ _ _ _ hg] at hc0
    exact hn _ _ hc0
theorem NI.own (h : NI w z L s A n c) (hv : NWB w v) (k : w.grownBy w' v.ownBlock) : NI w' z L s A n c := by
  obtain ⟨xs, h1, h2, h3⟩ := h.out
  exact ⟨xs, h1, h2.own hv k, h3⟩
theorem NR.own (h : NR w q L s A n c t B m d) (hv : NWB w v) (k : w.grownBy w' v.ownBlock) : NR w' q L s A n c t B m d := ⟨h.num.own hv k, h.den.own hv k⟩
theorem CellsOf.own {qs : List Rat} {cs : List Value} (h : CellsOf w L qs cs) (hv : NWB w v) (k : w.grownBy w' v.ownBlock) : CellsOf w' L qs cs := by
  induction h with
  | nil => exact .nil
  | cons h _ ih => exact .cons (h.own hv k) ih
theorem CellsOf.nwl {qs : List Rat} {cs : List Value} (h : CellsOf w L qs cs) : NWL cs := by
  induction h with
  | nil => intro u hu; cases hu
  | cons _ _ ih =>
    intro u hu
    simp only [List.mem_cons] at hu
    rcases hu with rfl | rfl | rfl | rfl | hu
    · intro k e; cases e
    · intro k e; cases e
    · intro k e; cases e
    · intro k e; cases e
    · exact ih u hu
/-- a box stays where a row of another block grows. -/
theorem Box.own {g : Nat} {T : TypeId} {cs : Array Value} (h : Box w g T cs) (k : w.grownBy w' v.ownBlock) (hne : v.ownBlock ≠ some g) : Box w' g T cs := by
  have hlt := h.lt
  unfold Box at h ⊢
  rw [← h]
  exact k.block g hlt (fun e => hne e.symm)
end
end Go.Proofs.YtoabhnofppledaaGreatDoor
namespace Go.Proofs.YtoabhnofppledaaGreatDoor
open Go.RowKit
theorem Tryz.infoR : (Tryz.prog.info? 26).map (fun i => (i.zero, i.size, i.bytes)) = some (some (.agg #[.bool false, .slice none 0 0, .bool false, .slice none 0 0]), 4, 64) := by kernel_rfl
/-- a row of rational numbers of its own. -/
structure Row4 (w : World) (base : Nat) (v : Value) (qs : List Rat) (L : Nat) : Prop where
  own : RatsOwn w base v qs L
  nwb : NWB w v
section
variable {w w' : World} {base L M : Nat} {v : Value} {qs : List Rat} {q : Rat} {s t : Bool} {A B : Option Addr} {n c m d g : Nat}
theorem NWB.ext (h : NWB w v) (e : Ext w w') : NWB w' v := by
  intro g hg
  obtain ⟨cur, e', fz, h1, h2⟩ := h g hg
  refine ⟨cur, e', fz, ?_, h2⟩
  have hlt : g < w.heap.size := by
    rcases Nat.lt_or_ge g w.heap.size with k | k
    · exact k
    · rw [Array.getElem?_eq_none k] at h1; cases h1
  rw [← h1]
  exact Below.block e g hlt
theorem Row4.ext (h : Row4 w base v qs L) (e : Ext w w') : Row4 w' base v qs L := by
  obtain ⟨cs, h1, h2⟩ := h.own
  exact ⟨⟨cs, owns_ext h1 e, h2.ext e⟩, h.nwb.ext e⟩
theorem Row4.nil (w : World) (base L : Nat) : Row4 w base (.slice none 0 0) [] L := ⟨⟨[], owns_nil _ _ _ _, .nil⟩, fun g hg => by cases hg⟩
theorem Row4.block (h : Row4 w base v qs L) : ∀ k, v.ownBlock = some k → base ≤ k ∧ k < w.heap.size := by
  intro k hk
  obtain ⟨cs, h1, _⟩ := h.own
  refine ⟨owns_block h1 k hk, ?_⟩
  obtain ⟨cur, e', fz, h2, _⟩ := h.nwb k hk
  rcases Nat.lt_or_ge k w.heap.size with j | j
  · exact j
  · rw [Array.getElem?_eq_none j] at h2; cases h2
theorem Row4.shape (h : Row4 w base v qs L) (hq : qs ≠ []) : ∃ g cap, v = .slice (some ⟨g, 0, none⟩) qs.length cap ∧ RatsAt w g 0 qs L := by
  obtain ⟨cs, h1, h2⟩ := h.own
  rcases h1.2 with ⟨rfl, h0⟩ | ⟨g, cap, cur, rfl, _⟩
  · exact absurd (List.length_eq_zero_iff.1 h0) hq
  · exact ⟨g, cap, rfl, RatsOwn.rd ⟨cs, h1, h2⟩⟩
theorem run_append_rat {ty : TypeId} (h : Row4 w base v qs L) (hq : NR w q L s A n c t B m d) (hb : Box w g 26 #[.bool s, .slice A n c, .bool t, .slice B m d]) (hl : qs.length ≤ 1000) (hbase : base ≤ w.heap.size) :
    ∃ v' w', (Builtin.append_ #[65, 65] ty #[v, .slice (some ⟨g, 0, none⟩) 1 1]).run Tryz.prog w = .ok v' w' ∧ Row4 w' base v' (qs ++ [q]) L ∧ w.grownBy w' v.ownBlock ∧ (v'.ownBlock = v.ownBlock ∨ v'.ownBlock = some w.heap.size) := by
  obtain ⟨i0, hi, hz0, hz1, hz2⟩ := info_partsB Tryz.infoR
  obtain ⟨cs, h1, h2⟩ := h.own
  have hone : CellsOf w L [q] [.bool s, .slice A n c, .bool t, .slice B m d] := .cons hq .nil
  have hnews : ∀ j u, ([.bool s, .slice A n c, .bool t, .slice B m d] : List Value)[j]? = some u → w.cell? ((⟨g, 0, none⟩ : Addr).add j) = some u := by
    intro j u hj
    match j, hj with
    | 0, hj => exact hb.cell 0 u hj
    | 1, hj => exact hb.cell 1 u hj
    | 2, hj => exact hb.cell 2 u hj
    | 3, hj => exact hb.cell 3 u hj
    | j + 4, hj => simp at hj
  rw [← hz1] at h1
  obtain ⟨v', w', hr, k1, k2, k3, k4⟩ := run_append_nw (P := Tryz.prog) (ty := ty) (c := 1) Tryz.underlying65 hi hz0 hz2 (by rw [hz1]; rfl) (by omega) (by
    intro u hu k e
    simp [Value.cells] at hu
    rcases hu with rfl | rfl | rfl | rfl <;> cases e) h1 h.nwb (m := 1) (by rw [hz1]; rfl) hnews hone.one hone.nwl (by omega) (by unfold maxLen; omega) (by omega) hbase
  rw [hz1] at k1
  refine ⟨v', w', hr, ⟨⟨cs ++ [.bool s, .slice A n c, .bool t, .slice B m d], ?_, (h2.own h.nwb k2).append (hone.own h.nwb k2)⟩, k4⟩, k2, k3⟩
  rw [List.length_append]
  exact k1
end
theorem wpList_append_rat {w : World} {base L : Nat} {v : Value} {qs : List Rat} {q : Rat} {s t : Bool} {A B : Option Addr} {n c m d g : Nat} {ops : Array Oper} {rest : List Oper} {o : Oper} {a : Act} {Q : Exit → Act → World → Prop} (hgd : o.guard = none) (x y : Operand)
    (ho : o.op = .call { callee := .builtin .append, args := #[x, y], argTypes := #[65, 65] })
    (hx : a.eval x = v) (hy : a.eval y = .slice (some ⟨g, 0, none⟩) 1 1)
    (h : Row4 w base v qs L) (hq : NR w q L s A n c t B m d) (hb : Box w g 26 #[.bool s, .slice A n c, .bool t, .slice B m d]) (hl : qs.length ≤ 1000) (hbase : base ≤ w.heap.size)
    (hK : ∀ v' w', Row4 w' base v' (qs ++ [q]) L → w.grownBy w' v.ownBlock → (v'.ownBlock = v.ownBlock ∨ v'.ownBlock = some w.heap.size) → wpList Tryz.prog ops Q rest (a.put o.dst v') w') :
    wpList Tryz.prog ops Q (o :: rest) a w := by
  refine wpList_plain hgd fun K hKK => ?_
  obtain ⟨v', w', hr, h2, h3, h5⟩ := run_append_rat (ty := o.type) h hq hb hl hbase
  unfold Oper.wp execOp
  simp only [ho, resolve, invoke, builtin, Sem.run_bind, Sem.run_pure, Result.andThen_ok, List.map_toArray, List.map_cons, List.map_nil, hx, hy, hr]
  exact hKK _ _ (hK v' w' h2 h3 h5)
end Go.Proofs.YtoabhnofppledaaGreatDoor
namespace Go.Proofs.YtoabhnofppledaaGreatDoor
open Go.RowKit
attribute [local go_sem ↓] Go.wp_at_zero Go.wp_at_succ
/-- the results of an operation for all pairs. -/
def prods (F : Rat → Rat → Rat) (l l' : List Rat) : List Rat := l.flatMap (fun x => l'.map (F x))
theorem endsOf_len (lo hi : Rat) : 0 < (endsOf lo hi).length ∧ (endsOf lo hi).length ≤ 2 := by
  unfold endsOf; split <;> simp
theorem prods_snoc (F : Rat → Rat → Rat) (l : List Rat) (x : Rat) (l' : List Rat) : prods F (l ++ [x]) l' = prods F l l' ++ l'.map (F x) := by simp [prods]
theorem prods_len (F : Rat → Rat → Rat) (l l' : List Rat) : (prods F l l').length = l.length * l'.length := by
  induction l with
  | nil => simp [prods]
  | cons x l ih =>
    have : prods F (x :: l) l' = l'.map (F x) ++ prods F l l' := by simp [prods]
    rw [this, List.length_append, ih, List.length_map, List.length_cons, Nat.succ_mul, Nat.add_comm]
theorem row_len (F : Rat → Rat → Rat) (G : Rat → Rat) {l l' : List Rat} (a b : Nat) (h : l.length ≤ 2) (h' : l'.length ≤ 2) : (prods F (l.take a) l' ++ (l'.take b).map G).length ≤ 1000 := by
  rw [List.length_append, prods_len, List.length_map, List.length_take, List.length_take]
  have h1 : min a l.length * l'.length ≤ 2 * 2 := Nat.mul_le_mul (by omega) h'
  omega
section
variable {w w' : World} {q p lo hi lo' hi' x : Rat} {L M : Nat} {s t s' t' sx tx u v u' v' : Bool} {A B A' B' Ax Bx C D C' D' : Option Addr} {n c m d n' c' m' d' nx cx mx dx i j k l i' j' k' l' : Nat} {qs : List Rat}
set_option maxHeartbeats 16000000 in
set_option maxRecDepth 100000 in
theorem p_apply_Mul (h : IV w lo hi L s A n c t B m d s' A' n' c' t' B' m' d') (h' : IV w lo' hi' M u C i j v D k l u' C' i' j' v' D' k' l') (hL : L ≤ 20) (hM : M ≤ 20) (hT : Tab w) : Calls Tryz.prog 55 #[(.func (.func 64) #[] #[]), .agg #[.bool s, .slice A n c, .bool t, .slice B m d, .bool s', .slice A' n' c', .bool t', .slice B' m' d'], .agg #[.bool u, .slice C i j, .bool v, .slice D k l, .bool u', .slice C' i' j', .bool v', .slice D' k' l']] w (RetHull (prods (fun x y => x * y) (endsOf lo hi) (endsOf lo' hi')) (L + M) w) := by
  obtain ⟨l1, hl1⟩ : ∃ l, endsOf lo hi = l := ⟨_, rfl⟩
  obtain ⟨l2, hl2⟩ : ∃ l, endsOf lo' hi' = l := ⟨_, rfl⟩
  have HL1 := Lib.hid hl1
  have HL2 := Lib.hid hl2
  have ho1 : 0 < l1.length ∧ l1.length ≤ 2 := by rw [← hl1]; exact endsOf_len _ _
  have ho2 : 0 < l2.length ∧ l2.length ≤ 2 := by rw [← hl2]; exact endsOf_len _ _
  skip
  rw [hl1, hl2]
  clear hl1 hl2
  go_enter Tryz.func55, Tryz.ntmps55
  go_upto_region 1 with (fail)
  obtain ⟨W0, hW, ext, bx, by_, bz, hz⟩ := box3 w 28 28 28 #[.bool s, .slice A n c, .bool t, .slice B m d, .bool s', .slice A' n' c', .bool t', .slice B' m' d'] #[.bool u, .slice C i j, .bool v, .slice D k l, .bool u', .slice C' i' j', .bool v', .slice D' k' l'] #[Value.bool false, Value.slice none 0 0, Value.bool false, Value.slice none 0 0, Value.bool false, Value.slice none 0 0, Value.bool false, Value.slice none 0 0]
  rw [← hW]
  clear hW hz
  have ha := h.ext ext
  have hb := h'.ext ext
  replace hT := hT.ext ext
  have k0 := bx.cell 0 (.bool s) rfl
  have k1 := bx.cell 1 (.slice A n c) rfl
  have k2 := bx.cell 2 (.bool t) rfl
  have k3 := bx.cell 3 (.slice B m d) rfl
  have k4 := bx.cell 4 (.bool s') rfl
  have k5 := bx.cell 5 (.slice A' n' c') rfl
  have k6 := bx.cell 6 (.bool t') rfl
  have k7 := bx.cell 7 (.slice B' m' d') rfl
  go_wp2_with fail
  refine (p_ends ha (by omega)).mono ?_
  rw [HL1.out]
  rintro e W1 ⟨g1, n1, q1, cs1, rfl, hn1, hb1, hc1, hg1, ext1⟩
  replace bx := bx.ext ext1
  replace by_ := by_.ext ext1
  replace bz := bz.ext ext1
  replace ha := ha.ext ext1
  replace hb := hb.ext ext1
  replace hT := hT.ext ext1
  replace ext := ext.trans ext1
  clear ext1 hg1 k0 k1 k2 k3 k4 k5 k6 k7
  have Hn1 := Lib.hid hn1
  rw [hn1] at ho1
  clear hn1
  go_wp2_with fail
  go_loopw [7, 15] (fun v i wr => ∃ (a1 : Nat), a1 ≤ n1 ∧ i = .int .i64 (a1 : Int) ∧ Ext W1 wr ∧ Row4 wr W1.heap.size v (prods (fun x y => x * y) (l1.take a1) l2) (L + M)) (fun _ i _ => n1 - (intOf i).toNat)
  case atStart => exact ⟨0, Nat.zero_le _, rfl, Ext.refl _, Row4.nil _ _ _⟩
  case round =>
    obtain ⟨a1, hk, rfl, extr, hrow⟩ := hrel
    by_cases hlt : a1 < n1
    · have hkq : a1 < l1.length := by rw [Hn1.out]; exact hlt
      obtain ⟨s9, A9, n9, c9, t9, B9, m9, d9, e0, e1, e2, e3, hx⟩ := (RatsAt.of_box (hb1.ext extr) (hc1.ext extr)).at_ a1 hkq
      rw [Nat.zero_add] at e0 e1 e2 e3
      have HT := Lib.hid (show l1.take (a1 + 1) = l1.take a1 ++ [l1[a1]] from List.take_succ_eq_append_getElem hkq)
      generalize l1[a1] = x at hx HT
      have e0' : wr.cell? ⟨g1, a1 * 4, none⟩ = some (.bool s9) := by rw [Nat.mul_comm]; exact e0
      have e1' : wr.cell? ⟨g1, a1 * 4 + 1, none⟩ = some (.slice A9 n9 c9) := by rw [Nat.mul_comm]; exact e1
      have e2' : wr.cell? ⟨g1, a1 * 4 + 2, none⟩ = some (.bool t9) := by rw [Nat.mul_comm]; exact e2
      have e3' : wr.cell? ⟨g1, a1 * 4 + 3, none⟩ = some (.slice B9 m9 d9) := by rw [Nat.mul_comm]; exact e3
      go_upto_region 5 with (fail)
      obtain ⟨W2, hW2, ext2, b9, hz2⟩ := box1 wr 26 #[.bool s9, .slice A9 n9 c9, .bool t9, .slice B9 m9 d9]
      rw [← hW2]
      clear hW2 e0 e1 e2 e3 e0' e1' e2' e3'
      have hn9 : u7.ownBlock ≠ some wr.heap.size := fun h => by have := (hrow.block _ h).2; omega
      obtain ⟨g9, hg9⟩ : ∃ g, wr.heap.size = g := ⟨_, rfl⟩
      rw [hg9] at b9 hn9 hz2 ⊢
      clear hg9 hz2
      replace hx := hx.ext ext2
      replace hrow := hrow.ext ext2
      replace extr := extr.trans ext2
      clear ext2
      have k0 := (by_.ext extr).cell 0 (.bool u) rfl
      have k1 := (by_.ext extr).cell 1 (.slice C i j) rfl
      have k2 := (by_.ext extr).cell 2 (.bool v) rfl
      have k3 := (by_.ext extr).cell 3 (.slice D k l) rfl
      have k4 := (by_.ext extr).cell 4 (.bool u') rfl
      have k5 := (by_.ext extr).cell 5 (.slice C' i' j') rfl
      have k6 := (by_.ext extr).cell 6 (.bool v') rfl
      have k7 := (by_.ext extr).cell 7 (.slice D' k' l') rfl
      go_wp2_with fail
      refine (p_ends (hb.ext extr) (by omega)).mono ?_
      rw [HL2.out]
      rintro e W3 ⟨g2, n2, q2, cs2, rfl, hn2, hb2, hc2, hg2, ext3⟩
      have hne2 : u7.ownBlock ≠ some g2 := fun h => by have := (hrow.block _ h).2; omega
      replace hx := hx.ext ext3
      replace hrow := hrow.ext ext3
      replace extr := extr.trans ext3
      replace b9 := b9.ext ext3
      clear k0 k1 k2 k3 k4 k5 k6 k7 hg2 ext3
      have Hn2 := Lib.hid hn2
      have ho3 : 0 < n2 ∧ n2 ≤ 2 := by rw [← hn2]; exact ho2
      clear hn2
      go_wp2_with fail
      go_loopw [7, 22] (fun v i wq => ∃ (a2 : Nat), a2 ≤ n2 ∧ i = .int .i64 (a2 : Int) ∧ Ext W1 wq ∧ Row4 wq W1.heap.size v (prods (fun x y => x * y) (l1.take a1) l2 ++ (l2.take a2).map (fun y => x * y)) (L + M) ∧ Box wq g2 26 cs2.toArray ∧ CellsOf wq M l2 cs2 ∧ Box wq g9 26 #[.bool s9, .slice A9 n9 c9, .bool t9, .slice B9 m9 d9] ∧ NR wq x L s9 A9 n9 c9 t9 B9 m9 d9 ∧ v.ownBlock ≠ some g2 ∧ v.ownBlock ≠ some g9) (fun _ i _ => n2 - (intOf i).toNat)
      case atStart => exact ⟨0, Nat.zero_le _, rfl, extr, by rw [List.take_zero, List.map_nil, List.append_nil]; exact hrow, hb2, hc2, b9, hx, hne2, hn9⟩
      case round =>
        clear extr hrow hb2 hc2 b9 hx hne2 hn9
        obtain ⟨a2, hk2, rfl, extr, hrow, hb2, hc2, b9, hx, hne2, hn9⟩ := hrel
        by_cases hlt2 : a2 < n2
        · have hkq2 : a2 < l2.length := by rw [Hn2.out]; exact hlt2
          have hlen := row_len (fun x y => x * y) (fun y => x * y) (l := l1) (l' := l2) a1 a2 (by rw [Hn1.out]; exact ho1.2) ho2.2
          obtain ⟨s8, A8, n8, c8, t8, B8, m8, d8, e0, e1, e2, e3, hy⟩ := (RatsAt.of_box hb2 hc2).at_ a2 hkq2
          rw [Nat.zero_add] at e0 e1 e2 e3
          have HT2 := Lib.hid (show l2.take (a2 + 1) = l2.take a2 ++ [l2[a2]] from List.take_succ_eq_append_getElem hkq2)
          generalize l2[a2] = y at hy HT2
          have e0' : wr.cell? ⟨g2, a2 * 4, none⟩ = some (.bool s8) := by rw [Nat.mul_comm]; exact e0
          have e1' : wr.cell? ⟨g2, a2 * 4 + 1, none⟩ = some (.slice A8 n8 c8) := by rw [Nat.mul_comm]; exact e1
          have e2' : wr.cell? ⟨g2, a2 * 4 + 2, none⟩ = some (.bool t8) := by rw [Nat.mul_comm]; exact e2
          have e3' : wr.cell? ⟨g2, a2 * 4 + 3, none⟩ = some (.slice B8 m8 d8) := by rw [Nat.mul_comm]; exact e3
          go_upto_region 8 with (fail)
          obtain ⟨W4, hW4, ext4, b8, hz4⟩ := box1 wr 26 #[.bool s8, .slice A8 n8 c8, .bool t8, .slice B8 m8 d8]
          rw [← hW4]
          clear hW4 hz4 e0 e1 e2 e3 e0' e1' e2' e3'
          replace extr := extr.trans ext4
          replace hrow := hrow.ext ext4
          replace hb2 := hb2.ext ext4
          replace hc2 := hc2.ext ext4
          replace b9 := b9.ext ext4
          replace hx := hx.ext ext4
          replace hy := hy.ext ext4
          clear ext4
          have x0 := b9.cell 0 (.bool s9) rfl
          have x1 := b9.cell 1 (.slice A9 n9 c9) rfl
          have x2 := b9.cell 2 (.bool t9) rfl
          have x3 := b9.cell 3 (.slice B9 m9 d9) rfl
          have y0 := b8.cell 0 (.bool s8) rfl
          have y1 := b8.cell 1 (.slice A8 n8 c8) rfl
          have y2 := b8.cell 2 (.bool t8) rfl
          have y3 := b8.cell 3 (.slice B8 m8 d8) rfl
          go_wp2_with fail
          refine (p_MulR hx hy (by omega) (by omega) (by omega) (hT.ext extr)).mono ?_
          rintro e W5 ⟨s7, A7, n7, c7, t7, B7, m7, d7, rfl, h7, ext5⟩
          clear x0 x1 x2 x3 y0 y1 y2 y3
          have ha5 := (ext5).alloc (.cells #[.bool s7, .slice A7 n7 c7, .bool t7, .slice B7 m7 d7] 26)
          replace extr := extr.trans ha5
          replace hrow := hrow.ext ha5
          replace hb2 := hb2.ext ha5
          replace hc2 := hc2.ext ha5
          replace b9 := b9.ext ha5
          replace hx := hx.ext ha5
          replace h7 := h7.ext ((Ext.refl W5).alloc (.cells #[.bool s7, .slice A7 n7 c7, .bool t7, .slice B7 m7 d7] 26))
          clear ext5 ha5
          have hgb := hb2.lt
          have hg9 := b9.lt
          go_wp2_with (at_builtin; refine wpList_append_rat rfl _ _ rfl rfl rfl hrow h7 (Box.new W5 _ _) hlen extr.size ?_; intro v6 W6 hrow6 hgr hob)
          go_roundw
          case rel =>
            refine ⟨a2 + 1, by omega, by go_num, Below.grown extr hgr extr.size (fun k hk => (hrow.block k hk).1), ?_, hb2.own hgr hne2, hc2.own hrow.nwb hgr, b9.own hgr hn9, hx.own hrow.nwb hgr, ?_, ?_⟩
            · rw [HT2.out, List.map_append, ← List.append_assoc]; exact hrow6
            · rcases hob with e | e
              · rw [e]; exact hne2
              · rw [e]; intro h; injection h with h; omega
            · rcases hob with e | e
              · rw [e]; exact hn9
              · rw [e]; intro h; injection h with h; omega
          case measure => simp [intOf]; omega
        · have hkn : a2 = n2 := by omega
          rw [hkn, List.take_of_length_le (Nat.le_of_eq Hn2.out)] at hrow
          go_wp2_with fail
          go_roundw
          case rel =>
            refine ⟨a1 + 1, by omega, by go_num, extr, ?_⟩
            rw [HT.out, prods_snoc]
            exact hrow
          case measure => simp [intOf]; omega
    · have hkn : a1 = n1 := by omega
      rw [hkn, List.take_of_length_le (Nat.le_of_eq Hn1.out)] at hrow
      have hpl := prods_len (fun x y => x * y) l1 l2
      have hp1 : 0 < (prods (fun x y => x * y) l1 l2).length := by rw [hpl]; exact Nat.mul_pos (by rw [Hn1.out]; exact ho1.1) ho2.1
      have hp2 : (prods (fun x y => x * y) l1 l2).length ≤ 1000 := by rw [hpl, Hn1.out]; exact Nat.le_trans (Nat.mul_le_mul ho1.2 ho2.2) (by omega)
      clear hpl
      obtain ⟨g7, c7, rfl, hra⟩ := hrow.shape (fun h => by rw [h] at hp1; exact absurd hp1 (by simp))
      clear hrow
      go_wp2_with fail
      refine (p_enclose hra rfl hp1 (by omega) hp2).mono ?_
      rintro e V ⟨lo3, hi3, hu, s1, A1, n3, c1, t1, B1, m1, d1, s2, A2, n4, c2, t2, B2, m2, d2, rfl, h1, hx0⟩
      have HU := Lib.hid hu
      clear hu hp1 hp2
      have hx1 := extr.trans hx0
      have z0 := (bz.ext hx1).cell 0 _ rfl
      have f0 := (bz.ext hx1).frozen 0
      have z1 := (bz.ext hx1).cell 1 _ rfl
      have f1 := (bz.ext hx1).frozen 1
      have z2 := (bz.ext hx1).cell 2 _ rfl
      have f2 := (bz.ext hx1).frozen 2
      have z3 := (bz.ext hx1).cell 3 _ rfl
      have f3 := (bz.ext hx1).frozen 3
      have z4 := (bz.ext hx1).cell 4 _ rfl
      have f4 := (bz.ext hx1).frozen 4
      have z5 := (bz.ext hx1).cell 5 _ rfl
      have f5 := (bz.ext hx1).frozen 5
      have z6 := (bz.ext hx1).cell 6 _ rfl
      have f6 := (bz.ext hx1).frozen 6
      have z7 := (bz.ext hx1).cell 7 _ rfl
      have f7 := (bz.ext hx1).frozen 7
      go_wp2_with fail
      obtain ⟨b1, b2, b3, b4⟩ := fin_oct (v0 := (.bool s1)) (v1 := (.slice A1 n3 c1)) (v2 := (.bool t1)) (v3 := (.slice B1 m1 d1)) (v4 := (.bool s2)) (v5 := (.slice A2 n4 c2)) (v6 := (.bool t2)) (v7 := (.slice B2 m2 d2)) (bz.ext hx1)
      have r0 := b1.cell 0 (.bool s1) rfl
      have r1 := b1.cell 1 (.slice A1 n3 c1) rfl
      have r2 := b1.cell 2 (.bool t1) rfl
      have r3 := b1.cell 3 (.slice B1 m1 d1) rfl
      have r4 := b1.cell 4 (.bool s2) rfl
      have r5 := b1.cell 5 (.slice A2 n4 c2) rfl
      have r6 := b1.cell 6 (.bool t2) rfl
      have r7 := b1.cell 7 (.slice B2 m2 d2) rfl
      unfold set8 at r0 r1 r2 r3 r4 r5 r6 r7
      refine bodyPost_ret (v := .agg #[.bool s1, .slice A1 n3 c1, .bool t1, .slice B1 m1 d1, .bool s2, .slice A2 n4 c2, .bool t2, .slice B2 m2 d2]) (by simp [results, Tryz.results55, go_sem, r0, r1, r2, r3, r4, r5, r6, r7]) rfl ⟨lo3, hi3, HU.out, s1, A1, n3, c1, t1, B1, m1, d1, s2, A2, n4, c2, t2, B2, m2, d2, rfl, ⟨⟨?_, ?_⟩, ⟨?_, ?_⟩⟩, b3 _ (ext.trans hx1) (by omega)⟩
      · exact b2 _ _ _ _ _ _ h1.low.num
      · exact b2 _ _ _ _ _ _ h1.low.den
      · exact b2 _ _ _ _ _ _ h1.high.num
      · exact b2 _ _ _ _ _ _ h1.high.den
end
end Go.Proofs.YtoabhnofppledaaGreatDoor
namespace Go.Proofs.YtoabhnofppledaaGreatDoor
open Go.RowKit
attribute [local go_sem ↓] Go.wp_at_zero Go.wp_at_succ
section
variable {w w' : World} {q p lo hi lo' hi' x : Rat} {L M : Nat} {s t s' t' sx tx u v u' v' : Bool} {A B A' B' Ax Bx C D C' D' : Option Addr} {n c m d n' c' m' d' nx cx mx dx i j k l i' j' k' l' : Nat} {qs : List Rat}
set_option maxHeartbeats 4000000 in
theorem p_MulV (h : IV w lo hi L s A n c t B m d s' A' n' c' t' B' m' d') (h' : IV w lo' hi' M u C i j v D k l u' C' i' j' v' D' k' l') (hL : L ≤ 20) (hM : M ≤ 20) (hT : Tab w) : Calls Tryz.prog 26 #[.agg #[.bool s, .slice A n c, .bool t, .slice B m d, .bool s', .slice A' n' c', .bool t', .slice B' m' d'], .agg #[.bool u, .slice C i j, .bool v, .slice D k l, .bool u', .slice C' i' j', .bool v', .slice D' k' l']] w (RetHull (prods (fun x y => x * y) (endsOf lo hi) (endsOf lo' hi')) (L + M) w) := by
  go_enter Tryz.func26, Tryz.ntmps26
  go_upto_region 1 with (fail)
  obtain ⟨W, hW, ext, bx, by_, bz, hz⟩ := box3 w 28 28 28 #[.bool s, .slice A n c, .bool t, .slice B m d, .bool s', .slice A' n' c', .bool t', .slice B' m' d'] #[.bool u, .slice C i j, .bool v, .slice D k l, .bool u', .slice C' i' j', .bool v', .slice D' k' l'] #[Value.bool false, Value.slice none 0 0, Value.bool false, Value.slice none 0 0, Value.bool false, Value.slice none 0 0, Value.bool false, Value.slice none 0 0]
  rw [← hW]
  clear hW hz
  have k0 := bx.cell 0 (.bool s) rfl
  have k1 := bx.cell 1 (.slice A n c) rfl
  have k2 := bx.cell 2 (.bool t) rfl
  have k3 := bx.cell 3 (.slice B m d) rfl
  have k4 := bx.cell 4 (.bool s') rfl
  have k5 := bx.cell 5 (.slice A' n' c') rfl
  have k6 := bx.cell 6 (.bool t') rfl
  have k7 := bx.cell 7 (.slice B' m' d') rfl
  have x0 := by_.cell 0 (.bool u) rfl
  have x1 := by_.cell 1 (.slice C i j) rfl
  have x2 := by_.cell 2 (.bool v) rfl
  have x3 := by_.cell 3 (.slice D k l) rfl
  have x4 := by_.cell 4 (.bool u') rfl
  have x5 := by_.cell 5 (.slice C' i' j') rfl
  have x6 := by_.cell 6 (.bool v') rfl
  have x7 := by_.cell 7 (.slice D' k' l') rfl
  go_wp2_with fail
  refine (p_apply_Mul (h.ext ext) (h'.ext ext) hL hM (hT.ext ext)).mono ?_
  rintro e V ⟨lo3, hi3, hu, s1, A1, n3, c1, t1, B1, m1, d1, s2, A2, n4, c2, t2, B2, m2, d2, rfl, h1, hx1⟩
  have HU := Lib.hid hu
  clear hu k0 k1 k2 k3 k4 k5 k6 k7 x0 x1 x2 x3 x4 x5 x6 x7
  have z0 := (bz.ext hx1).cell 0 _ rfl
  have f0 := (bz.ext hx1).frozen 0
  have z1 := (bz.ext hx1).cell 1 _ rfl
  have f1 := (bz.ext hx1).frozen 1
  have z2 := (bz.ext hx1).cell 2 _ rfl
  have f2 := (bz.ext hx1).frozen 2
  have z3 := (bz.ext hx1).cell 3 _ rfl
  have f3 := (bz.ext hx1).frozen 3
  have z4 := (bz.ext hx1).cell 4 _ rfl
  have f4 := (bz.ext hx1).frozen 4
  have z5 := (bz.ext hx1).cell 5 _ rfl
  have f5 := (bz.ext hx1).frozen 5
  have z6 := (bz.ext hx1).cell 6 _ rfl
  have f6 := (bz.ext hx1).frozen 6
  have z7 := (bz.ext hx1).cell 7 _ rfl
  have f7 := (bz.ext hx1).frozen 7
  go_wp2_with fail
  obtain ⟨b1, b2, b3, b4⟩ := fin_oct (v0 := (.bool s1)) (v1 := (.slice A1 n3 c1)) (v2 := (.bool t1)) (v3 := (.slice B1 m1 d1)) (v4 := (.bool s2)) (v5 := (.slice A2 n4 c2)) (v6 := (.bool t2)) (v7 := (.slice B2 m2 d2)) (bz.ext hx1)
  have r0 := b1.cell 0 (.bool s1) rfl
  have r1 := b1.cell 1 (.slice A1 n3 c1) rfl
  have r2 := b1.cell 2 (.bool t1) rfl
  have r3 := b1.cell 3 (.slice B1 m1 d1) rfl
  have r4 := b1.cell 4 (.bool s2) rfl
  have r5 := b1.cell 5 (.slice A2 n4 c2) rfl
  have r6 := b1.cell 6 (.bool t2) rfl
  have r7 := b1.cell 7 (.slice B2 m2 d2) rfl
  unfold set8 at r0 r1 r2 r3 r4 r5 r6 r7
  refine bodyPost_ret (v := .agg #[.bool s1, .slice A1 n3 c1, .bool t1, .slice B1 m1 d1, .bool s2, .slice A2 n4 c2, .bool t2, .slice B2 m2 d2]) (by simp [results, Tryz.results26, go_sem, r0, r1, r2, r3, r4, r5, r6, r7]) rfl ⟨lo3, hi3, HU.out, s1, A1, n3, c1, t1, B1, m1, d1, s2, A2, n4, c2, t2, B2, m2, d2, rfl, ⟨⟨?_, ?_⟩, ⟨?_, ?_⟩⟩, b3 _ (ext.trans hx1) (by omega)⟩
  · exact b2 _ _ _ _ _ _ h1.low.num
  · exact b2 _ _ _ _ _ _ h1.low.den
  · exact b2 _ _ _ _ _ _ h1.high.num
  · exact b2 _ _ _ _ _ _ h1.high.den
set_option maxHeartbeats 4000000 in
theorem p_quotient (h : NR w x L s A n c t B m d) (k' : NR w q M sx Ax nx cx tx Bx mx dx) (hL : L ≤ 20) (hM : M ≤ 20) (hT : Tab w) (hp : q ≠ 0) : Calls Tryz.prog 62 #[.agg #[.bool s, .slice A n c, .bool t, .slice B m d], .agg #[.bool sx, .slice Ax nx cx, .bool tx, .slice Bx mx dx]] w (RetNR (x / q) (L + M) w) := by
  go_enter Tryz.func62, Tryz.ntmps62
  go_upto_region 1 with (fail)
  obtain ⟨W, hW, ext, bx, by_, bz, hz⟩ := box3 w 26 26 26 #[.bool s, .slice A n c, .bool t, .slice B m d] #[.bool sx, .slice Ax nx cx, .bool tx, .slice Bx mx dx] #[Value.bool false, Value.slice none 0 0, Value.bool false, Value.slice none 0 0]
  rw [← hW]
  clear hW hz
  have x0 := bx.cell 0 (.bool s) rfl
  have x1 := bx.cell 1 (.slice A n c) rfl
  have x2 := bx.cell 2 (.bool t) rfl
  have x3 := bx.cell 3 (.slice B m d) rfl
  have y0 := by_.cell 0 (.bool sx) rfl
  have y1 := by_.cell 1 (.slice Ax nx cx) rfl
  have y2 := by_.cell 2 (.bool tx) rfl
  have y3 := by_.cell 3 (.slice Bx mx dx) rfl
  go_wp2_with fail
  refine (p_Div_nz (h.ext ext) (k'.ext ext) (by omega) (by omega) (by omega) (hT.ext ext) hp).mono ?_
  rintro e V ⟨s1, A1, n1, c1, t1, B1, m1, d1, rfl, h1, hx0⟩
  clear x0 x1 x2 x3 y0 y1 y2 y3
  go_upto_region 2 with (fail)
  obtain ⟨W5, hW5, ext5, b5, hz5⟩ := box1 V 26 #[.bool s1, .slice A1 n1 c1, .bool t1, .slice B1 m1 d1]
  rw [← hW5]
  clear hW5 hz5
  have hx1 := hx0.trans ext5
  replace h1 := h1.ext ext5
  have x0 := b5.cell 0 (.bool s1) rfl
  have x1 := b5.cell 1 (.slice A1 n1 c1) rfl
  have x2 := b5.cell 2 (.bool t1) rfl
  have x3 := b5.cell 3 (.slice B1 m1 d1) rfl
  have z0 := (bz.ext hx1).cell 0 _ rfl
  have z1 := (bz.ext hx1).cell 1 _ rfl
  have z2 := (bz.ext hx1).cell 2 _ rfl
  have z3 := (bz.ext hx1).cell 3 _ rfl
  have f0 := (bz.ext hx1).frozen 0
  have f1 := (bz.ext hx1).frozen 1
  have f2 := (bz.ext hx1).frozen 2
  have f3 := (bz.ext hx1).frozen 3
  go_wp2_with fail
  obtain ⟨b1, b2, b3, b4⟩ := fin_quad (s := s1) (A := A1) (n := n1) (c := c1) (t := t1) (B := B1) (m := m1) (d := d1) (bz.ext hx1)
  have r0 := b1.cell 0 (.bool s1) rfl
  have r1 := b1.cell 1 (.slice A1 n1 c1) rfl
  have r2 := b1.cell 2 (.bool t1) rfl
  have r3 := b1.cell 3 (.slice B1 m1 d1) rfl
  unfold set4 at r0 r1 r2 r3
  refine bodyPost_ret (v := .agg #[.bool s1, .slice A1 n1 c1, .bool t1, .slice B1 m1 d1]) (by simp [results, Tryz.results62, go_sem, r0, r1, r2, r3]) rfl ⟨s1, A1, n1, c1, t1, B1, m1, d1, rfl, ⟨?_, ?_⟩, b3 _ (ext.trans hx1) (by omega)⟩
  · exact b2 _ _ _ _ _ _ h1.num
  · exact b2 _ _ _ _ _ _ h1.den
set_option maxHeartbeats 16000000 in
set_option maxRecDepth 100000 in
theorem p_apply_quotient (h : IV w lo hi L s A n c t B m d s' A' n' c' t' B' m' d') (h' : IV w lo' hi' M u C i j v D k l u' C' i' j' v' D' k' l') (hL : L ≤ 20) (hM : M ≤ 20) (hT : Tab w) (hne : ∀ y ∈ endsOf lo' hi', y ≠ 0) : Calls Tryz.prog 55 #[(.func (.func 62) #[] #[]), .agg #[.bool s, .slice A n c, .bool t, .slice B m d, .bool s', .slice A' n' c', .bool t', .slice B' m' d'], .agg #[.bool u, .slice C i j, .bool v, .slice D k l, .bool u', .slice C' i' j', .bool v', .slice D' k' l']] w (RetHull (prods (fun x y => x / y) (endsOf lo hi) (endsOf lo' hi')) (L + M) w) := by
  obtain ⟨l1, hl1⟩ : ∃ l, endsOf lo hi = l := ⟨_, rfl⟩
  obtain ⟨l2, hl2⟩ : ∃ l, endsOf lo' hi' = l := ⟨_, rfl⟩
  have HL1 := Lib.hid hl1
  have HL2 := Lib.hid hl2
  have ho1 : 0 < l1.length ∧ l1.length ≤ 2 := by rw [← hl1]; exact endsOf_len _ _
  have ho2 : 0 < l2.length ∧ l2.length ≤ 2 := by rw [← hl2]; exact endsOf_len _ _
  rw [hl2] at hne
  rw [hl1, hl2]
  clear hl1 hl2
  go_enter Tryz.func55, Tryz.ntmps55
  go_upto_region 1 with (fail)
  obtain ⟨W0, hW, ext, bx, by_, bz, hz⟩ := box3 w 28 28 28 #[.bool s, .slice A n c, .bool t, .slice B m d, .bool s', .slice A' n' c', .bool t', .slice B' m' d'] #[.bool u, .slice C i j, .bool v, .slice D k l, .bool u', .slice C' i' j', .bool v', .slice D' k' l'] #[Value.bool false, Value.slice none 0 0, Value.bool false, Value.slice none 0 0, Value.bool false, Value.slice none 0 0, Value.bool false, Value.slice none 0 0]
  rw [← hW]
  clear hW hz
  have ha := h.ext ext
  have hb := h'.ext ext
  replace hT := hT.ext ext
  have k0 := bx.cell 0 (.bool s) rfl
  have k1 := bx.cell 1 (.slice A n c) rfl
  have k2 := bx.cell 2 (.bool t) rfl
  have k3 := bx.cell 3 (.slice B m d) rfl
  have k4 := bx.cell 4 (.bool s') rfl
  have k5 := bx.cell 5 (.slice A' n' c') rfl
  have k6 := bx.cell 6 (.bool t') rfl
  have k7 := bx.cell 7 (.slice B' m' d') rfl
  go_wp2_with fail
  refine (p_ends ha (by omega)).mono ?_
  rw [HL1.out]
  rintro e W1 ⟨g1, n1, q1, cs1, rfl, hn1, hb1, hc1, hg1, ext1⟩
  replace bx := bx.ext ext1
  replace by_ := by_.ext ext1
  replace bz := bz.ext ext1
  replace ha := ha.ext ext1
  replace hb := hb.ext ext1
  replace hT := hT.ext ext1
  replace ext := ext.trans ext1
  clear ext1 hg1 k0 k1 k2 k3 k4 k5 k6 k7
  have Hn1 := Lib.hid hn1
  rw [hn1] at ho1
  clear hn1
  go_wp2_with fail
  go_loopw [7, 15] (fun v i wr => ∃ (a1 : Nat), a1 ≤ n1 ∧ i = .int .i64 (a1 : Int) ∧ Ext W1 wr ∧ Row4 wr W1.heap.size v (prods (fun x y => x / y) (l1.take a1) l2) (L + M)) (fun _ i _ => n1 - (intOf i).toNat)
  case atStart => exact ⟨0, Nat.zero_le _, rfl, Ext.refl _, Row4.nil _ _ _⟩
  case round =>
    obtain ⟨a1, hk, rfl, extr, hrow⟩ := hrel
    by_cases hlt : a1 < n1
    · have hkq : a1 < l1.length := by rw [Hn1.out]; exact hlt
      obtain ⟨s9, A9, n9, c9, t9, B9, m9, d9, e0, e1, e2, e3, hx⟩ := (RatsAt.of_box (hb1.ext extr) (hc1.ext extr)).at_ a1 hkq
      rw [Nat.zero_add] at e0 e1 e2 e3
      have HT := Lib.hid (show l1.take (a1 + 1) = l1.take a1 ++ [l1[a1]] from List.take_succ_eq_append_getElem hkq)
      generalize l1[a1] = x at hx HT
      have e0' : wr.cell? ⟨g1, a1 * 4, none⟩ = some (.bool s9) := by rw [Nat.mul_comm]; exact e0
      have e1' : wr.cell? ⟨g1, a1 * 4 + 1, none⟩ = some (.slice A9 n9 c9) := by rw [Nat.mul_comm]; exact e1
      have e2' : wr.cell? ⟨g1, a1 * 4 + 2, none⟩ = some (.bool t9) := by rw [Nat.mul_comm]; exact e2
      have e3' : wr.cell? ⟨g1, a1 * 4 + 3, none⟩ = some (.slice B9 m9 d9) := by rw [Nat.mul_comm]; exact e3
      go_upto_region 5 with (fail)
      obtain ⟨W2, hW2, ext2, b9, hz2⟩ := box1 wr 26 #[.bool s9, .slice A9 n9 c9, .bool t9, .slice B9 m9 d9]
      rw [← hW2]
      clear hW2 e0 e1 e2 e3 e0' e1' e2' e3'
      have hn9 : u7.ownBlock ≠ some wr.heap.size := fun h => by have := (hrow.block _ h).2; omega
      obtain ⟨g9, hg9⟩ : ∃ g, wr.heap.size = g := ⟨_, rfl⟩
      rw [hg9] at b9 hn9 hz2 ⊢
      clear hg9 hz2
      replace hx := hx.ext ext2
      replace hrow := hrow.ext ext2
      replace extr := extr.trans ext2
      clear ext2
      have k0 := (by_.ext extr).cell 0 (.bool u) rfl
      have k1 := (by_.ext extr).cell 1 (.slice C i j) rfl
      have k2 := (by_.ext extr).cell 2 (.bool v) rfl
      have k3 := (by_.ext extr).cell 3 (.slice D k l) rfl
      have k4 := (by_.ext extr).cell 4 (.bool u') rfl
      have k5 := (by_.ext extr).cell 5 (.slice C' i' j') rfl
      have k6 := (by_.ext extr).cell 6 (.bool v') rfl
      have k7 := (by_.ext extr).cell 7 (.slice D' k' l') rfl
      go_wp2_with fail
      refine (p_ends (hb.ext extr) (by omega)).mono ?_
      rw [HL2.out]
      rintro e W3 ⟨g2, n2, q2, cs2, rfl, hn2, hb2, hc2, hg2, ext3⟩
      have hne2 : u7.ownBlock ≠ some g2 := fun h => by have := (hrow.block _ h).2; omega
      replace hx := hx.ext ext3
      replace hrow := hrow.ext ext3
      replace extr := extr.trans ext3
      replace b9 := b9.ext ext3
      clear k0 k1 k2 k3 k4 k5 k6 k7 hg2 ext3
      have Hn2 := Lib.hid hn2
      have ho3 : 0 < n2 ∧ n2 ≤ 2 := by rw [← hn2]; exact ho2
      clear hn2
      go_wp2_with fail
      go_loopw [7, 22] (fun v i wq => ∃ (a2 : Nat), a2 ≤ n2 ∧ i = .int .i64 (a2 : Int) ∧ Ext W1 wq ∧ Row4 wq W1.heap.size v (prods (fun x y => x / y) (l1.take a1) l2 ++ (l2.take a2).map (fun y => x / y)) (L + M) ∧ Box wq g2 26 cs2.toArray ∧ CellsOf wq M l2 cs2 ∧ Box wq g9 26 #[.bool s9, .slice A9 n9 c9, .bool t9, .slice B9 m9 d9] ∧ NR wq x L s9 A9 n9 c9 t9 B9 m9 d9 ∧ v.ownBlock ≠ some g2 ∧ v.ownBlock ≠ some g9) (fun _ i _ => n2 - (intOf i).toNat)
      case atStart => exact ⟨0, Nat.zero_le _, rfl, extr, by rw [List.take_zero, List.map_nil, List.append_nil]; exact hrow, hb2, hc2, b9, hx, hne2, hn9⟩
      case round =>
        clear extr hrow hb2 hc2 b9 hx hne2 hn9
        obtain ⟨a2, hk2, rfl, extr, hrow, hb2, hc2, b9, hx, hne2, hn9⟩ := hrel
        by_cases hlt2 : a2 < n2
        · have hkq2 : a2 < l2.length := by rw [Hn2.out]; exact hlt2
          have hlen := row_len (fun x y => x / y) (fun y => x / y) (l := l1) (l' := l2) a1 a2 (by rw [Hn1.out]; exact ho1.2) ho2.2
          obtain ⟨s8, A8, n8, c8, t8, B8, m8, d8, e0, e1, e2, e3, hy⟩ := (RatsAt.of_box hb2 hc2).at_ a2 hkq2
          rw [Nat.zero_add] at e0 e1 e2 e3
          have hy0 := hne _ (List.getElem_mem hkq2)
          have HT2 := Lib.hid (show l2.take (a2 + 1) = l2.take a2 ++ [l2[a2]] from List.take_succ_eq_append_getElem hkq2)
          generalize l2[a2] = y at hy HT2 hy0
          have e0' : wr.cell? ⟨g2, a2 * 4, none⟩ = some (.bool s8) := by rw [Nat.mul_comm]; exact e0
          have e1' : wr.cell? ⟨g2, a2 * 4 + 1, none⟩ = some (.slice A8 n8 c8) := by rw [Nat.mul_comm]; exact e1
          have e2' : wr.cell? ⟨g2, a2 * 4 + 2, none⟩ = some (.bool t8) := by rw [Nat.mul_comm]; exact e2
          have e3' : wr.cell? ⟨g2, a2 * 4 + 3, none⟩ = some (.slice B8 m8 d8) := by rw [Nat.mul_comm]; exact e3
          go_upto_region 8 with (fail)
          obtain ⟨W4, hW4, ext4, b8, hz4⟩ := box1 wr 26 #[.bool s8, .slice A8 n8 c8, .bool t8, .slice B8 m8 d8]
          rw [← hW4]
          clear hW4 hz4 e0 e1 e2 e3 e0' e1' e2' e3'
          replace extr := extr.trans ext4
          replace hrow := hrow.ext ext4
          replace hb2 := hb2.ext ext4
          replace hc2 := hc2.ext ext4
          replace b9 := b9.ext ext4
          replace hx := hx.ext ext4
          replace hy := hy.ext ext4
          clear ext4
          have x0 := b9.cell 0 (.bool s9) rfl
          have x1 := b9.cell 1 (.slice A9 n9 c9) rfl
          have x2 := b9.cell 2 (.bool t9) rfl
          have x3 := b9.cell 3 (.slice B9 m9 d9) rfl
          have y0 := b8.cell 0 (.bool s8) rfl
          have y1 := b8.cell 1 (.slice A8 n8 c8) rfl
          have y2 := b8.cell 2 (.bool t8) rfl
          have y3 := b8.cell 3 (.slice B8 m8 d8) rfl
          go_wp2_with fail
          refine (p_quotient hx hy (by omega) (by omega) (hT.ext extr) hy0).mono ?_
          rintro e W5 ⟨s7, A7, n7, c7, t7, B7, m7, d7, rfl, h7, ext5⟩
          clear x0 x1 x2 x3 y0 y1 y2 y3
          have ha5 := (ext5).alloc (.cells #[.bool s7, .slice A7 n7 c7, .bool t7, .slice B7 m7 d7] 26)
          replace extr := extr.trans ha5
          replace hrow := hrow.ext ha5
          replace hb2 := hb2.ext ha5
          replace hc2 := hc2.ext ha5
          replace b9 := b9.ext ha5
          replace hx := hx.ext ha5
          replace h7 := h7.ext ((Ext.refl W5).alloc (.cells #[.bool s7, .slice A7 n7 c7, .bool t7, .slice B7 m7 d7] 26))
          clear ext5 ha5
          have hgb := hb2.lt
          have hg9 := b9.lt
          go_wp2_with (at_builtin; refine wpList_append_rat rfl _ _ rfl rfl rfl hrow h7 (Box.new W5 _ _) hlen extr.size ?_; intro v6 W6 hrow6 hgr hob)
          go_roundw
          case rel =>
            refine ⟨a2 + 1, by omega, by go_num, Below.grown extr hgr extr.size (fun k hk => (hrow.block k hk).1), ?_, hb2.own hgr hne2, hc2.own hrow.nwb hgr, b9.own hgr hn9, hx.own hrow.nwb hgr, ?_, ?_⟩
            · rw [HT2.out, List.map_append, ← List.append_assoc]; exact hrow6
            · rcases hob with e | e
              · rw [e]; exact hne2
              · rw [e]; intro h; injection h with h; omega
            · rcases hob with e | e
              · rw [e]; exact hn9
              · rw [e]; intro h; injection h with h; omega
          case measure => simp [intOf]; omega
        · have hkn : a2 = n2 := by omega
          rw [hkn, List.take_of_length_le (Nat.le_of_eq Hn2.out)] at hrow
          go_wp2_with fail
          go_roundw
          case rel =>
            refine ⟨a1 + 1, by omega, by go_num, extr, ?_⟩
            rw [HT.out, prods_snoc]
            exact hrow
          case measure => simp [intOf]; omega
    · have hkn : a1 = n1 := by omega
      rw [hkn, List.take_of_length_le (Nat.le_of_eq Hn1.out)] at hrow
      have hpl := prods_len (fun x y => x / y) l1 l2
      have hp1 : 0 < (prods (fun x y => x / y) l1 l2).length := by rw [hpl]; exact Nat.mul_pos (by rw [Hn1.out]; exact ho1.1) ho2.1
      have hp2 : (prods (fun x y => x / y) l1 l2).length ≤ 1000 := by rw [hpl, Hn1.out]; exact Nat.le_trans (Nat.mul_le_mul ho1.2 ho2.2) (by omega)
      clear hpl
      obtain ⟨g7, c7, rfl, hra⟩ := hrow.shape (fun h => by rw [h] at hp1; exact absurd hp1 (by simp))
      clear hrow
      go_wp2_with fail
      refine (p_enclose hra rfl hp1 (by omega) hp2).mono ?_
      rintro e V ⟨lo3, hi3, hu, s1, A1, n3, c1, t1, B1, m1, d1, s2, A2, n4, c2, t2, B2, m2, d2, rfl, h1, hx0⟩
      have HU := Lib.hid hu
      clear hu hp1 hp2
      have hx1 := extr.trans hx0
      have z0 := (bz.ext hx1).cell 0 _ rfl
      have f0 := (bz.ext hx1).frozen 0
      have z1 := (bz.ext hx1).cell 1 _ rfl
      have f1 := (bz.ext hx1).frozen 1
      have z2 := (bz.ext hx1).cell 2 _ rfl
      have f2 := (bz.ext hx1).frozen 2
      have z3 := (bz.ext hx1).cell 3 _ rfl
      have f3 := (bz.ext hx1).frozen 3
      have z4 := (bz.ext hx1).cell 4 _ rfl
      have f4 := (bz.ext hx1).frozen 4
      have z5 := (bz.ext hx1).cell 5 _ rfl
      have f5 := (bz.ext hx1).frozen 5
      have z6 := (bz.ext hx1).cell 6 _ rfl
      have f6 := (bz.ext hx1).frozen 6
      have z7 := (bz.ext hx1).cell 7 _ rfl
      have f7 := (bz.ext hx1).frozen 7
      go_wp2_with fail
      obtain ⟨b1, b2, b3, b4⟩ := fin_oct (v0 := (.bool s1)) (v1 := (.slice A1 n3 c1)) (v2 := (.bool t1)) (v3 := (.slice B1 m1 d1)) (v4 := (.bool s2)) (v5 := (.slice A2 n4 c2)) (v6 := (.bool t2)) (v7 := (.slice B2 m2 d2)) (bz.ext hx1)
      have r0 := b1.cell 0 (.bool s1) rfl
      have r1 := b1.cell 1 (.slice A1 n3 c1) rfl
      have r2 := b1.cell 2 (.bool t1) rfl
      have r3 := b1.cell 3 (.slice B1 m1 d1) rfl
      have r4 := b1.cell 4 (.bool s2) rfl
      have r5 := b1.cell 5 (.slice A2 n4 c2) rfl
      have r6 := b1.cell 6 (.bool t2) rfl
      have r7 := b1.cell 7 (.slice B2 m2 d2) rfl
      unfold set8 at r0 r1 r2 r3 r4 r5 r6 r7
      refine bodyPost_ret (v := .agg #[.bool s1, .slice A1 n3 c1, .bool t1, .slice B1 m1 d1, .bool s2, .slice A2 n4 c2, .bool t2, .slice B2 m2 d2]) (by simp [results, Tryz.results55, go_sem, r0, r1, r2, r3, r4, r5, r6, r7]) rfl ⟨lo3, hi3, HU.out, s1, A1, n3, c1, t1, B1, m1, d1, s2, A2, n4, c2, t2, B2, m2, d2, rfl, ⟨⟨?_, ?_⟩, ⟨?_, ?_⟩⟩, b3 _ (ext.trans hx1) (by omega)⟩
      · exact b2 _ _ _ _ _ _ h1.low.num
      · exact b2 _ _ _ _ _ _ h1.low.den
      · exact b2 _ _ _ _ _ _ h1.high.num
      · exact b2 _ _ _ _ _ _ h1.high.den
end
end Go.Proofs.YtoabhnofppledaaGreatDoor
namespace Go.Proofs.YtoabhnofppledaaGreatDoor
open Go.RowKit
attribute [local go_sem ↓] Go.wp_at_zero Go.wp_at_succ
/-- the least interval of some numbers, and no error. -/
def RetHullE (qs : List Rat) (L : Nat) (w : World) (e : Ending) (w' : World) : Prop :=
  ∃ lo hi, IsHull lo hi qs ∧ ∃ s A n c t B m d s' A' n' c' t' B' m' d', e = .returned (.tuple #[.agg #[.bool s, .slice A n c, .bool t, .slice B m d, .bool s', .slice A' n' c', .bool t', .slice B' m' d'], .int .i64 0]) ∧ IV w' lo hi L s A n c t B m d s' A' n' c' t' B' m' d' ∧ Ext w w'
theorem ends_nz {lo hi : Rat} (h : lo ≤ hi) (hin : inB lo hi ((0 : Int) : Rat) = false) : ∀ y ∈ endsOf lo hi, y ≠ 0 := by
  have h0 : ((0 : Int) : Rat) = 0 := rfl
  rw [h0] at hin
  intro y hy h1
  subst h1
  have : inB lo hi 0 = true := by
    unfold endsOf at hy
    unfold inB
    split at hy
    · rename_i e
      have := List.mem_singleton.1 hy
      subst this
      rw [decide_eq_true Rat.le_refl, decide_eq_true h]; rfl
    · rcases List.mem_cons.1 hy with e | e
      · subst e; rw [decide_eq_true Rat.le_refl, decide_eq_true h]; rfl
      · have := List.mem_singleton.1 e
        subst this; rw [decide_eq_true h, decide_eq_true Rat.le_refl]; rfl
  rw [this] at hin
  cases hin
section
variable {w w' : World} {q p lo hi lo' hi' x : Rat} {L M : Nat} {s t s' t' sx tx u v u' v' : Bool} {A B A' B' Ax Bx C D C' D' : Option Addr} {n c m d n' c' m' d' nx cx mx dx i j k l i' j' k' l' : Nat} {qs : List Rat}
set_option maxHeartbeats 4000000 in
theorem p_DivV_nz (h : IV w lo hi L s A n c t B m d s' A' n' c' t' B' m' d') (h' : IV w lo' hi' M u C i j v D k l u' C' i' j' v' D' k' l') (hL : L ≤ 20) (hM : M ≤ 20) (hT : Tab w) (hle : lo' ≤ hi') (hin : inB lo' hi' ((0 : Int) : Rat) = false) : Calls Tryz.prog 24 #[.agg #[.bool s, .slice A n c, .bool t, .slice B m d, .bool s', .slice A' n' c', .bool t', .slice B' m' d'], .agg #[.bool u, .slice C i j, .bool v, .slice D k l, .bool u', .slice C' i' j', .bool v', .slice D' k' l']] w (RetHullE (prods (fun x y => x / y) (endsOf lo hi) (endsOf lo' hi')) (L + M) w) := by
  have hnz := ends_nz hle hin
  go_enter Tryz.func24, Tryz.ntmps24
  go_upto_region 1 with (fail)
  obtain ⟨W, hW, ext, bx, by_, bz, hz⟩ := box3 w 28 28 28 #[.bool s, .slice A n c, .bool t, .slice B m d, .bool s', .slice A' n' c', .bool t', .slice B' m' d'] #[.bool u, .slice C i j, .bool v, .slice D k l, .bool u', .slice C' i' j', .bool v', .slice D' k' l'] #[Value.bool false, Value.slice none 0 0, Value.bool false, Value.slice none 0 0, Value.bool false, Value.slice none 0 0, Value.bool false, Value.slice none 0 0]
  rw [← hW]
  clear hW hz
  have ha := h.ext ext
  have hb := h'.ext ext
  have Hin := Lib.hid hin
  clear hin
  have ES0 := Ext.refl W
  refine wp_region_held_drew (S := Ext W) (by kernel_rfl) ES0.drew (fun ES => ?_)
  clear ES0
  refine Late.start0 (fun _ _ _ _ _ => ⟨fun h => h, fun h => h⟩) ES (fun hAl hQ => ?_)
  refine Late.take (i := 0) (d := some 6) (v := ?v0_49) rfl rfl (by kernel_rfl) (by kernel_rfl) (by kernel_rfl) (by kernel_rfl) hQ (Or.inl ⟨by rfl, ?y0_49⟩) ?r0_49
  case y0_49 =>
    intro w' hSw
    have k00 := (by_.ext hSw).c8
    go_simp
    try with_reducible rfl
  try simp only [Act.put]
  try simp only [List.setIfInBounds_toArray]
  try simp only [List.set_cons_succ]
  try simp only [List.set_cons_zero]
  refine Late.call (i := 1) rfl (by kernel_rfl) hAl (by kernel_rfl) (by kernel_rfl) (by kernel_rfl) hQ (fun w1 e1 E1 K hK => ?_)
  go_simp
  (go_at_call 61; refine (p_FromIntR 0 (by omega) (by omega)).mono ?_; rintro e wk1 ⟨sz, Az, nz, cz, tz, Bz, mz, dz, rfl, rz, hx1⟩)
  refine hK.out _ _ hx1 ?_
  clear hK K
  try simp only [Act.put]
  try simp only [List.setIfInBounds_toArray]
  try simp only [List.set_cons_succ]
  try simp only [List.set_cons_zero]
  refine Late.call (i := 2) rfl (by kernel_rfl) hAl (by kernel_rfl) (by kernel_rfl) (by kernel_rfl) hQ (fun w2 e2 E2 K hK => ?_)
  go_simp
  (replace rz := rz.ext e2; go_at_call 38; refine (p_Contains (hb.ext E2) rz (by omega) (by omega)).mono ?_; rintro e wk2 ⟨rfl, hx2⟩; replace rz := rz.ext hx2; rw [Hin.out])
  refine hK.out _ _ hx2 ?_
  clear hK K
  try simp only [Act.put]
  try simp only [List.setIfInBounds_toArray]
  try simp only [List.set_cons_succ]
  try simp only [List.set_cons_zero]
  refine Late.done0 (by kernel_rfl) (fun wz ez Ez => ?_)
  clear hAl hQ ES
  replace bx := bx.ext Ez
  replace by_ := by_.ext Ez
  replace bz := bz.ext Ez
  replace ha := ha.ext Ez
  replace hb := hb.ext Ez
  replace ext := ext.trans Ez
  clear Ez ez rz
  have k0 := bx.cell 0 (.bool s) rfl
  have k1 := bx.cell 1 (.slice A n c) rfl
  have k2 := bx.cell 2 (.bool t) rfl
  have k3 := bx.cell 3 (.slice B m d) rfl
  have k4 := bx.cell 4 (.bool s') rfl
  have k5 := bx.cell 5 (.slice A' n' c') rfl
  have k6 := bx.cell 6 (.bool t') rfl
  have k7 := bx.cell 7 (.slice B' m' d') rfl
  have x0 := by_.cell 0 (.bool u) rfl
  have x1 := by_.cell 1 (.slice C i j) rfl
  have x2 := by_.cell 2 (.bool v) rfl
  have x3 := by_.cell 3 (.slice D k l) rfl
  have x4 := by_.cell 4 (.bool u') rfl
  have x5 := by_.cell 5 (.slice C' i' j') rfl
  have x6 := by_.cell 6 (.bool v') rfl
  have x7 := by_.cell 7 (.slice D' k' l') rfl
  go_wp2_with fail
  refine (p_apply_quotient ha hb hL hM (hT.ext ext) hnz).mono ?_
  rintro e V ⟨lo3, hi3, hu, s1, A1, n3, c1, t1, B1, m1, d1, s2, A2, n4, c2, t2, B2, m2, d2, rfl, h1, hx1⟩
  have HU := Lib.hid hu
  clear hu k0 k1 k2 k3 k4 k5 k6 k7 x0 x1 x2 x3 x4 x5 x6 x7
  have z0 := (bz.ext hx1).cell 0 _ rfl
  have f0 := (bz.ext hx1).frozen 0
  have z1 := (bz.ext hx1).cell 1 _ rfl
  have f1 := (bz.ext hx1).frozen 1
  have z2 := (bz.ext hx1).cell 2 _ rfl
  have f2 := (bz.ext hx1).frozen 2
  have z3 := (bz.ext hx1).cell 3 _ rfl
  have f3 := (bz.ext hx1).frozen 3
  have z4 := (bz.ext hx1).cell 4 _ rfl
  have f4 := (bz.ext hx1).frozen 4
  have z5 := (bz.ext hx1).cell 5 _ rfl
  have f5 := (bz.ext hx1).frozen 5
  have z6 := (bz.ext hx1).cell 6 _ rfl
  have f6 := (bz.ext hx1).frozen 6
  have z7 := (bz.ext hx1).cell 7 _ rfl
  have f7 := (bz.ext hx1).frozen 7
  go_wp2_with fail
  obtain ⟨b1, b2, b3, b4⟩ := fin_oct (v0 := (.bool s1)) (v1 := (.slice A1 n3 c1)) (v2 := (.bool t1)) (v3 := (.slice B1 m1 d1)) (v4 := (.bool s2)) (v5 := (.slice A2 n4 c2)) (v6 := (.bool t2)) (v7 := (.slice B2 m2 d2)) (bz.ext hx1)
  have r0 := b1.cell 0 (.bool s1) rfl
  have r1 := b1.cell 1 (.slice A1 n3 c1) rfl
  have r2 := b1.cell 2 (.bool t1) rfl
  have r3 := b1.cell 3 (.slice B1 m1 d1) rfl
  have r4 := b1.cell 4 (.bool s2) rfl
  have r5 := b1.cell 5 (.slice A2 n4 c2) rfl
  have r6 := b1.cell 6 (.bool t2) rfl
  have r7 := b1.cell 7 (.slice B2 m2 d2) rfl
  unfold set8 at r0 r1 r2 r3 r4 r5 r6 r7
  refine bodyPost_ret (v := .tuple #[.agg #[.bool s1, .slice A1 n3 c1, .bool t1, .slice B1 m1 d1, .bool s2, .slice A2 n4 c2, .bool t2, .slice B2 m2 d2], .int .i64 0]) (by simp [results, Tryz.results24, go_sem, r0, r1, r2, r3, r4, r5, r6, r7]) rfl ⟨lo3, hi3, HU.out, s1, A1, n3, c1, t1, B1, m1, d1, s2, A2, n4, c2, t2, B2, m2, d2, rfl, ⟨⟨?_, ?_⟩, ⟨?_, ?_⟩⟩, b3 _ (ext.trans hx1) (by omega)⟩
  · exact b2 _ _ _ _ _ _ h1.low.num
  · exact b2 _ _ _ _ _ _ h1.low.den
  · exact b2 _ _ _ _ _ _ h1.high.num
  · exact b2 _ _ _ _ _ _ h1.high.den
end
end Go.Proofs.YtoabhnofppledaaGreatDoor
namespace Go.Proofs.YtoabhnofppledaaGreatDoor
open Go.RowKit
attribute [local go_sem ↓] Go.wp_at_zero Go.wp_at_succ
set_option maxHeartbeats 4000000 in
theorem q_span {w : World} (a b c d : Int) (h : a.natAbs ≤ 1000 ∧ b.natAbs ≤ 1000 ∧ c.natAbs ≤ 1000 ∧ d.natAbs ≤ 1000) : Calls Tryz.prog 49 #[.int .i64 a, .int .i64 b, .int .i64 c, .int .i64 d] w (RetIV (mkQ a b) (mkQ c d) 2 w) := by
  go_enter Tryz.func49, Tryz.ntmps49
  go_upto_region 1 with (fail)
  obtain ⟨W, hW, ext, bz, hz⟩ := box1 w 28 #[Value.bool false, Value.slice none 0 0, Value.bool false, Value.slice none 0 0, Value.bool false, Value.slice none 0 0, Value.bool false, Value.slice none 0 0]
  rw [← hW]
  clear hW hz
  go_wp2_with fail
  refine (q_Frac a b (by omega) (by omega) (by omega) (by omega)).mono ?_
  rintro e wa ⟨s1, A1, n1, c1, t1, B1, m1, d1, rfl, g1, hx0⟩
  go_wp2_with fail
  refine (q_Frac c d (by omega) (by omega) (by omega) (by omega)).mono ?_
  rintro e wb ⟨s2, A2, n2, c2, t2, B2, m2, d2, rfl, g2, hx1⟩
  have hE := hx0.trans hx1
  replace g1 := g1.ext hx1
  have z0 := (bz.ext hE).cell 0 _ rfl
  have f0 := (bz.ext hE).frozen 0
  have z1 := (bz.ext hE).cell 1 _ rfl
  have f1 := (bz.ext hE).frozen 1
  have z2 := (bz.ext hE).cell 2 _ rfl
  have f2 := (bz.ext hE).frozen 2
  have z3 := (bz.ext hE).cell 3 _ rfl
  have f3 := (bz.ext hE).frozen 3
  have z4 := (bz.ext hE).cell 4 _ rfl
  have f4 := (bz.ext hE).frozen 4
  have z5 := (bz.ext hE).cell 5 _ rfl
  have f5 := (bz.ext hE).frozen 5
  have z6 := (bz.ext hE).cell 6 _ rfl
  have f6 := (bz.ext hE).frozen 6
  have z7 := (bz.ext hE).cell 7 _ rfl
  have f7 := (bz.ext hE).frozen 7
  go_wp2_with fail
  obtain ⟨b1, b2, b3, b4⟩ := fin_oct (v0 := (.bool s1)) (v1 := (.slice A1 n1 c1)) (v2 := (.bool t1)) (v3 := (.slice B1 m1 d1)) (v4 := (.bool s2)) (v5 := (.slice A2 n2 c2)) (v6 := (.bool t2)) (v7 := (.slice B2 m2 d2)) (bz.ext hE)
  have r0 := b1.cell 0 (.bool s1) rfl
  have r1 := b1.cell 1 (.slice A1 n1 c1) rfl
  have r2 := b1.cell 2 (.bool t1) rfl
  have r3 := b1.cell 3 (.slice B1 m1 d1) rfl
  have r4 := b1.cell 4 (.bool s2) rfl
  have r5 := b1.cell 5 (.slice A2 n2 c2) rfl
  have r6 := b1.cell 6 (.bool t2) rfl
  have r7 := b1.cell 7 (.slice B2 m2 d2) rfl
  unfold set8 at r0 r1 r2 r3 r4 r5 r6 r7
  refine bodyPost_ret (v := .agg #[.bool s1, .slice A1 n1 c1, .bool t1, .slice B1 m1 d1, .bool s2, .slice A2 n2 c2, .bool t2, .slice B2 m2 d2]) (by simp [results, Tryz.results49, go_sem, r0, r1, r2, r3, r4, r5, r6, r7]) rfl ⟨s1, A1, n1, c1, t1, B1, m1, d1, s2, A2, n2, c2, t2, B2, m2, d2, rfl, ⟨⟨?_, ?_⟩, ⟨?_, ?_⟩⟩, b3 _ (ext.trans hE) (by omega)⟩
  · exact b2 _ _ _ _ _ _ g1.num
  · exact b2 _ _ _ _ _ _ g1.den
  · exact b2 _ _ _ _ _ _ g2.num
  · exact b2 _ _ _ _ _ _ g2.den
section
variable {w w' : World} {q p lo hi lo' hi' x : Rat} {L M : Nat} {s t s' t' sx tx u v u' v' : Bool} {A B A' B' Ax Bx C D C' D' : Option Addr} {n c m d n' c' m' d' nx cx mx dx i j k l i' j' k' l' : Nat} {qs : List Rat}
/-- an interval, and no error. -/
def RetIVE (lo hi : Rat) (L : Nat) (w : World) (e : Ending) (w' : World) : Prop :=
  ∃ s A n c t B m d s' A' n' c' t' B' m' d', e = .returned (.tuple #[.agg #[.bool s, .slice A n c, .bool t, .slice B m d, .bool s', .slice A' n' c', .bool t', .slice B' m' d'], .int .i64 0]) ∧ IV w' lo hi L s A n c t B m d s' A' n' c' t' B' m' d' ∧ Ext w w'
theorem rt_is {lo hi : Rat} {k L : Nat} {a b : Int} {l h : Rat} {w w' : World} {e : Ending} (hr : RetRt lo hi k L w e w') (h1 : IsRl lo (4 ^ k) a) (h2 : IsRh hi (4 ^ k) b) (h3 : mkQ a (2 ^ k) = l) (h4 : mkQ b (2 ^ k) = h) : RetIVE l h L w e w' := by
  obtain ⟨a', b', g1, g2, hr⟩ := hr
  rw [g1.unique h1, g2.unique h2, h3, h4] at hr
  exact hr
theorem hull_is {lo hi : Rat} {qs : List Rat} {L : Nat} {w w' : World} {e : Ending} (hr : RetHull qs L w e w') (h : IsHull lo hi qs) : RetIV lo hi L w e w' := by
  obtain ⟨l, h', hu, hr⟩ := hr
  obtain ⟨rfl, rfl⟩ := hu.unique h (fun _ => Iff.rfl)
  exact hr
theorem hullE_is {lo hi : Rat} {qs : List Rat} {L : Nat} {w w' : World} {e : Ending} (hr : RetHullE qs L w e w') (h : IsHull lo hi qs) : RetIVE lo hi L w e w' := by
  obtain ⟨l, h', hu, hr⟩ := hr
  obtain ⟨rfl, rfl⟩ := hu.unique h (fun _ => Iff.rfl)
  exact hr
theorem sq1_call (h : IV w ((2 : Int) : Rat) ((2 : Int) : Rat) L s A n c t B m d s' A' n' c' t' B' m' d') (hL : L ≤ 20) (hT : Tab w) : Calls Tryz.prog 29 #[.agg #[.bool s, .slice A n c, .bool t, .slice B m d, .bool s', .slice A' n' c', .bool t', .slice B' m' d'], .int .i64 1] w (RetIVE (mkQ 1 1) (mkQ 3 2) (L + 17) w) :=
  (p_SqrtV (k := 1) h Rat.le_refl hL (by omega) (by decide +kernel) hT).mono fun _ _ hr => rt_is hr (a := 2) (b := 3) ⟨by decide, by decide +kernel, by decide +kernel⟩ ⟨by decide, by decide +kernel, .inr (by decide +kernel)⟩ (by decide +kernel) (by decide +kernel)
theorem sq2_call (h : IV w ((2 : Int) : Rat) ((2 : Int) : Rat) L s A n c t B m d s' A' n' c' t' B' m' d') (hL : L ≤ 20) (hT : Tab w) : Calls Tryz.prog 29 #[.agg #[.bool s, .slice A n c, .bool t, .slice B m d, .bool s', .slice A' n' c', .bool t', .slice B' m' d'], .int .i64 2] w (RetIVE (mkQ 5 4) (mkQ 3 2) (L + 17) w) :=
  (p_SqrtV (k := 2) h Rat.le_refl hL (by omega) (by decide +kernel) hT).mono fun _ _ hr => rt_is hr (a := 5) (b := 6) ⟨by decide, by decide +kernel, by decide +kernel⟩ ⟨by decide, by decide +kernel, .inr (by decide +kernel)⟩ (by decide +kernel) (by decide +kernel)
theorem dv_call (h : IV w (mkQ 1 1) (mkQ 2 1) L s A n c t B m d s' A' n' c' t' B' m' d') (h' : IV w (mkQ 2 1) (mkQ 4 1) M u C i j v D k l u' C' i' j' v' D' k' l') (hL : L ≤ 20) (hM : M ≤ 20) (hT : Tab w) : Calls Tryz.prog 24 #[.agg #[.bool s, .slice A n c, .bool t, .slice B m d, .bool s', .slice A' n' c', .bool t', .slice B' m' d'], .agg #[.bool u, .slice C i j, .bool v, .slice D k l, .bool u', .slice C' i' j', .bool v', .slice D' k' l']] w (RetIVE (mkQ 1 4) (mkQ 1 1) (L + M) w) :=
  (p_DivV_nz h h' hL hM hT (by decide +kernel) (by decide +kernel)).mono fun _ _ hr => hullE_is hr (by unfold IsHull; decide +kernel)
theorem mu_call (h : IV w (mkQ (-2) 1) (mkQ 3 1) L s A n c t B m d s' A' n' c' t' B' m' d') (h' : IV w (mkQ (-1) 1) (mkQ 4 1) M u C i j v D k l u' C' i' j' v' D' k' l') (hL : L ≤ 20) (hM : M ≤ 20) (hT : Tab w) : Calls Tryz.prog 26 #[.agg #[.bool s, .slice A n c, .bool t, .slice B m d, .bool s', .slice A' n' c', .bool t', .slice B' m' d'], .agg #[.bool u, .slice C i j, .bool v, .slice D k l, .bool u', .slice C' i' j', .bool v', .slice D' k' l']] w (RetIV (mkQ (-8) 1) (mkQ 12 1) (L + M) w) :=
  (p_MulV h h' hL hM hT).mono fun _ _ hr => hull_is hr (by unfold IsHull; decide +kernel)
def Awake3 : Prop := ∀ w : World, Tab w → Calls Tryz.prog 12 #[] w fun e w' => e = .returned (.bool true) ∧ Ext w w'
end
end Go.Proofs.YtoabhnofppledaaGreatDoor
namespace Go.Proofs.YtoabhnofppledaaGreatDoor
open Go.RowKit
attribute [local go_sem ↓] Go.wp_at_zero Go.wp_at_succ
set_option maxHeartbeats 16000000 in
set_option maxRecDepth 100000 in
theorem awake3 : Awake3 := by
  intro w hT
  go_enter Tryz.func12, Tryz.ntmps12
  have extW := Ext.refl w
  go_wp2_with fail
  refine (q_FromIntR 2 (by omega) (by omega)).mono ?_
  rintro e w1 ⟨s91, A91, n91, c91, t91, B91, m91, d91, rfl, h2, hx1⟩
  replace extW := extW.trans hx1
  clear hx1
  go_wp2_with fail
  refine (p_Point h2 (by omega)).mono ?_
  rintro e w2 ⟨s31_, A31_, n31_, c31_, t31_, B31_, m31_, d31_, s31', A31', n31', c31', t31', B31', m31', d31', rfl, p1, hx2⟩
  replace extW := extW.trans hx2
  clear hx2
  clear h2
  go_wp2_with fail
  refine (sq1_call p1 (by omega) (hT.ext extW)).mono ?_
  rintro e w3 ⟨s1_, A1_, n1_, c1_, t1_, B1_, m1_, d1_, s1', A1', n1', c1', t1', B1', m1', d1', rfl, f1, hx3⟩
  replace extW := extW.trans hx3
  clear hx3
  clear p1
  go_upto_region 2 with (fail)
  refine at_world (fun w3v => Ext w3 w3v ∧ Box w3v w3.heap.size 28 #[.bool s1_, .slice A1_ n1_ c1_, .bool t1_, .slice B1_ m1_ d1_, .bool s1', .slice A1' n1' c1', .bool t1', .slice B1' m1' d1'] ∧ IV w3v (mkQ 1 1) (mkQ 3 2) 19 s1_ A1_ n1_ c1_ t1_ B1_ m1_ d1_ s1' A1' n1' c1' t1' B1' m1' d1') ⟨(Ext.refl w3).alloc _, Box.new w3 _ _, f1.ext ((Ext.refl w3).alloc _)⟩ ?_
  generalize w3.heap.size = g1
  clear f1
  rintro w3v ⟨EV, b1, f1⟩
  replace extW := extW.trans EV
  clear EV
  go_wp2_with fail
  refine (q_FromIntR 2 (by omega) (by omega)).mono ?_
  rintro e w4 ⟨s92, A92, n92, c92, t92, B92, m92, d92, rfl, h2, hx4⟩
  replace b1 := b1.ext hx4
  replace f1 := f1.ext hx4
  replace extW := extW.trans hx4
  clear hx4
  go_wp2_with fail
  refine (p_Point h2 (by omega)).mono ?_
  rintro e w5 ⟨s32_, A32_, n32_, c32_, t32_, B32_, m32_, d32_, s32', A32', n32', c32', t32', B32', m32', d32', rfl, p2, hx5⟩
  replace b1 := b1.ext hx5
  replace f1 := f1.ext hx5
  replace extW := extW.trans hx5
  clear hx5
  clear h2
  go_wp2_with fail
  refine (sq2_call p2 (by omega) (hT.ext extW)).mono ?_
  rintro e w6 ⟨s2_, A2_, n2_, c2_, t2_, B2_, m2_, d2_, s2', A2', n2', c2', t2', B2', m2', d2', rfl, f2, hx6⟩
  replace b1 := b1.ext hx6
  replace f1 := f1.ext hx6
  replace extW := extW.trans hx6
  clear hx6
  clear p2
  go_upto_region 3 with (fail)
  refine at_world (fun w6v => Ext w6 w6v ∧ Box w6v w6.heap.size 28 #[.bool s2_, .slice A2_ n2_ c2_, .bool t2_, .slice B2_ m2_ d2_, .bool s2', .slice A2' n2' c2', .bool t2', .slice B2' m2' d2'] ∧ IV w6v (mkQ 5 4) (mkQ 3 2) 19 s2_ A2_ n2_ c2_ t2_ B2_ m2_ d2_ s2' A2' n2' c2' t2' B2' m2' d2') ⟨(Ext.refl w6).alloc _, Box.new w6 _ _, f2.ext ((Ext.refl w6).alloc _)⟩ ?_
  generalize w6.heap.size = g2
  clear f2
  rintro w6v ⟨EV, b2, f2⟩
  replace b1 := b1.ext EV
  replace f1 := f1.ext EV
  replace extW := extW.trans EV
  clear EV
  go_wp2_with fail
  refine (q_span 1 1 2 1 (by decide)).mono ?_
  rintro e w7 ⟨s41_, A41_, n41_, c41_, t41_, B41_, m41_, d41_, s41', A41', n41', c41', t41', B41', m41', d41', rfl, m1, hx7⟩
  replace b1 := b1.ext hx7
  replace f1 := f1.ext hx7
  replace b2 := b2.ext hx7
  replace f2 := f2.ext hx7
  replace extW := extW.trans hx7
  clear hx7
  go_wp2_with fail
  refine (q_span 2 1 4 1 (by decide)).mono ?_
  rintro e w8 ⟨s42_, A42_, n42_, c42_, t42_, B42_, m42_, d42_, s42', A42', n42', c42', t42', B42', m42', d42', rfl, m2, hx8⟩
  replace b1 := b1.ext hx8
  replace f1 := f1.ext hx8
  replace b2 := b2.ext hx8
  replace f2 := f2.ext hx8
  replace m1 := m1.ext hx8
  replace extW := extW.trans hx8
  clear hx8
  go_wp2_with fail
  refine (dv_call m1 m2 (by omega) (by omega) (hT.ext extW)).mono ?_
  rintro e w9 ⟨s3_, A3_, n3_, c3_, t3_, B3_, m3_, d3_, s3', A3', n3', c3', t3', B3', m3', d3', rfl, f3, hx9⟩
  replace b1 := b1.ext hx9
  replace f1 := f1.ext hx9
  replace b2 := b2.ext hx9
  replace f2 := f2.ext hx9
  replace extW := extW.trans hx9
  clear hx9
  clear m1 m2
  go_upto_region 4 with (fail)
  refine at_world (fun w9v => Ext w9 w9v ∧ Box w9v w9.heap.size 28 #[.bool s3_, .slice A3_ n3_ c3_, .bool t3_, .slice B3_ m3_ d3_, .bool s3', .slice A3' n3' c3', .bool t3', .slice B3' m3' d3'] ∧ IV w9v (mkQ 1 4) (mkQ 1 1) 4 s3_ A3_ n3_ c3_ t3_ B3_ m3_ d3_ s3' A3' n3' c3' t3' B3' m3' d3') ⟨(Ext.refl w9).alloc _, Box.new w9 _ _, f3.ext ((Ext.refl w9).alloc _)⟩ ?_
  generalize w9.heap.size = g3
  clear f3
  rintro w9v ⟨EV, b3, f3⟩
  replace b1 := b1.ext EV
  replace f1 := f1.ext EV
  replace b2 := b2.ext EV
  replace f2 := f2.ext EV
  replace extW := extW.trans EV
  clear EV
  go_wp2_with fail
  have ES0 := Ext.refl w9v
  refine wp_region_held_drew (S := Ext w9v) (by kernel_rfl) ES0.drew (fun ES => ?_)
  clear ES0
  refine Late.start0 (fun _ _ _ _ _ => ⟨fun h => h, fun h => h⟩) ES (fun hAl hQ => ?_)
  refine Late.call (i := 0) rfl (by kernel_rfl) hAl (by kernel_rfl) (by kernel_rfl) (by kernel_rfl) hQ (fun w0 e0 E0 K hK => ?_)
  go_simp
  (go_at_call 49; refine (q_span (-2) 1 3 1 (by decide)).mono ?_; rintro e wk0 ⟨s51_, A51_, n51_, c51_, t51_, B51_, m51_, d51_, s51', A51', n51', c51', t51', B51', m51', d51', rfl, iv1, hx0⟩)
  refine hK.out _ _ hx0 ?_
  clear hK K
  try simp only [Act.put]
  try simp only [List.setIfInBounds_toArray]
  try simp only [List.set_cons_succ]
  try simp only [List.set_cons_zero]
  refine Late.call (i := 1) rfl (by kernel_rfl) hAl (by kernel_rfl) (by kernel_rfl) (by kernel_rfl) hQ (fun w1 e1 E1 K hK => ?_)
  go_simp
  (replace iv1 := iv1.ext e1; go_at_call 49; refine (q_span (-1) 1 4 1 (by decide)).mono ?_; rintro e wk1 ⟨s52_, A52_, n52_, c52_, t52_, B52_, m52_, d52_, s52', A52', n52', c52', t52', B52', m52', d52', rfl, iv2, hx1⟩; replace iv1 := iv1.ext hx1)
  refine hK.out _ _ hx1 ?_
  clear hK K
  try simp only [Act.put]
  try simp only [List.setIfInBounds_toArray]
  try simp only [List.set_cons_succ]
  try simp only [List.set_cons_zero]
  refine Late.call (i := 2) rfl (by kernel_rfl) hAl (by kernel_rfl) (by kernel_rfl) (by kernel_rfl) hQ (fun w2 e2 E2 K hK => ?_)
  go_simp
  (replace iv1 := iv1.ext e2; replace iv2 := iv2.ext e2; go_at_call 26; refine (mu_call iv1 iv2 (by omega) (by omega) (hT.ext (extW.trans E2))).mono ?_; rintro e wk2 ⟨s53_, A53_, n53_, c53_, t53_, B53_, m53_, d53_, s53', A53', n53', c53', t53', B53', m53', d53', rfl, iv3, hx2⟩; replace iv1 := iv1.ext hx2; replace iv2 := iv2.ext hx2)
  refine hK.out _ _ hx2 ?_
  clear hK K
  try simp only [Act.put]
  try simp only [List.setIfInBounds_toArray]
  try simp only [List.set_cons_succ]
  try simp only [List.set_cons_zero]
  refine Late.call (i := 3) rfl (by kernel_rfl) hAl (by kernel_rfl) (by kernel_rfl) (by kernel_rfl) hQ (fun w3 e3 E3 K hK => ?_)
  go_simp
  (replace iv1 := iv1.ext e3; replace iv2 := iv2.ext e3; replace iv3 := iv3.ext e3; go_at_call 49; refine (q_span (-8) 1 12 1 (by decide)).mono ?_; rintro e wk3 ⟨s54_, A54_, n54_, c54_, t54_, B54_, m54_, d54_, s54', A54', n54', c54', t54', B54', m54', d54', rfl, iv4, hx3⟩; replace iv1 := iv1.ext hx3; replace iv2 := iv2.ext hx3; replace iv3 := iv3.ext hx3)
  refine hK.out _ _ hx3 ?_
  clear hK K
  try simp only [Act.put]
  try simp only [List.setIfInBounds_toArray]
  try simp only [List.set_cons_succ]
  try simp only [List.set_cons_zero]
  refine Late.call (i := 4) rfl (by kernel_rfl) hAl (by kernel_rfl) (by kernel_rfl) (by kernel_rfl) hQ (fun w4 e4 E4 K hK => ?_)
  go_simp
  (replace iv1 := iv1.ext e4; replace iv2 := iv2.ext e4; replace iv3 := iv3.ext e4; replace iv4 := iv4.ext e4; go_at_call 16; refine (q_SameV iv3 iv4).mono ?_; rintro e wk4 ⟨rfl, hx4⟩; replace iv1 := iv1.ext hx4; replace iv2 := iv2.ext hx4; replace iv3 := iv3.ext hx4; replace iv4 := iv4.ext hx4)
  refine hK.out _ _ hx4 ?_
  clear hK K
  try simp only [Act.put]
  try simp only [List.setIfInBounds_toArray]
  try simp only [List.set_cons_succ]
  try simp only [List.set_cons_zero]
  refine Late.take (i := 5) (d := some 30) (v := ?v5_84) rfl rfl (by kernel_rfl) (by kernel_rfl) (by kernel_rfl) (by kernel_rfl) hQ (Or.inl ⟨by rfl, ?y5_84⟩) ?r5_84
  case y5_84 =>
    intro w' hSw
    have k00 := (b1.ext hSw).c8
    have k10 := (b2.ext hSw).c8
    have k20 := (b3.ext hSw).c8
    go_simp
    try with_reducible rfl
  try simp only [Act.put]
  try simp only [List.setIfInBounds_toArray]
  try simp only [List.set_cons_succ]
  try simp only [List.set_cons_zero]
  refine Late.take (i := 6) (d := some 31) (v := ?v6_85) rfl rfl (by kernel_rfl) (by kernel_rfl) (by kernel_rfl) (by kernel_rfl) hQ (Or.inl ⟨by rfl, ?y6_85⟩) ?r6_85
  case y6_85 =>
    intro w' hSw
    have k00 := (b1.ext hSw).c8
    have k10 := (b2.ext hSw).c8
    have k20 := (b3.ext hSw).c8
    go_simp
    try with_reducible rfl
  try simp only [Act.put]
  try simp only [List.setIfInBounds_toArray]
  try simp only [List.set_cons_succ]
  try simp only [List.set_cons_zero]
  refine Late.take (i := 7) (d := some 32) (v := ?v7_86) rfl rfl (by kernel_rfl) (by kernel_rfl) (by kernel_rfl) (by kernel_rfl) hQ (Or.inl ⟨by rfl, ?y7_86⟩) ?r7_86
  case y7_86 =>
    intro w' hSw
    have k00 := (b1.ext hSw).c8
    have k10 := (b2.ext hSw).c8
    have k20 := (b3.ext hSw).c8
    go_simp
    try with_reducible rfl
  try simp only [Act.put]
  try simp only [List.setIfInBounds_toArray]
  try simp only [List.set_cons_succ]
  try simp only [List.set_cons_zero]
  refine Late.take (i := 8) (d := some 33) (v := ?v8_87) rfl rfl (by kernel_rfl) (by kernel_rfl) (by kernel_rfl) (by kernel_rfl) hQ (Or.inl ⟨by rfl, ?y8_87⟩) ?r8_87
  case y8_87 =>
    intro w' hSw
    have k00 := (b1.ext hSw).c8
    have k10 := (b2.ext hSw).c8
    have k20 := (b3.ext hSw).c8
    go_simp
    try with_reducible rfl
  try simp only [Act.put]
  try simp only [List.setIfInBounds_toArray]
  try simp only [List.set_cons_succ]
  try simp only [List.set_cons_zero]
  refine Late.take (i := 9) (d := some 34) (v := ?v9_88) rfl rfl (by kernel_rfl) (by kernel_rfl) (by kernel_rfl) (by kernel_rfl) hQ (Or.inl ⟨by rfl, ?y9_88⟩) ?r9_88
  case y9_88 =>
    intro w' hSw
    have k00 := (b1.ext hSw).c8
    have k10 := (b2.ext hSw).c8
    have k20 := (b3.ext hSw).c8
    go_simp
    try with_reducible rfl
  try simp only [Act.put]
  try simp only [List.setIfInBounds_toArray]
  try simp only [List.set_cons_succ]
  try simp only [List.set_cons_zero]
  refine Late.take (i := 10) (d := some 35) (v := ?v10_89) rfl rfl (by kernel_rfl) (by kernel_rfl) (by kernel_rfl) (by kernel_rfl) hQ (Or.inl ⟨by rfl, ?y10_89⟩) ?r10_89
  case y10_89 =>
    intro w' hSw
    have k00 := (b1.ext hSw).c8
    have k10 := (b2.ext hSw).c8
    have k20 := (b3.ext hSw).c8
    go_simp
    try with_reducible rfl
  try simp only [Act.put]
  try simp only [List.setIfInBounds_toArray]
  try simp only [List.set_cons_succ]
  try simp only [List.set_cons_zero]
  refine Late.call (i := 11) rfl (by kernel_rfl) hAl (by kernel_rfl) (by kernel_rfl) (by kernel_rfl) hQ (fun w11 e11 E11 K hK => ?_)
  go_simp
  (replace iv1 := iv1.ext e11; replace iv2 := iv2.ext e11; replace iv3 := iv3.ext e11; replace iv4 := iv4.ext e11; go_at_call 49; refine (q_span 1 1 3 2 (by decide)).mono ?_; rintro e wk11 ⟨s55_, A55_, n55_, c55_, t55_, B55_, m55_, d55_, s55', A55', n55', c55', t55', B55', m55', d55', rfl, iv5, hx11⟩; replace iv1 := iv1.ext hx11; replace iv2 := iv2.ext hx11; replace iv3 := iv3.ext hx11; replace iv4 := iv4.ext hx11)
  refine hK.out _ _ hx11 ?_
  clear hK K
  try simp only [Act.put]
  try simp only [List.setIfInBounds_toArray]
  try simp only [List.set_cons_succ]
  try simp only [List.set_cons_zero]
  refine Late.call (i := 12) rfl (by kernel_rfl) hAl (by kernel_rfl) (by kernel_rfl) (by kernel_rfl) hQ (fun w12 e12 E12 K hK => ?_)
  go_simp
  (replace iv1 := iv1.ext e12; replace iv2 := iv2.ext e12; replace iv3 := iv3.ext e12; replace iv4 := iv4.ext e12; replace iv5 := iv5.ext e12; go_at_call 16; refine (q_SameV (f1.ext E12) iv5).mono ?_; rintro e wk12 ⟨rfl, hx12⟩; replace iv1 := iv1.ext hx12; replace iv2 := iv2.ext hx12; replace iv3 := iv3.ext hx12; replace iv4 := iv4.ext hx12; replace iv5 := iv5.ext hx12)
  refine hK.out _ _ hx12 ?_
  clear hK K
  try simp only [Act.put]
  try simp only [List.setIfInBounds_toArray]
  try simp only [List.set_cons_succ]
  try simp only [List.set_cons_zero]
  refine Late.take (i := 13) (d := some 38) (v := ?v13_90) rfl rfl (by kernel_rfl) (by kernel_rfl) (by kernel_rfl) (by kernel_rfl) hQ (Or.inl ⟨by rfl, ?y13_90⟩) ?r13_90
  case y13_90 =>
    intro w' hSw
    have k00 := (b1.ext hSw).c8
    have k10 := (b2.ext hSw).c8
    have k20 := (b3.ext hSw).c8
    go_simp
    try with_reducible rfl
  try simp only [Act.put]
  try simp only [List.setIfInBounds_toArray]
  try simp only [List.set_cons_succ]
  try simp only [List.set_cons_zero]
  refine Late.take (i := 14) (d := some 39) (v := ?v14_91) rfl rfl (by kernel_rfl) (by kernel_rfl) (by kernel_rfl) (by kernel_rfl) hQ (Or.inl ⟨by rfl, ?y14_91⟩) ?r14_91
  case y14_91 =>
    intro w' hSw
    have k00 := (b1.ext hSw).c8
    have k10 := (b2.ext hSw).c8
    have k20 := (b3.ext hSw).c8
    go_simp
    try with_reducible rfl
  try simp only [Act.put]
  try simp only [List.setIfInBounds_toArray]
  try simp only [List.set_cons_succ]
  try simp only [List.set_cons_zero]
  refine Late.take (i := 15) (d := some 40) (v := ?v15_92) rfl rfl (by kernel_rfl) (by kernel_rfl) (by kernel_rfl) (by kernel_rfl) hQ (Or.inl ⟨by rfl, ?y15_92⟩) ?r15_92
  case y15_92 =>
    intro w' hSw
    have k00 := (b1.ext hSw).c8
    have k10 := (b2.ext hSw).c8
    have k20 := (b3.ext hSw).c8
    go_simp
    try with_reducible rfl
  try simp only [Act.put]
  try simp only [List.setIfInBounds_toArray]
  try simp only [List.set_cons_succ]
  try simp only [List.set_cons_zero]
  refine Late.take (i := 16) (d := some 41) (v := ?v16_93) rfl rfl (by kernel_rfl) (by kernel_rfl) (by kernel_rfl) (by kernel_rfl) hQ (Or.inl ⟨by rfl, ?y16_93⟩) ?r16_93
  case y16_93 =>
    intro w' hSw
    have k00 := (b1.ext hSw).c8
    have k10 := (b2.ext hSw).c8
    have k20 := (b3.ext hSw).c8
    go_simp
    try with_reducible rfl
  try simp only [Act.put]
  try simp only [List.setIfInBounds_toArray]
  try simp only [List.set_cons_succ]
  try simp only [List.set_cons_zero]
  refine Late.take (i := 17) (d := some 42) (v := ?v17_94) rfl rfl (by kernel_rfl) (by kernel_rfl) (by kernel_rfl) (by kernel_rfl) hQ (Or.inl ⟨by rfl, ?y17_94⟩) ?r17_94
  case y17_94 =>
    intro w' hSw
    have k00 := (b1.ext hSw).c8
    have k10 := (b2.ext hSw).c8
    have k20 := (b3.ext hSw).c8
    go_simp
    try with_reducible rfl
  try simp only [Act.put]
  try simp only [List.setIfInBounds_toArray]
  try simp only [List.set_cons_succ]
  try simp only [List.set_cons_zero]
  refine Late.take (i := 18) (d := some 43) (v := ?v18_95) rfl rfl (by kernel_rfl) (by kernel_rfl) (by kernel_rfl) (by kernel_rfl) hQ (Or.inl ⟨by rfl, ?y18_95⟩) ?r18_95
  case y18_95 =>
    intro w' hSw
    have k00 := (b1.ext hSw).c8
    have k10 := (b2.ext hSw).c8
    have k20 := (b3.ext hSw).c8
    go_simp
    try with_reducible rfl
  try simp only [Act.put]
  try simp only [List.setIfInBounds_toArray]
  try simp only [List.set_cons_succ]
  try simp only [List.set_cons_zero]
  refine Late.take (i := 19) (d := some 44) (v := ?v19_96) rfl rfl (by kernel_rfl) (by kernel_rfl) (by kernel_rfl) (by kernel_rfl) hQ (Or.inl ⟨by rfl, ?y19_96⟩) ?r19_96
  case y19_96 =>
    intro w' hSw
    have k00 := (b1.ext hSw).c8
    have k10 := (b2.ext hSw).c8
    have k20 := (b3.ext hSw).c8
    go_simp
    try with_reducible rfl
  try simp only [Act.put]
  try simp only [List.setIfInBounds_toArray]
  try simp only [List.set_cons_succ]
  try simp only [List.set_cons_zero]
  refine Late.call (i := 20) rfl (by kernel_rfl) hAl (by kernel_rfl) (by kernel_rfl) (by kernel_rfl) hQ (fun w20 e20 E20 K hK => ?_)
  go_simp
  (replace iv1 := iv1.ext e20; replace iv2 := iv2.ext e20; replace iv3 := iv3.ext e20; replace iv4 := iv4.ext e20; replace iv5 := iv5.ext e20; go_at_call 49; refine (q_span 5 4 3 2 (by decide)).mono ?_; rintro e wk20 ⟨s56_, A56_, n56_, c56_, t56_, B56_, m56_, d56_, s56', A56', n56', c56', t56', B56', m56', d56', rfl, iv6, hx20⟩; replace iv1 := iv1.ext hx20; replace iv2 := iv2.ext hx20; replace iv3 := iv3.ext hx20; replace iv4 := iv4.ext hx20; replace iv5 := iv5.ext hx20)
  refine hK.out _ _ hx20 ?_
  clear hK K
  try simp only [Act.put]
  try simp only [List.setIfInBounds_toArray]
  try simp only [List.set_cons_succ]
  try simp only [List.set_cons_zero]
  refine Late.call (i := 21) rfl (by kernel_rfl) hAl (by kernel_rfl) (by kernel_rfl) (by kernel_rfl) hQ (fun w21 e21 E21 K hK => ?_)
  go_simp
  (replace iv1 := iv1.ext e21; replace iv2 := iv2.ext e21; replace iv3 := iv3.ext e21; replace iv4 := iv4.ext e21; replace iv5 := iv5.ext e21; replace iv6 := iv6.ext e21; go_at_call 16; refine (q_SameV (f2.ext E21) iv6).mono ?_; rintro e wk21 ⟨rfl, hx21⟩; replace iv1 := iv1.ext hx21; replace iv2 := iv2.ext hx21; replace iv3 := iv3.ext hx21; replace iv4 := iv4.ext hx21; replace iv5 := iv5.ext hx21; replace iv6 := iv6.ext hx21)
  refine hK.out _ _ hx21 ?_
  clear hK K
  try simp only [Act.put]
  try simp only [List.setIfInBounds_toArray]
  try simp only [List.set_cons_succ]
  try simp only [List.set_cons_zero]
  refine Late.take (i := 22) (d := some 47) (v := ?v22_97) rfl rfl (by kernel_rfl) (by kernel_rfl) (by kernel_rfl) (by kernel_rfl) hQ (Or.inl ⟨by rfl, ?y22_97⟩) ?r22_97
  case y22_97 =>
    intro w' hSw
    have k00 := (b1.ext hSw).c8
    have k10 := (b2.ext hSw).c8
    have k20 := (b3.ext hSw).c8
    go_simp
    try with_reducible rfl
  try simp only [Act.put]
  try simp only [List.setIfInBounds_toArray]
  try simp only [List.set_cons_succ]
  try simp only [List.set_cons_zero]
  refine Late.take (i := 23) (d := some 48) (v := ?v23_98) rfl rfl (by kernel_rfl) (by kernel_rfl) (by kernel_rfl) (by kernel_rfl) hQ (Or.inl ⟨by rfl, ?y23_98⟩) ?r23_98
  case y23_98 =>
    intro w' hSw
    have k00 := (b1.ext hSw).c8
    have k10 := (b2.ext hSw).c8
    have k20 := (b3.ext hSw).c8
    go_simp
    try with_reducible rfl
  try simp only [Act.put]
  try simp only [List.setIfInBounds_toArray]
  try simp only [List.set_cons_succ]
  try simp only [List.set_cons_zero]
  refine Late.take (i := 24) (d := some 49) (v := ?v24_99) rfl rfl (by kernel_rfl) (by kernel_rfl) (by kernel_rfl) (by kernel_rfl) hQ (Or.inl ⟨by rfl, ?y24_99⟩) ?r24_99
  case y24_99 =>
    intro w' hSw
    have k00 := (b1.ext hSw).c8
    have k10 := (b2.ext hSw).c8
    have k20 := (b3.ext hSw).c8
    go_simp
    try with_reducible rfl
  try simp only [Act.put]
  try simp only [List.setIfInBounds_toArray]
  try simp only [List.set_cons_succ]
  try simp only [List.set_cons_zero]
  refine Late.take (i := 25) (d := some 50) (v := ?v25_100) rfl rfl (by kernel_rfl) (by kernel_rfl) (by kernel_rfl) (by kernel_rfl) hQ (Or.inl ⟨by rfl, ?y25_100⟩) ?r25_100
  case y25_100 =>
    intro w' hSw
    have k00 := (b1.ext hSw).c8
    have k10 := (b2.ext hSw).c8
    have k20 := (b3.ext hSw).c8
    go_simp
    try with_reducible rfl
  try simp only [Act.put]
  try simp only [List.setIfInBounds_toArray]
  try simp only [List.set_cons_succ]
  try simp only [List.set_cons_zero]
  refine Late.take (i := 26) (d := some 51) (v := ?v26_101) rfl rfl (by kernel_rfl) (by kernel_rfl) (by kernel_rfl) (by kernel_rfl) hQ (Or.inl ⟨by rfl, ?y26_101⟩) ?r26_101
  case y26_101 =>
    intro w' hSw
    have k00 := (b1.ext hSw).c8
    have k10 := (b2.ext hSw).c8
    have k20 := (b3.ext hSw).c8
    go_simp
    try with_reducible rfl
  try simp only [Act.put]
  try simp only [List.setIfInBounds_toArray]
  try simp only [List.set_cons_succ]
  try simp only [List.set_cons_zero]
  refine Late.take (i := 27) (d := some 52) (v := ?v27_102) rfl rfl (by kernel_rfl) (by kernel_rfl) (by kernel_rfl) (by kernel_rfl) hQ (Or.inl ⟨by rfl, ?y27_102⟩) ?r27_102
  case y27_102 =>
    intro w' hSw
    have k00 := (b1.ext hSw).c8
    have k10 := (b2.ext hSw).c8
    have k20 := (b3.ext hSw).c8
    go_simp
    try with_reducible rfl
  try simp only [Act.put]
  try simp only [List.setIfInBounds_toArray]
  try simp only [List.set_cons_succ]
  try simp only [List.set_cons_zero]
  refine Late.take (i := 28) (d := some 53) (v := ?v28_103) rfl rfl (by kernel_rfl) (by kernel_rfl) (by kernel_rfl) (by kernel_rfl) hQ (Or.inl ⟨by rfl, ?y28_103⟩) ?r28_103
  case y28_103 =>
    intro w' hSw
    have k00 := (b1.ext hSw).c8
    have k10 := (b2.ext hSw).c8
    have k20 := (b3.ext hSw).c8
    go_simp
    try with_reducible rfl
  try simp only [Act.put]
  try simp only [List.setIfInBounds_toArray]
  try simp only [List.set_cons_succ]
  try simp only [List.set_cons_zero]
  refine Late.call (i := 29) rfl (by kernel_rfl) hAl (by kernel_rfl) (by kernel_rfl) (by kernel_rfl) hQ (fun w29 e29 E29 K hK => ?_)
  go_simp
  (replace iv1 := iv1.ext e29; replace iv2 := iv2.ext e29; replace iv3 := iv3.ext e29; replace iv4 := iv4.ext e29; replace iv5 := iv5.ext e29; replace iv6 := iv6.ext e29; go_at_call 49; refine (q_span 1 4 1 1 (by decide)).mono ?_; rintro e wk29 ⟨s57_, A57_, n57_, c57_, t57_, B57_, m57_, d57_, s57', A57', n57', c57', t57', B57', m57', d57', rfl, iv7, hx29⟩; replace iv1 := iv1.ext hx29; replace iv2 := iv2.ext hx29; replace iv3 := iv3.ext hx29; replace iv4 := iv4.ext hx29; replace iv5 := iv5.ext hx29; replace iv6 := iv6.ext hx29)
  refine hK.out _ _ hx29 ?_
  clear hK K
  try simp only [Act.put]
  try simp only [List.setIfInBounds_toArray]
  try simp only [List.set_cons_succ]
  try simp only [List.set_cons_zero]
  refine Late.call (i := 30) rfl (by kernel_rfl) hAl (by kernel_rfl) (by kernel_rfl) (by kernel_rfl) hQ (fun w30 e30 E30 K hK => ?_)
  go_simp
  (replace iv1 := iv1.ext e30; replace iv2 := iv2.ext e30; replace iv3 := iv3.ext e30; replace iv4 := iv4.ext e30; replace iv5 := iv5.ext e30; replace iv6 := iv6.ext e30; replace iv7 := iv7.ext e30; go_at_call 16; refine (q_SameV (f3.ext E30) iv7).mono ?_; rintro e wk30 ⟨rfl, hx30⟩; replace iv1 := iv1.ext hx30; replace iv2 := iv2.ext hx30; replace iv3 := iv3.ext hx30; replace iv4 := iv4.ext hx30; replace iv5 := iv5.ext hx30; replace iv6 := iv6.ext hx30; replace iv7 := iv7.ext hx30)
  refine hK.out _ _ hx30 ?_
  clear hK K
  try simp only [Act.put]
  try simp only [List.setIfInBounds_toArray]
  try simp only [List.set_cons_succ]
  try simp only [List.set_cons_zero]
  refine Late.take (i := 31) (d := some 56) (v := ?v31_104) rfl rfl (by kernel_rfl) (by kernel_rfl) (by kernel_rfl) (by kernel_rfl) hQ (Or.inl ⟨by rfl, ?y31_104⟩) ?r31_104
  case y31_104 =>
    intro w' hSw
    have k00 := (b1.ext hSw).c8
    have k10 := (b2.ext hSw).c8
    have k20 := (b3.ext hSw).c8
    go_simp
    try with_reducible rfl
  try simp only [Act.put]
  try simp only [List.setIfInBounds_toArray]
  try simp only [List.set_cons_succ]
  try simp only [List.set_cons_zero]
  refine Late.take (i := 32) (d := some 0) (v := ?v32_105) rfl rfl (by kernel_rfl) (by kernel_rfl) (by kernel_rfl) (by kernel_rfl) hQ (Or.inl ⟨by rfl, ?y32_105⟩) ?r32_105
  case y32_105 =>
    intro w' hSw
    have k00 := (b1.ext hSw).c8
    have k10 := (b2.ext hSw).c8
    have k20 := (b3.ext hSw).c8
    go_simp
    try with_reducible rfl
  try simp only [Act.put]
  try simp only [List.setIfInBounds_toArray]
  try simp only [List.set_cons_succ]
  try simp only [List.set_cons_zero]
  refine Late.done0 (by kernel_rfl) (fun wz ez Ez => ?_)
  clear hAl hQ ES
  go_wp2_with fail
  go_ret
  exact ⟨rfl, extW.trans Ez⟩
end Go.Proofs.YtoabhnofppledaaGreatDoor
namespace Go.Proofs.YtoabhnofppledaaGreatDoor
open Go.RowKit
attribute [local go_sem ↓] Go.wp_at_zero Go.wp_at_succ
/-- the number of raw values. -/
def rawQ (s : Bool) (xs : List Nat) (t : Bool) (ys : List Nat) : Rat := mkRat (ival s xs) (ival t ys).toNat
theorem Rd.uniq {w : World} {A : Option Addr} {xs ys : List Nat} (h : Rd w A xs) (k : Rd w A ys) (hl : xs.length = ys.length) : xs = ys := by
  by_cases h0 : xs = []
  · subst h0; exact (List.length_eq_zero_iff.1 hl.symm).symm
  have k0 : ys ≠ [] := fun e => h0 (List.length_eq_zero_iff.1 (by rw [hl, e]; rfl))
  obtain ⟨b, off, hA, _, hc⟩ := h.2 h0
  obtain ⟨b', off', hA', _, hc'⟩ := k.2 k0
  rw [hA] at hA'
  injection hA' with hA'
  injection hA' with q1 q2
  subst q1 q2
  refine List.ext_getElem hl (fun i h1 h2 => ?_)
  have e := (hc i h1).symm.trans (hc' i h2)
  injection e with e
  injection e with e1 e2
  omega
theorem NR.of_raw' {w : World} {s : Bool} {A : Option Addr} {n c : Nat} {xs : List Nat} {t : Bool} {B : Option Addr} {m d : Nat} {ys : List Nat} {L : Nat} (h : RI w A n c xs) (k : RI w B m d ys) (hv : validQ s xs t ys = true) (hn : n ≤ L) (hm : m ≤ L) :
    NR w (rawQ s xs t ys) L s A n c t B m d := by
  obtain ⟨q, hq⟩ := NR.of_raw h k hv hn hm
  obtain ⟨xs0, a1, a2, _, _, a3, _⟩ := hq.num.out
  obtain ⟨ys0, b1, b2, _, _, b3, _⟩ := hq.den.out
  have e1 : xs0 = xs := a2.uniq h.rd (by rw [a1, h.len])
  have e2 : ys0 = ys := b2.uniq k.rd (by rw [b1, k.len])
  subst e1 e2
  have e3 : rawQ s xs0 t ys0 = q := by
    unfold rawQ
    rw [a3.eq, b3.eq, Int.toNat_natCast]
    exact Rat.mkRat_self q
  rw [e3]
  exact hq
/-- the ends of an interval, as they lie. -/
def validV (s : Bool) (xs : List Nat) (t : Bool) (ys : List Nat) (s' : Bool) (xs' : List Nat) (t' : Bool) (ys' : List Nat) : Bool :=
  validQ s xs t ys && (validQ s' xs' t' ys' && decide (rawQ s xs t ys ≤ rawQ s' xs' t' ys'))
section
variable {w w' : World} {L M : Nat} {s t s' t' : Bool} {A B A' B' : Option Addr} {n c m d n' c' m' d' : Nat} {xs ys xs' ys' : List Nat}
set_option maxHeartbeats 4000000 in
theorem q_ValidV (h : RI w A n c xs) (k : RI w B m d ys) (h' : RI w A' n' c' xs') (k' : RI w B' m' d' ys') (h1 : n ≤ 50) (h2 : m ≤ 50) (h3 : n' ≤ 50) (h4 : m' ≤ 50) : Calls Tryz.prog 14 #[.agg #[.bool s, .slice A n c, .bool t, .slice B m d, .bool s', .slice A' n' c', .bool t', .slice B' m' d']] w fun e w' => e = .returned (.bool (validV s xs t ys s' xs' t' ys')) ∧ Ext w w' := by
  obtain ⟨r, hr⟩ : ∃ r, validV s xs t ys s' xs' t' ys' = r := ⟨_, rfl⟩
  have HR := Lib.hid hr
  rw [hr]
  clear hr
  go_enter Tryz.func14, Tryz.ntmps14
  go_upto_region 1 with (fail)
  obtain ⟨W, hW, ext, bx, hz⟩ := box1 w 28 #[.bool s, .slice A n c, .bool t, .slice B m d, .bool s', .slice A' n' c', .bool t', .slice B' m' d']
  rw [← hW]
  clear hW hz
  have k0 := bx.cell 0 (.bool s) rfl
  have k1 := bx.cell 1 (.slice A n c) rfl
  have k2 := bx.cell 2 (.bool t) rfl
  have k3 := bx.cell 3 (.slice B m d) rfl
  have k4 := bx.cell 4 (.bool s') rfl
  have k5 := bx.cell 5 (.slice A' n' c') rfl
  have k6 := bx.cell 6 (.bool t') rfl
  have k7 := bx.cell 7 (.slice B' m' d') rfl
  cases hv : validQ s xs t ys with
  | false =>
    have HV := Lib.hid hv
    clear hv
    go_wp2_with fail
    refine (q_ValidRaw (h.ext ext) (k.ext ext) (by omega) (by omega)).mono ?_
    rintro e V ⟨rfl, hxc⟩
    rw [HV.out]
    go_wp2_with fail
    go_ret
    refine ⟨?_, ext.trans hxc⟩
    rw [← HR.out, validV, HV.out]; rfl
  | true =>
    have HV := Lib.hid hv
    clear hv
    go_wp2_with fail
    refine (q_ValidRaw (h.ext ext) (k.ext ext) (by omega) (by omega)).mono ?_
    rintro e V ⟨rfl, hxc⟩
    rw [HV.out]
    replace bx := bx.ext hxc
    replace ext := ext.trans hxc
    clear hxc k0 k1 k2 k3 k4 k5 k6 k7
    have k0 := bx.cell 0 (.bool s) rfl
    have k1 := bx.cell 1 (.slice A n c) rfl
    have k2 := bx.cell 2 (.bool t) rfl
    have k3 := bx.cell 3 (.slice B m d) rfl
    have k4 := bx.cell 4 (.bool s') rfl
    have k5 := bx.cell 5 (.slice A' n' c') rfl
    have k6 := bx.cell 6 (.bool t') rfl
    have k7 := bx.cell 7 (.slice B' m' d') rfl
    cases hv' : validQ s' xs' t' ys' with
    | false =>
      have HV' := Lib.hid hv'
      clear hv'
      go_wp2_with fail
      refine (q_ValidRaw (h'.ext ext) (k'.ext ext) (by omega) (by omega)).mono ?_
      rintro e V2 ⟨rfl, hxc⟩
      rw [HV'.out]
      go_wp2_with fail
      go_ret
      refine ⟨?_, ext.trans hxc⟩
      rw [← HR.out, validV, HV.out, HV'.out]; rfl
    | true =>
      have HV' := Lib.hid hv'
      clear hv'
      go_wp2_with fail
      refine (q_ValidRaw (h'.ext ext) (k'.ext ext) (by omega) (by omega)).mono ?_
      rintro e V2 ⟨rfl, hxc⟩
      rw [HV'.out]
      replace bx := bx.ext hxc
      replace ext := ext.trans hxc
      clear hxc k0 k1 k2 k3 k4 k5 k6 k7
      have k0 := bx.cell 0 (.bool s) rfl
      have k1 := bx.cell 1 (.slice A n c) rfl
      have k2 := bx.cell 2 (.bool t) rfl
      have k3 := bx.cell 3 (.slice B m d) rfl
      have k4 := bx.cell 4 (.bool s') rfl
      have k5 := bx.cell 5 (.slice A' n' c') rfl
      have k6 := bx.cell 6 (.bool t') rfl
      have k7 := bx.cell 7 (.slice B' m' d') rfl
      have hl := NR.of_raw' (L := 51) (h.ext ext) (k.ext ext) HV.out (by omega) (by omega)
      have hh := NR.of_raw' (L := 51) (h'.ext ext) (k'.ext ext) HV'.out (by omega) (by omega)
      go_wp2_with fail
      refine (q_CmpR hl hh (by omega) (by omega)).mono ?_
      rintro e V3 ⟨rfl, hxc⟩
      go_wp2_with fail
      go_ret
      refine ⟨?_, ext.trans hxc⟩
      rw [← HR.out, validV, HV.out, HV'.out, Bool.true_and, Bool.true_and, leB]; rfl
end
end Go.Proofs.YtoabhnofppledaaGreatDoor
namespace Go.Proofs.YtoabhnofppledaaGreatDoor
open Go.RowKit
attribute [local go_sem ↓] Go.wp_at_zero Go.wp_at_succ
/-- an interval's words as they lie. -/
def RawV (w : World) (A : Option Addr) (n c : Nat) (xs : List Nat) (B : Option Addr) (m d : Nat) (ys : List Nat) (A' : Option Addr) (n' c' : Nat) (xs' : List Nat) (B' : Option Addr) (m' d' : Nat) (ys' : List Nat) : Prop := RI w A n c xs ∧ RI w B m d ys ∧ RI w A' n' c' xs' ∧ RI w B' m' d' ys'
theorem RawV.ext {w w' : World} {A : Option Addr} {n c : Nat} {xs : List Nat} {B : Option Addr} {m d : Nat} {ys : List Nat} {A' : Option Addr} {n' c' : Nat} {xs' : List Nat} {B' : Option Addr} {m' d' : Nat} {ys' : List Nat} (h : RawV w A n c xs B m d ys A' n' c' xs' B' m' d' ys') (e : Ext w w') : RawV w' A n c xs B m d ys A' n' c' xs' B' m' d' ys' :=
  ⟨h.1.ext e, h.2.1.ext e, h.2.2.1.ext e, h.2.2.2.ext e⟩
end Go.Proofs.YtoabhnofppledaaGreatDoor
namespace Go.Proofs.YtoabhnofppledaaGreatDoor
open Go.ChangeShapes Go.WideShapes Go.ChangeAt Go.RowKit Go.Joins
theorem Tryz.own : ownKnob Tryz.prog.godebug = none := by kernel_rfl
theorem Tryz.laidOut : laidOutB Tryz.prog = true := by kernel_rfl
theorem Tryz.cellsI : Tryz.prog.cellsOf 24 = 2 := by kernel_rfl
theorem Tryz.cellsW : Tryz.prog.cellsOf 93 = 1 := by kernel_rfl
section
variable {H : Type} {enc : TypeId × Value → H} {W : World} {base : Nat} {held : Bool}
theorem open_words {m : Nat} {v : Value} {y : DataW H × List MemPlace} (h : DataW.trod enc Tryz.prog W base (fun _ => true) held m 22 [v] = some y) :
    ∃ A n c xs, v = .slice A n c ∧ List.length xs = n ∧ Rd W A xs ∧ n ≤ c ∧ c ≤ maxLen := by
  rcases open_ints Tryz.underlying22 Tryz.underlying93 Tryz.cellsW h with ⟨hcs, _⟩ | ⟨a, len, cap, zs, hcs, _, hl, hm, hz, _, hcell, hwf⟩
  · injection hcs with hcs _
    subst hcs
    exact ⟨none, 0, 0, [], rfl, rfl, Rd.nil _ _, Nat.le_refl _, Nat.zero_le _⟩
  · injection hcs with hcs _
    subst hcs
    simp only [if_true] at hz
    have hb : ∀ n ∈ zs, 0 ≤ n ∧ n ≤ 4294967295 := by
      intro n hn
      have := hwf n hn
      simp [Lit.wf, IntKind.min, IntKind.max, IntKind.bits, IntKind.signed] at this
      omega
    refine ⟨some a, len, cap, (zs.take len).map Int.toNat, rfl, by simp; omega, ⟨?_, ?_⟩, hl, hm⟩
    · intro x hx
      obtain ⟨n, hn, rfl⟩ := List.mem_map.1 hx
      have := hb n (List.mem_of_mem_take hn)
      omega
    · intro hne
      have hpos : 0 < zs.length := by
        rcases Nat.eq_zero_or_pos zs.length with h0 | h0
        · exfalso
          apply hne
          have : zs = [] := List.eq_nil_of_length_eq_zero h0
          rw [this]; simp
        · exact h0
      obtain ⟨b, off, spot⟩ := a
      have hc0 := hcell 0 hpos
      have hspot : spot = none := by
        cases spot with
        | none => rfl
        | some q => simp [Addr.add, World.cell?] at hc0; split at hc0 <;> simp at hc0
      subst hspot
      refine ⟨b, off, rfl, cell_lt (p := ⟨b, off, none⟩) (by simpa [Addr.add] using hc0), fun i hi => ?_⟩
      simp only [List.length_map, List.length_take] at hi
      have hc := hcell i (by omega)
      have e1 : (⟨b, off, none⟩ : Addr).add i = ⟨b, off + i, none⟩ := by unfold Addr.add; split <;> simp_all
      rw [e1] at hc
      rw [hc]
      simp only [List.getElem_map, List.getElem_take]
      have hi2 : i < zs.length := by omega
      have e2 : zs.getD i 0 = zs[i] := by simp [List.getD, hi2]
      rw [e2]
      have := hb zs[i] (List.getElem_mem hi2)
      congr 2
      omega
end
end Go.Proofs.YtoabhnofppledaaGreatDoor
namespace Go.Proofs.YtoabhnofppledaaGreatDoor
open Go.ChangeShapes Go.WideShapes Go.ChangeAt Go.RowKit Go.Joins
theorem cellsR : Tryz.prog.cellsOf 26 = 4 := by kernel_rfl
theorem cellsV : Tryz.prog.cellsOf 28 = 8 := by kernel_rfl
theorem cellsB : Tryz.prog.cellsOf 4 = 1 := by kernel_rfl
theorem cellsS : Tryz.prog.cellsOf 22 = 1 := by kernel_rfl
theorem array8 {α : Type} {cs : Array α} (h : cs.size = 8) : ∃ c0 c1 c2 c3 c4 c5 c6 c7, cs = #[c0, c1, c2, c3, c4, c5, c6, c7] := by
  obtain ⟨l⟩ := cs
  rcases l with _ | ⟨c0, _ | ⟨c1, _ | ⟨c2, _ | ⟨c3, _ | ⟨c4, _ | ⟨c5, _ | ⟨c6, _ | ⟨c7, _ | ⟨c8, l⟩⟩⟩⟩⟩⟩⟩⟩⟩ <;> simp at h
  exact ⟨c0, c1, c2, c3, c4, c5, c6, c7, rfl⟩
section
variable {H : Type} {enc : TypeId × Value → H} {W : World} {base : Nat} {held : Bool}
theorem open_intc {m : Nat} {c0 c1 : Value} {y : DataW H × List MemPlace} (h : DataW.trod enc Tryz.prog W base (fun _ => true) held m 24 [c0, c1] = some y) :
    ∃ s A n c xs, c0 = .bool s ∧ c1 = .slice A n c ∧ RI W A n c xs := by
  obtain ⟨y0, y1, k, _, _, h0, h1⟩ := trod_struct2 Tryz.underlying24 h
  rw [cellsB] at h0
  rw [cellsS] at h1
  simp only [List.drop_zero, List.drop_succ_cons, List.take_succ_cons, List.take_zero] at h0 h1
  obtain ⟨s, e0, _⟩ := DataW.trod_bool Tryz.underlying4 h0
  injection e0 with e0 _
  obtain ⟨A, n, c, xs, rfl, g1, g2, g3, g4⟩ := open_words h1
  exact ⟨s, A, n, c, xs, e0, rfl, g1, g2, g3, g4⟩
set_option maxRecDepth 100000 in
theorem open_ratc {m : Nat} {c0 c1 c2 c3 : Value} {y : DataW H × List MemPlace} (h : DataW.trod enc Tryz.prog W base (fun _ => true) held m 26 [c0, c1, c2, c3] = some y) :
    ∃ s A n c t B m d xs ys, c0 = .bool s ∧ c1 = .slice A n c ∧ c2 = .bool t ∧ c3 = .slice B m d ∧ RI W A n c xs ∧ RI W B m d ys := by
  obtain ⟨y0, y1, k, _, _, h0, h1⟩ := trod_struct2 Tryz.underlying26 h
  rw [Tryz.cellsI] at h0 h1
  simp only [List.drop_zero, List.drop_succ_cons, List.take_succ_cons, List.take_zero] at h0 h1
  obtain ⟨s, A, n, c, xs, rfl, rfl, r1⟩ := open_intc h0
  obtain ⟨t, B, m, d, ys, rfl, rfl, r2⟩ := open_intc h1
  exact ⟨s, A, n, c, t, B, m, d, xs, ys, rfl, rfl, rfl, rfl, r1, r2⟩
set_option maxRecDepth 100000 in
theorem open_iv {r : Reach} {b0 : Nat} {v : Value} {d : DataW H} {p : List MemPlace} (hv : Value.okWide Tryz.prog W r b0 28 v) (h : DataW.Trod enc Tryz.prog W base (fun _ => true) held 28 v d p) :
    ∃ s A n c t B m d s' A' n' c' t' B' m' d' xs ys xs' ys', v = .agg #[.bool s, .slice A n c, .bool t, .slice B m d, .bool s', .slice A' n' c', .bool t', .slice B' m' d'] ∧ RawV W A n c xs B m d ys A' n' c' xs' B' m' d' ys' := by
  obtain ⟨cs, rfl, hsz⟩ := okWide_struct Tryz.underlying28 hv
  obtain ⟨c0, c1, c2, c3, c4, c5, c6, c7, rfl⟩ := array8 (hsz.trans cellsV)
  obtain ⟨fuel, hf⟩ := h
  obtain ⟨y0, y1, k, _, _, h0, h1⟩ := trod_struct2 Tryz.underlying28 hf
  rw [cellsR] at h0 h1
  simp only [Value.cells, List.drop_zero, List.drop_succ_cons, List.take_succ_cons, List.take_zero] at h0 h1
  obtain ⟨s, A, n, c, t, B, m, d, xs, ys, rfl, rfl, rfl, rfl, r1, r2⟩ := open_ratc h0
  obtain ⟨s', A', n', c', t', B', m', d', xs', ys', rfl, rfl, rfl, rfl, r3, r4⟩ := open_ratc h1
  exact ⟨s, A, n, c, t, B, m, d, s', A', n', c', t', B', m', d', xs, ys, xs', ys', rfl, r1, r2, r3, r4⟩
end
def laidI : List (String × DataW Unit) := [("math/bits.deBruijn64tab", Rows.laid_math_bits_deBruijn64tab)]
def tabY : List Int := Lib.deBruijn64tab.map fun n : Nat => (n : Int)
theorem tabY_at : ∀ j : Fin 64, tabY.getD j.val 0 = ((Lib.deBruijn64tab.getD j.val 0 : Nat) : Int) := by decide +kernel
theorem laidI_tab : laidI = [("math/bits.deBruijn64tab", Lib.tabData .u8 tabY)] := by kernel_rfl
theorem gTab : Tryz.prog.globalNamed "math/bits.deBruijn64tab" = some 0 := by kernel_rfl
theorem tTab : (Tryz.prog.globals[0]?).map (·.type) = some 151 := by kernel_rfl
theorem tab_of_laid {W : World} (h : laidMet Tryz.prog laidI W) : Tab W := by
  rw [laidI_tab] at h
  have hT := Lib.tabIs_of_head gTab tTab Tryz.underlying151 Tryz.underlying5 (by kernel_rfl) (by kernel_rfl) h
  intro j hj
  have := hT.cell gTab j (by rw [show tabY.length = 64 from by decide +kernel]; exact hj)
  rw [tabY_at ⟨j, hj⟩] at this
  exact this
theorem doorI_met (os : Os) (args : Array Value) : laidMetH Tryz.prog laidI ((World.doorLaid Tryz.prog 400 os).forCall (fun _ _ => 0) ⟨#[], args, []⟩).memory :=
  laidMetH_of_parts3 (fuel := 8) (laidMet_of_run' 8 (by kernel_rfl) (by kernel_rfl)) (by kernel_rfl) (by kernel_rfl)
theorem tab_of_laidH {W : World} (h : laidMetH Tryz.prog laidI W) : Tab W := by
  rw [MakeChecks.laidMetH_plain _ _ _ (by kernel_rfl)] at h
  exact tab_of_laid h
end Go.Proofs.YtoabhnofppledaaGreatDoor
