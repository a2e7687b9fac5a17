/- Walks and laws, a part. -/
import Derived.Test.YtgagcochepnelaaGreatDoorP4
import Derived.Test.YtgagcochepnelaaGreatDoorP11
import Derived.Test.YtgagcochepnelaaGreatDoorP8
import Derived.Test.YtgagcochepnelaaGreatDoorP10
import Derived.Test.YtgagcochepnelaaGreatDoorP7
import Derived.Test.YtgagcochepnelaaGreatDoorP5
import Derived.Test.YtgagcochepnelaaGreatDoorP6
set_option linter.unusedSimpArgs false
set_option linter.unusedVariables false
set_option maxHeartbeats 64000000
namespace Go.Proofs.YtgagcochepnelaaGreatDoor
section
open Go.RowKit
section
variable {P : Program} {ops : Array Oper} {Q : Exit -> Act -> World -> Prop} {md : Region.Mode} {S : World -> Prop} {z : Nat}
def wpS (P : Program) (md : Region.Mode) (ops : Array Oper) (Q : Exit -> Act -> World -> Prop) (S : World -> Prop) (z : Nat) : Nat -> Array Bool -> Act -> World -> Prop
 | 0, L, a, w => Region.ready md ops L = [] /\ Q .normal a w
 | f + 1, L, a, w =>
  (Region.ready md ops L = [] -> Q .normal a w) /\
  ∀ i ∈ Region.ready md ops L, wpOp P ops Q i (fun a' w' => ((L.setIfInBounds i true).getD z false = true \/ S w') /\ wpS P md ops Q S z f (L.setIfInBounds i true) a' w') a w
theorem wpS.any : ∀ (f : Nat) (L : Array Bool) (a : Act) (w : World), wpS P md ops Q S z f L a w -> wpAny P md ops Q f L a w
 | 0, _, _, _, h => h
 | f + 1, _, _, _, h => ⟨h.1, fun i hi => wpOp_mono (fun a' w' h' => wpS.any f _ a' w' h'.2) (h.2 i hi)⟩
theorem wpS.start {id : Nat} {a : Act} {w : World} (z : Nat) (hm : P.follows .mixedOrders = true) (hQ : QStill Q) (h : QStill Q -> wpS P .any ops Q S z ops.size (Array.replicate ops.size false) a w.drew) : (Code.region id ops true).wp P Q a w :=
 wp_region_any hm (wpS.any _ _ _ _ (h hQ))
theorem wpS.first {i : Nat} {oi : Oper} {v : Value} (hi : ops[i]? = some oi) (hs : Region.noSelect ops = true) (hiz : i ≠ z) (hw : Waits md ops i z) (hQ : QStill Q) :
  ∀ (f : Nat) (L : Array Bool) (a : Act) (w : World), L.size = ops.size -> L.getD z false = false ->
   (∀ j oj, ops[j]? = some oj -> j ≠ i -> L.getD j true = false -> (∀ e ∈ oj.after, Region.binds md e = true -> e.on ≠ i) -> oi.apart ops oj = true) ->
   i ∈ Region.ready md ops L -> YieldsIf P ops S oi v a -> S w ->
   wpS P md ops Q S z f (L.setIfInBounds i true) (a.put oi.dst v) w -> wpS P md ops Q S z (f + 1) L a w := by
 have hsel := Region.noSelect_spec hs;intro f
 induction f with
 | zero =>
  intro L a w _ _ _ hr hy hS H;refine ⟨(fun h0 => by rw [h0] at hr; cases hr), fun j hj => ?_⟩
  by_cases hji : j = i
  ·subst hji; exact hy.wpOp hi hS ⟨.inr hS, H⟩
  ·have := ready_mono hj hji
   rw [H.1] at this
   cases this
 | succ f ih =>
  intro L a w hsz hzL hfree hr hy hS H;refine ⟨(fun h0 => by rw [h0] at hr; cases hr), fun j hj => ?_⟩
  by_cases hji : j = i
  ·subst hji; exact hy.wpOp hi hS ⟨.inr hS, H⟩
  ·have hiL := (mem_ready.1 hr).1
   have hjz : j ≠ z := fun e => waits_not hw hiL hzL hsz (e ▸ hj)
   obtain ⟨hjun, oj, hoj, hall⟩ := mem_ready.1 hj
   have hnot : ∀ e ∈ oj.after, Region.binds md e = true -> e.on ≠ i := fun e he hb hh => by
    have h1 := hall e he hb;rw [hh] at h1
    have hlt : i < L.size := by
     rcases Nat.lt_or_ge i L.size with h | h
     ·exact h
     ·simp [h] at h1
    simp [hlt] at h1 hiL;rw [h1] at hiL
    cases hiL
   have h1 := H.2 j (ready_mono hj hji);have h2 := wpOp_putIf hoj (hfree j oj hoj hji hjun hnot) (fun cs b => hsel i oi cs b hi) (fun cs b => hsel j oj cs b hoj) (fun c a w => (hQ.put c a _ _ w).1) hy h1;refine wpOp_mono (fun a' w' h3 => ?_) h2;obtain ⟨hy', hS', H'⟩ := h3
   have hzz : ((L.setIfInBounds i true).setIfInBounds j true).getD z false = false := by
    rw [getD_set_ne false hjz, getD_set_ne false hiz]; exact hzL
   have hE : S w' := by
    rcases hS' with h | h
    ·rw [hzz] at h; cases h
    ·exact h
   refine ⟨.inr hE, ih (L.setIfInBounds j true) a' w' (by simpa using hsz) (by rw [getD_set_ne false hjz]; exact hzL) ?_ (ready_mono hr (Ne.symm hji)) hy' hE ?_⟩
   ·intro k ok hk hki hun hno
    refine hfree k ok hk hki ?_ hno
    by_cases hjk : j = k
    ·subst hjk; exact hjun
    ·rwa [getD_set_ne true hjk] at hun
   ·rw [Array.setIfInBounds_comm _ _ hji]
    exact H'
theorem wpS.take {f i : Nat} {oi : Oper} {d : Option Tmp} {v : Value} {L : Array Bool} {a : Act} {w : World} (hi : ops[i]? = some oi) (hd : oi.dst = d) (hs : Region.noSelect ops = true) (hf : Region.free md ops L i = true)
  (hr : (Region.ready md ops L).contains i = true) (hz : (i != z && waitsB md ops i z && !L.getD z false && L.size == ops.size) = true) (hQ : QStill Q) (hy : YieldsIf P ops S oi v a) (hS : S w)
  (h : wpS P md ops Q S z f (L.setIfInBounds i true) (a.put d v) w) : wpS P md ops Q S z (f + 1) L a w := by
 subst hd;simp only [Bool.and_eq_true, bne_iff_ne, Bool.not_eq_true', beq_iff_eq] at hz;obtain ⟨⟨⟨h1, h2⟩, h3⟩, h4⟩ := hz;exact wpS.first hi hs h1 (waitsB_spec h2) hQ f L a w h4 h3 (fun j oj hj hne hun hno => Region.free_spec hi hf j oj hj hne hun hno) (by simpa using hr) hy hS h
theorem wpS.call {f i : Nat} {o : Oper} {L : Array Bool} {a : Act} {w : World} (ho : ops[i]? = some o) (hr : Region.ready md ops L = [i])
  (h : ∀ K : Act -> World -> Prop, Shut (∀ a' w', S w' -> wpS P md ops Q S z f (L.setIfInBounds i true) a' w' -> K a' w') -> if Region.wanted o (yielded ops a.tmps) = true then Oper.wp P o a w K Q else K (a.put o.dst undef) w) : wpS P md ops Q S z (f + 1) L a w := by
 refine ⟨(fun h0 => by rw [hr] at h0; cases h0), fun j hj => ?_⟩;rw [hr, List.mem_singleton] at hj;subst hj;exact wpOp_step ho fun K hK => h K (fun a' w' e hL => hK a' w' ⟨.inr e, hL⟩)
theorem wpS.tail {f i : Nat} {o : Oper} {L : Array Bool} {a : Act} {w : World} (ho : ops[i]? = some o) (hr : Region.ready md ops L = [i]) (hz : (L.setIfInBounds i true).getD z false = true)
  (h : ∀ K : Act -> World -> Prop, Shut (∀ a' w', wpS P md ops Q S z f (L.setIfInBounds i true) a' w' -> K a' w') -> if Region.wanted o (yielded ops a.tmps) = true then Oper.wp P o a w K Q else K (a.put o.dst undef) w) : wpS P md ops Q S z (f + 1) L a w := by
 refine ⟨(fun h0 => by rw [hr] at h0; cases h0), fun j hj => ?_⟩;rw [hr, List.mem_singleton] at hj;subst hj;exact wpOp_step ho fun K hK => h K (fun a' w' hL => hK a' w' ⟨.inl hz, hL⟩)
theorem wpS.done {L : Array Bool} {a : Act} {w : World} (hr : Region.ready md ops L = []) (h : Q .normal a w) : ∀ f, wpS P md ops Q S z f L a w
 | 0 => ⟨hr, h⟩
 | _ + 1 => ⟨fun _ => h, by rw [hr]; simp⟩
end
end
section
open Go.RowKit
attribute [local go_sem ↓] Go.wp_at_zero Go.wp_at_succ
def okI : Nat -> Nat -> Prop
 | 0, e => 4 * e + 1 <= 29000
 | h + 1, e => (4 * iP (h + 1) e + 10 <= 29000 /\ 4 * iE (h + 1) e + 10 <= 29000) /\ okI h (e + e + eV (h + 1))
def RetInv (r : List Int × Int) (L M : Nat) (w : World) (e : Ending) (w' : World) : Prop :=
 ∃ A n c s B m d, e = .returned (.tuple #[.slice A n c, .agg #[.bool s, .slice B m d]]) /\ Row2 w' w.heap.size (.slice A n c) r.1 L /\ NI w' r.2 M s B m d /\ Ext w w'
theorem step_append_rowG {base n c L : Nat} {A : Option Addr} {v : Value} {zs ys : List Int} {w : World} {ops : Array Oper} {o : Oper} {a : Act} {K : Act -> World -> Prop} {Q : Exit -> Act -> World -> Prop} {E : Prop} (hgd : o.guard = Option.none) (x y : Operand)
  (hop : o.op = .call { callee := .builtin .append, args := #[x, y], argTypes := #[70, 70] })
  (hx : a.eval x = v) (hy : a.eval y = .slice A n c)
  (h : Row2 w base v zs L) (hp : IPol w A n c ys L) (hl : zs.length <= 1000) (hn : n <= 1000) (hbase : base <= w.heap.size)
  (hK : ∀ v' w', Row2 w' base v' (zs ++ ys) L -> w.grownBy w' v.ownBlock -> (v'.ownBlock = v.ownBlock \/ v'.ownBlock = some w.heap.size) -> K (a.put o.dst v') w') :
  if Region.wanted o (yielded ops a.tmps) = true then Oper.wp Tryz.prog o a w K Q else E := by
 have hw : Region.wanted o (yielded ops a.tmps) = true := by simp [Region.wanted, hgd]
 rw [if_pos hw]
 have key : ∃ v' w', (Builtin.append_ #[70, 70] o.type #[v, .slice A n c]).run Tryz.prog w = .ok v' w' /\ Row2 w' base v' (zs ++ ys) L /\ w.grownBy w' v.ownBlock /\ (v'.ownBlock = v.ownBlock \/ v'.ownBlock = some w.heap.size) := by
  rcases Nat.eq_zero_or_pos n with h0 | h0
  ·subst h0
   have hps : ys = [] := List.eq_nil_of_length_eq_zero hp.len;subst hps;exact ⟨v, w, run_append_rowI0 h, by rw [List.append_nil]; exact h, World.grownBy.refl w _, Or.inl rfl⟩
  ·exact run_append_rowI (ty := o.type) h hp h0 hl hn hbase
 obtain ⟨v', w', hr, h2, h3, h4⟩ := key;unfold Oper.wp execOp;simp only [hop, resolve, invoke, builtin, Sem.run_bind, Sem.run_pure, Result.andThen_ok, List.map_toArray, List.map_cons, List.map_nil, hx, hy, hr];exact hK v' w' h2 h3 h4
section
variable {w w' : World} {z y : Int} {zs : List Int} {v : Value} {base L M : Nat} {s t : Bool} {A B : Option Addr} {n c m d : Nat} {qs ts : List Rat} {sx tx : Bool} {Ax Bx : Option Addr} {nx cx mx dx : Nat}
theorem Row2.farT (h : Row2 w base v zs L) (hb : ∀ g T cs, v.ownBlock = some g -> Box w g T cs -> Box w' g T cs) (hn : ∀ z L s A n c, NI w z L s A n c -> NI w' z L s A n c) : Row2 w' base v zs L := by
 obtain ⟨cs, h1, h2⟩ := h.own
 rcases h1.2 with ⟨rfl, h3⟩ | ⟨g, cap, cur, rfl, hbg, hg, hnc, hcm, hcs, htk⟩
 ·exact ⟨⟨cs, ⟨h1.1, .inl ⟨rfl, h3⟩⟩, h2.ni hn⟩, fun g hg => by cases hg⟩
 ·refine ⟨⟨cs, ⟨h1.1, .inr ⟨g, cap, cur, rfl, hbg, hb g _ _ rfl hg, hnc, hcm, hcs, htk⟩⟩, h2.ni hn⟩, ?_⟩
  intro g' hg'
  injection hg' with hg'
  subst hg';obtain ⟨cur2, e2, fz2, h4, h5⟩ := h.nwb g rfl;rw [hg] at h4
  injection h4 with h4
  injection h4 with h4
  subst h4;exact ⟨_, _, _, hb g _ _ rfl hg, h5⟩
end
theorem Row2.set2 {w : World} {base g k l n c L : Nat} {v : Value} {zs : List Int} {T : TypeId} {x s : Bool} {P A : Option Addr} (h : Row2 w base v zs L) (hb : Box w g T #[.bool x, .slice P k l]) (hne : ∀ j, v.ownBlock = some j -> j ≠ g) : Row2 (Go.Proofs.YtgagcochepnelaaGreatDoor.set2 w g (.bool s) (.slice A n c)) base v zs L :=
 h.farT (fun j _ _ hj hB => (fin_dual hb).2.2.2 _ _ _ (hne j hj) hB) (fin_dual hb).2.1
section
variable {Ar Af : Option Addr} {nr cr nf cf : Nat} {ts : List (List Rat)}
set_option maxRecDepth 100000 in
theorem p_inverseT (ht : TowL ts) (hs : ∀ r ∈ ts, ∀ q ∈ r, SmQ q) (hRt : TowI (ringR ts).1) (hnr : nr <= 4) (h : Nat) : ∀ {w : World} {A : Option Addr} {n c : Nat} {xs : List Int} {X e : Nat} (_hR : ISl w Ar nr cr (ringR ts).1 166) (_ha : IPol w A n c xs X) (_hn : n = 2 ^ h) (_hh : h <= nr) (_hX : X = 4 * e + 1) (_hok : okI h e) (_hab : AbsL xs (W4 ^ e)) (_hT : Tab w),
  Calls Tryz.prog 71 #[.agg #[.slice Ar nr cr, .slice Af nf cf], .slice A n c] w (RetInv (invL (radI (ringR ts).1) h xs) (4 * iE h e + 2) (4 * iP h e + 1) w) := by
 induction h with
 | zero =>
  intro w A n c xs X e hR ha hn hh hX hok hab hT;have hn1 : n = 1 := hn;subst hn1;have hj : 0 < xs.length := by rw [ha.len]; omega
  obtain ⟨b, off, rfl, hr⟩ := ha.at_ (fun e => by rw [e] at hj; exact absurd hj (Nat.not_lt_zero _));have hX2 : X = 4 * e + 1 := hX;have hok2 : 4 * e + 1 <= 29000 := hok
  have hm : invL (radI (ringR ts).1) 0 xs = (([1] : List Int), xs[0]) := by
   rw [invL, List.headD_eq_head?_getD, List.head?_eq_getElem?, List.getElem?_eq_getElem hj]
   rfl
  have Hm := Lib.hid hm;clear hm hX
  go_enter Tryz.func71, Tryz.ntmps71
  go_upto_region 2 with (fail)
  obtain ⟨W, hW, EW, bx, b5, hz⟩ := box2 w 72 28 #[.slice Ar nr cr, .slice Af nf cf] #[Value.bool false, Value.slice none 0 0];rw [<- hW];clear hW hz;obtain ⟨sx, Ax, nx, cx, e0, e1, hx⟩ := (hr.ext EW).at_ 0 hj;generalize xs[0] = x0 at *;rw [Nat.mul_zero, Nat.add_zero] at e0 e1;refine wpL.st 6 (fun hQ ES => ?_);refine wpL.u 2 23 hQ ES ?_
  try simp only [zP]
  refine wpL.u 3 24 hQ ES ?_
  try simp only [zP]
  refine wpL.t 4 25 ?v_2 hQ ?y_2 ES ?_
  case y_2 => intro w' hSw;have k0 := hSw.cellv e0;have k1 := hSw.cellv e1;go_simp;try rfl
  try simp only [zP]
  refine wpL.cl (i := 0) rfl (fun K hK => ?_);go_simp
  (go_at_call 90; refine (p_FromInt 1 (by omega) (by omega)).mono ?_; rintro e wa ⟨s7, A7, n7, c7, rfl, h7, hx0⟩)
  refine hK.out _ _ (Ext.trans ES hx0) ?_;clear hK K
  try simp only [zP]
  refine wpL.cl (i := 1) rfl (fun K hK => ?_);go_simp;obtain ⟨wb, hwb, exb, bb, hzb⟩ := box1 wa 28 #[.bool s7, .slice A7 n7 c7];rw [<- hwb];have ES5 := (Ext.trans ES hx0).trans exb;refine hK.out _ _ ES5 ?_;clear hK K hwb hzb
  try simp only [zP]
  refine wpL.u 5 4 hQ ES5 ?_
  try simp only [zP]
  have z0 := (b5.ext ES5).cell 0 _ rfl;have z1 := (b5.ext ES5).cell 1 _ rfl;have f0 := (b5.ext ES5).frozen 0;have f1 := (b5.ext ES5).frozen 1;refine wpL.tl (i := 6) rfl (fun K hK => ?_);go_simp;refine hK.out _ _ ?_;clear hK K
  try simp only [zP]
  refine wpL.done (by kernel_rfl) ?_ _;clear hQ
  go_wp2_with fail
  obtain ⟨b1, b2, b3, b4⟩ := fin_dual (s := sx) (A := Ax) (n := nx) (c := cx) (b5.ext ES5);have r0 := b1.cell 0 (.bool sx) rfl;have r1 := b1.cell 1 (.slice Ax nx cx) rfl;have hrow := ((show IRow wb wa.heap.size [1] 2 from ⟨_, bb, .cons (h7.ext exb) .nil⟩).row2 (base := w.heap.size) (n := 1) (by have := (EW.trans (Ext.trans ES hx0)).size; omega) rfl (by omega)).set2 (s := sx) (A := Ax) (n := nx) (c := cx) (b5.ext ES5) (by intro j hj; injection hj with hj; subst hj; show wa.heap.size ≠ w.heap.size + 1; have := (Ext.trans ES hx0).size; have := b5.lt; omega);unfold set2 at r0 r1;refine bodyPost_ret (v := .tuple #[.slice (some ⟨wa.heap.size, 0, Option.none⟩) 1 1, .agg #[.bool sx, .slice Ax nx cx]]) (by simp [results, Tryz.results71, go_sem, r0, r1]) rfl ⟨_, _, _, _, _, _, _, rfl, ?_, ?_, b3 _ (EW.trans ES5) (by omega)⟩
  ·rw [Hm.out]
   exact hrow.leT (by omega)
  ·rw [Hm.out]
   exact (b2 _ _ _ _ _ _ (hx.ext ES5)).le (by show X <= 4 * e + 1; omega)
 | succ h ih =>
  intro w A n c xs X e hR ha hn hh hX hok hab hT;obtain ⟨e', he'⟩ : ∃ e', e' = e + e + eV (h + 1) := ⟨_, rfl⟩;obtain ⟨hok1, hok2⟩ : (4 * iP (h + 1) e + 10 <= 29000 /\ 4 * iE (h + 1) e + 10 <= 29000) /\ okI h (e + e + eV (h + 1)) := hok;have hiP : iP (h + 1) e = iP h e' + e' := by rw [he']; rfl
  have hiE : iE (h + 1) e = e + iE h e' + eV h := by rw [he']; rfl
  have hV : eV (h + 1) = eV h + (1 + 2 * (2 ^ h + eF h) + eV h + 1) := rfl;obtain ⟨k, hk⟩ : ∃ k, k = 2 ^ h := ⟨_, rfl⟩;have hxl := ha.len;rw [hn] at hxl;have HM2 := Lib.hid (show AbsL (mulL (radI (ringR ts).1) h (xs.drop (2 ^ h)) (radI (ringR ts).1 h)) (W4 ^ (e + e + eV (h + 1))) from (mul_abs ht hs (h := h) (hab.drop (2 ^ h)) (radI_val ht hs h)).le (Nat.pow_le_pow_right W4_pos (by omega)));have HNL := Lib.hid (norm_abs ht hs (h := h) hab);have HBD0 := Lib.hid (invL_bd ht hs h (take_len hxl) ((hab.take (2 ^ h)).le (Nat.pow_le_pow_right W4_pos (show e <= e + e + eV (h + 1) by omega))));have hnk : n = k + k := by rw [hn, hk, two_pow_s]
  have hk0 : 0 < k := by rw [hk]; exact Nat.pow_pos (by omega)
  have hk1 : k <= 8 := by rw [hk]; exact Nat.le_trans (Nat.pow_le_pow_right (by omega) (show h <= 3 by omega)) (by decide)
  have hst := szP_step 166 h;have hs2 := (m_few (h + 1) (by omega)).2.2.2.2.1;have HXL := Lib.hid hxl;have HAB := Lib.hid hab;have HOK := Lib.hid hok2;rw [<- he'] at HOK;rw [hiP, hiE] at hok1;have HIP := Lib.hid hiP;have HIE := Lib.hid hiE;have HE' := Lib.hid he';have HSZ := Lib.hid (And.intro hok1 (And.intro hst (And.intro hs2 hX)));have hee : e <= e' := by omega
  have hbig : e' <= 7247 /\ X <= 14500 := by omega
  have HK := Lib.hid hk;have Hn := Lib.hid hn;have Hnk := Lib.hid hnk;have hn16 : n <= 16 := by omega
  have hn0 : 0 < n := by omega
  have g1 : ((n : Int) == 1) = false := beq_eq_false_iff_ne.2 (by omega);have hmk := mk_ints k (by omega);clear hn hk hst hnk hxl hok1 hok2 hiP hiE he' hs2 hX hab hV
  go_enter Tryz.func71, Tryz.ntmps71
  go_upto_region 1 with (fail)
  obtain ⟨W, hW, EW, bx, b5, hz0⟩ := box2 w 72 28 #[.slice Ar nr cr, .slice Af nf cf] #[Value.bool false, Value.slice none 0 0];rw [<- hW];clear hW hz0
  go_wp2_with fail
  refine (p_halvesT (k := k) (ha.ext EW) Hnk.out hk0 (by omega)).mono ?_;rintro ee V3 ⟨Aa, rfl, ha0, ha1, hx3⟩;replace bx := bx.ext hx3;replace b5 := b5.ext hx3;replace EW := EW.trans hx3;clear hx3
  go_upto_region 5 with (fail)
  refine at_world (fun U => Ext V3 U /\ IRow U V3.heap.size (List.replicate k 0) 1) ⟨(Ext.refl V3).alloc _, IRow.new V3 k 1⟩ ?_;rintro V4 ⟨ex, hz⟩;have hgz := EW.size;have hgz2 := hz.lt;have hb5 := b5.lt;generalize V3.heap.size = gz at hz hgz hgz2 hb5 ⊢;replace ha0 := ha0.ext ex;replace ha1 := ha1.ext ex;replace bx := bx.ext ex;replace b5 := b5.ext ex;replace EW := EW.trans ex;clear ex;replace hR := hR.ext EW;have hzp := hz.pol (n := k) List.length_replicate (by unfold maxLen; omega)
  go_wp2_with fail
  refine (p_noneT ha1 (by omega) (by omega)).mono ?_;rintro ee V5 ⟨rfl, hx5⟩;replace ha0 := ha0.ext hx5;replace ha1 := ha1.ext hx5;replace bx := bx.ext hx5;replace b5 := b5.ext hx5;replace hz := hz.ext hx5;replace hzp := hzp.ext hx5;replace hR := hR.ext hx5;replace EW := EW.trans hx5;clear hx5;have hl0 := ha0.len;have hl1 := ha1.len
  cases hn1 : noneB (xs.drop k) with
  | true =>
   have HI := Lib.hid (show invL (radI (ringR ts).1) (h + 1) xs = ((invL (radI (ringR ts).1) h (xs.take k)).1 ++ List.replicate k 0, (invL (radI (ringR ts).1) h (xs.take k)).2) by
    rw [invL, <- HK.out, if_pos hn1])
   clear hn1;have x0 := bx.cell 0 (.slice Ar nr cr) rfl;have x1 := bx.cell 1 (.slice Af nf cf) rfl
   go_wp2_with fail
   refine (ih (e := e') hR (ha0.leT (by have := HSZ.out; omega)) HK.out (by omega) rfl HOK.out (by rw [HE'.out]; exact (HAB.out.take k).le (Nat.pow_le_pow_right W4_pos (by omega))) (hT.ext EW)).mono ?_;rintro ee V6 ⟨A7, n7, c7, s7, B7, m7, d7, rfl, hrw, hpp, hx6⟩;clear x0 x1
   go_upto_region 7 with (fail)
   obtain ⟨V7, hV7, ex7, bp, hz7⟩ := box1 V6 28 #[.bool s7, .slice B7 m7 d7];rw [<- hV7];have hlr : (invL (radI (ringR ts).1) h (xs.take k)).1.length <= 8 := Nat.le_trans (invL_len _ _ _).1 (by rw [<- HK.out]; exact hk1);have hw5 := EW.size;have hb55 := b5.lt;have hb6 := hrw.block;have hs6 := hx6.size;clear hV7 hz7;replace hx6 := hx6.trans ex7;replace hrw := hrw.ext ex7;replace hpp := hpp.ext ex7;replace b5 := b5.ext hx6;replace hzp := hzp.ext hx6;replace EW := EW.trans hx6;have hs7 := ex7.size;generalize V6.heap.size = gp at bp hb6 hs6 hs7 ⊢;generalize V5.heap.size = bb at hrw hb6 hs6 hb55 hw5;have hrp : ∀ j, (Value.slice A7 n7 c7).ownBlock = some j -> w.heap.size + 1 < j /\ j ≠ gp := fun j hj => by have := hb6 j hj; omega
   have hbw : w.heap.size <= bb := by omega
   replace hzp := hzp.leT (M := 4 * iE h e' + 2) (by omega);clear hx6 ex7 hb6;have hdr := (Ext.refl V7).drew;have hds := hdr.size;have HS : (fun U => Ext w U /\ Box U gp 28 #[.bool s7, .slice B7 m7 d7]) V7.drew := ⟨EW.trans hdr, bp.ext hdr⟩;replace hrw := hrw.ext hdr;replace hzp := hzp.ext hdr;replace hpp := hpp.ext hdr;replace b5 := b5.ext hdr;clear hdr;refine wpS.start (S := (fun U => Ext w U /\ Box U gp 28 #[.bool s7, .slice B7 m7 d7])) 5 (by kernel_rfl) (fun _ _ _ _ _ => ⟨fun h => h, fun h => h⟩) (fun hQ => ?_);refine wpS.take (i := 0) (d := some 43) (v := ?v_4) rfl rfl (by kernel_rfl) (by kernel_rfl) (by kernel_rfl) (by kernel_rfl) hQ (Or.inl ⟨by rfl, ?y_4⟩) HS ?r_4
   case y_4 => intro w' hSw;go_simp;try rfl
   try simp only [zP]
   refine wpS.take (i := 1) (d := some 44) (v := ?v_5) rfl rfl (by kernel_rfl) (by kernel_rfl) (by kernel_rfl) (by kernel_rfl) hQ (Or.inl ⟨by rfl, ?y_5⟩) HS ?r_5
   case y_5 => intro w' hSw;go_simp;try rfl
   try simp only [zP]
   refine wpS.take (i := 3) (d := some 46) (v := ?v_6) rfl rfl (by kernel_rfl) (by kernel_rfl) (by kernel_rfl) (by kernel_rfl) hQ (Or.inl ⟨by rfl, ?y_6⟩) HS ?r_6
   case y_6 => intro w' hSw;have k0 := hSw.2.cell 0 _ rfl;have k1 := hSw.2.cell 1 _ rfl;go_simp;try rfl
   try simp only [zP]
   refine wpS.call (i := 2) rfl (by kernel_rfl) (fun K hK => ?_);refine step_append_rowG rfl _ _ rfl rfl rfl hrw hzp (by omega) (by omega) (by omega) ?_;intro v6 w6 q1 q2 q3;obtain ⟨A6, n6, c6, rfl, _⟩ := q1.pol;have E6 : Ext w w6 := Below.grown HS.1 q2 HS.1.size (fun g hg => by have := hrp g hg; omega);have bp6 := HS.2.own q2 (fun e => (hrp gp e).2 rfl);have b56 := b5.own q2 (fun e => by have := hrp _ e; omega);have hp6 := hpp.own hrw.nwb q2
   have hne6 : ∀ j, (Value.slice A6 n6 c6).ownBlock = some j -> j ≠ w.heap.size + 1 := by
    intro j hj
    rcases q3 with q3 | q3
    ·have := hrp j (q3 ▸ hj); omega
    ·rw [q3] at hj; injection hj with hj; subst hj; have := b5.lt; omega
   refine hK.out _ _ ⟨E6, bp6⟩ ?_
   try simp only [List.getElem_toArray, List.getElem_cons_succ, List.getElem_cons_zero]
   clear hK K
   try simp only [zP]
   refine wpS.take (i := 4) (d := some 4) (v := ?v_7) rfl rfl (by kernel_rfl) (by kernel_rfl) (by kernel_rfl) (by kernel_rfl) hQ (Or.inl ⟨by rfl, ?y_7⟩) ⟨E6, bp6⟩ ?r_7
   case y_7 => intro w' hSw;go_simp;try rfl
   try simp only [zP]
   have z0 := b56.cell 0 _ rfl;have z1 := b56.cell 1 _ rfl;have f0 := b56.frozen 0;have f1 := b56.frozen 1;refine wpS.tail (i := 5) rfl (by kernel_rfl) (by kernel_rfl) (fun K hK => ?_);go_simp;refine hK.out _ _ ?_;clear hK K
   try simp only [zP]
   refine wpS.done (by kernel_rfl) ?_ _;clear hQ
   go_wp2_with fail
   have hfin := (q1.mono (base2 := w.heap.size) (by omega)).set2 (s := s7) (A := B7) (n := m7) (c := d7) b56 hne6;obtain ⟨b1, b2, b3, b4⟩ := fin_dual (s := s7) (A := B7) (n := m7) (c := d7) b56;have r0 := b1.cell 0 (.bool s7) rfl;have r1 := b1.cell 1 (.slice B7 m7 d7) rfl;unfold Go.Proofs.YtgagcochepnelaaGreatDoor.set2 at r0 r1;refine bodyPost_ret (v := .tuple #[.slice A6 n6 c6, .agg #[.bool s7, .slice B7 m7 d7]]) (by simp [results, Tryz.results71, go_sem, r0, r1]) rfl ⟨_, _, _, _, _, _, _, rfl, ?_, ?_, b3 _ E6 (by omega)⟩
   ·rw [HI.out, HIE.out]
    exact hfin.leT (by omega)
   ·rw [HI.out, HIP.out]
    exact (b2 _ _ _ _ _ _ hp6).le (by omega)
  | false =>
   have HN1 := Lib.hid hn1;clear hn1
   go_wp2_with fail
   refine (p_noneT ha0 (by omega) (by omega)).mono ?_;rintro ee V6 ⟨rfl, hx6⟩;replace ha0 := ha0.ext hx6;replace ha1 := ha1.ext hx6;replace bx := bx.ext hx6;replace b5 := b5.ext hx6;replace hz := hz.ext hx6;replace hzp := hzp.ext hx6;replace hR := hR.ext hx6;replace EW := EW.trans hx6;clear hx6
   cases hnz : noneB (xs.take k) with
   | true =>
    obtain ⟨r, hr⟩ : ∃ r, r = invL (radI (ringR ts).1) h (mulL (radI (ringR ts).1) h (xs.drop k) (radI (ringR ts).1 h)) := ⟨_, rfl⟩
    have HI := Lib.hid (show invL (radI (ringR ts).1) (h + 1) xs = (List.replicate k 0 ++ r.1, r.2) by
     rw [invL, <- HK.out, if_neg (by rw [HN1.out]; decide), if_pos hnz, hr])
    have hlr : r.1.length <= 8 := by rw [hr]; exact Nat.le_trans (invL_len _ _ _).1 (by rw [<- HK.out]; exact hk1)
    have HR := Lib.hid hr;have HM3 := HM2.out;rw [<- HK.out, <- HE'.out] at HM3;have HMW := Lib.hid (W4_abs HM3);have HMA := Lib.hid HM3;clear hnz hr HM3
    go_wp2_with fail
    have ES0 := Ext.refl V6;refine wp_region_held_drew (S := Ext V6) (by kernel_rfl) ES0.drew (fun ES => ?_);clear ES0;refine Late.start1 (x := ⟨11, 12, 28, #[Value.bool false, Value.slice none 0 0]⟩) (n := 13) ⟨_, rfl, rfl, rfl, fun a w => by go_simp⟩ (fun _ _ _ _ _ => ⟨fun h => h, fun h => h⟩) ES rfl (fun hAl hQ => ?_);refine Late.t 0 51 ?v_8 hQ ?y_8 ?_
    case y_8 => intro w' hSw;have k00 := (bx.ext hSw).c2;go_simp;try rfl
    try simp only [zP]
    refine Late.t 1 52 ?v_9 hQ ?y_9 ?_
    case y_9 => intro w' hSw;have k00 := (bx.ext hSw).c2;go_simp;try rfl
    try simp only [zP]
    refine Late.u 2 53 hQ ?_
    try simp only [zP]
    refine Late.t 3 54 ?v_b hQ ?y_b ?_
    case y_b => intro w' hSw;have k00 := (bx.ext hSw).c2;go_simp;try rfl
    try simp only [zP]
    refine Late.u 4 55 hQ ?_
    try simp only [zP]
    refine Late.cl (i := 5) rfl hAl hQ (fun w5 e5 E5 K hK => ?_);go_simp
    (go_at_call 111; refine (p_lastT hRt (hR.ext E5) (by omega) (by omega) (by omega) HK.out).mono ?_; rintro e wk5 ⟨A9, c9, rfl, hla, hx5⟩)
    refine hK.out _ _ hx5 ?_;clear hK K
    try simp only [zP]
    refine Late.cl (i := 6) rfl hAl hQ (fun w6 e6 E6 K hK => ?_);go_simp
    (go_at_call 69; refine (p_timesT hRt (by omega) h (hR.ext E6) (ha1.ext E6) (hla.ext e6) HK.out (by omega) (by have := HSZ.out; omega)).mono ?_; rintro e wk6 ⟨A8, c8, rfl, htm, _, hx6⟩)
    refine hK.out _ _ hx6 ?_;clear hK K
    try simp only [zP]
    refine Late.callN (i := 7) rfl (by kernel_rfl) hAl (by kernel_rfl) (by kernel_rfl) (by kernel_rfl) hQ (fun w7 e7 E7 K hK => ?_);go_simp
    (go_at_call 71; refine (ih (e := e') (hR.ext E7) ((htm.ext e7).tight HMW.out) HK.out (by omega) rfl HOK.out HMA.out (hT.ext (EW.trans E7))).mono ?_; rintro e wk7 ⟨A7, n7, c7, s7, B7, m7, d7, rfl, hrw, hpp, hx7⟩)
    refine hK.out _ _ hx7 ?_;clear hK K
    try simp only [zP]
    refine LateN.take (i := 8) (d := some 50) (v := ?v_d) rfl rfl (by kernel_rfl) (by kernel_rfl) (by kernel_rfl) (by kernel_rfl) hQ (Or.inl ⟨by rfl, ?y_d⟩) ?r_d
    case y_d => intro w' hSw;have k00 := (bx.ext hSw).c2;go_simp;try rfl
    try simp only [zP]
    refine LateN.take (i := 9) (d := some 59) (v := ?v_e) rfl rfl (by kernel_rfl) (by kernel_rfl) (by kernel_rfl) (by kernel_rfl) hQ (Or.inl ⟨by rfl, ?y_e⟩) ?r_e
    case y_e => intro w' hSw;have k00 := (bx.ext hSw).c2;go_simp;try rfl
    try simp only [zP]
    refine LateN.take (i := 10) (d := some 60) (v := ?v_f) rfl rfl (by kernel_rfl) (by kernel_rfl) (by kernel_rfl) (by kernel_rfl) hQ (Or.inl ⟨by rfl, ?y_f⟩) ?r_f
    case y_f => intro w' hSw;have k00 := (bx.ext hSw).c2;go_simp;try rfl
    try simp only [zP]
    refine LateN.finish1 (fun g hg => Or.inr hg) (hAl _ (by simp)) (by kernel_rfl) (fun wz gp ez Ez lgp hN5 xb1 => ?_);clear hAl hQ ES;have p10 := xb1.cell 0 (Value.bool false) rfl;have p11 := xb1.cell 1 (Value.slice none 0 0) rfl;have f10 := xb1.frozen 0;have f11 := xb1.frozen 1;have e4 := fin_dual (s := s7) (A := B7) (n := m7) (c := d7) xb1
    try simp only [zP]
    refine wpAnyH_ready (rs := [12]) (by kernel_rfl) (by simp) (AllReadyH.cons rfl (fun K hK => ?_) AllReadyH.nil);go_simp;refine hK.out _ _ Ez (fun _ => ?_);clear hK K
    try simp only [zP]
    refine wpAnyH_ready (rs := [13]) (by kernel_rfl) (by simp) (AllReadyH.cons rfl (fun K hK => ?_) AllReadyH.nil);go_simp;refine hK.out _ _ (e4.2.2.1 _ Ez lgp) (fun _ => ?_);clear hK K
    try simp only [zP]
    have hne5 : ∀ j, (Value.slice A7 n7 c7).ownBlock = some j -> j ≠ gp := by
     intro j hj;have := hrw.block j hj;omega
    have hbs := E7.size;refine any_world (fun U => Ext V6 U /\ V6.heap.size <= gp /\ Box U gp 28 #[.bool s7, .slice B7 m7 d7] /\ Row2 U V6.heap.size (.slice A7 n7 c7) (invL (radI (ringR ts).1) h (mulL (radI (ringR ts).1) h (xs.drop k) (radI (ringR ts).1 h))).1 (4 * iE h e' + 2) /\ NI U (invL (radI (ringR ts).1) h (mulL (radI (ringR ts).1) h (xs.drop k) (radI (ringR ts).1 h))).2 (4 * iP h e' + 1) s7 B7 m7 d7 /\ (∀ j, (Value.slice A7 n7 c7).ownBlock = some j -> j ≠ gp)) ⟨e4.2.2.1 _ Ez lgp, lgp, e4.1, (((hrw.ext ez).mono hbs).set2 xb1 hne5), e4.2.1 _ _ _ _ _ _ (hpp.ext ez), hne5⟩ ?_;clear e4 p10 p11 f10 f11 xb1 hrw hpp hne5 hN5 Ez ez lgp hbs;rintro U9 ⟨EU9, lgp, bp, hrw, hpp, hnp⟩;refine wpAnyH_done (by kernel_rfl) ?_ _;rw [<- HR.out] at hrw hpp;have hw5 := EW.size;have hb55 := b5.lt;have hgz4 : gz < V6.heap.size := hz.lt;replace b5 := b5.ext EU9;replace hz := hz.ext EU9;replace EW := EW.trans EU9;obtain ⟨_, _, _, hv7, hys⟩ := hrw.pol
    injection hv7 with v1 v2 v3
    subst v1 v2 v3;have hrow := (hz.row2 (base := w.heap.size) (n := k) (by omega) List.length_replicate (by omega)).leT (M := 4 * iE h e' + 2) (by omega)
    have hrp : ∀ j, (Value.slice (some ⟨gz, 0, Option.none⟩) k k).ownBlock = some j -> w.heap.size + 1 < j /\ j ≠ gp := by
     intro j hj
     injection hj with hj
     subst hj
     show w.heap.size + 1 < gz /\ gz ≠ gp
     exact ⟨by omega, by omega⟩
    have hbw : w.heap.size <= w.heap.size := Nat.le_refl _;have hlk : (List.replicate k (0 : Int)).length <= 8 := by rw [List.length_replicate]; exact hk1
    have hn7 : n7 <= 8 := by rw [<- hys.len]; exact hlr
    have hs7 := EW.size;clear hnp EU9 hz hzp
    go_wp2_with fail
    have hdr := (Ext.refl U9).drew;have hds := hdr.size;have HS : (fun U => Ext w U /\ Box U gp 28 #[.bool s7, .slice B7 m7 d7]) U9.drew := ⟨EW.trans hdr, bp.ext hdr⟩;replace hrow := hrow.ext hdr;replace hys := hys.ext hdr;replace hpp := hpp.ext hdr;replace b5 := b5.ext hdr;clear hdr;refine wpS.start (S := (fun U => Ext w U /\ Box U gp 28 #[.bool s7, .slice B7 m7 d7])) 5 (by kernel_rfl) (fun _ _ _ _ _ => ⟨fun h => h, fun h => h⟩) (fun hQ => ?_);refine wpS.take (i := 0) (d := some 61) (v := ?v_g) rfl rfl (by kernel_rfl) (by kernel_rfl) (by kernel_rfl) (by kernel_rfl) hQ (Or.inl ⟨by rfl, ?y_g⟩) HS ?r_g
    case y_g => intro w' hSw;go_simp;try rfl
    try simp only [zP]
    refine wpS.take (i := 1) (d := some 62) (v := ?v_h) rfl rfl (by kernel_rfl) (by kernel_rfl) (by kernel_rfl) (by kernel_rfl) hQ (Or.inl ⟨by rfl, ?y_h⟩) HS ?r_h
    case y_h => intro w' hSw;go_simp;try rfl
    try simp only [zP]
    refine wpS.take (i := 3) (d := some 64) (v := ?v_i) rfl rfl (by kernel_rfl) (by kernel_rfl) (by kernel_rfl) (by kernel_rfl) hQ (Or.inl ⟨by rfl, ?y_i⟩) HS ?r_i
    case y_i => intro w' hSw;have k0 := hSw.2.cell 0 _ rfl;have k1 := hSw.2.cell 1 _ rfl;go_simp;try rfl
    try simp only [zP]
    refine wpS.call (i := 2) rfl (by kernel_rfl) (fun K hK => ?_);refine step_append_rowG rfl _ _ rfl rfl rfl hrow hys (by omega) (by omega) (by omega) ?_;intro v6 w6 q1 q2 q3;obtain ⟨A6, n6, c6, rfl, _⟩ := q1.pol;have E6 : Ext w w6 := Below.grown HS.1 q2 HS.1.size (fun g hg => by have := hrp g hg; omega);have bp6 := HS.2.own q2 (fun e => (hrp gp e).2 rfl);have b56 := b5.own q2 (fun e => by have := hrp _ e; omega);have hp6 := hpp.own hrow.nwb q2
    have hne6 : ∀ j, (Value.slice A6 n6 c6).ownBlock = some j -> j ≠ w.heap.size + 1 := by
     intro j hj
     rcases q3 with q3 | q3
     ·have := hrp j (q3 ▸ hj); omega
     ·rw [q3] at hj; injection hj with hj; subst hj; have := b5.lt; omega
    refine hK.out _ _ ⟨E6, bp6⟩ ?_
    try simp only [List.getElem_toArray, List.getElem_cons_succ, List.getElem_cons_zero]
    clear hK K
    try simp only [zP]
    refine wpS.take (i := 4) (d := some 4) (v := ?v_j) rfl rfl (by kernel_rfl) (by kernel_rfl) (by kernel_rfl) (by kernel_rfl) hQ (Or.inl ⟨by rfl, ?y_j⟩) ⟨E6, bp6⟩ ?r_j
    case y_j => intro w' hSw;go_simp;try rfl
    try simp only [zP]
    have z0 := b56.cell 0 _ rfl;have z1 := b56.cell 1 _ rfl;have f0 := b56.frozen 0;have f1 := b56.frozen 1;refine wpS.tail (i := 5) rfl (by kernel_rfl) (by kernel_rfl) (fun K hK => ?_);go_simp;refine hK.out _ _ ?_;clear hK K
    try simp only [zP]
    refine wpS.done (by kernel_rfl) ?_ _;clear hQ
    go_wp2_with fail
    have hfin := (q1.mono (base2 := w.heap.size) (by omega)).set2 (s := s7) (A := B7) (n := m7) (c := d7) b56 hne6;obtain ⟨b1, b2, b3, b4⟩ := fin_dual (s := s7) (A := B7) (n := m7) (c := d7) b56;have r0 := b1.cell 0 (.bool s7) rfl;have r1 := b1.cell 1 (.slice B7 m7 d7) rfl;unfold Go.Proofs.YtgagcochepnelaaGreatDoor.set2 at r0 r1;refine bodyPost_ret (v := .tuple #[.slice A6 n6 c6, .agg #[.bool s7, .slice B7 m7 d7]]) (by simp [results, Tryz.results71, go_sem, r0, r1]) rfl ⟨_, _, _, _, _, _, _, rfl, ?_, ?_, b3 _ E6 (by omega)⟩
    ·rw [HI.out, HIE.out]
     exact hfin.leT (by omega)
    ·rw [HI.out, HIP.out]
     exact (b2 _ _ _ _ _ _ hp6).le (by omega)
   | false =>
    have HN0 := Lib.hid hnz;clear hnz;obtain ⟨NRM, hNRM⟩ : ∃ N, N = normLI (radI (ringR ts).1) h xs := ⟨_, rfl⟩;obtain ⟨cg, hcg⟩ : ∃ g, g = gcdL 0 NRM := ⟨_, rfl⟩;obtain ⟨r, hr⟩ : ∃ r, r = invL (radI (ringR ts).1) h (NRM.map (· / ((cg : Nat) : Int))) := ⟨_, rfl⟩;have hNA := HNL.out;rw [<- hNRM, <- HE'.out] at hNA;have HNW := Lib.hid (W4_abs hNA);have HNA := Lib.hid hNA;have hlN : NRM.length = k := by rw [hNRM, normLI_len, HK.out]
    have HDA := Lib.hid (hNA.divs ((cg : Nat) : Int));have hbr := invL_bd ht hs h (a := NRM.map (· / ((cg : Nat) : Int))) (by rw [List.length_map, hlN, HK.out]) HDA.out;have hlr := invL_len (radI (ringR ts).1) h (NRM.map (· / ((cg : Nat) : Int)));rw [<- hr] at hbr hlr;rw [<- HK.out] at hlr;have HBR1 := Lib.hid hbr.1;have HBR2 := Lib.hid hbr.2;have hlr8 : r.1.length <= 8 := by omega
    have HLR := Lib.hid hlr.2;have HCG := Lib.hid hcg;have HR := Lib.hid hr;have HNRM := Lib.hid hNRM;have HLN := Lib.hid hlN
    have HI0 := Lib.hid (fun h0 : cg = 0 => show invL (radI (ringR ts).1) (h + 1) xs = ([], 0) by
     rw [invL, <- HK.out, if_neg (by rw [HN1.out]; decide), if_neg (by rw [HN0.out]; decide), <- HNRM.out, <- HCG.out, if_pos h0])
    have HI1 := Lib.hid (fun (h0 : cg ≠ 0) (h1 : r.2 = 0) => show invL (radI (ringR ts).1) (h + 1) xs = ([], 0) by
     rw [invL, <- HK.out, if_neg (by rw [HN1.out]; decide), if_neg (by rw [HN0.out]; decide), <- HNRM.out, <- HCG.out, if_neg h0, <- HR.out, if_pos h1])
    obtain ⟨v, hv⟩ : ∃ v, v = mulL (radI (ringR ts).1) h (xs.take k) r.1 ++ mulL (radI (ringR ts).1) h (subI (List.replicate k 0) (xs.drop k)) r.1 := ⟨_, rfl⟩;obtain ⟨gg, hgg⟩ : ∃ g, g = gcdL (r.2 * ((cg : Nat) : Int)).natAbs v := ⟨_, rfl⟩
    have HI2 := Lib.hid (fun (h0 : cg ≠ 0) (h1 : r.2 ≠ 0) => show invL (radI (ringR ts).1) (h + 1) xs = (v.map (· / ((gg : Nat) : Int)), (r.2 * ((cg : Nat) : Int)) / ((gg : Nat) : Int)) by
     rw [invL, <- HK.out, if_neg (by rw [HN1.out]; decide), if_neg (by rw [HN0.out]; decide), <- HNRM.out, <- HCG.out, if_neg h0, <- HR.out, if_neg h1, <- hv, <- hgg])
    have hva : AbsL v (W4 ^ (e + iE h e' + eV h)) := by
     rw [hv];refine AbsL.append (mul_abs ht hs (HAB.out.take _) hbr.1) (mul_abs ht hs ?_ hbr.1);rw [show W4 ^ e = 0 + W4 ^ e by omega];exact subI_abs AbsL.repl (HAB.out.drop _)
    have HVW := Lib.hid (W4_abs hva)
    have hcgle : cg <= W4 ^ e' := by
     by_cases hc : cg = 0
     ·rw [hc]; exact Nat.zero_le _
     ·rw [hcg]; exact gcd_le hNA (by rw [<- hcg]; exact hc) (fun hh => absurd rfl hh)
    have HPC := Lib.hid (W4_words (x := (r.2 * ((cg : Nat) : Int)).natAbs) (e := iP h e' + e') (by rw [Int.natAbs_mul, Int.natAbs_natCast, Nat.pow_add]; exact Nat.mul_le_mul hbr.2 hcgle));have HV := Lib.hid hv;have HGG := Lib.hid hgg;have HCD := Lib.hid (show ∀ z ∈ NRM, ((cg : Nat) : Int) ∣ z by rw [hcg]; exact (gcdL_dvd NRM 0).2);have HGD := Lib.hid (show (gg ∣ (r.2 * ((cg : Nat) : Int)).natAbs) /\ ∀ z ∈ v, ((gg : Nat) : Int) ∣ z by rw [hgg]; exact gcdL_dvd v _);clear hNRM hcg hr hNA hlN hbr hlr hv hgg hva hcgle;have x0 := bx.cell 0 (.slice Ar nr cr) rfl;have x1 := bx.cell 1 (.slice Af nf cf) rfl
    go_wp2_with fail
    refine (p_normT (h := h) (X := X) hRt (by omega) hR (ha.ext EW) Hn.out (by omega) (by have := HSZ.out; omega)).mono ?_;rintro ee V7 ⟨A9, c9, rfl, hnm, hx7⟩;clear x0 x1;rw [<- HNRM.out, <- HK.out] at hnm;replace hnm := hnm.tight HNW.out;replace ha0 := ha0.ext hx7;replace ha1 := ha1.ext hx7;replace bx := bx.ext hx7;replace b5 := b5.ext hx7;replace hz := hz.ext hx7;replace hzp := hzp.ext hx7;replace hR := hR.ext hx7;replace EW := EW.trans hx7;clear hx7;rw [<- HK.out]
    go_wp2_with fail
    refine (p_comDiv (NI.nil _ _) hnm hk0 (by omega) (by omega) (hT.ext EW)).mono ?_;rintro ee V8 ⟨s8, A8, n8, c8, rfl, hco, hx8⟩;rw [Int.natAbs_zero, <- HCG.out] at hco
    go_upto_region 13 with (fail)
    obtain ⟨V9, hV9, ex9, bc, hz9⟩ := box1 V8 28 #[.bool s8, .slice A8 n8 c8];rw [<- hV9];generalize V8.heap.size = gc at bc ⊢;clear hV9 hz9;replace hco := hco.ext ex9;replace hx8 := hx8.trans ex9;replace ha0 := ha0.ext hx8;replace ha1 := ha1.ext hx8;replace bx := bx.ext hx8;replace b5 := b5.ext hx8;replace hz := hz.ext hx8;replace hzp := hzp.ext hx8;replace hR := hR.ext hx8;replace hnm := hnm.ext hx8;replace EW := EW.trans hx8;clear hx8 ex9;have y0 := bc.cell 0 (.bool s8) rfl;have y1 := bc.cell 1 (.slice A8 n8 c8) rfl
    by_cases hc0 : cg = 0
    ·have HS := Lib.hid (show (((cg : Nat) : Int)).sign = 0 by rw [hc0]; rfl)
     have HIZ := Lib.hid (HI0.out hc0);clear hc0
     go_wp2_with fail
     refine (p_Sign hco (by omega)).mono ?_;rintro ee Va ⟨rfl, hxa⟩;rw [HS.out];clear y0 y1;have EWa := EW.trans hxa;have bw := b5.ext hxa;have z0 := bw.cell 0 _ rfl;have z1 := bw.cell 1 _ rfl;have f0 := bw.frozen 0;have f1 := bw.frozen 1
     go_wp2_with fail
     obtain ⟨b1, b2, b3, b4⟩ := fin_dual (s := false) (A := Option.none) (n := 0) (c := 0) bw;have r0 := b1.cell 0 (.bool false) rfl;have r1 := b1.cell 1 (.slice Option.none 0 0) rfl;unfold Go.Proofs.YtgagcochepnelaaGreatDoor.set2 at r0 r1;refine bodyPost_ret (v := .tuple #[.slice Option.none 0 0, .agg #[.bool false, .slice Option.none 0 0]]) (by simp [results, Tryz.results71, go_sem, r0, r1]) rfl ⟨_, _, _, _, _, _, _, rfl, ?_, ?_, b3 _ EWa (by omega)⟩
     ·rw [HIZ.out]
      exact Row2.nil _ _ _
     ·rw [HIZ.out]
      exact NI.nil _ _
    ·obtain ⟨S, hS, dS⟩ : ∃ S, (((cg : Nat) : Int)).sign = S /\ (S == 0) = false := ⟨_, rfl, beq_eq_false_iff_ne.2 (fun e => hc0 (by have := Int.sign_eq_zero_iff_zero.1 e; omega))⟩
     have HS := Lib.hid hS;have Hc0 := Lib.hid hc0;have Hcn := Lib.hid (show ((cg : Nat) : Int) ≠ 0 by omega);clear hS hc0
     go_wp2_with fail
     refine (p_Sign hco (by omega)).mono ?_;rintro ee Va ⟨rfl, hxa⟩;rw [HS.out];clear y0 y1;replace ha0 := ha0.ext hxa;replace ha1 := ha1.ext hxa;replace bx := bx.ext hxa;replace b5 := b5.ext hxa;replace bc := bc.ext hxa;replace hco := hco.ext hxa;replace hz := hz.ext hxa;replace hzp := hzp.ext hxa;replace hR := hR.ext hxa;replace hnm := hnm.ext hxa;replace EW := EW.trans hxa;clear hxa
     go_wp2_with fail
     have ES0 := Ext.refl Va;refine wp_region_held_drew (S := Ext Va) (by kernel_rfl) ES0.drew (fun ES => ?_);clear ES0;refine Late.start1 (x := ⟨8, 16, 28, #[Value.bool false, Value.slice none 0 0]⟩) (n := 10) ⟨_, rfl, rfl, rfl, fun a w => by go_simp⟩ (fun _ _ _ _ _ => ⟨fun h => h, fun h => h⟩) ES rfl (fun hAl hQ => ?_);refine Late.t 0 76 ?v_k hQ ?y_k ?_
     case y_k => intro w' hSw;have k00 := (bx.ext hSw).c2;have k10 := (bc.ext hSw).c2;go_simp;try rfl
     try simp only [zP]
     refine Late.u 1 77 hQ ?_
     try simp only [zP]
     refine Late.t 2 78 ?v_m hQ ?y_m ?_
     case y_m => intro w' hSw;have k00 := (bx.ext hSw).c2;have k10 := (bc.ext hSw).c2;go_simp;try rfl
     try simp only [zP]
     refine Late.cl (i := 3) rfl hAl hQ (fun w3 e3 E3 K hK => ?_);go_simp
     (go_at_call 116; refine (p_dividedT (hnm.ext E3) (hco.ext E3) (by omega) (by omega) Hcn.out HCD.out (by omega)).mono ?_; rintro e wk3 ⟨rfl, hdv, hx3⟩)
     refine hK.out _ _ hx3 ?_;clear hK K
     try simp only [zP]
     refine Late.callN (i := 4) rfl (by kernel_rfl) hAl (by kernel_rfl) (by kernel_rfl) (by kernel_rfl) hQ (fun w4 e4 E4 K hK => ?_);go_simp
     (go_at_call 71; refine (ih (e := e') (hR.ext E4) (((hdv.ext e4).pol (by rw [List.length_map]; exact HLN.out) (by unfold maxLen; omega))) HK.out (by omega) rfl HOK.out HDA.out (hT.ext (EW.trans E4))).mono ?_; rintro e wk4 ⟨A7, n7, c7, s7, B7, m7, d7, rfl, hrw, hpp, hx4⟩)
     refine hK.out _ _ hx4 ?_;clear hK K
     try simp only [zP]
     refine LateN.take (i := 5) (d := some 75) (v := ?v_n) rfl rfl (by kernel_rfl) (by kernel_rfl) (by kernel_rfl) (by kernel_rfl) hQ (Or.inl ⟨by rfl, ?y_n⟩) ?r_n
     case y_n => intro w' hSw;have k00 := (bx.ext hSw).c2;have k10 := (bc.ext hSw).c2;go_simp;try rfl
     try simp only [zP]
     refine LateN.take (i := 6) (d := some 81) (v := ?v_o) rfl rfl (by kernel_rfl) (by kernel_rfl) (by kernel_rfl) (by kernel_rfl) hQ (Or.inl ⟨by rfl, ?y_o⟩) ?r_o
     case y_o => intro w' hSw;have k00 := (bx.ext hSw).c2;have k10 := (bc.ext hSw).c2;go_simp;try rfl
     try simp only [zP]
     refine LateN.take (i := 7) (d := some 82) (v := ?v_p) rfl rfl (by kernel_rfl) (by kernel_rfl) (by kernel_rfl) (by kernel_rfl) hQ (Or.inl ⟨by rfl, ?y_p⟩) ?r_p
     case y_p => intro w' hSw;have k00 := (bx.ext hSw).c2;have k10 := (bc.ext hSw).c2;go_simp;try rfl
     try simp only [zP]
     refine LateN.finish1 (fun g hg => Or.inr hg) (hAl _ (by simp)) (by kernel_rfl) (fun wz gp ez Ez lgp hN5 xb1 => ?_);clear hAl hQ ES;have p10 := xb1.cell 0 (Value.bool false) rfl;have p11 := xb1.cell 1 (Value.slice none 0 0) rfl;have f10 := xb1.frozen 0;have f11 := xb1.frozen 1;have e4 := fin_dual (s := s7) (A := B7) (n := m7) (c := d7) xb1
     try simp only [zP]
     refine wpAnyH_ready (rs := [9]) (by kernel_rfl) (by simp) (AllReadyH.cons rfl (fun K hK => ?_) AllReadyH.nil);go_simp;refine hK.out _ _ Ez (fun _ => ?_);clear hK K
     try simp only [zP]
     refine wpAnyH_ready (rs := [10]) (by kernel_rfl) (by simp) (AllReadyH.cons rfl (fun K hK => ?_) AllReadyH.nil);go_simp;refine hK.out _ _ (e4.2.2.1 _ Ez lgp) (fun _ => ?_);clear hK K
     try simp only [zP]
     have hne5 : ∀ j, (Value.slice A7 n7 c7).ownBlock = some j -> j ≠ gp := by
      intro j hj;have := hrw.block j hj;omega
     have hbs := E4.size;refine any_world (fun U => Ext Va U /\ Va.heap.size <= gp /\ Box U gp 28 #[.bool s7, .slice B7 m7 d7] /\ Row2 U Va.heap.size (.slice A7 n7 c7) (invL (radI (ringR ts).1) h (NRM.map (· / ((cg : Nat) : Int)))).1 (4 * iE h e' + 2) /\ NI U (invL (radI (ringR ts).1) h (NRM.map (· / ((cg : Nat) : Int)))).2 (4 * iP h e' + 1) s7 B7 m7 d7 /\ (∀ j, (Value.slice A7 n7 c7).ownBlock = some j -> j ≠ gp)) ⟨e4.2.2.1 _ Ez lgp, lgp, e4.1, (((hrw.ext ez).mono hbs).set2 xb1 hne5), e4.2.1 _ _ _ _ _ _ (hpp.ext ez), hne5⟩ ?_;clear e4 p10 p11 f10 f11 xb1 hrw hpp hne5 hN5 Ez ez lgp hbs;rintro U9 ⟨EU9, lgp, bp, hrw, hpp, hnp⟩;refine wpAnyH_done (by kernel_rfl) ?_ _;rw [<- HR.out] at hrw hpp;have y0 := bp.cell 0 (.bool s7) rfl;have y1 := bp.cell 1 (.slice B7 m7 d7) rfl
     by_cases hp0 : r.2 = 0
     ·have HS := Lib.hid (show r.2.sign = 0 by rw [hp0]; rfl)
      have HIZ := Lib.hid (HI1.out Hc0.out hp0);clear hp0
      go_wp2_with fail
      refine (p_Sign hpp (by have := HSZ.out; omega)).mono ?_;rintro ee Vb ⟨rfl, hxb⟩;rw [HS.out];clear y0 y1;have EWb := EW.trans (EU9.trans hxb);have bw := b5.ext (EU9.trans hxb);have z0 := bw.cell 0 _ rfl;have z1 := bw.cell 1 _ rfl;have f0 := bw.frozen 0;have f1 := bw.frozen 1
      go_wp2_with fail
      obtain ⟨b1, b2, b3, b4⟩ := fin_dual (s := false) (A := Option.none) (n := 0) (c := 0) bw;have r0 := b1.cell 0 (.bool false) rfl;have r1 := b1.cell 1 (.slice Option.none 0 0) rfl;unfold Go.Proofs.YtgagcochepnelaaGreatDoor.set2 at r0 r1;refine bodyPost_ret (v := .tuple #[.slice Option.none 0 0, .agg #[.bool false, .slice Option.none 0 0]]) (by simp [results, Tryz.results71, go_sem, r0, r1]) rfl ⟨_, _, _, _, _, _, _, rfl, ?_, ?_, b3 _ EWb (by omega)⟩
      ·rw [HIZ.out]
       exact Row2.nil _ _ _
      ·rw [HIZ.out]
       exact NI.nil _ _
     ·obtain ⟨S2, hS2, dS2⟩ : ∃ S, r.2.sign = S /\ (S == 0) = false := ⟨_, rfl, beq_eq_false_iff_ne.2 (fun e => hp0 (Int.sign_eq_zero_iff_zero.1 e))⟩
      have HS2 := Lib.hid hS2;have Hp0 := Lib.hid hp0;have HIV := Lib.hid (HI2.out Hc0.out hp0);have hlk := HLR.out hp0
      have Hgn := Lib.hid (show ((gg : Nat) : Int) ≠ 0 from fun e => by
       have h1 := HGD.out.1;rw [show gg = 0 by omega] at h1;have h2 := Nat.eq_zero_of_zero_dvd h1;have h3 := Int.natAbs_eq_zero.1 h2
       rcases Int.mul_eq_zero.1 h3 with h4 | h4
       ·exact hp0 h4
       ·exact Hcn.out h4)
      have Hgd := Lib.hid (show ((gg : Nat) : Int) ∣ r.2 * ((cg : Nat) : Int) from Int.ofNat_dvd_left.2 HGD.out.1);have HSL := Lib.hid (show (List.zipWith (fun x y : Int => x - y) (List.replicate k 0) (xs.drop k)).length = k by rw [List.length_zipWith, List.length_replicate, hl1, Nat.min_self]);have HVL := Lib.hid (show v.length = n by rw [HV.out, List.length_append, mulL_len, mulL_len, <- HK.out, Hnk.out]);clear hS2 hp0
      go_wp2_with fail
      refine (p_Sign hpp (by have := HSZ.out; omega)).mono ?_;rintro ee Vb ⟨rfl, hxb⟩;rw [HS2.out];clear y0 y1;have hxc := EU9.trans hxb;have bcb := bc.ext hxc;have bpb := bp.ext hxb;have y0 := bpb.cell 0 (.bool s7) rfl;have y1 := bpb.cell 1 (.slice B7 m7 d7) rfl;have y2 := bcb.cell 0 (.bool s8) rfl;have y3 := bcb.cell 1 (.slice A8 n8 c8) rfl
      go_wp2_with fail
      refine (p_MulG (hpp.ext hxb) (hco.ext hxc) (by have := HSZ.out; omega) (by omega)).mono ?_;rintro ee Vc ⟨s9, A9, n9, c9, rfl, h9, hxd⟩;clear y0 y1 y2 y3;have bpc := bpb.ext hxd;have z0 := bpc.cell 0 _ rfl;have z1 := bpc.cell 1 _ rfl;have f0 := bpc.frozen 0;have f1 := bpc.frozen 1
      go_upto_region 19 with (fail)
      have e9 := fin_dual (s := s9) (A := A9) (n := n9) (c := c9) bpc;refine at_world (fun U => Ext Va U /\ Box U gp 28 #[.bool s9, .slice A9 n9 c9] /\ NI U (r.2 * ((cg : Nat) : Int)) (4 * iP h e' + 1 + (4 * e' + 1)) s9 A9 n9 c9 /\ Row2 U Va.heap.size (.slice A7 n7 c7) r.1 (4 * iE h e' + 2)) ⟨e9.2.2.1 _ (hxc.trans hxd) lgp, e9.1, e9.2.1 _ _ _ _ _ _ h9, (hrw.ext (hxb.trans hxd)).set2 bpc hnp⟩ ?_;clear z0 z1 f0 f1 e9 bpc bpb bcb bp hpp hrw hnp h9 hxd hxb hxc EU9;rintro Vd ⟨EUd, bp, hpc, hrw⟩;replace hpc := hpc.tight' HPC.out;replace ha0 := ha0.ext EUd;replace ha1 := ha1.ext EUd;replace bx := bx.ext EUd;replace b5 := b5.ext EUd;replace hz := hz.ext EUd;replace hzp := hzp.ext EUd;replace hR := hR.ext EUd;replace EW := EW.trans EUd;clear EUd;obtain ⟨_, _, _, hv7, hrp_⟩ := hrw.pol
      injection hv7 with v1 v2 v3
      subst v1 v2 v3;obtain rfl : k = n7 := by rw [<- hrp_.len, hlk]
      clear hlk hrw;refine wpL.st 10 (fun hQ ES => ?_);refine wpL.tB [3,10] 0 90 ?v_q hQ ?y_q ES ?_
      case y_q => intro w' hSw;have k00 := (bx.ext hSw).c2;go_simp;try rfl
      try simp only [zP]
      refine wpL.uB [3,10] 1 91 hQ ES ?_
      try simp only [zP]
      refine wpL.uB [3,10] 2 92 hQ ES ?_
      try simp only [zP]
      refine wpL.tB [9,10] 4 94 ?v_t hQ ?y_t ES ?_
      case y_t => intro w' hSw;have k00 := (bx.ext hSw).c2;go_simp;try rfl
      try simp only [zP]
      refine wpL.uB [7,9,10] 5 95 hQ ES ?_
      try simp only [zP]
      refine wpL.uB [7,9,10] 6 96 hQ ES ?_
      try simp only [zP]
      refine wpL.uB [9,10] 8 98 hQ ES ?_
      try simp only [zP]
      refine wpL.cl (i := 3) rfl (fun K hK => ?_);go_simp
      (go_at_call 69; refine (p_timesT hRt (by omega) h (hR.ext ES) (ha0.ext ES) (hrp_.ext ES) HK.out (by omega) (by have := HSZ.out; omega)).mono ?_; rintro ee wk3 ⟨A8', c8', rfl, ht1, hr1, hx3⟩; have F3 := Ext.trans ES hx3)
      refine hK.out _ _ F3 ?_;clear hK K
      try simp only [zP]
      refine wpL.cl (i := 7) rfl (fun K hK => ?_);go_simp
      (go_at_call 109; refine (p_minusT (hzp.ext F3) (ha1.ext F3) (by omega) (by omega) (by omega)).mono ?_; rintro ee wk7 ⟨rfl, hmi, hx7⟩; have F7 := Ext.trans F3 hx7)
      refine hK.out _ _ F7 ?_;clear hK K
      try simp only [zP]
      refine wpL.cl (i := 9) rfl (fun K hK => ?_);go_simp
      (go_at_call 69; refine (p_timesT hRt (by omega) h (hR.ext F7) ((hmi.pol (n := k) HSL.out (by unfold maxLen; omega))) (hrp_.ext F7) HK.out (by omega) (by have := HSZ.out; omega)).mono ?_; rintro ee wk9 ⟨A9', c9', rfl, ht2, _, hx9⟩; have F9 := Ext.trans F7 hx9)
      refine hK.out _ _ F9 ?_;clear hK K
      try simp only [zP]
      have hbV := ES.size;have hrow := (((hr1.ext hx7).ext hx9).mono (base2 := Vd.heap.size) hbV).leT (M := 36000) (by have := HSZ.out; omega);have hrw9 := hrow.block;have hF9 := F9.size;refine wpL.tl (i := 10) rfl (fun K hK => ?_);refine step_append_rowG rfl _ _ rfl rfl rfl hrow (ht2.leT (M := 36000) (by have := HSZ.out; omega)) (by rw [mulL_len, <- HK.out]; omega) (by omega) hF9 ?_;intro v6 w6 q1 q2 q3;obtain ⟨A6, n6, c6, rfl, hq6⟩ := q1.pol;have E6 : Ext Vd w6 := Below.grown F9 q2 F9.size (fun g hg => (hrw9 g hg).1);refine hK.out _ _ ?_
      try simp only [List.getElem_toArray, List.getElem_cons_succ, List.getElem_cons_zero]
      clear hK K
      try simp only [zP]
      refine wpL.tl (i := 11) rfl (fun K hK => ?_);go_simp;refine hK.out _ _ ?_;clear hK K
      try simp only [zP]
      refine wpL.done (by kernel_rfl) ?_ _;clear hQ;have hlt6 := hq6.len;obtain rfl : n = n6 := by rw [<- hlt6, List.length_append, mulL_len, mulL_len, <- HK.out, Hnk.out]
      have hvv : IPol w6 A6 n c6 v (4 * (e + iE h e' + eV h) + 1) := by
       have h1 := hq6;rw [show mulL (radI (ringR ts).1) h (xs.take k) r.1 ++ mulL (radI (ringR ts).1) h (List.zipWith (fun x y : Int => x - y) (List.replicate k 0) (xs.drop k)) r.1 = v from HV.out.symm] at h1;exact h1.tight HVW.out
      clear hq6 hlt6 q1 q2 q3 hrow hrw9 hF9 hbV F9 F7 F3 hx3 hx7 hx9 ht1 hr1 hmi ht2 ES hrp_;replace b5 := b5.ext E6;replace bp := bp.ext E6;replace hpc := hpc.ext E6;replace EW := EW.trans E6;clear E6;have y0 := bp.cell 0 (.bool s9) rfl;have y1 := bp.cell 1 (.slice A9 n9 c9) rfl
      go_wp2_with fail
      refine (p_comDiv (L := 29500) (hpc.le (by have := HSZ.out; omega)) (hvv.leT (by have := HSZ.out; omega)) (by omega) (by omega) (by omega) (hT.ext EW)).mono ?_;rintro ee Ve ⟨s0, A0, n0, c0, rfl, hgn, hxe⟩;rw [<- HGG.out] at hgn;clear y0 y1
      go_upto_region 21 with (fail)
      obtain ⟨Vf, hVf, exf, bg, hzf⟩ := box1 Ve 28 #[.bool s0, .slice A0 n0 c0];rw [<- hVf];clear hVf hzf;generalize Ve.heap.size = gq at bg ⊢;replace hgn := hgn.ext exf;replace hxe := hxe.trans exf;replace b5 := b5.ext hxe;replace bp := bp.ext hxe;replace hpc := hpc.ext hxe;replace hvv := hvv.ext hxe;replace EW := EW.trans hxe;clear hxe exf;refine wpL.st 7 (fun hQ ES => ?_);refine wpL.u 0 104 hQ ES ?_
      try simp only [zP]
      refine wpL.t 1 105 ?v_y hQ ?y_y ES ?_
      case y_y => intro w' hSw;have k00 := (bp.ext hSw).c2;have k10 := (bg.ext hSw).c2;go_simp;try rfl
      try simp only [zP]
      refine wpL.t 3 107 ?v_z hQ ?y_z ES ?_
      case y_z => intro w' hSw;have k00 := (bp.ext hSw).c2;have k10 := (bg.ext hSw).c2;go_simp;try rfl
      try simp only [zP]
      refine wpL.t 4 108 ?v_10 hQ ?y_10 ES ?_
      case y_10 => intro w' hSw;have k00 := (bp.ext hSw).c2;have k10 := (bg.ext hSw).c2;go_simp;try rfl
      try simp only [zP]
      refine wpL.cl (i := 2) rfl (fun K hK => ?_);go_simp
      (go_at_call 116; refine (p_dividedT (hvv.ext ES) (hgn.ext ES) (by have := HSZ.out; omega) (by omega) Hgn.out HGD.out.2 (by omega)).mono ?_; rintro ee wk2 ⟨rfl, hdd, hx2⟩; have F2 := Ext.trans ES hx2)
      refine hK.out _ _ F2 ?_;clear hK K
      try simp only [zP]
      refine wpL.cl (i := 5) rfl (fun K hK => ?_);go_simp
      (go_at_call 105; refine (p_exactT (hpc.ext F2) (hgn.ext F2) (by have := HSZ.out; omega) (by omega) Hgn.out Hgd.out).mono ?_; rintro ee wk5 ⟨s1, A1, n1, c1, rfl, hq, hx5⟩; have F5 := Ext.trans F2 hx5)
      refine hK.out _ _ F5 ?_;clear hK K
      try simp only [zP]
      refine wpL.u 6 4 hQ F5 ?_
      try simp only [zP]
      have bw := b5.ext F5;have z0 := bw.cell 0 _ rfl;have z1 := bw.cell 1 _ rfl;have f0 := bw.frozen 0;have f1 := bw.frozen 1;refine wpL.tl (i := 7) rfl (fun K hK => ?_);go_simp;refine hK.out _ _ ?_;clear hK K
      try simp only [zP]
      refine wpL.done (by kernel_rfl) ?_ _;clear hQ
      go_wp2_with fail
      have hrow := ((hdd.row2 (base := w.heap.size) (n := n) (by have := (EW.trans ES).size; omega) (by rw [List.length_map]; exact HVL.out) (by omega)).ext hx5).set2 (s := s1) (A := A1) (n := n1) (c := c1) bw (by intro j hj; injection hj with hj; subst hj; have h1 := b5.lt; have h2 := ES.size; show Vf.drew.heap.size + 1 ≠ w.heap.size + 1; omega);obtain ⟨b1, b2, b3, b4⟩ := fin_dual (s := s1) (A := A1) (n := n1) (c := c1) bw;have r0 := b1.cell 0 (.bool s1) rfl;have r1 := b1.cell 1 (.slice A1 n1 c1) rfl;unfold Go.Proofs.YtgagcochepnelaaGreatDoor.set2 at r0 r1;refine bodyPost_ret (v := .tuple #[.slice _ n n, .agg #[.bool s1, .slice A1 n1 c1]]) (by simp [results, Tryz.results71, go_sem, r0, r1]; rfl) rfl ⟨_, _, _, _, _, _, _, rfl, ?_, ?_, b3 _ (EW.trans F5) (by omega)⟩
      ·rw [HIV.out, HIE.out]
       exact hrow.leT (by omega)
      ·rw [HIV.out, HIP.out]
       exact (b2 _ _ _ _ _ _ hq).le (by omega)
end
section
variable {w w' : World} {q x : Rat} {L M : Nat} {s t : Bool} {A B : Option Addr} {n c m d : Nat} {sx tx : Bool} {Ax Bx : Option Addr} {nx cx mx dx : Nat} {qs ps : List Rat} {rs : List RawR} {ts us : List (List RawR)}
set_option maxRecDepth 100000 in
theorem p_Mul1T {g : Nat} {x : Rat} (h : NR w x L sx Ax nx cx tx Bx mx dx) (ha : Pol w A n c (q :: qs) M) (hb : Box w g 23 #[.slice A n c]) (hL : L <= 7000) (hM : M <= 7000) (h64 : min L M < 64) (hT : Tab w) : Calls Tryz.prog 62 #[.agg #[.bool sx, .slice Ax nx cx, .bool tx, .slice Bx mx dx], .pointer (some ⟨g, 0, Option.none⟩)] w (RetNR (q * x) (M + L) w) := by
 have hlen := ha.len;rw [List.length_cons] at hlen;have hn0 : 0 < n := by omega
 obtain ⟨b, off, rfl, hr⟩ := ha.at_ (fun e => by cases e)
 go_enter Tryz.func62, Tryz.ntmps62
 go_upto_region 1 with (fail)
 obtain ⟨W, hW, extW, bx, bz, hz⟩ := box2 w 30 30 #[.bool sx, .slice Ax nx cx, .bool tx, .slice Bx mx dx] #[Value.bool false, Value.slice none 0 0, Value.bool false, Value.slice none 0 0];rw [<- hW];clear hW;have hb1 := hb.ext extW;obtain ⟨sy, Ay, ny, cy, ty, By, my, dy, p0, p1, p2, p3, hq⟩ := (hr.ext extW).at_ 0 (by rw [List.length_cons]; omega);rw [List.getElem_cons_zero] at hq;rw [Nat.mul_zero, Nat.add_zero] at p0 p1 p2 p3;refine wpL.st 5 (fun hQ ES => ?_);refine wpL.t 0 4 ?v_0 hQ ?y_0 ES ?_
 case y_0 => intro w' hSw;have q0_ := hSw.cellv p0;have q1_ := hSw.cellv p1;have q2_ := hSw.cellv p2;have q3_ := hSw.cellv p3;have k00 := (bx.ext hSw).c4;have k10 := (hb1.ext hSw).cell 0 _ rfl;go_simp;try rfl
 try simp only [zP]
 refine wpL.t 3 7 ?v_1 hQ ?y_1 ES ?_
 case y_1 => intro w' hSw;have q0_ := hSw.cellv p0;have q1_ := hSw.cellv p1;have q2_ := hSw.cellv p2;have q3_ := hSw.cellv p3;have k00 := (bx.ext hSw).c4;have k10 := (hb1.ext hSw).cell 0 _ rfl;go_simp;try rfl
 try simp only [zP]
 refine wpL.u 1 5 hQ ES ?_
 try simp only [zP]
 refine wpL.t 2 6 ?v_3 hQ ?y_3 ES ?_
 case y_3 => intro w' hSw;have q0_ := hSw.cellv p0;have q1_ := hSw.cellv p1;have q2_ := hSw.cellv p2;have q3_ := hSw.cellv p3;have k00 := (bx.ext hSw).c4;have k10 := (hb1.ext hSw).cell 0 _ rfl;go_simp;try rfl
 try simp only [zP]
 refine wpL.cl (i := 4) rfl (fun K hK => ?_);go_simp
 (go_at_call 63; refine (p_MulRG (hq.ext ES) (h.ext (extW.trans ES)) (by omega) (by omega) (hT.ext (extW.trans ES))).mono ?_; rintro e V ⟨s7, A7, n7, c7, t7, B7, m7, d7, rfl, h7, hx0⟩; have E0_1 := Ext.trans ES hx0)
 refine hK.out _ _ E0_1 ?_;clear hK K
 try simp only [zP]
 have z0 := (bz.ext E0_1).cell 0 _ rfl;have z1 := (bz.ext E0_1).cell 1 _ rfl;have z2 := (bz.ext E0_1).cell 2 _ rfl;have z3 := (bz.ext E0_1).cell 3 _ rfl;have f0 := (bz.ext E0_1).frozen 0;have f1 := (bz.ext E0_1).frozen 1;have f2 := (bz.ext E0_1).frozen 2;have f3 := (bz.ext E0_1).frozen 3;refine wpL.tl (i := 5) rfl (fun K hK => ?_);go_simp;refine hK.out _ _ ?_;clear hK K
 try simp only [zP]
 refine wpL.done (by kernel_rfl) ?_ _;clear hQ
 go_wp2_with fail
 obtain ⟨b1, b2, b3, b4⟩ := fin_quad (s := s7) (A := A7) (n := n7) (c := c7) (t := t7) (B := B7) (m := m7) (d := d7) (bz.ext E0_1);have r0 := b1.cell 0 (.bool s7) rfl;have r1 := b1.cell 1 (.slice A7 n7 c7) rfl;have r2 := b1.cell 2 (.bool t7) rfl;have r3 := b1.cell 3 (.slice B7 m7 d7) rfl;unfold set4 at r0 r1 r2 r3;refine bodyPost_ret (v := .agg #[.bool s7, .slice A7 n7 c7, .bool t7, .slice B7 m7 d7]) (by simp [results, Tryz.results62, go_sem, r0, r1, r2, r3]) rfl ⟨s7, A7, n7, c7, t7, B7, m7, d7, rfl, ⟨?_, ?_⟩, b3 _ (extW.trans E0_1) (by omega)⟩
 ·exact b2 _ _ _ _ _ _ h7.num
 ·exact b2 _ _ _ _ _ _ h7.den
set_option maxRecDepth 100000 in
theorem p_Mul2T {g : Nat} {x : Rat} (h : NR w x L sx Ax nx cx tx Bx mx dx) (ha : Pol w A n c (q :: qs) M) (hb : Box w g 23 #[.slice A n c]) (hL : L <= 7000) (hM : M <= 7000) (h64 : min L M < 64) (hT : Tab w) : Calls Tryz.prog 64 #[.agg #[.bool sx, .slice Ax nx cx, .bool tx, .slice Bx mx dx], .pointer (some ⟨g, 0, Option.none⟩)] w (RetNR (x * q) (L + M) w) := by
 have hlen := ha.len;rw [List.length_cons] at hlen;have hn0 : 0 < n := by omega
 obtain ⟨b, off, rfl, hr⟩ := ha.at_ (fun e => by cases e)
 go_enter Tryz.func64, Tryz.ntmps64
 go_upto_region 1 with (fail)
 obtain ⟨W, hW, extW, bx, bz, hz⟩ := box2 w 30 30 #[.bool sx, .slice Ax nx cx, .bool tx, .slice Bx mx dx] #[Value.bool false, Value.slice none 0 0, Value.bool false, Value.slice none 0 0];rw [<- hW];clear hW;have hb1 := hb.ext extW;obtain ⟨sy, Ay, ny, cy, ty, By, my, dy, p0, p1, p2, p3, hq⟩ := (hr.ext extW).at_ 0 (by rw [List.length_cons]; omega);rw [List.getElem_cons_zero] at hq;rw [Nat.mul_zero, Nat.add_zero] at p0 p1 p2 p3;refine wpL.st 5 (fun hQ ES => ?_);refine wpL.t 0 4 ?v_0 hQ ?y_0 ES ?_
 case y_0 => intro w' hSw;have q0_ := hSw.cellv p0;have q1_ := hSw.cellv p1;have q2_ := hSw.cellv p2;have q3_ := hSw.cellv p3;have k00 := (bx.ext hSw).c4;have k10 := (hb1.ext hSw).cell 0 _ rfl;go_simp;try rfl
 try simp only [zP]
 refine wpL.t 1 5 ?v_1 hQ ?y_1 ES ?_
 case y_1 => intro w' hSw;have q0_ := hSw.cellv p0;have q1_ := hSw.cellv p1;have q2_ := hSw.cellv p2;have q3_ := hSw.cellv p3;have k00 := (bx.ext hSw).c4;have k10 := (hb1.ext hSw).cell 0 _ rfl;go_simp;try rfl
 try simp only [zP]
 refine wpL.u 2 6 hQ ES ?_
 try simp only [zP]
 refine wpL.t 3 7 ?v_3 hQ ?y_3 ES ?_
 case y_3 => intro w' hSw;have q0_ := hSw.cellv p0;have q1_ := hSw.cellv p1;have q2_ := hSw.cellv p2;have q3_ := hSw.cellv p3;have k00 := (bx.ext hSw).c4;have k10 := (hb1.ext hSw).cell 0 _ rfl;go_simp;try rfl
 try simp only [zP]
 refine wpL.cl (i := 4) rfl (fun K hK => ?_);go_simp
 (go_at_call 63; refine (p_MulRG (h.ext (extW.trans ES)) (hq.ext ES) (by omega) (by omega) (hT.ext (extW.trans ES))).mono ?_; rintro e V ⟨s7, A7, n7, c7, t7, B7, m7, d7, rfl, h7, hx0⟩; have E0_1 := Ext.trans ES hx0)
 refine hK.out _ _ E0_1 ?_;clear hK K
 try simp only [zP]
 have z0 := (bz.ext E0_1).cell 0 _ rfl;have z1 := (bz.ext E0_1).cell 1 _ rfl;have z2 := (bz.ext E0_1).cell 2 _ rfl;have z3 := (bz.ext E0_1).cell 3 _ rfl;have f0 := (bz.ext E0_1).frozen 0;have f1 := (bz.ext E0_1).frozen 1;have f2 := (bz.ext E0_1).frozen 2;have f3 := (bz.ext E0_1).frozen 3;refine wpL.tl (i := 5) rfl (fun K hK => ?_);go_simp;refine hK.out _ _ ?_;clear hK K
 try simp only [zP]
 refine wpL.done (by kernel_rfl) ?_ _;clear hQ
 go_wp2_with fail
 obtain ⟨b1, b2, b3, b4⟩ := fin_quad (s := s7) (A := A7) (n := n7) (c := c7) (t := t7) (B := B7) (m := m7) (d := d7) (bz.ext E0_1);have r0 := b1.cell 0 (.bool s7) rfl;have r1 := b1.cell 1 (.slice A7 n7 c7) rfl;have r2 := b1.cell 2 (.bool t7) rfl;have r3 := b1.cell 3 (.slice B7 m7 d7) rfl;unfold set4 at r0 r1 r2 r3;refine bodyPost_ret (v := .agg #[.bool s7, .slice A7 n7 c7, .bool t7, .slice B7 m7 d7]) (by simp [results, Tryz.results64, go_sem, r0, r1, r2, r3]) rfl ⟨s7, A7, n7, c7, t7, B7, m7, d7, rfl, ⟨?_, ?_⟩, b3 _ (extW.trans E0_1) (by omega)⟩
 ·exact b2 _ _ _ _ _ _ h7.num
 ·exact b2 _ _ _ _ _ _ h7.den
set_option maxRecDepth 100000 in
theorem p_each6_Mul1 (h : Pol w A n c qs L) (hL : L <= 7000) (hn : n <= 1000) {gy : Nat} {D : Option Addr} {l e0 : Nat} (ha : Pol w D l e0 (q :: ps) M) (hb : Box w gy 23 #[.slice D l e0]) (hM : M <= 7000) (h64 : min L M < 64) (hT : Tab w) : Calls Tryz.prog 61 #[.slice A n c, (.func (.func 62) #[] #[.pointer (some ⟨gy, 0, Option.none⟩)])] w (fun e w' => e = .returned (.slice (some ⟨w.heap.size, 0, none⟩) n n) /\ RRow w' w.heap.size (qs.map (fun x : Rat => q * x)) ((M + L)) /\ Ext w w') := by
 have hmk := mk_rats n (by omega);have Hlen := Lib.hid h.len
 go_enter Tryz.func61, Tryz.ntmps61
 go_wp2_with fail
 go_loopw [12] (fun i wr => ∃ k : Nat, k <= n /\ i = .int .i64 (k : Int) /\ Ext w wr /\ Fill wr w.heap.size n ((qs.take k).map (fun x : Rat => q * x)) ((M + L))) (fun i _ => n - (intOf i).toNat)
 case atStart => exact ⟨0, Nat.zero_le _, rfl, (Ext.refl w).alloc _, Fill.new w n _⟩
 case round =>
  obtain ⟨k, hk, rfl, ext, hF⟩ := hrel
  by_cases hlt : k < n
  ·have hj : k < qs.length := by rw [Hlen.out]; exact hlt
   obtain ⟨b, off, rfl, hr⟩ := h.at_ (fun e => by rw [e] at hj; exact absurd hj (Nat.not_lt_zero _));obtain ⟨sx, Ax, nx, cx, tx, Bx, mx, dx, e0, e1, e2, e3, hx⟩ := (hr.ext ext).at_ k hj;have e0' : wr.cell? ⟨b, off + k * 4, none⟩ = some (.bool sx) := by rw [Nat.mul_comm]; exact e0
   have e1' : wr.cell? ⟨b, off + k * 4 + 1, none⟩ = some (.slice Ax nx cx) := by rw [Nat.mul_comm]; exact e1
   have e2' : wr.cell? ⟨b, off + k * 4 + 2, none⟩ = some (.bool tx) := by rw [Nat.mul_comm]; exact e2
   have e3' : wr.cell? ⟨b, off + k * 4 + 3, none⟩ = some (.slice Bx mx dx) := by rw [Nat.mul_comm]; exact e3
   have HT := Lib.hid (show (qs.take (k + 1)).map (fun x : Rat => q * x) = (qs.take k).map (fun x : Rat => q * x) ++ [(fun x : Rat => q * x) qs[k]] by rw [List.take_succ_eq_append_getElem hj, List.map_append]; rfl);have hkl : ((qs.take k).map (fun x : Rat => q * x)).length = k := by rw [List.length_map, List.length_take, Hlen.out]; omega
   go_wp2_with fail
   refine (p_Mul1T hx (ha.ext ext) (hb.ext ext) (by omega) (by omega) (by omega) (hT.ext ext)).mono ?_;rintro e V ⟨s7, A7, n7, c7, t7, B7, m7, d7, rfl, h7, hxt⟩;replace hF := hF.ext hxt;replace ext := ext.trans hxt;have hcs := hF.cells (by rw [hkl]; exact hlt);rw [hkl] at hcs;obtain ⟨p0, p1, p2, p3⟩ := hcs;have f0 := hF.frozen (k * 4);have f1 := hF.frozen (k * 4 + 1);have f2 := hF.frozen (k * 4 + 2);have f3 := hF.frozen (k * 4 + 3)
   go_wp2_with fail
   have P := hF.put hkl hlt h7
   go_roundw
   case rel => exact ⟨k + 1, by omega, by go_num, P.2.2.1 _ ext (Nat.le_refl _), by rw [HT.out]; exact P.1⟩
   case measure => simp [intOf]; omega
  ·have hkn : k = n := by omega
   subst hkn;have hml : ((qs.take k).map (fun x : Rat => q * x)).length = k := by rw [List.length_map, List.length_take, Hlen.out]; omega
   have hp := hF.rrow hml;rw [List.take_of_length_le (Nat.le_of_eq Hlen.out)] at hp
   go_wp2_with fail
   go_ret
   exact ⟨rfl, hp, ext⟩
set_option maxRecDepth 100000 in
theorem p_each6_Mul2 (h : Pol w A n c qs L) (hL : L <= 7000) (hn : n <= 1000) {gy : Nat} {D : Option Addr} {l e0 : Nat} (ha : Pol w D l e0 (q :: ps) M) (hb : Box w gy 23 #[.slice D l e0]) (hM : M <= 7000) (h64 : min L M < 64) (hT : Tab w) : Calls Tryz.prog 61 #[.slice A n c, (.func (.func 64) #[] #[.pointer (some ⟨gy, 0, Option.none⟩)])] w (fun e w' => e = .returned (.slice (some ⟨w.heap.size, 0, none⟩) n n) /\ RRow w' w.heap.size (qs.map (fun x : Rat => x * q)) ((L + M)) /\ Ext w w') := by
 have hmk := mk_rats n (by omega);have Hlen := Lib.hid h.len
 go_enter Tryz.func61, Tryz.ntmps61
 go_wp2_with fail
 go_loopw [12] (fun i wr => ∃ k : Nat, k <= n /\ i = .int .i64 (k : Int) /\ Ext w wr /\ Fill wr w.heap.size n ((qs.take k).map (fun x : Rat => x * q)) ((L + M))) (fun i _ => n - (intOf i).toNat)
 case atStart => exact ⟨0, Nat.zero_le _, rfl, (Ext.refl w).alloc _, Fill.new w n _⟩
 case round =>
  obtain ⟨k, hk, rfl, ext, hF⟩ := hrel
  by_cases hlt : k < n
  ·have hj : k < qs.length := by rw [Hlen.out]; exact hlt
   obtain ⟨b, off, rfl, hr⟩ := h.at_ (fun e => by rw [e] at hj; exact absurd hj (Nat.not_lt_zero _));obtain ⟨sx, Ax, nx, cx, tx, Bx, mx, dx, e0, e1, e2, e3, hx⟩ := (hr.ext ext).at_ k hj;have e0' : wr.cell? ⟨b, off + k * 4, none⟩ = some (.bool sx) := by rw [Nat.mul_comm]; exact e0
   have e1' : wr.cell? ⟨b, off + k * 4 + 1, none⟩ = some (.slice Ax nx cx) := by rw [Nat.mul_comm]; exact e1
   have e2' : wr.cell? ⟨b, off + k * 4 + 2, none⟩ = some (.bool tx) := by rw [Nat.mul_comm]; exact e2
   have e3' : wr.cell? ⟨b, off + k * 4 + 3, none⟩ = some (.slice Bx mx dx) := by rw [Nat.mul_comm]; exact e3
   have HT := Lib.hid (show (qs.take (k + 1)).map (fun x : Rat => x * q) = (qs.take k).map (fun x : Rat => x * q) ++ [(fun x : Rat => x * q) qs[k]] by rw [List.take_succ_eq_append_getElem hj, List.map_append]; rfl);have hkl : ((qs.take k).map (fun x : Rat => x * q)).length = k := by rw [List.length_map, List.length_take, Hlen.out]; omega
   go_wp2_with fail
   refine (p_Mul2T hx (ha.ext ext) (hb.ext ext) (by omega) (by omega) (by omega) (hT.ext ext)).mono ?_;rintro e V ⟨s7, A7, n7, c7, t7, B7, m7, d7, rfl, h7, hxt⟩;replace hF := hF.ext hxt;replace ext := ext.trans hxt;have hcs := hF.cells (by rw [hkl]; exact hlt);rw [hkl] at hcs;obtain ⟨p0, p1, p2, p3⟩ := hcs;have f0 := hF.frozen (k * 4);have f1 := hF.frozen (k * 4 + 1);have f2 := hF.frozen (k * 4 + 2);have f3 := hF.frozen (k * 4 + 3)
   go_wp2_with fail
   have P := hF.put hkl hlt h7
   go_roundw
   case rel => exact ⟨k + 1, by omega, by go_num, P.2.2.1 _ ext (Nat.le_refl _), by rw [HT.out]; exact P.1⟩
   case measure => simp [intOf]; omega
  ·have hkn : k = n := by omega
   subst hkn;have hml : ((qs.take k).map (fun x : Rat => x * q)).length = k := by rw [List.length_map, List.length_take, Hlen.out]; omega
   have hp := hF.rrow hml;rw [List.take_of_length_le (Nat.le_of_eq Hlen.out)] at hp
   go_wp2_with fail
   go_ret
   exact ⟨rfl, hp, ext⟩
end
section
variable {w : World} {A : Option Addr} {n c L : Nat} {qs : List Rat}
theorem and_oneT : ∀ r : Fin 1001, (bits BinOp.and IntKind.i64 ((r.val : Nat) : Int) 1 == 1) = decide (r.val % 2 = 1) := by decide +kernel
def belB (p i : Nat) : Bool := decide (p / 2 ^ i % 2 = 1)
theorem p_belongsT (w : World) (p i : Nat) (hp : p <= 1000) (hi : i <= 16) : Calls Tryz.prog 75 #[.int .i64 (p : Int), .int .i64 (i : Int)] w fun e w' => e = .returned (.bool (belB p i)) /\ Ext w w' := by
 have hle : p / 2 ^ i <= p := Nat.div_le_self _ _;have h1 : (p : Int) / 2 ^ i = ((p / 2 ^ i : Nat) : Int) := by push_cast; rfl
 unfold belB;generalize p / 2 ^ i = r at hle h1;have hr1 : r <= 1000 := by omega
 go_enter Tryz.func75, Tryz.ntmps75
 go_upto_region 1 with (fail)
 go_wp2_with fail
 have hb := and_oneT ⟨r, by omega⟩;simp only at hb
 go_ret
 rw [hb];exact ⟨rfl, Ext.refl _⟩
def chaB (qs : List Rat) (i : Nat) : Bool := (List.range qs.length).any fun p => belB p i && !decide (qs.getD p 0 = 0)
theorem p_changesT {i0 : Nat} (h : Pol w A n c qs L) (hi : i0 <= 16) (hL : L <= 1000) (hn : n <= 1000) : Calls Tryz.prog 74 #[.slice A n c, .int .i64 (i0 : Int)] w fun e w' => e = .returned (.bool (chaB qs i0)) /\ Ext w w' := by
 have Hlen := Lib.hid h.len
 go_enter Tryz.func74, Tryz.ntmps74
 go_wp2_with fail
 go_loopw [9] (fun i wr => ∃ k : Nat, k <= n /\ i = .int .i64 (k : Int) /\ Ext w wr /\ ∀ j, j < k -> (belB j i0 && !decide (qs.getD j 0 = 0)) = false) (fun i _ => n - (intOf i).toNat)
 case atStart => exact ⟨0, by omega, rfl, Ext.refl _, fun j hj => by omega⟩
 case round =>
  obtain ⟨k, hk, rfl, ext, hall⟩ := hrel;have HA := Lib.hid hall;clear hall
  by_cases hlt : k < n
  ·have hj : k < qs.length := by rw [Hlen.out]; exact hlt
   have hI : (k : Int) < (n : Int) := by omega
   obtain ⟨p, off, rfl, hr⟩ := h.at_ (fun e => by rw [e] at hj; exact absurd hj (Nat.not_lt_zero _));obtain ⟨sx, Ax, nx, cx, tx, Bx, mx, dx, e0, e1, e2, e3, hx⟩ := (hr.ext ext).at_ k hj;have e0' : wr.cell? ⟨p, off + k * 4, none⟩ = some (.bool sx) := by rw [Nat.mul_comm]; exact e0
   have e1' : wr.cell? ⟨p, off + k * 4 + 1, none⟩ = some (.slice Ax nx cx) := by rw [Nat.mul_comm]; exact e1
   have e2' : wr.cell? ⟨p, off + k * 4 + 2, none⟩ = some (.bool tx) := by rw [Nat.mul_comm]; exact e2
   have e3' : wr.cell? ⟨p, off + k * 4 + 3, none⟩ = some (.slice Bx mx dx) := by rw [Nat.mul_comm]; exact e3
   have HG := Lib.hid (show qs.getD k 0 = qs[k] by rw [List.getD_eq_getElem?_getD, List.getElem?_eq_getElem hj]; rfl)
   have HM := Lib.hid (fun hf : (belB k i0 && !decide (qs.getD k 0 = 0)) = true => show chaB qs i0 = true by
    unfold chaB;rw [List.any_eq_true];exact ⟨k, List.mem_range.2 hj, hf⟩)
   have HN := Lib.hid (fun hf : (belB k i0 && !decide (qs.getD k 0 = 0)) = false => show ∀ j, j < k + 1 -> (belB j i0 && !decide (qs.getD j 0 = 0)) = false from fun j hj => by
    rcases Nat.lt_or_ge j k with q | q
    ·exact HA.out j q
    ·have e : j = k := by omega
     rw [e];exact hf)
   generalize qs[k] = r at hx HG;rw [HG.out] at HM HN
   go_upto_region 4 with (fail)
   obtain ⟨W, hW, extW, bx, hz⟩ := box1 wr 30 #[.bool sx, .slice Ax nx cx, .bool tx, .slice Bx mx dx];rw [<- hW];clear hW hz e0 e1 e2 e3 e0' e1' e2' e3';replace hx := hx.ext extW;replace ext := ext.trans extW
   cases hb : belB k i0 with
   | false =>
    have HB := Lib.hid hb;clear hb
    go_wp2_with fail
    refine (p_belongsT _ k i0 (by omega) hi).mono ?_;rintro e V0 ⟨rfl, hx0⟩;rw [HB.out]
    go_wp2_with fail
    go_roundw
    case rel => exact ⟨k + 1, by omega, by go_num, ext.trans hx0, HN.out (by rw [HB.out]; rfl)⟩
    case measure => simp [intOf]; omega
   | true =>
    have HB := Lib.hid hb;clear hb
    go_wp2_with fail
    refine (p_belongsT _ k i0 (by omega) hi).mono ?_;rintro e V0 ⟨rfl, hx0⟩;rw [HB.out];replace bx := bx.ext hx0;replace hx := hx.ext hx0;replace ext := ext.trans hx0;have x0 := bx.cell 0 (.bool sx) rfl;have x1 := bx.cell 1 (.slice Ax nx cx) rfl;have x2 := bx.cell 2 (.bool tx) rfl;have x3 := bx.cell 3 (.slice Bx mx dx) rfl
    by_cases hq : r = 0
    ·have HS := Lib.hid (num_zeroT hq)
     have HQ := Lib.hid hq;clear hq
     go_wp2_with fail
     refine (p_SignR hx (by omega)).mono ?_;rintro e V ⟨rfl, hxt⟩;rw [HS.out]
     go_wp2_with fail
     go_roundw
     case rel => exact ⟨k + 1, by omega, by go_num, ext.trans hxt, HN.out (by rw [decide_eq_true HQ.out]; simp)⟩
     case measure => simp [intOf]; omega
    ·obtain ⟨S, hS, dS⟩ : ∃ S, r.num.sign = S /\ (S == 0) = false := ⟨_, rfl, beq_eq_false_iff_ne.2 (num_nzT hq)⟩
     have HS := Lib.hid hS;have HQ := Lib.hid hq;clear hS hq
     go_wp2_with fail
     refine (p_SignR hx (by omega)).mono ?_;rintro e V ⟨rfl, hxt⟩;rw [HS.out]
     go_wp2_with fail
     go_ret
     exact ⟨by rw [HM.out (by rw [HB.out, decide_eq_false HQ.out]; rfl)]; rfl, ext.trans hxt⟩
  ·have hkn : k = n := by omega
   have hI : (n : Int) <= (k : Int) := by omega
   go_wp2_with fail
   go_ret
   refine ⟨?_, ext⟩
   have hc : chaB qs i0 = false := by
    unfold chaB;rw [List.any_eq_false];intro j hj;rw [HA.out j (by rw [hkn, <- Hlen.out]; exact List.mem_range.1 hj)];simp
   rw [hc]; rfl
end
section
variable {w w' : World} {q x : Rat} {L M : Nat} {s t : Bool} {A B : Option Addr} {n c m d : Nat} {sx tx : Bool} {Ax Bx : Option Addr} {nx cx mx dx : Nat} {qs ps : List Rat} {rs : List RawR} {ts us : List (List RawR)}
def flipL (i : Nat) (qs : List Rat) : List Rat := qs.mapIdx fun p q => if belB p i = true then -q else q
theorem flipL_snoc (i : Nat) (qs : List Rat) (q : Rat) : flipL i (qs ++ [q]) = flipL i qs ++ [if belB qs.length i = true then -q else q] := by
 unfold flipL;rw [List.mapIdx_concat]
theorem flipL_length (i : Nat) (qs : List Rat) : (flipL i qs).length = qs.length := by unfold flipL; rw [List.length_mapIdx]
def RetConj (b : Bool) (qs : List Rat) (L : Nat) (w : World) (e : Ending) (w' : World) : Prop :=
 match b with
 | true => ∃ A n c, e = .returned (.tuple #[.slice A n c, .bool true]) /\ Pol w' A n c qs L /\ Ext w w'
 | false => e = .returned (.tuple #[.slice Option.none 0 0, .bool false]) /\ Ext w w'
theorem PolT.dropT {b o k L : Nat} {ts : List (List Rat)} (h : PolT w (some ⟨b, o, Option.none⟩) n c ts L) (hk : k <= n) : PolT w (some ⟨b, o + k, Option.none⟩) (n - k) (c - k) (ts.drop k) L := by
 refine ⟨by rw [List.length_drop, h.len], by have := h.cap; omega, by have := h.top; omega, fun hq => ?_⟩;obtain ⟨b', o', h1, h2⟩ := h.at_ (fun e => hq (by rw [e]; simp))
 injection h1 with h1
 injection h1 with q1 q2
 subst q1 q2;refine ⟨b, o + k, rfl, fun i hi => ?_⟩;rw [List.length_drop] at hi;obtain ⟨A', n', c', h3, h4⟩ := h2 (k + i) (by omega);rw [List.getElem_drop];exact ⟨A', n', c', by rw [Nat.add_assoc]; exact h3, h4⟩
theorem PolT.nilT {L : Nat} (w : World) (A : Option Addr) (c : Nat) (hc : c <= maxLen) : PolT w A 0 c [] L := ⟨rfl, Nat.zero_le _, hc, fun h => absurd rfl h⟩
def conjC (ts : List (List Rat)) (i : Nat) : Bool := ts.all fun r => !chaB r i
theorem flip_set {i k : Nat} {qs : List Rat} (hk : k < qs.length) : (flipL i (qs.take k) ++ qs.drop k).set k (-qs[k]) = flipL i (qs.take k) ++ [-qs[k]] ++ qs.drop (k + 1) := by
 have hl : (flipL i (qs.take k)).length = k := by rw [flipL_length, List.length_take]; omega
 rw [List.drop_eq_getElem_cons hk, List.set_append_right _ _ (by omega), hl, Nat.sub_self, List.set_cons_zero, List.append_assoc]
 rfl
set_option maxRecDepth 100000 in
theorem p_ConjT {T : Option Addr} {nt ct i0 : Nat} {ts : List (List Rat)} (hp : PolT w T nt ct ts M) (ht : TowL ts) (hq0 : Pol w A n c qs L) (hm : n = 2 ^ nt) (hL : L <= 900) (hM : M <= 900) (hnt : nt <= 9) (hi0 : i0 < nt) (hT : Tab w) : Calls Tryz.prog 27 #[.slice T nt ct, .slice A n c, .int .i64 (i0 : Int)] w (RetConj (conjC (ts.drop (i0 + 1)) i0) (flipL i0 qs) L w) := by
 have HL := Lib.hid hp.len;have HQL := Lib.hid hq0.len
 have HTL := Lib.hid (fun r hr => show r.length <= 512 from by
  obtain ⟨j, hj, e⟩ := List.getElem_of_mem hr;rw [<- e, ht j hj];exact Nat.le_trans (Nat.pow_le_pow_right (by omega) (show j <= 9 by have := hp.len; omega)) (by decide) : ∀ r ∈ ts, r.length <= 512)
 have hct := hp.cap;have HM := Lib.hid hm;have hn5 : n <= 512 := by rw [hm]; exact Nat.le_trans (Nat.pow_le_pow_right (by omega) hnt) (by decide)
 clear hm;obtain ⟨b, off, rfl, hr⟩ := hp.at_ (fun e => by have := HL.out; rw [e] at this; simp at this; omega);have g1 : decide ((i0 : Int) < 0) = false := decide_eq_false (by omega);have g2 : decide ((nt : Int) <= (i0 : Int)) = false := decide_eq_false (by omega);have g3 : decide (nt <= i0) = false := decide_eq_false (by omega);have k1 : (i0 : Int) + 1 <= (nt : Int) := by omega
 have k2 : (i0 : Int) + 1 <= (ct : Int) := by omega
 have k3 : (nt : Int) <= (ct : Int) := by omega
 have hnb := Box.new w 23 #[.slice A n c];have e1 := (Ext.refl w).alloc (.cells #[.slice A n c] 23)
 go_enter Tryz.func27, Tryz.ntmps27
 go_wp2_with fail
 refine (p_formed1 (L := 900) ((hp.le hM).ext e1) ht hnb ((hq0.le hL).ext e1) HM.out (by omega) (by omega) (hT.ext e1)).mono ?_;rintro e V ⟨rfl, hxt⟩;have EW := e1.trans hxt;clear hnb e1 hxt
 go_wp2_with fail
 case' inl =>
  have hPT : PolT V (some ⟨b, off, Option.none⟩) (nt - (i0 + 1)) 0 (ts.drop (i0 + 1)) M := by
   rw [show nt - (i0 + 1) = 0 by omega, List.drop_of_length_le (by rw [HL.out]; omega)];exact PolT.nilT _ _ _ (Nat.zero_le _)
 case' inr =>
  have hPT := (hp.ext EW).dropT (k := i0 + 1) (by omega)
 all_goals
  have HDL := Lib.hid hPT.len
  go_loopw [33] (fun i wr => ∃ k : Nat, k <= nt - (i0 + 1) /\ i = .int .i64 (k : Int) /\ Ext V wr /\ conjC ((ts.drop (i0 + 1)).take k) i0 = true) (fun i _ => (nt - (i0 + 1)) - (intOf i).toNat)
  case atStart => exact ⟨0, Nat.zero_le _, rfl, Ext.refl _, by rw [List.take_zero]; rfl⟩
  case round =>
   obtain ⟨k, hk, rfl, ext, hall⟩ := hrel;have HA := Lib.hid hall;clear hall
   by_cases hlt : k < nt - (i0 + 1)
   ·have hj : k < (ts.drop (i0 + 1)).length := by rw [HDL.out]; exact hlt
    have hI : (k : Int) < ((nt - (i0 + 1) : Nat) : Int) := by omega
    obtain ⟨b', off', hb', hr'⟩ := hPT.at_ (fun e => by rw [e] at hj; exact absurd hj (Nat.not_lt_zero _))
    cases hb'
    obtain ⟨Aq, nq, cq, e0, hq⟩ := hr' k hj;replace e0 := ext.cellv e0;replace hq := hq.ext ext;have HNQ := Lib.hid (show nq <= 512 by rw [<- hq.len]; exact HTL.out _ (List.mem_of_mem_drop (List.getElem_mem hj)))
    have HT := Lib.hid (show conjC ((ts.drop (i0 + 1)).take (k + 1)) i0 = (conjC ((ts.drop (i0 + 1)).take k) i0 && !chaB (ts.drop (i0 + 1))[k] i0) by
     unfold conjC;rw [List.take_succ_eq_append_getElem hj, List.all_append];simp)
    have HF := Lib.hid (fun hf : chaB (ts.drop (i0 + 1))[k] i0 = true => show conjC (ts.drop (i0 + 1)) i0 = false by
     unfold conjC;rw [List.all_eq_false];exact ⟨(ts.drop (i0 + 1))[k], List.getElem_mem hj, by rw [hf]; decide⟩)
    generalize (ts.drop (i0 + 1))[k] = r at hq HT HF
    cases hcb : chaB r i0 with
    | false =>
     have HC := Lib.hid hcb;clear hcb
     go_wp2_with fail
     refine (p_changesT hq (by omega) (by omega) (by have := HNQ.out; omega)).mono ?_;rintro e V1 ⟨rfl, hx1⟩;rw [HC.out]
     go_wp2_with fail
     go_roundw
     case rel => exact ⟨k + 1, by omega, by go_num, ext.trans hx1, by rw [HT.out, HA.out, HC.out]; rfl⟩
     case measure => simp [intOf]; omega
    | true =>
     have HC := Lib.hid hcb;clear hcb
     go_wp2_with fail
     refine (p_changesT hq (by omega) (by omega) (by have := HNQ.out; omega)).mono ?_;rintro e V1 ⟨rfl, hx1⟩;rw [HC.out]
     go_wp2_with fail
     rw [HF.out HC.out];exact bodyPost_ret (v := .tuple #[.slice Option.none 0 0, .bool false]) (by simp [results, Tryz.results27, go_sem]) rfl ⟨rfl, (EW.trans ext).trans hx1⟩
   ·have hkn : k = nt - (i0 + 1) := by omega
    have hI : ((nt - (i0 + 1) : Nat) : Int) <= (k : Int) := by omega
    have hc := HA.out;rw [hkn, List.take_of_length_le (Nat.le_of_eq HDL.out)] at hc;have HC := Lib.hid hc;clear hc hkn
    go_wp2_with fail
    refine (p_each6_clone (hq0.ext (EW.trans ext)) hL (by omega)).mono ?_;rintro e V1 ⟨rfl, hR, hx1⟩;rw [show qs.map (fun x : Rat => x) = qs by simp] at hR;have hgr : w.heap.size <= wr.heap.size := (EW.trans ext).size;have E1 := (EW.trans ext).trans hx1;generalize wr.heap.size = g10 at hR hgr ⊢
    go_wp2_with fail
    go_loopw [45] (fun i wq => ∃ j : Nat, j <= n /\ i = .int .i64 (j : Int) /\ Ext w wq /\ RRow wq g10 (flipL i0 (qs.take j) ++ qs.drop j) L) (fun i _ => n - (intOf i).toNat)
    case atStart => exact ⟨0, Nat.zero_le _, rfl, E1, by rw [List.take_zero, List.drop_zero]; exact hR⟩
    case round =>
     clear hR E1;obtain ⟨j, hj, rfl, E2, hR⟩ := hrel
     by_cases hlt2 : j < n
     ·have hjq : j < qs.length := by rw [HQL.out]; exact hlt2
      have hI2 : (j : Int) < (n : Int) := by omega
      obtain ⟨b2, off2, rfl, hr2⟩ := hq0.at_ (fun e => by rw [e] at hjq; exact absurd hjq (Nat.not_lt_zero _));obtain ⟨sx, Ax, nx, cx, tx, Bx, mx, dx, e0, e1, e2, e3, hx⟩ := (hr2.ext E2).at_ j hjq;have e0' : wr.cell? ⟨b2, off2 + j * 4, none⟩ = some (.bool sx) := by rw [Nat.mul_comm]; exact e0
      have e1' : wr.cell? ⟨b2, off2 + j * 4 + 1, none⟩ = some (.slice Ax nx cx) := by rw [Nat.mul_comm]; exact e1
      have e2' : wr.cell? ⟨b2, off2 + j * 4 + 2, none⟩ = some (.bool tx) := by rw [Nat.mul_comm]; exact e2
      have e3' : wr.cell? ⟨b2, off2 + j * 4 + 3, none⟩ = some (.slice Bx mx dx) := by rw [Nat.mul_comm]; exact e3
      have hkl : j < (flipL i0 (qs.take j) ++ qs.drop j).length := by rw [List.length_append, flipL_length, List.length_take, List.length_drop]; omega
      have hF0 := flipL_snoc i0 (qs.take j) qs[j];rw [<- List.take_succ_eq_append_getElem hjq, List.length_take, Nat.min_eq_left (Nat.le_of_lt hjq)] at hF0;have HFS := Lib.hid hF0;have HDS := Lib.hid (List.drop_eq_getElem_cons hjq);have HSS := Lib.hid (flip_set (i := i0) hjq);clear hF0;generalize qs[j] = q at hx HFS HDS HSS
      go_upto_region 13 with (fail)
      obtain ⟨W9, hW9, ext9, bx, hz9⟩ := box1 wr 30 #[.bool sx, .slice Ax nx cx, .bool tx, .slice Bx mx dx];rw [<- hW9];clear hW9 hz9 e0 e1 e2 e3 e0' e1' e2' e3';replace hx := hx.ext ext9;replace hR := hR.ext ext9;replace E2 := E2.trans ext9
      cases hcb : belB j i0 with
      | false =>
       have HC2 := Lib.hid hcb;clear hcb
       go_wp2_with fail
       refine (p_belongsT _ j i0 (by omega) (by omega)).mono ?_;rintro e V2 ⟨rfl, hx2⟩;rw [HC2.out]
       go_wp2_with fail
       go_roundw
       case rel =>
        refine ⟨j + 1, by omega, by go_num, E2.trans hx2, ?_⟩;have h9 := hR.ext hx2;rw [HDS.out] at h9;rw [HFS.out, HC2.out, List.append_assoc];exact h9
       case measure => simp [intOf]; omega
      | true =>
       have HC2 := Lib.hid hcb;clear hcb
       go_wp2_with fail
       refine (p_belongsT _ j i0 (by omega) (by omega)).mono ?_;rintro e V2 ⟨rfl, hx2⟩;rw [HC2.out];replace bx := bx.ext hx2;replace hx := hx.ext hx2;replace hR := hR.ext hx2;replace E2 := E2.trans hx2;have x0 := bx.cell 0 (.bool sx) rfl;have x1 := bx.cell 1 (.slice Ax nx cx) rfl;have x2 := bx.cell 2 (.bool tx) rfl;have x3 := bx.cell 3 (.slice Bx mx dx) rfl
       go_wp2_with fail
       refine (p_NegR hx (by omega)).mono ?_;rintro e V3 ⟨s7, A7, n7, c7, t7, B7, m7, d7, rfl, h7, hx3⟩;replace hR := hR.ext hx3;replace E2 := E2.trans hx3;clear x0 x1 x2 x3;obtain ⟨s8, A8, n8, c8, t8, B8, m8, d8, p0, p1, p2, p3, _⟩ := hR.get hkl;have f0 := hR.frozen (j * 4);have f1 := hR.frozen (j * 4 + 1);have f2 := hR.frozen (j * 4 + 2);have f3 := hR.frozen (j * 4 + 3)
       go_wp2_with fail
       have PP := hR.put hkl h7;rw [HSS.out] at PP
       go_roundw
       case rel =>
        refine ⟨j + 1, by omega, by go_num, PP.2.2 _ E2 hgr, ?_⟩;rw [HFS.out, HC2.out];exact PP.1
       case measure => simp [intOf]; omega
     ·have hjn : j = n := by omega
      subst hjn;rw [List.take_of_length_le (Nat.le_of_eq HQL.out), List.drop_of_length_le (Nat.le_of_eq HQL.out), List.append_nil] at hR;have hI2 : (j : Int) <= (j : Int) := Int.le_refl _;have hpj := hR.pol (by rw [flipL_length, HQL.out]) (by unfold maxLen; omega)
      go_wp2_with fail
      rw [HC.out];exact bodyPost_ret (v := .tuple #[.slice (some ⟨g10, 0, Option.none⟩) j j, .bool true]) (by simp [results, Tryz.results27, go_sem]) rfl ⟨_, _, _, rfl, hpj, E2⟩
end
end
end Go.Proofs.YtgagcochepnelaaGreatDoor
