/- For every two lists of numbers and every number the law PolynomialEval returns true: Eval and Compose return the specified results, and the value of a composition is the value at the value, the arguments keep their values, and the examples of the chapter hold. Condition: the table math/bits.deBruijn64tab holds what its initialiser lays (tied by the given card). -/
import Derived.Test.YtpeddoaknfjbbaaGreatDoorMe0
import Derived.Test.YtpeddoaknfjbbaaGreatDoorMe5
import Derived.Test.YtpeddoaknfjbbaaGreatDoorMe12
import Derived.Test.YtpeddoaknfjbbaaGreatDoorMe11
import Derived.Test.YtpeddoaknfjbbaaGreatDoorMe7
import Derived.Test.YtpeddoaknfjbbaaGreatDoorMe3
import Derived.Test.YtpeddoaknfjbbaaGreatDoorRows
import Derived.ProofKit
import Derived.Lib.SmallJoins
import Derived.Test.YtpeddoaknfjbbaaGreatDoorCards
import Derived.Test.YtpeddoaknfjbbaaGreatDoorTie
import Derived.LaidMore
import Derived.OpenShut
import Derived.LaidLaws
import Derived.Deep.Slices
import Derived.Lib.LaidTab
import Derived.SevenTiedAt
import Derived.Stop.Joined
set_option linter.unusedSimpArgs false
set_option linter.unusedVariables false
set_option maxHeartbeats 64000000
namespace Go.Proofs.YtpeddoaknfjbbaaGreatDoor
section
open Go.RowKit
section
variable {P : Program} {md : Region.Mode} {ops : Array Oper} {Q : Exit -> Act -> World -> Prop} {W0 : World}
theorem Late.two {AL : List Al} {n i i2 : Nat} {o o2 : Oper} {L : Array Bool} {a : Act} {w : World} (ho : ops[i]? = some o) (ho2 : ops[i2]? = some o2) (hs : Region.noSelect ops = true) (hal : ∀ x ∈ AL, IsAl P ops x)
  (hr : Region.ready md ops (allMarks L AL) = [i, i2]) (hri : (Region.ready md ops L).contains i = true) (hp : sep ops AL i o = true) (hp2 : sep ops AL i2 o2 = true) (hQ : QStill Q)
  (h : ∀ w', Ext w w' -> Ext W0 w' -> ∀ K : Act -> World -> Prop, Shut (∀ a' w'', Ext w' w'' -> Late P md ops Q W0 AL n (L.setIfInBounds i true) a' w'' -> K a' w'') -> if Region.wanted o (yielded ops a.tmps) = true then Oper.wp P o a w' K Q else K (a.put o.dst undef) w')
  (h2 : ∀ w', Ext w w' -> Ext W0 w' -> ∀ K : Act -> World -> Prop, Shut (∀ a' w'', Ext w' w'' -> Late P md ops Q W0 AL n (L.setIfInBounds i2 true) a' w'' -> K a' w'') -> if Region.wanted o2 (yielded ops a.tmps) = true then Oper.wp P o2 a w' K Q else K (a.put o2.dst undef) w') :
  Late P md ops Q W0 AL (n + 1) L a w := by
 have fin : ∀ (j : Nat) (oj : Oper) (hoj : ops[j]? = some oj) (hpj : sep ops AL j oj = true)
   (hj : ∀ w', Ext w w' -> Ext W0 w' -> ∀ K : Act -> World -> Prop, Shut (∀ a' w'', Ext w' w'' -> Late P md ops Q W0 AL n (L.setIfInBounds j true) a' w'' -> K a' w'') -> if Region.wanted oj (yielded ops a.tmps) = true then Oper.wp P oj a w' K Q else K (a.put oj.dst undef) w')
   (w' : World) (_ : Ext w w') (_ : Ext W0 w') (D : List (Al × Nat)) (_ : Val W0 AL w' D) (f : Nat) (_ : n + 1 + AL.length = f + 1 + D.length),
   wpOp P ops Q j (fun a' w'' => Ext W0 w'' /\ wpAnyH P md ops Q (Ext W0) f ((marks L D).setIfInBounds j true) a' w'') (lays a D) w' := by
  intro j oj hoj hpj hj w' e hS D hD f hl;have hsep := fun y (hy : y ∈ D) => sep_spec hpj (hD.mem y hy)
  refine wpOp_lays hoj (fun cs b => Region.noSelect_spec hs j oj cs b hoj) hQ D _ a (fun y hy => (hsep y hy).2) (wpOp_step hoj fun K' hK => hj w' e hS K' (fun a' w'' e' hL => hK a' w'' ?_));have hS' := hS.trans e';refine ⟨hS', ?_⟩;have := hL w'' (Ext.refl _) hS' D (hD.ext e') f (by omega)
  rwa [marks_set D L j (fun y hy => (hsep y hy).1)] at this
 have go : ∀ (k : Nat) w', Ext w w' -> Ext W0 w' -> ∀ D, Val W0 AL w' D -> AL.length <= D.length + k -> ∀ f, n + 1 + AL.length = f + D.length -> wpAnyH P md ops Q (Ext W0) f (marks L D) (lays a D) w' := by
  intro k
  induction k with
  | zero =>
   intro w' e hS D hD hk f hl;have hlen := hD.len;obtain ⟨f, rfl⟩ : ∃ k, f = k + 1 := ⟨f - 1, by omega⟩;have hsep := fun y (hy : y ∈ D) => sep_spec hp (hD.mem y hy)
   have hir : i ∈ Region.ready md ops (marks L D) := ready_marks D L (by simpa using hri) (fun y hy => (hsep y hy).1);refine ⟨(fun h0 => by rw [h0] at hir; cases hir), fun j hj => ?_⟩
   have hji : j = i \/ j = i2 := by
    by_cases hx : ∃ x ∈ AL, x.i = j
    ·obtain ⟨x, hx, rfl⟩ := hx
     have hun := (marks_un D L x.i (mem_ready.1 hj).1).2;have := hD.len_lt hx hun;omega
    ·have := ready_all hD.mem hj (fun x hx' e => hx ⟨x, hx', e⟩)
     rw [hr] at this
     simpa using this
   rcases hji with e' | e'
   ·rw [e']; exact fin i o ho hp h w' e hS D hD f hl
   ·rw [e']; exact fin i2 o2 ho2 hp2 h2 w' e hS D hD f hl
  | succ k ih =>
   intro w' e hS D hD hk f hl;have hlen := hD.len;obtain ⟨f, rfl⟩ : ∃ k, f = k + 1 := ⟨f - 1, by omega⟩;have hsep := fun y (hy : y ∈ D) => sep_spec hp (hD.mem y hy)
   have hir : i ∈ Region.ready md ops (marks L D) := ready_marks D L (by simpa using hri) (fun y hy => (hsep y hy).1);refine ⟨(fun h0 => by rw [h0] at hir; cases hir), fun j hj => ?_⟩
   by_cases hx : ∃ x ∈ AL, x.i = j
   ·obtain ⟨x, hx, rfl⟩ := hx
    have hun := (marks_un D L x.i (mem_ready.1 hj).1).2;refine wpOp_alloc (hal x hx) ?_;have e1 := (Ext.refl w').alloc (.cells x.cs x.t);have hS1 := hS.trans e1;refine ⟨hS1, ?_⟩;have := ih (w'.alloc (.cells x.cs x.t)) (e.trans e1) hS1 (D ++ [(x, w'.heap.size)]) (hD.snoc hx hun hS) (by simp; omega) f (by simp; omega)
    rwa [marks_snoc, lays_snoc] at this
   ·have := ready_all hD.mem hj (fun x hx' e => hx ⟨x, hx', e⟩)
    rw [hr] at this;have hji : j = i \/ j = i2 := by simpa using this
    rcases hji with e' | e'
    ·rw [e']; exact fin i o ho hp h w' e hS D hD f hl
    ·rw [e']; exact fin i2 o2 ho2 hp2 h2 w' e hS D hD f hl
 exact fun w' e hS D hD f hl => go AL.length w' e hS D hD (by omega) f hl
end
end
section
open Go.RowKit
attribute [local go_sem ↓] Go.wp_at_zero Go.wp_at_succ
theorem polOne {w : World} {g M : Nat} {x : Rat} {s : Bool} {A : Option Addr} {n c : Nat} {t : Bool} {B : Option Addr} {m d : Nat} (hb : Box w g 27 #[.bool s, .slice A n c, .bool t, .slice B m d]) (hx : NR w x M s A n c t B m d) : Pol w (some ⟨g, 0, none⟩) 1 1 [x] M := by
 refine ⟨rfl, Nat.le_refl _, by unfold maxLen; omega, fun _ => ⟨g, 0, rfl, ⟨fun i hi => ?_⟩⟩⟩;have h0 : i = 0 := by simpa using hi
 subst h0;exact ⟨s, A, n, c, t, B, m, d, hb.cell 0 _ rfl, hb.cell 1 _ rfl, hb.cell 2 _ rfl, hb.cell 3 _ rfl, hx⟩
theorem Pol.tightV {w : World} {A : Option Addr} {n c L M : Nat} {qs : List Rat} (h : Pol w A n c qs L) (hb : ∀ q ∈ qs, q.num.natAbs < 4294967296 ^ M /\ q.den < 4294967296 ^ M) : Pol w A n c qs M :=
 ⟨h.len, h.cap, h.top, fun hq => by
  obtain ⟨b, off, h1, h2⟩ := h.at_ hq;refine ⟨b, off, h1, ⟨fun i hi => ?_⟩⟩;obtain ⟨s, A, n, c, t, B, m, d, k1, k2, k3, k4, k5⟩ := h2.at_ i hi;have hm := hb _ (List.getElem_mem hi);exact ⟨s, A, n, c, t, B, m, d, k1, k2, k3, k4, ⟨k5.num.tight' hm.1, k5.den.tight' (by rw [Int.natAbs_natCast]; exact hm.2)⟩⟩⟩
section
variable {w w' : World} {L M : Nat} {s t : Bool} {A B : Option Addr} {n c m d : Nat} {qs ps ts : List Rat} {sx tx : Bool} {Ax Bx : Option Addr} {nx cx mx dx : Nat}
set_option maxRecDepth 100000 in
theorem p_EvalP {x : Rat} {X Y N : Nat} (h : Pol w A n c qs L) (hx : NR w x M sx Ax nx cx tx Bx mx dx) (hL : L <= 500) (hM : M <= 60) (hn : n <= 40) (hNL : n * L <= 2900) (hCx : Hid (L < 64 \/ (denP qs < 4294967296 ^ 126 /\ ∀ z ∈ numsP qs, z.natAbs < 4294967296 ^ 126))) (hX : SizeP qs X) (hY : SizeP [x] Y) (hX1 : X <= 126) (hY1 : Y < 64) (hN : n <= N) (hXC : min X (N * Y + 1) < 64) (hS : sW X Y Y N + 1 <= 1000) (hC : N * Y + 1 <= 1000) (hT : Tab w) :
  Calls Tryz.prog 28 #[.slice A n c, .agg #[.bool sx, .slice Ax nx cx, .bool tx, .slice Bx mx dx]] w (RetNR (evalQ qs x) (sW X Y Y N + 1 + X + (N * Y + 1) + 1) w) := by
 have hH := comp_horn (N := N) hX hY (by rw [h.len]; exact hN) (by simp);have HE := Lib.hid (const_list (comp_const x qs).1 (comp_const x qs).2 (compQ_trim qs [x]));have HCS := Lib.hid (comp_same qs [x])
 go_enter Tryz.func28, Tryz.ntmps28
 go_upto_region 1 with (fail)
 obtain ⟨W, hW, extW, bx, bz, hz⟩ := box2 w 27 27 #[.bool sx, .slice Ax nx cx, .bool tx, .slice Bx mx dx] #[Value.bool false, Value.slice none 0 0, Value.bool false, Value.slice none 0 0];rw [<- hW];clear hW;have x0 := bx.cell 0 (.bool sx) rfl;have x1 := bx.cell 1 (.slice Ax nx cx) rfl;have x2 := bx.cell 2 (.bool tx) rfl;have x3 := bx.cell 3 (.slice Bx mx dx) rfl;have ha := (Ext.refl W).alloc (.cells #[.bool sx, .slice Ax nx cx, .bool tx, .slice Bx mx dx] 27);have hp := polOne (Box.new W 27 #[.bool sx, .slice Ax nx cx, .bool tx, .slice Bx mx dx]) (hx.ext (extW.trans ha))
 go_wp2_with fail
 refine (p_ComposeV (h.ext (extW.trans ha)) hp hL hM hn (by omega) hNL hCx hX hY hX1 hXC hY1 hH hS hC (hT.ext (extW.trans ha))).mono ?_;rw [HCS.out, HE.out];rintro e V ⟨A2, n2, c2, rfl, h2, hx2⟩;have EV := ha.trans hx2;clear x0 x1 x2 x3 hx2 ha hp hx h hH hCx hX hY;obtain ⟨v, hve⟩ : ∃ v, evalQ qs x = v := ⟨_, rfl⟩;rw [hve] at h2;have HV := Lib.hid hve;clear hve;have hK : 2 <= sW X Y Y N + 1 + X + (N * Y + 1) + 1 := by omega
 by_cases hv : v = 0
 ·subst hv
  rw [if_pos rfl] at h2;have hn2 : n2 = 0 := h2.len.symm;subst hn2
  go_wp2_with fail
  refine (p_FromIntR 0 (by omega) (by omega)).mono ?_;rintro e V2 ⟨s9, A9, n9, c9, t9, B9, m9, d9, rfl, h9, hx3⟩;have e0 : ((0 : Int) : Rat) = 0 := rfl;rw [e0] at h9;have hxt := EV.trans hx3;have z0 := (bz.ext hxt).cell 0 _ rfl;have z1 := (bz.ext hxt).cell 1 _ rfl;have z2 := (bz.ext hxt).cell 2 _ rfl;have z3 := (bz.ext hxt).cell 3 _ rfl;have f0 := (bz.ext hxt).frozen 0;have f1 := (bz.ext hxt).frozen 1;have f2 := (bz.ext hxt).frozen 2;have f3 := (bz.ext hxt).frozen 3
  go_wp2_with fail
  obtain ⟨b1, b2, b3, b4⟩ := fin_quad (s := s9) (A := A9) (n := n9) (c := c9) (t := t9) (B := B9) (m := m9) (d := d9) (bz.ext hxt);have r0 := b1.cell 0 (.bool s9) rfl;have r1 := b1.cell 1 (.slice A9 n9 c9) rfl;have r2 := b1.cell 2 (.bool t9) rfl;have r3 := b1.cell 3 (.slice B9 m9 d9) rfl;unfold set4 at r0 r1 r2 r3;refine bodyPost_ret (v := .agg #[.bool s9, .slice A9 n9 c9, .bool t9, .slice B9 m9 d9]) (by simp [results, Tryz.results28, go_sem, r0, r1, r2, r3]) rfl ⟨s9, A9, n9, c9, t9, B9, m9, d9, rfl, ⟨?_, ?_⟩, b3 _ (extW.trans hxt) (by omega)⟩
  ·rw [HV.out]; exact (b2 _ _ _ _ _ _ h9.num).le hK
  ·rw [HV.out]; exact (b2 _ _ _ _ _ _ h9.den).le hK
 ·rw [if_neg hv] at h2
  have hn2 : n2 = 1 := h2.len.symm;subst hn2;obtain ⟨b, off, rfl, hr⟩ := h2.at_ (by simp);obtain ⟨sy, Ay, ny, cy, ty, By, my, dy, e0, e1, e2, e3, hy⟩ := hr.at_ 0 (by simp);simp only [Nat.mul_zero, Nat.add_zero] at e0 e1 e2 e3;have hy' : NR V v (sW X Y Y N + 1 + X + (N * Y + 1) + 1) sy Ay ny cy ty By my dy := hy;have hxt := EV;have z0 := (bz.ext hxt).cell 0 _ rfl;have z1 := (bz.ext hxt).cell 1 _ rfl;have z2 := (bz.ext hxt).cell 2 _ rfl;have z3 := (bz.ext hxt).cell 3 _ rfl;have f0 := (bz.ext hxt).frozen 0;have f1 := (bz.ext hxt).frozen 1;have f2 := (bz.ext hxt).frozen 2;have f3 := (bz.ext hxt).frozen 3
  go_wp2_with fail
  obtain ⟨b1, b2, b3, b4⟩ := fin_quad (s := sy) (A := Ay) (n := ny) (c := cy) (t := ty) (B := By) (m := my) (d := dy) (bz.ext hxt);have r0 := b1.cell 0 (.bool sy) rfl;have r1 := b1.cell 1 (.slice Ay ny cy) rfl;have r2 := b1.cell 2 (.bool ty) rfl;have r3 := b1.cell 3 (.slice By my dy) rfl;unfold set4 at r0 r1 r2 r3;refine bodyPost_ret (v := .agg #[.bool sy, .slice Ay ny cy, .bool ty, .slice By my dy]) (by simp [results, Tryz.results28, go_sem, r0, r1, r2, r3]) rfl ⟨sy, Ay, ny, cy, ty, By, my, dy, rfl, ⟨?_, ?_⟩, b3 _ (extW.trans hxt) (by omega)⟩
  ·rw [HV.out]; exact b2 _ _ _ _ _ _ hy'.num
  ·rw [HV.out]; exact b2 _ _ _ _ _ _ hy'.den
theorem evalQ_drop {l : List Rat} {x : Rat} {j : Nat} (h : j < l.length) : evalQ (l.drop j) x = evalQ (l.drop (j + 1)) x * x + l[j] := by
 rw [List.drop_eq_getElem_cons h]
 rfl
theorem compQ_drop {l b : List Rat} {j : Nat} (h : j < l.length) : compQ (l.drop j) b = trimP (sumP (prodQ (compQ (l.drop (j + 1)) b) b) [l[j]]) := by
 rw [List.drop_eq_getElem_cons h]
 rfl
set_option maxRecDepth 100000 in
theorem q_EvalR {x : Rat} (h : Pol w A n c qs L) (hx : NR w x M sx Ax nx cx tx Bx mx dx) (hL : L <= 60) (hM : M <= 100) (hn : n <= 5) : Calls Tryz.prog 32 #[.slice A n c, .agg #[.bool sx, .slice Ax nx cx, .bool tx, .slice Bx mx dx]] w (RetNR (evalQ qs x) (2 + n * (L + M + 1)) w) := by
 have Hlen := Lib.hid h.len;have hnL : n * (L + M + 1) <= 5 * (60 + 100 + 1) := Nat.mul_le_mul hn (by omega)
 go_enter Tryz.func32, Tryz.ntmps32
 go_upto_region 1 with (fail)
 obtain ⟨W, hW, extW, bx, bz, hz⟩ := box2 w 27 27 #[.bool sx, .slice Ax nx cx, .bool tx, .slice Bx mx dx] #[Value.bool false, Value.slice none 0 0, Value.bool false, Value.slice none 0 0];rw [<- hW];clear hW;have hbzl := bz.lt
 go_wp2_with fail
 refine q_zeroR.mono ?_;rintro e V ⟨s9, A9, n9, c9, t9, B9, m9, d9, rfl, h9, hx1⟩
 go_upto_region 2 with (fail)
 have ha := (Ext.refl V).alloc (.cells #[.bool s9, .slice A9 n9 c9, .bool t9, .slice B9 m9 d9] 27);refine at_world (fun U => Ext W U /\ Box U V.heap.size 27 #[.bool s9, .slice A9 n9 c9, .bool t9, .slice B9 m9 d9] /\ NR U 0 2 s9 A9 n9 c9 t9 B9 m9 d9) ⟨hx1.trans ha, Box.new V _ _, h9.ext ha⟩ ?_;have hg5 : W.heap.size <= V.heap.size := hx1.size;clear ha hx1 h9 hz;generalize V.heap.size = g5 at hg5 ⊢;rintro V ⟨ext0, b5, h9⟩
 go_wp2_with fail
 go_loopw [6] (fun i wr => ∃ (j : Nat) (s' : Bool) (A' : Option Addr) (n' c' : Nat) (t' : Bool) (B' : Option Addr) (m' d' : Nat), j <= n /\ i = .int .i64 ((j : Int) - 1) /\ Ext W wr /\ Box wr g5 27 #[.bool s', .slice A' n' c', .bool t', .slice B' m' d'] /\ NR wr (evalQ (qs.drop j) x) (2 + (n - j) * (L + M + 1)) s' A' n' c' t' B' m' d') (fun i _ => (intOf i + 1).toNat)
 case atStart => exact ⟨n, s9, A9, n9, c9, t9, B9, m9, d9, Nat.le_refl _, by go_num, ext0, b5, by rw [List.drop_of_length_le (Nat.le_of_eq Hlen.out), Nat.sub_self, Nat.zero_mul]; exact h9⟩
 case round =>
  clear ext0 b5 h9;obtain ⟨j, s9, A9, n9, c9, t9, B9, m9, d9, hj, rfl, ext, b5, hg⟩ := hrel
  rcases Nat.eq_zero_or_pos j with h0 | h0
  ·subst h0
   rw [List.drop_zero, Nat.sub_zero] at hg;have hi : (((0 : Nat) : Int) - 1) = -1 := rfl;rw [hi];have x0 := b5.cell 0 _ rfl;have x1 := b5.cell 1 _ rfl;have x2 := b5.cell 2 _ rfl;have x3 := b5.cell 3 _ rfl;have hxt := ext;have z0 := (bz.ext hxt).cell 0 _ rfl;have z1 := (bz.ext hxt).cell 1 _ rfl;have z2 := (bz.ext hxt).cell 2 _ rfl;have z3 := (bz.ext hxt).cell 3 _ rfl;have f0 := (bz.ext hxt).frozen 0;have f1 := (bz.ext hxt).frozen 1;have f2 := (bz.ext hxt).frozen 2;have f3 := (bz.ext hxt).frozen 3
   go_wp2_with fail
   obtain ⟨b1, b2, b3, b4⟩ := fin_quad (s := s9) (A := A9) (n := n9) (c := c9) (t := t9) (B := B9) (m := m9) (d := d9) (bz.ext hxt);have r0 := b1.cell 0 (.bool s9) rfl;have r1 := b1.cell 1 (.slice A9 n9 c9) rfl;have r2 := b1.cell 2 (.bool t9) rfl;have r3 := b1.cell 3 (.slice B9 m9 d9) rfl;unfold set4 at r0 r1 r2 r3;refine bodyPost_ret (v := .agg #[.bool s9, .slice A9 n9 c9, .bool t9, .slice B9 m9 d9]) (by simp [results, Tryz.results32, go_sem, r0, r1, r2, r3]) rfl ⟨s9, A9, n9, c9, t9, B9, m9, d9, rfl, ⟨?_, ?_⟩, b3 _ (extW.trans hxt) (by omega)⟩
   ·exact b2 _ _ _ _ _ _ hg.num
   ·exact b2 _ _ _ _ _ _ hg.den
  ·obtain ⟨k, rfl⟩ : ∃ k, j = k + 1 := ⟨j - 1, by omega⟩
   have hk : k < qs.length := by rw [Hlen.out]; omega
   have hI : (k : Int) < (n : Int) := by omega
   have hi : (((k + 1 : Nat) : Int) - 1) = (k : Int) := by omega
   have hi0 : (0 : Int) <= (k : Int) := by omega
   rw [hi];clear hi;have HT := Lib.hid (evalQ_drop (x := x) hk);obtain ⟨b, off, rfl, hr⟩ := h.at_ (fun e => by rw [e] at hk; exact absurd hk (Nat.not_lt_zero _));obtain ⟨sy, Ay, ny, cy, ty, By, my, dy, e0, e1, e2, e3, hq⟩ := (hr.ext (extW.trans ext)).at_ k hk;have e0' : wr.cell? ⟨b, off + k * 4, none⟩ = some (.bool sy) := by rw [Nat.mul_comm]; exact e0
   have e1' : wr.cell? ⟨b, off + k * 4 + 1, none⟩ = some (.slice Ay ny cy) := by rw [Nat.mul_comm]; exact e1
   have e2' : wr.cell? ⟨b, off + k * 4 + 2, none⟩ = some (.bool ty) := by rw [Nat.mul_comm]; exact e2
   have e3' : wr.cell? ⟨b, off + k * 4 + 3, none⟩ = some (.slice By my dy) := by rw [Nat.mul_comm]; exact e3
   clear e0 e1 e2 e3;have bx2 := bx.ext ext;have hx2 := hx.ext (extW.trans ext);have hw : (n - (k + 1)) * (L + M + 1) + (L + M + 1) = (n - k) * (L + M + 1) := by rw [<- Nat.succ_mul]; congr 1; omega
   have hw2 : (n - (k + 1)) * (L + M + 1) <= n * (L + M + 1) := Nat.mul_le_mul_right _ (by omega);generalize (n - (k + 1)) * (L + M + 1) = K1 at hg hw hw2;generalize evalQ (qs.drop (k + 1)) x = v at hg HT;generalize qs[k] = q at hq HT
   go_upto_region 5 with (fail)
   refine wpL.st 8 (fun hQ ES => ?_);refine wpL.tB [2,7,8] 0 15 ?v_0 hQ ?y_0 ES ?_
   case y_0 => intro w' hSw;have q0 := hSw.cellv e0';have q1 := hSw.cellv e1';have q2 := hSw.cellv e2';have q3 := hSw.cellv e3';have k0 := (b5.ext hSw).c4;have j0 := (bx2.ext hSw).c4;go_simp;try rfl
   try simp only [zP]
   refine wpL.tB [2,7,8] 1 16 ?v_1 hQ ?y_1 ES ?_
   case y_1 => intro w' hSw;have q0 := hSw.cellv e0';have q1 := hSw.cellv e1';have q2 := hSw.cellv e2';have q3 := hSw.cellv e3';have k0 := (b5.ext hSw).c4;have j0 := (bx2.ext hSw).c4;go_simp;try rfl
   try simp only [zP]
   refine wpL.tB [5,6,7,8] 3 18 ?v_2 hQ ?y_2 ES ?_
   case y_2 => intro w' hSw;have q0 := hSw.cellv e0';have q1 := hSw.cellv e1';have q2 := hSw.cellv e2';have q3 := hSw.cellv e3';go_simp;try rfl
   try simp only [zP]
   refine wpL.tB [5,6,7,8] 4 19 ?v_3 hQ ?y_3 ES ?_
   case y_3 => intro w' hSw;have q0 := hSw.cellv e0';have q1 := hSw.cellv e1';have q2 := hSw.cellv e2';have q3 := hSw.cellv e3';go_simp;try rfl
   try simp only [zP]
   refine wpL.tB [6,7,8] 5 20 ?v_4 hQ ?y_4 ES ?_
   case y_4 => intro w' hSw;have q0 := hSw.cellv e0';have q1 := hSw.cellv e1';have q2 := hSw.cellv e2';have q3 := hSw.cellv e3';go_simp;try rfl
   try simp only [zP]
   refine wpL.tB [7,8] 6 21 ?v_5 hQ ?y_5 ES ?_
   case y_5 => intro w' hSw;have q0 := hSw.cellv e0';have q1 := hSw.cellv e1';have q2 := hSw.cellv e2';have q3 := hSw.cellv e3';have k0 := (b5.ext hSw).c4;have j0 := (bx2.ext hSw).c4;go_simp;try rfl
   try simp only [zP]
   refine wpL.cl (i := 2) rfl (fun K hK => ?_);go_simp
   (go_at_call 60; refine (q_MulR (hg.ext ES) (hx2.ext ES) (by omega) (by omega)).mono ?_; rintro e wa ⟨s7, A7, n7, c7, t7, B7, m7, d7, rfl, h7, hx0⟩; have E2 := Ext.trans ES hx0)
   refine hK.out _ _ E2 ?_;clear hK K
   try simp only [zP]
   refine wpL.cl (i := 7) rfl (fun K hK => ?_);go_simp
   (go_at_call 54; refine (q_AddR h7 (hq.ext E2) (by omega) (by omega)).mono ?_; rintro e wb ⟨s8, A8, n8, c8, t8, B8, m8, d8, rfl, h8, hx1⟩; have E7 := Ext.trans E2 hx1)
   refine hK.out _ _ E7 ?_;clear hK K
   try simp only [zP]
   have z0 := (b5.ext E7).cell 0 _ rfl;have f0 := (b5.ext E7).frozen 0;have z1 := (b5.ext E7).cell 1 _ rfl;have f1 := (b5.ext E7).frozen 1;have z2 := (b5.ext E7).cell 2 _ rfl;have f2 := (b5.ext E7).frozen 2;have z3 := (b5.ext E7).cell 3 _ rfl;have f3 := (b5.ext E7).frozen 3;refine wpL.tl (i := 8) rfl (fun K hK => ?_);go_simp;refine hK.out _ _ ?_;clear hK K
   try simp only [zP]
   refine wpL.done (by kernel_rfl) ?_ _;clear hQ
   go_wp2_with fail
   obtain ⟨q1, q2, q3, q4⟩ := fin_quad (s := s8) (A := A8) (n := n8) (c := c8) (t := t8) (B := B8) (m := m8) (d := d8) (b5.ext E7);unfold set4 at q1 q2 q3 q4;have extk := q3 _ (ext.trans E7) hg5
   go_roundw
   case rel => exact ⟨k, s8, A8, n8, c8, t8, B8, m8, d8, by omega, by go_num, extk, q1, by rw [HT.out, <- hw]; exact ⟨(q2 _ _ _ _ _ _ h8.num).le (by omega), (q2 _ _ _ _ _ _ h8.den).le (by omega)⟩⟩
   case measure => simp [intOf] <;> omega
set_option maxRecDepth 100000 in
theorem q_ComposeP {E N : Nat} (h : Pol w A n c qs L) (h' : Pol w B m d ps M) (hL2 : 2 <= L) (hM2 : 2 <= M) (hE2 : 2 <= E) (hL : L <= 100) (hM : M <= 100) (hn : n <= 40) (hm : m <= 40) (hK : 2 + m * (E + M + 1) <= 400) (hE : E <= 400) (hN : N <= 100) (hB : ∀ j, j <= n -> (compQ (qs.drop j) ps).length <= N /\ ∀ q ∈ compQ (qs.drop j) ps, q.num.natAbs < 4294967296 ^ E /\ q.den < 4294967296 ^ E) :
  Calls Tryz.prog 29 #[.slice A n c, .slice B m d] w (RetPol (compQ qs ps) E w) := by
 have Hlen := Lib.hid h.len;have HB := Lib.hid hB;have HK := Lib.hid hK;have hm9 : m * (E + M + 1) <= 398 := by omega
 clear hB hK
 go_enter Tryz.func29, Tryz.ntmps29
 go_wp2_with fail
 go_loopw [5, 6] (fun v i wr => ∃ (j : Nat) (A5 : Option Addr) (n5 c5 : Nat), j <= n /\ i = .int .i64 ((j : Int) - 1) /\ v = .slice A5 n5 c5 /\ Ext w wr /\ Pol wr A5 n5 c5 (compQ (qs.drop j) ps) E /\ n5 <= N) (fun _ i _ => (intOf i + 1).toNat)
 case atStart => exact ⟨n, none, 0, 0, Nat.le_refl _, by go_num, rfl, Ext.refl w, by rw [List.drop_of_length_le (Nat.le_of_eq Hlen.out)]; exact Pol.none w E, Nat.zero_le _⟩
 case round =>
  obtain ⟨j, A5, n5, c5, hj, rfl, rfl, ext, ho, hn5⟩ := hrel
  rcases Nat.eq_zero_or_pos j with h0 | h0
  ·subst h0
   rw [List.drop_zero] at ho;have hi : (((0 : Nat) : Int) - 1) = -1 := rfl;rw [hi]
   go_wp2_with fail
   refine (q_TrimP ho (by omega) (by omega)).mono ?_;rw [compQ_trim];rintro e V ⟨A8, n8, c8, rfl, h8, hxt⟩
   go_wp2_with fail
   go_ret
   exact ⟨A8, n8, c8, rfl, h8, ext.trans hxt⟩
  ·obtain ⟨k, rfl⟩ : ∃ k, j = k + 1 := ⟨j - 1, by omega⟩
   have hk : k < qs.length := by rw [Hlen.out]; omega
   have hI : (k : Int) < (n : Int) := by omega
   have hi : (((k + 1 : Nat) : Int) - 1) = (k : Int) := by omega
   have hi0 : (0 : Int) <= (k : Int) := by omega
   rw [hi];clear hi;have HT := Lib.hid (compQ_drop (b := ps) hk);have HBd := Lib.hid (HB.out k (by omega)).2;have HLn := Lib.hid (HB.out k (by omega)).1;obtain ⟨b, off, rfl, hr⟩ := h.at_ (fun e => by rw [e] at hk; exact absurd hk (Nat.not_lt_zero _));obtain ⟨sy, Ay, ny, cy, ty, By, my, dy, e0, e1, e2, e3, hq⟩ := (hr.ext ext).at_ k hk;have e0' : wr.cell? ⟨b, off + k * 4, none⟩ = some (.bool sy) := by rw [Nat.mul_comm]; exact e0
   have e1' : wr.cell? ⟨b, off + k * 4 + 1, none⟩ = some (.slice Ay ny cy) := by rw [Nat.mul_comm]; exact e1
   have e2' : wr.cell? ⟨b, off + k * 4 + 2, none⟩ = some (.bool ty) := by rw [Nat.mul_comm]; exact e2
   have e3' : wr.cell? ⟨b, off + k * 4 + 3, none⟩ = some (.slice By my dy) := by rw [Nat.mul_comm]; exact e3
   clear e0 e1 e2 e3;have extw := ext;generalize compQ (qs.drop (k + 1)) ps = O at ho HT;have HPL := Lib.hid (show (prodQ O ps).length <= 140 by have h1 := prodQ_len O ps; have h2 := ho.len; have h3 := h'.len; omega);generalize qs[k] = q at hq HT
   go_upto_region 5 with (fail)
   have ES0 := Ext.refl wr;refine wp_region_held_drew (S := Ext wr) (by kernel_rfl) ES0.drew (fun ES => ?_);clear ES0;refine Late.s0 ES (fun hAl hQ => ?_);refine Late.t 0 14 ?v_0 hQ ?y_0 ?_
   case y_0 => intro w' hSw;have q0 := hSw.cellv e0';have q1 := hSw.cellv e1';have q2 := hSw.cellv e2';have q3 := hSw.cellv e3';go_simp;try rfl
   try simp only [zP]
   refine Late.t 1 15 ?v_1 hQ ?y_1 ?_
   case y_1 => intro w' hSw;have q0 := hSw.cellv e0';have q1 := hSw.cellv e1';have q2 := hSw.cellv e2';have q3 := hSw.cellv e3';go_simp;try rfl
   try simp only [zP]
   refine Late.t 3 17 ?v_2 hQ ?y_2 ?_
   case y_2 => intro w' hSw;have q0 := hSw.cellv e0';have q1 := hSw.cellv e1';have q2 := hSw.cellv e2';have q3 := hSw.cellv e3';go_simp;try rfl
   try simp only [zP]
   refine Late.t 4 18 ?v_3 hQ ?y_3 ?_
   case y_3 => intro w' hSw;have q0 := hSw.cellv e0';have q1 := hSw.cellv e1';have q2 := hSw.cellv e2';have q3 := hSw.cellv e3';go_simp;try rfl
   try simp only [zP]
   refine Late.t 5 19 ?v_4 hQ ?y_4 ?_
   case y_4 => intro w' hSw;have q0 := hSw.cellv e0';have q1 := hSw.cellv e1';have q2 := hSw.cellv e2';have q3 := hSw.cellv e3';go_simp;try rfl
   try simp only [zP]
   refine Late.t 6 20 ?v_5 hQ ?y_5 ?_
   case y_5 => intro w' hSw;have q0 := hSw.cellv e0';have q1 := hSw.cellv e1';have q2 := hSw.cellv e2';have q3 := hSw.cellv e3';go_simp;try rfl
   try simp only [zP]
   refine Late.two (i := 2) (i2 := 7) rfl rfl (by kernel_rfl) hAl (by kernel_rfl) (by kernel_rfl) (by kernel_rfl) (by kernel_rfl) hQ (fun w2 e2 E2 K hK => ?_) (fun w7 e7 E7 K hK => ?_);go_simp
   (go_at_call 25; refine (q_MulQ (ho.ext E2) (h'.ext (extw.trans E2)) (by omega) hM2 HK.out (by omega) (by omega)).mono ?_; rintro e wk1 ⟨A7, n7, c7, rfl, h7, hx2⟩; have hn7 : n7 <= 140 := by rw [<- h7.len]; exact HPL.out)
   refine hK.out _ _ hx2 ?_;clear hK K
   try simp only [zP]
   refine Late.cl (i := 7) rfl hAl hQ (fun w7 e7 E7 K hK => ?_);have hx7 := (Ext.refl w7).alloc (.cells #[.bool sy, .slice Ay ny cy, .bool ty, .slice By my dy] 27);have bY := Box.new w7 27 #[.bool sy, .slice Ay ny cy, .bool ty, .slice By my dy];have hY := polOne bY ((hq.ext E7).ext hx7);go_simp;refine hK.out _ _ hx7 ?_;clear hK K
   try simp only [zP]
   generalize w7.heap.size = g7 at bY hY ⊢;refine Late.cl (i := 8) rfl hAl hQ (fun w8 e8 E8 K hK => ?_);go_simp
   (go_at_call 19; refine (q_AddP (h7.ext (e7.trans (hx7.trans e8))) (hY.ext e8) (by omega) (by omega) (by omega) (by omega) (by omega) (by omega)).mono ?_; rintro e wk2 ⟨A8, n8, c8, rfl, h8, hx8⟩)
   refine hK.out _ _ hx8 ?_;clear hK K
   try simp only [zP]
   refine Late.t 9 5 ?v_6 hQ ?y_6 ?_
   case y_6 => intro w' hSw;go_simp;try rfl
   try simp only [zP]
   refine Late.d0 (fun wz ez Ez => ?_);clear hAl hQ ES;have h8' := h8.ext ez;rw [<- HT.out] at h8';have hln := h8'.len;replace h8' := h8'.tightV HBd.out;have extk := ext.trans Ez
   go_wp2_with fail
   go_roundw
   case rel => exact ⟨k, _, _, _, by omega, by go_num, rfl, extk, h8', by rw [<- hln]; exact HLn.out⟩
   case measure => simp [intOf] <;> omega
   -- the other order
   have hx7 := (Ext.refl w7).alloc (.cells #[.bool sy, .slice Ay ny cy, .bool ty, .slice By my dy] 27);have bY := Box.new w7 27 #[.bool sy, .slice Ay ny cy, .bool ty, .slice By my dy];have hY := polOne bY ((hq.ext E7).ext hx7);go_simp;refine hK.out _ _ hx7 ?_;clear hK K
   try simp only [zP]
   generalize w7.heap.size = g7 at bY hY ⊢;refine Late.cl (i := 2) rfl hAl hQ (fun w2 e2 E2 K hK => ?_);go_simp
   (go_at_call 25; refine (q_MulQ (ho.ext E2) (h'.ext (extw.trans E2)) (by omega) hM2 HK.out (by omega) (by omega)).mono ?_; rintro e wk1 ⟨A7, n7, c7, rfl, h7, hx2⟩; have hn7 : n7 <= 140 := by rw [<- h7.len]; exact HPL.out)
   refine hK.out _ _ hx2 ?_;clear hK K
   try simp only [zP]
   refine Late.cl (i := 8) rfl hAl hQ (fun w8 e8 E8 K hK => ?_);go_simp
   (go_at_call 19; refine (q_AddP (h7.ext e8) (hY.ext (e2.trans (hx2.trans e8))) (by omega) (by omega) (by omega) (by omega) (by omega) (by omega)).mono ?_; rintro e wk2 ⟨A8, n8, c8, rfl, h8, hx8⟩)
   refine hK.out _ _ hx8 ?_;clear hK K
   try simp only [zP]
   refine Late.t 9 5 ?v_7 hQ ?y_7 ?_
   case y_7 => intro w' hSw;go_simp;try rfl
   try simp only [zP]
   refine Late.d0 (fun wz ez Ez => ?_);clear hAl hQ ES;have h8' := h8.ext ez;rw [<- HT.out] at h8';have hln := h8'.len;replace h8' := h8'.tightV HBd.out;have extk := ext.trans Ez
   go_wp2_with fail
   go_roundw
   case rel => exact ⟨k, _, _, _, by omega, by go_num, rfl, extk, h8', by rw [<- hln]; exact HLn.out⟩
   case measure => simp [intOf] <;> omega
end
end
section
open Go.RowKit
theorem Bnd.few5 {qs : List Rat} (h : Bnd qs B120 B120) (hl : qs.length <= 5) : SizeP qs 19 := sizeP_of h (by decide +kernel) hl (by decide +kernel) (by decide +kernel)
theorem Bnd.few4l {qs : List Rat} (h : Bnd qs B120 B120) (hl : qs.length <= 4) : SizeP qs 15 := sizeP_of h (by decide +kernel) hl (by decide +kernel) (by decide +kernel)
theorem Bnd.one {x : Rat} (h : BndR x B120 B120) : SizeP [x] 4 := sizeP_of (k := 1) (N := B120) (D := B120) (fun q hq => by
 have : q = x := by simpa using hq
 subst this;exact h) (by decide +kernel) (Nat.le_refl _) (by decide +kernel) (by decide +kernel)
theorem Bnd.drop {qs : List Rat} {N D : Nat} (h : Bnd qs N D) (j : Nat) : Bnd (qs.drop j) N D := fun q hq => h q (List.mem_of_mem_drop hq)
theorem size_one {x : Rat} {E : Nat} (h1 : x.num.natAbs < 4294967296 ^ E) (h2 : x.den < 4294967296 ^ E) : SizeP [x] E := by
 have hD : BndR x x.num.natAbs x.den := ⟨Nat.le_refl _, Nat.le_refl _⟩
 refine sizeP_of (k := 1) (N := x.num.natAbs) (D := x.den) (fun q hq => by
  have : q = x := by simpa using hq
  subst this;exact hD) x.den_pos (Nat.le_refl _) (by rw [Nat.pow_one]; exact h2) (by rw [Nat.sub_self, Nat.pow_zero, Nat.mul_one]; exact h1)
theorem comp_small {qs ps : List Rat} {X Y N E : Nat} (hX : SizeP qs X) (hY : SizeP ps Y) (hN : qs.length <= N) (hl : (N - 1) * (ps.length - 1) + 1 <= 400) (h1 : sW X Y Y N + 1 <= E) (h2 : X + N * Y <= E) :
  SizeP (compQ qs ps) E /\ ∀ q ∈ compQ qs ps, q.num.natAbs < 4294967296 ^ E /\ q.den < 4294967296 ^ E := by
 obtain ⟨zs, D, hD, hDE, hz, he⟩ := comp_nums hX hY hN hl h1 h2;rw [he];refine ⟨sizeP_map hD hDE hz, fun q hq => ?_⟩;obtain ⟨z, hzm, rfl⟩ := List.mem_map.1 hq;have := mkQ_bnd (z := z) hD;exact ⟨Nat.lt_of_le_of_lt this.num (hz z hzm), Nat.lt_of_le_of_lt this.den hDE⟩
theorem eval_small {qs : List Rat} {x : Rat} {X Y N E : Nat} (hX : SizeP qs X) (hY : SizeP [x] Y) (hN : qs.length <= N) (h1 : sW X Y Y N + 1 <= E) (h2 : X + N * Y <= E) (hE : 1 <= E) : (evalQ qs x).num.natAbs < 4294967296 ^ E /\ (evalQ qs x).den < 4294967296 ^ E := by
 have hc := (comp_small hX hY hN (by simp) h1 h2).2;have he := const_list (comp_const x qs).1 (comp_const x qs).2 (compQ_trim qs [x])
 by_cases h0 : evalQ qs x = 0
 ·rw [h0]
  have hp : 4294967296 ^ 1 <= 4294967296 ^ E := pow_le_w hE;exact ⟨Nat.lt_of_lt_of_le (show (0 : Rat).num.natAbs < 4294967296 ^ 1 by decide) hp, Nat.lt_of_lt_of_le (show (0 : Rat).den < 4294967296 ^ 1 by decide) hp⟩
 ·rw [if_neg h0] at he
  exact hc _ (by rw [he]; simp)
section
variable {w : World} {A B : Option Addr} {n c m d L M : Nat} {qs ps : List Rat} {x : Rat} {sx tx : Bool} {Ax Bx : Option Addr} {nx cx mx dx : Nat}
theorem ev_b (h : Pol w A n c qs 4) (hx : NR w x 4 sx Ax nx cx tx Bx mx dx) (hq : Bnd qs B120 B120) (hbx : BndR x B120 B120) (hn : n <= 4) (hT : Tab w) : Calls Tryz.prog 28 #[.slice A n c, .agg #[.bool sx, .slice Ax nx cx, .bool tx, .slice Bx mx dx]] w (RetNR (evalQ qs x) 35 w) := by
 have hl := h.len;have s1 : sW 15 4 4 4 = 34 := by decide
 have hX := hq.few4l (by omega);have hY := Bnd.one hbx;have hs := eval_small (E := 35) hX hY (N := 4) (by omega) (by omega) (by omega) (by omega);refine (p_EvalP (N := 4) h hx (by omega) (by omega) (by omega) (by omega) (Lib.hid (.inl (by omega))) hX hY (by omega) (by omega) hn (by omega) (by omega) (by omega) hT).mono ?_;rintro e V ⟨s, A, n, c, t, B, m, d, rfl, h1, hxt⟩;exact ⟨s, A, n, c, t, B, m, d, rfl, ⟨h1.num.tight' hs.1, h1.den.tight' (by rw [Int.natAbs_natCast]; exact hs.2)⟩, hxt⟩
theorem ev_a (h : Pol w A n c qs 4) (hx : NR w x 35 sx Ax nx cx tx Bx mx dx) (hq : Bnd qs B120 B120) (hbx : x.num.natAbs < 4294967296 ^ 35 /\ x.den < 4294967296 ^ 35) (hn : n <= 5) (hT : Tab w) : Calls Tryz.prog 28 #[.slice A n c, .agg #[.bool sx, .slice Ax nx cx, .bool tx, .slice Bx mx dx]] w (RetNR (evalQ qs x) 382 w) := by
 have hl := h.len;have s1 : sW 19 35 35 5 = 185 := by decide
 refine (p_EvalP (N := 5) h hx (by omega) (by omega) (by omega) (by omega) (Lib.hid (.inl (by omega))) (hq.few5 (by omega)) (size_one hbx.1 hbx.2) (by omega) (by omega) hn (by omega) (by omega) (by omega) hT).mono ?_;rintro e V ⟨s, A, n, c, t, B, m, d, rfl, h1, hxt⟩;exact ⟨s, A, n, c, t, B, m, d, rfl, h1.le (by omega), hxt⟩
theorem ev_c (h : Pol w A n c qs 185) (hx : NR w x 4 sx Ax nx cx tx Bx mx dx) (hq : SizeP qs 94) (hbx : BndR x B120 B120) (hn : n <= 13) (hT : Tab w) : Calls Tryz.prog 28 #[.slice A n c, .agg #[.bool sx, .slice Ax nx cx, .bool tx, .slice Bx mx dx]] w (RetNR (evalQ qs x) 316 w) := by
 have hl := h.len;have s1 : sW 94 4 4 13 = 167 := by decide
 refine (p_EvalP (N := 13) h hx (by omega) (by omega) (by omega) (by omega) (Lib.hid (.inr ⟨Nat.lt_of_lt_of_le hq.den (pow_le_w (by omega)), fun z hz => Nat.lt_of_lt_of_le (hq.num z hz) (pow_le_w (by omega))⟩)) hq (Bnd.one hbx) (by omega) (by omega) hn (by omega) (by omega) (by omega) hT).mono ?_;rintro e V ⟨s, A, n, c, t, B, m, d, rfl, h1, hxt⟩;exact ⟨s, A, n, c, t, B, m, d, rfl, h1.le (by omega), hxt⟩
theorem co_size (hq : Bnd qs B120 B120) (hp : Bnd ps B120 B120) (h5 : qs.length <= 5) (h4 : ps.length <= 4) : (compQ qs ps).length <= 13 /\ SizeP (compQ qs ps) 94 /\ ∀ q ∈ compQ qs ps, q.num.natAbs < 4294967296 ^ 94 /\ q.den < 4294967296 ^ 94 := by
 have s1 : sW 19 15 15 5 = 88 := by decide
 have hX := hq.few5 h5;have hY := hp.few4l h4;have hm : (5 - 1) * (ps.length - 1) + 1 <= 13 := by omega
 exact ⟨Nat.le_trans (comp_len (N := 5) hX hY h5 (by omega)) hm, comp_small (N := 5) hX hY h5 (by omega) (by omega) (by omega)⟩
theorem co_p (h : Pol w A n c qs 4) (h' : Pol w B m d ps 4) (hq : Bnd qs B120 B120) (hp : Bnd ps B120 B120) (hn : n <= 5) (hm : m <= 4) (hT : Tab w) : Calls Tryz.prog 27 #[.slice A n c, .slice B m d] w (RetPol (compQ qs ps) 185 w) := by
 have hl := h.len;have hl' := h'.len;have s1 : sW 19 15 15 5 = 88 := by decide
 have hX := hq.few5 (by omega);have hY := hp.few4l (by omega);have hH := comp_horn (N := 5) hX hY (by omega) (by omega);have := p_ComposeP h h' (by omega) (by omega) (by omega) (by omega) hX hY (by omega) (by omega) hH (by omega) (by omega) hT;rw [comp_same] at this;refine this.mono ?_;rintro e V ⟨A1, n1, c1, rfl, h1, hx⟩;exact ⟨A1, n1, c1, rfl, h1.leL (by omega), hx⟩
theorem co_q (h : Pol w A n c qs 4) (h' : Pol w B m d ps 4) (hq : Bnd qs B120 B120) (hp : Bnd ps B120 B120) (hn : n <= 5) (hm : m <= 4) : Calls Tryz.prog 29 #[.slice A n c, .slice B m d] w (RetPol (compQ qs ps) 94 w) := by
 have hl := h.len;have hl' := h'.len;refine q_ComposeP (N := 13) h h' (by omega) (by omega) (by omega) (by omega) (by omega) (by omega) (by omega) (by omega) (by omega) (by omega) (fun j hj => ?_);have := co_size (hq.drop j) hp (by rw [List.length_drop]; omega) (by omega);exact ⟨this.1, this.2.2⟩
end
end
section
open Go.RowKit
attribute [local go_sem ↓] Go.wp_at_zero Go.wp_at_succ
set_option maxRecDepth 100000 in
theorem eval4_no0 {w : World} {Aa : Option Addr} {na ca : Nat} {rs : List RawR} {Ab : Option Addr} {nb cb : Nat} {ss : List RawR} {s t : Bool} {A B : Option Addr} {n c m d : Nat} {xs ys : List Nat} (hA : Awake4) (hT : Tab w) (h0 : RawP w Aa na ca rs) (_h1 : RawP w Ab nb cb ss) (_hr : RI w A n c xs) (_hk : RI w B m d ys) (hf0 : smallB rs 5 = false) :
  Calls Tryz.prog 5 #[.slice Aa na ca, .slice Ab nb cb, .agg #[.bool s, .slice A n c, .bool t, .slice B m d]] w fun e w' => e = .returned (.bool true) /\ Ext w w' := by
 have HF0 := Lib.hid hf0;clear hf0;have HA := Lib.hid hA;clear hA
 go_enter Tryz.func5, Tryz.ntmps5
 go_upto_region 1 with (fail)
 obtain ⟨W0, hW, extW, bx, hzz⟩ := box1 w 27 #[.bool s, .slice A n c, .bool t, .slice B m d];rw [<- hW];clear hW hzz
 go_wp2_with fail
 refine (HA.out _ (hT.ext extW)).mono ?_;rintro e W ⟨rfl, hxt⟩;replace bx := bx.ext hxt;replace extW := extW.trans hxt;clear hxt
 go_wp2_with fail
 refine (q_Small (h0.ext extW) 5 (by omega)).mono ?_;rintro e W1 ⟨rfl, hxt⟩;rw [HF0.out];replace extW := extW.trans hxt;replace bx := bx.ext hxt;clear hxt
 go_wp2_with fail
 go_ret
 exact ⟨rfl, extW⟩
set_option maxRecDepth 100000 in
theorem eval4_no1 {w : World} {Aa : Option Addr} {na ca : Nat} {rs : List RawR} {Ab : Option Addr} {nb cb : Nat} {ss : List RawR} {s t : Bool} {A B : Option Addr} {n c m d : Nat} {xs ys : List Nat} (hA : Awake4) (hT : Tab w) (h0 : RawP w Aa na ca rs) (h1 : RawP w Ab nb cb ss) (_hr : RI w A n c xs) (_hk : RI w B m d ys) (hf0 : smallB rs 5 = true) (hf1 : smallB ss 4 = false) :
  Calls Tryz.prog 5 #[.slice Aa na ca, .slice Ab nb cb, .agg #[.bool s, .slice A n c, .bool t, .slice B m d]] w fun e w' => e = .returned (.bool true) /\ Ext w w' := by
 have HF0 := Lib.hid hf0;have HF1 := Lib.hid hf1;clear hf0 hf1;have HA := Lib.hid hA;clear hA
 go_enter Tryz.func5, Tryz.ntmps5
 go_upto_region 1 with (fail)
 obtain ⟨W0, hW, extW, bx, hzz⟩ := box1 w 27 #[.bool s, .slice A n c, .bool t, .slice B m d];rw [<- hW];clear hW hzz
 go_wp2_with fail
 refine (HA.out _ (hT.ext extW)).mono ?_;rintro e W ⟨rfl, hxt⟩;replace bx := bx.ext hxt;replace extW := extW.trans hxt;clear hxt
 go_wp2_with fail
 refine (q_Small (h0.ext extW) 5 (by omega)).mono ?_;rintro e W1 ⟨rfl, hxt⟩;rw [HF0.out];replace extW := extW.trans hxt;replace bx := bx.ext hxt;clear hxt
 go_wp2_with fail
 refine (q_Small (h1.ext extW) 4 (by omega)).mono ?_;rintro e W2 ⟨rfl, hxt⟩;rw [HF1.out];replace extW := extW.trans hxt;replace bx := bx.ext hxt;clear hxt
 go_wp2_with fail
 go_ret
 exact ⟨rfl, extW⟩
set_option maxRecDepth 100000 in
theorem eval4_no2 {w : World} {Aa : Option Addr} {na ca : Nat} {rs : List RawR} {Ab : Option Addr} {nb cb : Nat} {ss : List RawR} {s t : Bool} {A B : Option Addr} {n c m d : Nat} {xs ys : List Nat} (hA : Awake4) (hT : Tab w) (h0 : RawP w Aa na ca rs) (h1 : RawP w Ab nb cb ss) (hr : RI w A n c xs) (hk : RI w B m d ys) (hf0 : smallB rs 5 = true) (hf1 : smallB ss 4 = true) (hf2 : shortB s xs t ys = false) :
  Calls Tryz.prog 5 #[.slice Aa na ca, .slice Ab nb cb, .agg #[.bool s, .slice A n c, .bool t, .slice B m d]] w fun e w' => e = .returned (.bool true) /\ Ext w w' := by
 have HF0 := Lib.hid hf0;have HF1 := Lib.hid hf1;have HF2 := Lib.hid hf2;clear hf0 hf1 hf2;have HA := Lib.hid hA;clear hA
 go_enter Tryz.func5, Tryz.ntmps5
 go_upto_region 1 with (fail)
 obtain ⟨W0, hW, extW, bx, hzz⟩ := box1 w 27 #[.bool s, .slice A n c, .bool t, .slice B m d];rw [<- hW];clear hW hzz
 go_wp2_with fail
 refine (HA.out _ (hT.ext extW)).mono ?_;rintro e W ⟨rfl, hxt⟩;replace bx := bx.ext hxt;replace extW := extW.trans hxt;clear hxt
 go_wp2_with fail
 refine (q_Small (h0.ext extW) 5 (by omega)).mono ?_;rintro e W1 ⟨rfl, hxt⟩;rw [HF0.out];replace extW := extW.trans hxt;replace bx := bx.ext hxt;clear hxt
 go_wp2_with fail
 refine (q_Small (h1.ext extW) 4 (by omega)).mono ?_;rintro e W2 ⟨rfl, hxt⟩;rw [HF1.out];replace extW := extW.trans hxt;replace bx := bx.ext hxt;clear hxt;have k0 := bx.cell 0 _ rfl;have k1 := bx.cell 1 _ rfl;have k2 := bx.cell 2 _ rfl;have k3 := bx.cell 3 _ rfl
 go_wp2_with fail
 refine (q_Short (hr.ext extW) (hk.ext extW)).mono ?_;rintro e W3 ⟨rfl, hxt⟩;rw [HF2.out];replace extW := extW.trans hxt;replace bx := bx.ext hxt;clear hxt k0 k1 k2 k3
 go_wp2_with fail
 go_ret
 exact ⟨rfl, extW⟩
set_option maxRecDepth 100000 in
theorem eval4_yes {w : World} {Aa : Option Addr} {na ca : Nat} {rs : List RawR} {Ab : Option Addr} {nb cb : Nat} {ss : List RawR} {s t : Bool} {A B : Option Addr} {n c m d : Nat} {xs ys : List Nat} (hA : Awake4) (hT : Tab w) (h0 : RawP w Aa na ca rs) (h1 : RawP w Ab nb cb ss) (hr : RI w A n c xs) (hk : RI w B m d ys) (hf0 : smallB rs 5 = true) (hf1 : smallB ss 4 = true) (hf2 : shortB s xs t ys = true) :
  Calls Tryz.prog 5 #[.slice Aa na ca, .slice Ab nb cb, .agg #[.bool s, .slice A n c, .bool t, .slice B m d]] w fun e w' => e = .returned (.bool true) /\ Ext w w' := by
 have hf' := hf0;have hf'' := hf1;simp only [smallB, Bool.and_eq_true, decide_eq_true_eq] at hf' hf'';obtain ⟨l0, f0⟩ := hf';obtain ⟨l1, f1⟩ := hf'';have p0 := h0.pol f0;have m0 : (rs.map RawR.q).length <= 5 := by rw [List.length_map]; exact l0
 have b0 := h0.bnd f0;generalize rs.map RawR.q = qa at p0 m0 b0;have n0 : na <= 5 := by rw [<- p0.len]; exact m0
 clear l0 f0;have p1 := h1.pol f1;have m1 : (ss.map RawR.q).length <= 4 := by rw [List.length_map]; exact l1
 have b1 := h1.bnd f1;generalize ss.map RawR.q = qb at p1 m1 b1;have n1 : nb <= 4 := by rw [<- p1.len]; exact m1
 clear l1 f1;obtain ⟨v1, v2, v3⟩ := shortB_le hf2;have hx := NR.of_raw' (L := 4) hr hk v3 (by rw [<- hr.len]; exact v1) (by rw [<- hk.len]; exact v2);have bxq := short_bnd (s := s) (t := t) hr hk hf2;generalize rawQ s xs t ys = x at hx bxq;clear v1 v2 v3;have HF0 := Lib.hid hf0;have HF1 := Lib.hid hf1;have HF2 := Lib.hid hf2;have HS := Lib.hid (co_size b0 b1 m0 m1);have HV := Lib.hid (eval_small (E := 35) (b1.few4l m1) (Bnd.one bxq) (N := 4) m1 (by decide) (by decide) (by decide));have HA := Lib.hid hA;clear hA
 go_enter Tryz.func5, Tryz.ntmps5
 go_upto_region 1 with (fail)
 obtain ⟨W0, hW, extW, bx, hzz⟩ := box1 w 27 #[.bool s, .slice A n c, .bool t, .slice B m d];rw [<- hW];clear hW hzz
 go_wp2_with fail
 refine (HA.out _ (hT.ext extW)).mono ?_;rintro e W ⟨rfl, hxt⟩;replace bx := bx.ext hxt;replace extW := extW.trans hxt;clear hxt
 go_wp2_with fail
 refine (q_Small (h0.ext extW) 5 (by omega)).mono ?_;rintro e W1 ⟨rfl, hxt⟩;rw [HF0.out];replace extW := extW.trans hxt;replace bx := bx.ext hxt;clear hxt
 go_wp2_with fail
 refine (q_Small (h1.ext extW) 4 (by omega)).mono ?_;rintro e W2 ⟨rfl, hxt⟩;rw [HF1.out];replace extW := extW.trans hxt;replace bx := bx.ext hxt;clear hxt;have k0 := bx.cell 0 _ rfl;have k1 := bx.cell 1 _ rfl;have k2 := bx.cell 2 _ rfl;have k3 := bx.cell 3 _ rfl
 go_wp2_with fail
 refine (q_Short (hr.ext extW) (hk.ext extW)).mono ?_;rintro e W3 ⟨rfl, hxt⟩;rw [HF2.out];replace extW := extW.trans hxt;replace bx := bx.ext hxt;clear hxt k0 k1 k2 k3;replace p0 := p0.ext extW;replace p1 := p1.ext extW;replace hx := hx.ext extW;have E0 := Ext.refl W3
 go_wp2_with fail
 refine (own_P (p0.ext E0) (by omega)).mono ?_;rintro e wk0 ⟨A46_, n46_, c46_, rfl, o1, hx0⟩;replace bx := bx.ext hx0;have E1 := E0.trans hx0;clear E0 hx0;have u46 : n46_ <= 5 := by rw [<- o1.len]; exact m0
 go_wp2_with fail
 refine (own_P (p1.ext E1) (by omega)).mono ?_;rintro e wk1 ⟨A47_, n47_, c47_, rfl, o2, hx1⟩;replace bx := bx.ext hx1;replace o1 := o1.ext hx1;have E2 := E1.trans hx1;clear E1 hx1;have u47 : n47_ <= 4 := by rw [<- o2.len]; exact m1
 go_wp2_with fail
 refine (co_p o1 o2 b0 b1 (by omega) (by omega) (hT.ext (extW.trans E2))).mono ?_;rintro e wk2 ⟨A48_, n48_, c48_, rfl, c1, hx2⟩;replace bx := bx.ext hx2;replace o1 := o1.ext hx2;replace o2 := o2.ext hx2;have E3 := E2.trans hx2;clear E2 hx2;have u48 : n48_ <= 13 := by rw [<- c1.len]; exact HS.out.1
 have EP := E3;clear E3
 go_upto_region 6 with (fail)
 have ES0 := Ext.refl wk2;refine wp_region_held_drew (S := Ext wk2) (by kernel_rfl) ES0.drew (fun ES => ?_);clear ES0;refine Late.start1 (x := ⟨4, 8, 27, #[Value.bool false, Value.slice none 0 0, Value.bool false, Value.slice none 0 0]⟩) (n := 5) ⟨_, rfl, rfl, rfl, fun a w => by go_simp⟩ (fun _ _ _ _ _ => ⟨fun h => h, fun h => h⟩) ES rfl (fun hAl hQ => ?_);refine Late.t 0 30 ?v_0 hQ ?y_0 ?_
 case y_0 => intro w' hSw;go_simp;try rfl
 try simp only [zP]
 refine Late.t 2 32 ?v_1 hQ ?y_1 ?_
 case y_1 => intro w' hSw;have k00 := (bx.ext hSw).c4;go_simp;try rfl
 try simp only [zP]
 refine Late.cl (i := 1) rfl hAl hQ (fun w1 e1 E1 K hK => ?_);go_simp
 (go_at_call 14; refine (own_P ((p1.ext EP).ext E1) (by omega)).mono ?_; rintro e wk1 ⟨Ao, no, co, rfl, ho, hx1⟩; have hno : no <= 4 := by rw [<- ho.len]; exact m1)
 refine hK.out _ _ hx1 ?_;clear hK K
 try simp only [zP]
 refine Late.cl (i := 3) rfl hAl hQ (fun w3 e3 E3 K hK => ?_);go_simp
 (go_at_call 28; refine (ev_b (ho.ext e3) (hx.ext (EP.trans E3)) b1 bxq (by omega) (hT.ext (extW.trans (EP.trans E3)))).mono ?_; rintro e wk3 ⟨sv, Av, nv, cv, tv, Bv, mv, dv, rfl, hv, hx3⟩)
 refine hK.out _ _ hx3 ?_;clear hK K
 try simp only [zP]
 refine Late.finish1 (hAl _ (by simp)) (by kernel_rfl) (fun wz g5 ez Ez lg5 xb1 => ?_);clear hAl hQ ES;have p10 := xb1.cell 0 (Value.bool false) rfl;have f10 := xb1.frozen 0;have p11 := xb1.cell 1 (Value.slice none 0 0) rfl;have f11 := xb1.frozen 1;have p12 := xb1.cell 2 (Value.bool false) rfl;have f12 := xb1.frozen 2;have p13 := xb1.cell 3 (Value.slice none 0 0) rfl;have f13 := xb1.frozen 3;have e4 := fin_quad (s := sv) (A := Av) (n := nv) (c := cv) (t := tv) (B := Bv) (m := mv) (d := dv) xb1
 try simp only [zP]
 refine wpAnyH_ready (rs := [5]) (by kernel_rfl) (by simp) (AllReadyH.cons rfl (fun K hK => ?_) AllReadyH.nil);go_simp;refine hK.out _ _ (e4.2.2.1 _ Ez lg5) (fun _ => ?_);clear hK K
 try simp only [zP]
 refine any_world (fun U => Ext wk2 U /\ Box U g5 27 #[.bool sv, .slice Av nv cv, .bool tv, .slice Bv mv dv] /\ NR U (evalQ qb x) 35 sv Av nv cv tv Bv mv dv) ⟨e4.2.2.1 _ Ez lg5, e4.1, ⟨e4.2.1 _ _ _ _ _ _ (hv.ext ez).num, e4.2.1 _ _ _ _ _ _ (hv.ext ez).den⟩⟩ ?_;clear e4 p10 f10 p11 f11 p12 f12 p13 f13 xb1 hv lg5 Ez ho;rintro U6 ⟨EU6, b6, hv⟩;refine wpAnyH_done (by kernel_rfl) ?_ _;replace bx := bx.ext EU6
 go_upto_region 7 with (fail)
 have ES0 := Ext.refl U6;refine wp_region_held_drew (S := Ext U6) (by kernel_rfl) ES0.drew (fun ES => ?_);clear ES0;refine Late.start1 (x := ⟨4, 9, 27, #[Value.bool false, Value.slice none 0 0, Value.bool false, Value.slice none 0 0]⟩) (n := 5) ⟨_, rfl, rfl, rfl, fun a w => by go_simp⟩ (fun _ _ _ _ _ => ⟨fun h => h, fun h => h⟩) ES rfl (fun hAl hQ => ?_);refine Late.t 0 34 ?v_2 hQ ?y_2 ?_
 case y_2 => intro w' hSw;go_simp;try rfl
 try simp only [zP]
 refine Late.t 2 36 ?v_3 hQ ?y_3 ?_
 case y_3 => intro w' hSw;have k00 := (b6.ext hSw).c4;go_simp;try rfl
 try simp only [zP]
 refine Late.cl (i := 1) rfl hAl hQ (fun w1 e1 E1 K hK => ?_);go_simp
 (go_at_call 14; refine (own_P ((p0.ext (EP.trans EU6)).ext E1) (by omega)).mono ?_; rintro e wk1 ⟨Ao, no, co, rfl, ho, hx1⟩; have hno : no <= 5 := by rw [<- ho.len]; exact m0)
 refine hK.out _ _ hx1 ?_;clear hK K
 try simp only [zP]
 refine Late.cl (i := 3) rfl hAl hQ (fun w3 e3 E3 K hK => ?_);go_simp
 (go_at_call 28; refine (ev_a (ho.ext e3) (hv.ext E3) b0 HV.out (by omega) (hT.ext (extW.trans ((EP.trans EU6).trans E3)))).mono ?_; rintro e wk3 ⟨sw, Aw, nw, cw, tw, Bw, mw, dw, rfl, hw, hx3⟩)
 refine hK.out _ _ hx3 ?_;clear hK K
 try simp only [zP]
 refine Late.finish1 (hAl _ (by simp)) (by kernel_rfl) (fun wz g5 ez Ez lg5 xb1 => ?_);clear hAl hQ ES;have p10 := xb1.cell 0 (Value.bool false) rfl;have f10 := xb1.frozen 0;have p11 := xb1.cell 1 (Value.slice none 0 0) rfl;have f11 := xb1.frozen 1;have p12 := xb1.cell 2 (Value.bool false) rfl;have f12 := xb1.frozen 2;have p13 := xb1.cell 3 (Value.slice none 0 0) rfl;have f13 := xb1.frozen 3;have e4 := fin_quad (s := sw) (A := Aw) (n := nw) (c := cw) (t := tw) (B := Bw) (m := mw) (d := dw) xb1
 try simp only [zP]
 refine wpAnyH_ready (rs := [5]) (by kernel_rfl) (by simp) (AllReadyH.cons rfl (fun K hK => ?_) AllReadyH.nil);go_simp;refine hK.out _ _ (e4.2.2.1 _ Ez lg5) (fun _ => ?_);clear hK K
 try simp only [zP]
 refine any_world (fun U => Ext U6 U /\ Box U g5 27 #[.bool sw, .slice Aw nw cw, .bool tw, .slice Bw mw dw] /\ NR U (evalQ qa (evalQ qb x)) 382 sw Aw nw cw tw Bw mw dw) ⟨e4.2.2.1 _ Ez lg5, e4.1, ⟨e4.2.1 _ _ _ _ _ _ (hw.ext ez).num, e4.2.1 _ _ _ _ _ _ (hw.ext ez).den⟩⟩ ?_;clear e4 p10 f10 p11 f11 p12 f12 p13 f13 xb1 hw lg5 Ez ho;rintro U7 ⟨EU7, b7, hw⟩;refine wpAnyH_done (by kernel_rfl) ?_ _;replace bx := bx.ext EU7;replace b6 := b6.ext EU7;replace hv := hv.ext EU7;have EA := (EP.trans EU6).trans EU7;replace c1 := c1.ext (EU6.trans EU7);replace p0 := p0.ext EA;replace p1 := p1.ext EA;replace hx := hx.ext EA;replace extW := extW.trans EA;clear EA EU6 EU7 EP
 go_upto_region 8 with (fail)
 have ES0 := Ext.refl U7;refine wp_region_held_drew (S := Ext U7) (by kernel_rfl) ES0.drew (fun ES => ?_);clear ES0;refine Late.s0 ES (fun hAl hQ => ?_);refine Late.t 0 38 ?v_4 hQ ?y_4 ?_
 case y_4 => intro w' hSw;go_simp;try rfl
 try simp only [zP]
 refine Late.t 1 39 ?v_5 hQ ?y_5 ?_
 case y_5 => intro w' hSw;go_simp;try rfl
 try simp only [zP]
 refine Late.t 2 40 ?v_6 hQ ?y_6 ?_
 case y_6 => intro w' hSw;go_simp;try rfl
 try simp only [zP]
 refine Late.cl (i := 3) rfl hAl hQ (fun w3 e3 E3 K hK => ?_);go_simp
 (go_at_call 29; refine (co_q (p0.ext E3) (p1.ext E3) b0 b1 (by omega) (by omega)).mono ?_; rintro e wk3 ⟨Ac2, nc2, cc2, rfl, c2, hx3⟩; have hnc2 : nc2 <= 13 := by rw [<- c2.len]; exact HS.out.1)
 refine hK.out _ _ hx3 ?_;clear hK K
 try simp only [zP]
 refine Late.cl (i := 4) rfl hAl hQ (fun w4 e4 E4 K hK => ?_);go_simp
 (replace c2 := c2.ext e4; go_at_call 12; refine (good_same (c1.ext E4) c2 rfl (by omega) (by omega) (by omega) (by omega) (by omega)).mono ?_; rintro e wk4 ⟨rfl, hx4⟩; replace c2 := c2.ext hx4)
 refine hK.out _ _ hx4 ?_;clear hK K
 try simp only [zP]
 refine Late.t 5 43 ?v_7 hQ ?y_7 ?_
 case y_7 => intro w' hSw;go_simp;try rfl
 try simp only [zP]
 refine Late.t 6 44 ?v_8 hQ ?y_8 ?_
 case y_8 => intro w' hSw;have k00 := (b7.ext hSw).c4;have k10 := (b6.ext hSw).c4;have k20 := (bx.ext hSw).c4;go_simp;try rfl
 try simp only [zP]
 refine Late.cl (i := 7) rfl hAl hQ (fun w7 e7 E7 K hK => ?_);go_simp
 (replace c2 := c2.ext e7; go_at_call 30; refine (q_ValidN (hv.ext E7) (by omega)).mono ?_; rintro e wk7 ⟨rfl, hx7⟩; replace c2 := c2.ext hx7)
 refine hK.out _ _ hx7 ?_;clear hK K
 try simp only [zP]
 refine Late.t 8 46 ?v_9 hQ ?y_9 ?_
 case y_9 => intro w' hSw;go_simp;try rfl
 try simp only [zP]
 refine Late.t 9 47 ?v_a hQ ?y_a ?_
 case y_a => intro w' hSw;go_simp;try rfl
 try simp only [zP]
 refine Late.t 10 48 ?v_b hQ ?y_b ?_
 case y_b => intro w' hSw;have k00 := (b7.ext hSw).c4;have k10 := (b6.ext hSw).c4;have k20 := (bx.ext hSw).c4;go_simp;try rfl
 try simp only [zP]
 refine Late.t 11 49 ?v_c hQ ?y_c ?_
 case y_c => intro w' hSw;go_simp;try rfl
 try simp only [zP]
 refine Late.t 12 50 ?v_d hQ ?y_d ?_
 case y_d => intro w' hSw;have k00 := (b7.ext hSw).c4;have k10 := (b6.ext hSw).c4;have k20 := (bx.ext hSw).c4;go_simp;try rfl
 try simp only [zP]
 refine Late.cl (i := 13) rfl hAl hQ (fun w13 e13 E13 K hK => ?_);go_simp
 (replace c2 := c2.ext e13; go_at_call 32; refine (q_EvalR (p1.ext E13) (hx.ext E13) (by omega) (by omega) (by omega)).mono ?_; rintro e wk13 ⟨sr, Ar, nr, cr, tr, Br, mr, dr, rfl, hr1, hx13⟩; replace c2 := c2.ext hx13)
 refine hK.out _ _ hx13 ?_;clear hK K
 try simp only [zP]
 refine Late.cl (i := 14) rfl hAl hQ (fun w14 e14 E14 K hK => ?_);go_simp
 (replace c2 := c2.ext e14; replace hr1 := hr1.ext e14; go_at_call 31; refine (q_CmpR (hv.ext E14) hr1 (by omega) (by omega)).mono ?_; rintro e wk14 ⟨rfl, hx14⟩; replace c2 := c2.ext hx14; replace hr1 := hr1.ext hx14; rw [ratCmp_eq.2 rfl])
 refine hK.out _ _ hx14 ?_;clear hK K
 try simp only [zP]
 refine Late.t 15 53 ?v_e hQ ?y_e ?_
 case y_e => intro w' hSw;go_simp;try rfl
 try simp only [zP]
 refine Late.t 16 54 ?v_f hQ ?y_f ?_
 case y_f => intro w' hSw;go_simp;try rfl
 try simp only [zP]
 refine Late.t 17 55 ?v_g hQ ?y_g ?_
 case y_g => intro w' hSw;go_simp;try rfl
 try simp only [zP]
 refine Late.t 18 56 ?v_h hQ ?y_h ?_
 case y_h => intro w' hSw;have k00 := (b7.ext hSw).c4;have k10 := (b6.ext hSw).c4;have k20 := (bx.ext hSw).c4;go_simp;try rfl
 try simp only [zP]
 refine Late.cl (i := 19) rfl hAl hQ (fun w19 e19 E19 K hK => ?_);go_simp
 (replace c2 := c2.ext e19; replace hr1 := hr1.ext e19; go_at_call 30; refine (q_ValidN (hw.ext E19) (by omega)).mono ?_; rintro e wk19 ⟨rfl, hx19⟩; replace c2 := c2.ext hx19; replace hr1 := hr1.ext hx19)
 refine hK.out _ _ hx19 ?_;clear hK K
 try simp only [zP]
 refine Late.t 20 58 ?v_i hQ ?y_i ?_
 case y_i => intro w' hSw;go_simp;try rfl
 try simp only [zP]
 refine Late.t 21 59 ?v_j hQ ?y_j ?_
 case y_j => intro w' hSw;go_simp;try rfl
 try simp only [zP]
 refine Late.t 22 60 ?v_k hQ ?y_k ?_
 case y_k => intro w' hSw;have k00 := (b7.ext hSw).c4;have k10 := (b6.ext hSw).c4;have k20 := (bx.ext hSw).c4;go_simp;try rfl
 try simp only [zP]
 refine Late.t 23 61 ?v_l hQ ?y_l ?_
 case y_l => intro w' hSw;go_simp;try rfl
 try simp only [zP]
 refine Late.t 24 62 ?v_m hQ ?y_m ?_
 case y_m => intro w' hSw;have k00 := (b7.ext hSw).c4;have k10 := (b6.ext hSw).c4;have k20 := (bx.ext hSw).c4;go_simp;try rfl
 try simp only [zP]
 refine Late.cl (i := 25) rfl hAl hQ (fun w25 e25 E25 K hK => ?_);go_simp
 (replace c2 := c2.ext e25; replace hr1 := hr1.ext e25; go_at_call 32; refine (q_EvalR (p0.ext E25) (hv.ext E25) (by omega) (by omega) (by omega)).mono ?_; rintro e wk25 ⟨su, Au, nu, cu, tu, Bu, mu, du, rfl, hr2, hx25⟩; replace c2 := c2.ext hx25; replace hr1 := hr1.ext hx25)
 refine hK.out _ _ hx25 ?_;clear hK K
 try simp only [zP]
 refine Late.cl (i := 26) rfl hAl hQ (fun w26 e26 E26 K hK => ?_);go_simp
 (replace c2 := c2.ext e26; replace hr1 := hr1.ext e26; replace hr2 := hr2.ext e26; go_at_call 31; refine (q_CmpR (hw.ext E26) hr2 (by omega) (by omega)).mono ?_; rintro e wk26 ⟨rfl, hx26⟩; replace c2 := c2.ext hx26; replace hr1 := hr1.ext hx26; replace hr2 := hr2.ext hx26; rw [ratCmp_eq.2 rfl])
 refine hK.out _ _ hx26 ?_;clear hK K
 try simp only [zP]
 refine Late.t 27 65 ?v_n hQ ?y_n ?_
 case y_n => intro w' hSw;go_simp;try rfl
 try simp only [zP]
 refine Late.t 28 66 ?v_o hQ ?y_o ?_
 case y_o => intro w' hSw;go_simp;try rfl
 try simp only [zP]
 refine Late.t 29 67 ?v_p hQ ?y_p ?_
 case y_p => intro w' hSw;go_simp;try rfl
 try simp only [zP]
 refine Late.t 30 68 ?v_q hQ ?y_q ?_
 case y_q => intro w' hSw;go_simp;try rfl
 try simp only [zP]
 refine Late.t 31 69 ?v_r hQ ?y_r ?_
 case y_r => intro w' hSw;have k00 := (b7.ext hSw).c4;have k10 := (b6.ext hSw).c4;have k20 := (bx.ext hSw).c4;go_simp;try rfl
 try simp only [zP]
 refine Late.t 33 71 ?v_s hQ ?y_s ?_
 case y_s => intro w' hSw;have k00 := (b7.ext hSw).c4;have k10 := (b6.ext hSw).c4;have k20 := (bx.ext hSw).c4;go_simp;try rfl
 try simp only [zP]
 refine Late.cl (i := 32) rfl hAl hQ (fun w32 e32 E32 K hK => ?_);go_simp
 (replace c2 := c2.ext e32; replace hr1 := hr1.ext e32; replace hr2 := hr2.ext e32; go_at_call 28; refine (ev_c (c1.ext E32) (hx.ext E32) HS.out.2.1 bxq (by omega) (hT.ext (extW.trans E32))).mono ?_; rintro e wk32 ⟨sz, Az, nz, cz, tz, Bz, mz, dz, rfl, hr3, hx32⟩; replace c2 := c2.ext hx32; replace hr1 := hr1.ext hx32; replace hr2 := hr2.ext hx32)
 refine hK.out _ _ hx32 ?_;clear hK K
 try simp only [zP]
 refine Late.cl (i := 34) rfl hAl hQ (fun w34 e34 E34 K hK => ?_);go_simp
 (replace c2 := c2.ext e34; replace hr1 := hr1.ext e34; replace hr2 := hr2.ext e34; replace hr3 := hr3.ext e34; go_at_call 31; refine (q_CmpR hr3 (hw.ext E34) (by omega) (by omega)).mono ?_; rintro e wk34 ⟨rfl, hx34⟩; replace c2 := c2.ext hx34; replace hr1 := hr1.ext hx34; replace hr2 := hr2.ext hx34; replace hr3 := hr3.ext hx34; rw [ratCmp_eq.2 (eval_comp qb x qa)])
 refine hK.out _ _ hx34 ?_;clear hK K
 try simp only [zP]
 refine Late.t 35 73 ?v_t hQ ?y_t ?_
 case y_t => intro w' hSw;go_simp;try rfl
 try simp only [zP]
 refine Late.t 36 74 ?v_u hQ ?y_u ?_
 case y_u => intro w' hSw;go_simp;try rfl
 try simp only [zP]
 refine Late.t 37 6 ?v_v hQ ?y_v ?_
 case y_v => intro w' hSw;go_simp;try rfl
 try simp only [zP]
 refine Late.d0 (fun wz ez Ez => ?_);clear hAl hQ ES
 go_wp2_with fail
 go_ret
 exact ⟨rfl, extW.trans Ez⟩
theorem eval4_any {w : World} {Aa : Option Addr} {na ca : Nat} {rs : List RawR} {Ab : Option Addr} {nb cb : Nat} {ss : List RawR} {s t : Bool} {A B : Option Addr} {n c m d : Nat} {xs ys : List Nat} (hA : Awake4) (hT : Tab w) (h0 : RawP w Aa na ca rs) (h1 : RawP w Ab nb cb ss) (hr : RI w A n c xs) (hk : RI w B m d ys) :
  Calls Tryz.prog 5 #[.slice Aa na ca, .slice Ab nb cb, .agg #[.bool s, .slice A n c, .bool t, .slice B m d]] w fun e w' => e = .returned (.bool true) /\ Ext w w' := by
 by_cases hf0 : smallB rs 5 = true
 ·by_cases hf1 : smallB ss 4 = true
  ·by_cases hf2 : shortB s xs t ys = true
   ·exact eval4_yes hA hT h0 h1 hr hk hf0 hf1 hf2
   ·exact eval4_no2 hA hT h0 h1 hr hk hf0 hf1 (Bool.eq_false_iff.2 hf2)
  ·exact eval4_no1 hA hT h0 h1 hr hk hf0 (Bool.eq_false_iff.2 hf1)
 ·exact eval4_no0 hA hT h0 h1 hr hk (Bool.eq_false_iff.2 hf0)
set_option maxRecDepth 100000 in
theorem awake4 : Awake4 := by
 intro w hT
 go_enter Tryz.func9, Tryz.ntmps9
 have ext := Ext.refl w
 go_wp2_with fail
 refine (rats0 (Box.new _ _ _)).mono ?_;rintro e W1 ⟨Aa0, na0, ca0, rfl, a0, x1⟩;have y1 := ((Ext.refl w).alloc _).trans x1;replace hT := hT.ext y1;replace ext := ext.trans y1;have hna0 : na0 = 3 := a0.len.symm;subst hna0;clear y1;clear x1
 go_wp2_with fail
 refine (rats1 (Box.new _ _ _)).mono ?_;rintro e W2 ⟨Aa1, na1, ca1, rfl, a1, x2⟩;have y2 := ((Ext.refl W1).alloc _).trans x2;replace a0 := a0.ext y2;replace hT := hT.ext y2;replace ext := ext.trans y2;have hna1 : na1 = 2 := a1.len.symm;subst hna1;clear y2;clear x2
 go_wp2_with fail
 refine (dm_call a0 a1 hT).mono ?_;rintro e W3 ⟨Aq, nq, cq, Ar, nr, cr, rfl, hq, hr, x3⟩;replace a0 := a0.ext x3;replace a1 := a1.ext x3;replace hT := hT.ext x3;replace ext := ext.trans x3;have hnq : nq = 2 := hq.len.symm;subst hnq;have hnr : nr = 0 := hr.len.symm;subst hnr;clear hr;clear x3;clear a0;clear a1
 go_wp2_with fail
 refine (rats2 (Box.new _ _ _)).mono ?_;rintro e W4 ⟨Aa2, na2, ca2, rfl, a2, x4⟩;have y4 := ((Ext.refl W3).alloc _).trans x4;replace hq := hq.ext y4;replace hT := hT.ext y4;replace ext := ext.trans y4;have hna2 : na2 = 4 := a2.len.symm;subst hna2;clear y4;clear x4
 go_wp2_with fail
 refine (p_Squarefree_ex a2 (by omega) hT).mono ?_;rintro e W5 ⟨As, ns, cs, rfl, hs, x5⟩;replace hq := hq.ext x5;replace a2 := a2.ext x5;replace hT := hT.ext x5;replace ext := ext.trans x5;have hns : ns = 3 := hs.len.symm;subst hns;clear x5;clear a2
 go_wp2_with fail
 refine (rats3 (Box.new _ _ _)).mono ?_;rintro e W6 ⟨Aa3, na3, ca3, rfl, a3, x6⟩;have y6 := ((Ext.refl W5).alloc _).trans x6;replace hq := hq.ext y6;replace hs := hs.ext y6;replace hT := hT.ext y6;replace ext := ext.trans y6;have hna3 : na3 = 2 := a3.len.symm;subst hna3;clear y6;clear x6
 go_wp2_with fail
 refine (pr_call1 a3 hT).mono ?_;rintro e W7 ⟨Ap, np, cp, rfl, hp, x7⟩;replace hq := hq.ext x7;replace hs := hs.ext x7;replace a3 := a3.ext x7;replace hT := hT.ext x7;replace ext := ext.trans x7;have hnp : np = 2 := hp.len.symm;subst hnp;clear x7;clear a3
 go_wp2_with fail
 refine (rats4 (Box.new _ _ _)).mono ?_;rintro e W8 ⟨Aa4, na4, ca4, rfl, a4, x8⟩;have y8 := ((Ext.refl W7).alloc _).trans x8;replace hq := hq.ext y8;replace hs := hs.ext y8;replace hp := hp.ext y8;replace hT := hT.ext y8;replace ext := ext.trans y8;have hna4 : na4 = 2 := a4.len.symm;subst hna4;clear y8;clear x8
 go_wp2_with fail
 refine (pr_call2 a4 hT).mono ?_;rintro e W9 ⟨Ai, ni, ci, rfl, hi, x9⟩;replace hq := hq.ext x9;replace hs := hs.ext x9;replace hp := hp.ext x9;replace a4 := a4.ext x9;replace hT := hT.ext x9;replace ext := ext.trans x9;have hni : ni = 2 := hi.len.symm;subst hni;clear x9;clear a4
 go_wp2_with fail
 refine (rats5 (Box.new _ _ _)).mono ?_;rintro e W10 ⟨Aa5, na5, ca5, rfl, a5, x10⟩;have y10 := ((Ext.refl W9).alloc _).trans x10;replace hq := hq.ext y10;replace hs := hs.ext y10;replace hp := hp.ext y10;replace hi := hi.ext y10;replace hT := hT.ext y10;replace ext := ext.trans y10;have hna5 : na5 = 3 := a5.len.symm;subst hna5;clear y10;clear x10
 go_wp2_with fail
 refine (bo_call a5 hT).mono ?_;rintro e W11 ⟨sb, Ab, nb, cb, tb, Bb, mb, db, rfl, hb, x11⟩;replace hq := hq.ext x11;replace hs := hs.ext x11;replace hp := hp.ext x11;replace hi := hi.ext x11;replace a5 := a5.ext x11;replace hT := hT.ext x11;replace ext := ext.trans x11;clear x11;clear a5
 go_upto_region 6 with (fail)
 obtain ⟨W12, hW12, xb, b7, hzb⟩ := box1 W11 27 #[.bool sb, .slice Ab nb cb, .bool tb, .slice Bb mb db];rw [<- hW12];clear hW12 hzb;replace hq := hq.ext xb;replace hs := hs.ext xb;replace hp := hp.ext xb;replace hi := hi.ext xb;replace hb := hb.ext xb;replace hT := hT.ext xb;replace ext := ext.trans xb;clear xb;generalize W11.heap.size = g7 at b7 ⊢
 go_wp2_with fail
 refine (rats6 (Box.new _ _ _)).mono ?_;rintro e W13 ⟨Aa6, na6, ca6, rfl, a6, x13⟩;have y13 := ((Ext.refl W12).alloc _).trans x13;replace hq := hq.ext y13;replace hs := hs.ext y13;replace hp := hp.ext y13;replace hi := hi.ext y13;replace hb := hb.ext y13;replace b7 := b7.ext y13;replace hT := hT.ext y13;replace ext := ext.trans y13;have hna6 : na6 = 3 := a6.len.symm;subst hna6;clear y13;clear x13
 go_wp2_with fail
 refine (rats7 (Box.new _ _ _)).mono ?_;rintro e W14 ⟨Aa7, na7, ca7, rfl, a7, x14⟩;have y14 := ((Ext.refl W13).alloc _).trans x14;replace hq := hq.ext y14;replace hs := hs.ext y14;replace hp := hp.ext y14;replace hi := hi.ext y14;replace hb := hb.ext y14;replace b7 := b7.ext y14;replace a6 := a6.ext y14;replace hT := hT.ext y14;replace ext := ext.trans y14;have hna7 : na7 = 2 := a7.len.symm;subst hna7;clear y14;clear x14
 go_wp2_with fail
 refine (co_call a6 a7 hT).mono ?_;rintro e W15 ⟨Ac, nc, cc, rfl, hc, x15⟩;replace hq := hq.ext x15;replace hs := hs.ext x15;replace hp := hp.ext x15;replace hi := hi.ext x15;replace hb := hb.ext x15;replace b7 := b7.ext x15;replace a6 := a6.ext x15;replace a7 := a7.ext x15;replace hT := hT.ext x15;replace ext := ext.trans x15;have hnc : nc = 3 := hc.len.symm;subst hnc;clear x15;clear a6;clear a7
 go_upto_region 7 with (fail)
 have ES0 := Ext.refl W15;refine wp_region_held_drew (S := Ext W15) (by kernel_rfl) ES0.drew (fun ES => ?_);clear ES0;refine Late.s0 ES (fun hAl hQ => ?_);replace hq := hq.ext ES;replace hs := hs.ext ES;replace hp := hp.ext ES;replace hi := hi.ext ES;replace hb := hb.ext ES;replace hc := hc.ext ES;refine Late.t 0 56 ?v_0 hQ ?y_0 ?_
 case y_0 => intro w' hSw;go_simp;try rfl
 try simp only [zP]
 refine Late.t 1 57 ?v_1 hQ ?y_1 ?_
 case y_1 => intro w' hSw;go_simp;try rfl
 try simp only [zP]
 refine Late.t 2 58 ?v_2 hQ ?y_2 ?_
 case y_2 => intro w' hSw;go_simp;try rfl
 try simp only [zP]
 refine Late.t 3 59 ?v_3 hQ ?y_3 ?_
 case y_3 => intro w' hSw;go_simp;try rfl
 try simp only [zP]
 refine Late.t 4 60 ?v_4 hQ ?y_4 ?_
 case y_4 => intro w' hSw;go_simp;try rfl
 try simp only [zP]
 refine Late.t 5 61 ?v_5 hQ ?y_5 ?_
 case y_5 => intro w' hSw;go_simp;try rfl
 try simp only [zP]
 refine Late.cl (i := 6) rfl hAl hQ (fun w6 e6 E6 K hK => ?_);go_simp;replace hq := hq.ext e6;replace hs := hs.ext e6;replace hp := hp.ext e6;replace hi := hi.ext e6;replace hb := hb.ext e6;replace hc := hc.ext e6;have y6 := (Ext.refl w6).alloc (.cells #[.int .i64 (-1), .int .i64 (2), .int .i64 (1), .int .i64 (2)] 53);have bx := Box.new w6 53 #[.int .i64 (-1), .int .i64 (2), .int .i64 (1), .int .i64 (2)];replace hq := hq.ext y6;replace hs := hs.ext y6;replace hp := hp.ext y6;replace hi := hi.ext y6;replace hb := hb.ext y6;replace hc := hc.ext y6;obtain ⟨g6, hg6⟩ : ∃ g, w6.heap.size = g := ⟨_, rfl⟩;rw [hg6] at bx ⊢;clear hg6;refine hK.out _ _ y6 ?_;clear hK K
 try simp only [zP]
 refine Late.cl (i := 7) rfl hAl hQ (fun w7 e7 E7 K hK => ?_);go_simp
 (replace hq := hq.ext e7; replace hs := hs.ext e7; replace hp := hp.ext e7; replace hi := hi.ext e7; replace hb := hb.ext e7; replace hc := hc.ext e7; replace bx := bx.ext e7; go_at_call 43; refine (rats8 bx).mono ?_; rintro e wk7 ⟨Aq8, nq8, cq8, rfl, q8, hx7⟩; replace hq := hq.ext hx7; replace hs := hs.ext hx7; replace hp := hp.ext hx7; replace hi := hi.ext hx7; replace hb := hb.ext hx7; replace hc := hc.ext hx7; have hnq8 : nq8 = 2 := q8.len.symm; subst hnq8)
 refine hK.out _ _ hx7 ?_;clear hK K
 try simp only [zP]
 refine Late.cl (i := 8) rfl hAl hQ (fun w8 e8 E8 K hK => ?_);go_simp
 (replace hq := hq.ext e8; replace hs := hs.ext e8; replace hp := hp.ext e8; replace hi := hi.ext e8; replace hb := hb.ext e8; replace hc := hc.ext e8; replace q8 := q8.ext e8; go_at_call 45; refine (eq_call hq q8 rfl (by omega) (by omega) (by omega) (by omega) (by omega)).mono ?_; rintro e wk8 ⟨rfl, hx8⟩; replace hq := hq.ext hx8; replace hs := hs.ext hx8; replace hp := hp.ext hx8; replace hi := hi.ext hx8; replace hb := hb.ext hx8; replace hc := hc.ext hx8; replace q8 := q8.ext hx8)
 refine hK.out _ _ hx8 ?_;clear hK K
 try simp only [zP]
 refine Late.t 9 65 ?v_6 hQ ?y_6 ?_
 case y_6 => intro w' hSw;go_simp;try rfl
 try simp only [zP]
 refine Late.t 10 66 ?v_7 hQ ?y_7 ?_
 case y_7 => intro w' hSw;go_simp;try rfl
 try simp only [zP]
 refine Late.t 11 67 ?v_8 hQ ?y_8 ?_
 case y_8 => intro w' hSw;go_simp;try rfl
 try simp only [zP]
 refine Late.t 12 68 ?v_9 hQ ?y_9 ?_
 case y_9 => intro w' hSw;go_simp;try rfl
 try simp only [zP]
 refine Late.t 13 69 ?v_a hQ ?y_a ?_
 case y_a => intro w' hSw;go_simp;try rfl
 try simp only [zP]
 refine Late.t 14 70 ?v_b hQ ?y_b ?_
 case y_b => intro w' hSw;go_simp;try rfl
 try simp only [zP]
 refine Late.t 15 71 ?v_c hQ ?y_c ?_
 case y_c => intro w' hSw;go_simp;try rfl
 try simp only [zP]
 refine Late.t 16 72 ?v_d hQ ?y_d ?_
 case y_d => intro w' hSw;go_simp;try rfl
 try simp only [zP]
 refine Late.t 17 73 ?v_e hQ ?y_e ?_
 case y_e => intro w' hSw;go_simp;try rfl
 try simp only [zP]
 refine Late.t 18 74 ?v_f hQ ?y_f ?_
 case y_f => intro w' hSw;go_simp;try rfl
 try simp only [zP]
 refine Late.t 19 75 ?v_g hQ ?y_g ?_
 case y_g => intro w' hSw;go_simp;try rfl
 try simp only [zP]
 refine Late.cl (i := 20) rfl hAl hQ (fun w20 e20 E20 K hK => ?_);go_simp;replace hq := hq.ext e20;replace hs := hs.ext e20;replace hp := hp.ext e20;replace hi := hi.ext e20;replace hb := hb.ext e20;replace hc := hc.ext e20;have y20 := (Ext.refl w20).alloc (.cells #[.int .i64 (0), .int .i64 (1), .int .i64 (-1), .int .i64 (1), .int .i64 (1), .int .i64 (1)] 53);have bx := Box.new w20 53 #[.int .i64 (0), .int .i64 (1), .int .i64 (-1), .int .i64 (1), .int .i64 (1), .int .i64 (1)];replace hq := hq.ext y20;replace hs := hs.ext y20;replace hp := hp.ext y20;replace hi := hi.ext y20;replace hb := hb.ext y20;replace hc := hc.ext y20;obtain ⟨g20, hg20⟩ : ∃ g, w20.heap.size = g := ⟨_, rfl⟩;rw [hg20] at bx ⊢;clear hg20;refine hK.out _ _ y20 ?_;clear hK K
 try simp only [zP]
 refine Late.cl (i := 21) rfl hAl hQ (fun w21 e21 E21 K hK => ?_);go_simp
 (replace hq := hq.ext e21; replace hs := hs.ext e21; replace hp := hp.ext e21; replace hi := hi.ext e21; replace hb := hb.ext e21; replace hc := hc.ext e21; replace bx := bx.ext e21; go_at_call 43; refine (rats9 bx).mono ?_; rintro e wk21 ⟨Aq9, nq9, cq9, rfl, q9, hx21⟩; replace hq := hq.ext hx21; replace hs := hs.ext hx21; replace hp := hp.ext hx21; replace hi := hi.ext hx21; replace hb := hb.ext hx21; replace hc := hc.ext hx21; have hnq9 : nq9 = 3 := q9.len.symm; subst hnq9)
 refine hK.out _ _ hx21 ?_;clear hK K
 try simp only [zP]
 refine Late.cl (i := 22) rfl hAl hQ (fun w22 e22 E22 K hK => ?_);go_simp
 (replace hq := hq.ext e22; replace hs := hs.ext e22; replace hp := hp.ext e22; replace hi := hi.ext e22; replace hb := hb.ext e22; replace hc := hc.ext e22; replace q9 := q9.ext e22; go_at_call 45; refine (eq_call hs q9 rfl (by omega) (by omega) (by omega) (by omega) (by omega)).mono ?_; rintro e wk22 ⟨rfl, hx22⟩; replace hq := hq.ext hx22; replace hs := hs.ext hx22; replace hp := hp.ext hx22; replace hi := hi.ext hx22; replace hb := hb.ext hx22; replace hc := hc.ext hx22; replace q9 := q9.ext hx22)
 refine hK.out _ _ hx22 ?_;clear hK K
 try simp only [zP]
 refine Late.t 23 79 ?v_h hQ ?y_h ?_
 case y_h => intro w' hSw;go_simp;try rfl
 try simp only [zP]
 refine Late.t 24 80 ?v_i hQ ?y_i ?_
 case y_i => intro w' hSw;go_simp;try rfl
 try simp only [zP]
 refine Late.t 25 81 ?v_j hQ ?y_j ?_
 case y_j => intro w' hSw;go_simp;try rfl
 try simp only [zP]
 refine Late.cl (i := 26) rfl hAl hQ (fun w26 e26 E26 K hK => ?_);go_simp;replace hq := hq.ext e26;replace hs := hs.ext e26;replace hp := hp.ext e26;replace hi := hi.ext e26;replace hb := hb.ext e26;replace hc := hc.ext e26;have y26 := (Ext.refl w26).alloc (.cells #[.int .i64 (-2), .int .i64 3] 2);have bx := Box.new w26 2 #[.int .i64 (-2), .int .i64 3];replace hq := hq.ext y26;replace hs := hs.ext y26;replace hp := hp.ext y26;replace hi := hi.ext y26;replace hb := hb.ext y26;replace hc := hc.ext y26;obtain ⟨g26, hg26⟩ : ∃ g, w26.heap.size = g := ⟨_, rfl⟩;rw [hg26] at bx ⊢;clear hg26;refine hK.out _ _ y26 ?_;clear hK K
 try simp only [zP]
 refine Late.cl (i := 27) rfl hAl hQ (fun w27 e27 E27 K hK => ?_);go_simp
 (replace hq := hq.ext e27; replace hs := hs.ext e27; replace hp := hp.ext e27; replace hi := hi.ext e27; replace hb := hb.ext e27; replace hc := hc.ext e27; replace bx := bx.ext e27; go_at_call 46; refine (ints_call1 hp bx).mono ?_; rintro e wk27 ⟨rfl, hx27⟩; replace hq := hq.ext hx27; replace hs := hs.ext hx27; replace hp := hp.ext hx27; replace hi := hi.ext hx27; replace hb := hb.ext hx27; replace hc := hc.ext hx27)
 refine hK.out _ _ hx27 ?_;clear hK K
 try simp only [zP]
 refine Late.t 28 84 ?v_k hQ ?y_k ?_
 case y_k => intro w' hSw;go_simp;try rfl
 try simp only [zP]
 refine Late.t 29 85 ?v_l hQ ?y_l ?_
 case y_l => intro w' hSw;go_simp;try rfl
 try simp only [zP]
 refine Late.t 30 86 ?v_m hQ ?y_m ?_
 case y_m => intro w' hSw;go_simp;try rfl
 try simp only [zP]
 refine Late.cl (i := 31) rfl hAl hQ (fun w31 e31 E31 K hK => ?_);go_simp;replace hq := hq.ext e31;replace hs := hs.ext e31;replace hp := hp.ext e31;replace hi := hi.ext e31;replace hb := hb.ext e31;replace hc := hc.ext e31;have y31 := (Ext.refl w31).alloc (.cells #[.int .i64 0, .int .i64 1] 2);have bx := Box.new w31 2 #[.int .i64 0, .int .i64 1];replace hq := hq.ext y31;replace hs := hs.ext y31;replace hp := hp.ext y31;replace hi := hi.ext y31;replace hb := hb.ext y31;replace hc := hc.ext y31;obtain ⟨g31, hg31⟩ : ∃ g, w31.heap.size = g := ⟨_, rfl⟩;rw [hg31] at bx ⊢;clear hg31;refine hK.out _ _ y31 ?_;clear hK K
 try simp only [zP]
 refine Late.cl (i := 32) rfl hAl hQ (fun w32 e32 E32 K hK => ?_);go_simp
 (replace hq := hq.ext e32; replace hs := hs.ext e32; replace hp := hp.ext e32; replace hi := hi.ext e32; replace hb := hb.ext e32; replace hc := hc.ext e32; replace bx := bx.ext e32; go_at_call 46; refine (ints_call2 hi bx).mono ?_; rintro e wk32 ⟨rfl, hx32⟩; replace hq := hq.ext hx32; replace hs := hs.ext hx32; replace hp := hp.ext hx32; replace hi := hi.ext hx32; replace hb := hb.ext hx32; replace hc := hc.ext hx32)
 refine hK.out _ _ hx32 ?_;clear hK K
 try simp only [zP]
 refine Late.t 33 89 ?v_n hQ ?y_n ?_
 case y_n => intro w' hSw;go_simp;try rfl
 try simp only [zP]
 refine Late.t 34 90 ?v_o hQ ?y_o ?_
 case y_o => intro w' hSw;go_simp;try rfl
 try simp only [zP]
 refine Late.t 35 91 ?v_p hQ ?y_p ?_
 case y_p => intro w' hSw;have k0 := (b7.ext hSw).c4;go_simp;try rfl
 try simp only [zP]
 refine Late.cl (i := 36) rfl hAl hQ (fun w36 e36 E36 K hK => ?_);go_simp
 (replace hq := hq.ext e36; replace hs := hs.ext e36; replace hp := hp.ext e36; replace hi := hi.ext e36; replace hb := hb.ext e36; replace hc := hc.ext e36; go_at_call 30; refine (q_ValidN hb (by omega)).mono ?_; rintro e wk36 ⟨rfl, hx36⟩; replace hq := hq.ext hx36; replace hs := hs.ext hx36; replace hp := hp.ext hx36; replace hi := hi.ext hx36; replace hb := hb.ext hx36; replace hc := hc.ext hx36)
 refine hK.out _ _ hx36 ?_;clear hK K
 try simp only [zP]
 refine Late.t 37 93 ?v_q hQ ?y_q ?_
 case y_q => intro w' hSw;go_simp;try rfl
 try simp only [zP]
 refine Late.t 38 94 ?v_r hQ ?y_r ?_
 case y_r => intro w' hSw;go_simp;try rfl
 try simp only [zP]
 refine Late.t 39 95 ?v_s hQ ?y_s ?_
 case y_s => intro w' hSw;have k0 := (b7.ext hSw).c4;go_simp;try rfl
 try simp only [zP]
 refine Late.cl (i := 40) rfl hAl hQ (fun w40 e40 E40 K hK => ?_);go_simp
 (replace hq := hq.ext e40; replace hs := hs.ext e40; replace hp := hp.ext e40; replace hi := hi.ext e40; replace hb := hb.ext e40; replace hc := hc.ext e40; go_at_call 47; refine (q_Frac 5 2 (by omega) (by omega) (by omega) (by omega)).mono ?_; rintro e wk40 ⟨s5, A5, n5, c5, t5, B5, m5, d5, rfl, h5, hx40⟩; replace hq := hq.ext hx40; replace hs := hs.ext hx40; replace hp := hp.ext hx40; replace hi := hi.ext hx40; replace hb := hb.ext hx40; replace hc := hc.ext hx40)
 refine hK.out _ _ hx40 ?_;clear hK K
 try simp only [zP]
 refine Late.cl (i := 41) rfl hAl hQ (fun w41 e41 E41 K hK => ?_);go_simp
 (replace hq := hq.ext e41; replace hs := hs.ext e41; replace hp := hp.ext e41; replace hi := hi.ext e41; replace hb := hb.ext e41; replace hc := hc.ext e41; replace h5 := h5.ext e41; go_at_call 31; refine (cm_call hb h5).mono ?_; rintro e wk41 ⟨rfl, hx41⟩; replace hq := hq.ext hx41; replace hs := hs.ext hx41; replace hp := hp.ext hx41; replace hi := hi.ext hx41; replace hb := hb.ext hx41; replace hc := hc.ext hx41; replace h5 := h5.ext hx41)
 refine hK.out _ _ hx41 ?_;clear hK K
 try simp only [zP]
 refine Late.t 42 98 ?v_t hQ ?y_t ?_
 case y_t => intro w' hSw;go_simp;try rfl
 try simp only [zP]
 refine Late.t 43 99 ?v_u hQ ?y_u ?_
 case y_u => intro w' hSw;go_simp;try rfl
 try simp only [zP]
 refine Late.t 44 100 ?v_v hQ ?y_v ?_
 case y_v => intro w' hSw;go_simp;try rfl
 try simp only [zP]
 refine Late.t 45 101 ?v_w hQ ?y_w ?_
 case y_w => intro w' hSw;go_simp;try rfl
 try simp only [zP]
 refine Late.t 46 102 ?v_x hQ ?y_x ?_
 case y_x => intro w' hSw;go_simp;try rfl
 try simp only [zP]
 refine Late.t 47 103 ?v_y hQ ?y_y ?_
 case y_y => intro w' hSw;go_simp;try rfl
 try simp only [zP]
 refine Late.t 48 104 ?v_z hQ ?y_z ?_
 case y_z => intro w' hSw;go_simp;try rfl
 try simp only [zP]
 refine Late.cl (i := 49) rfl hAl hQ (fun w49 e49 E49 K hK => ?_);go_simp;replace hq := hq.ext e49;replace hs := hs.ext e49;replace hp := hp.ext e49;replace hi := hi.ext e49;replace hb := hb.ext e49;replace hc := hc.ext e49;have y49 := (Ext.refl w49).alloc (.cells #[.int .i64 (1), .int .i64 (1), .int .i64 (2), .int .i64 (1), .int .i64 (1), .int .i64 (1)] 53);have bx := Box.new w49 53 #[.int .i64 (1), .int .i64 (1), .int .i64 (2), .int .i64 (1), .int .i64 (1), .int .i64 (1)];replace hq := hq.ext y49;replace hs := hs.ext y49;replace hp := hp.ext y49;replace hi := hi.ext y49;replace hb := hb.ext y49;replace hc := hc.ext y49;obtain ⟨g49, hg49⟩ : ∃ g, w49.heap.size = g := ⟨_, rfl⟩;rw [hg49] at bx ⊢;clear hg49;refine hK.out _ _ y49 ?_;clear hK K
 try simp only [zP]
 refine Late.cl (i := 50) rfl hAl hQ (fun w50 e50 E50 K hK => ?_);go_simp
 (replace hq := hq.ext e50; replace hs := hs.ext e50; replace hp := hp.ext e50; replace hi := hi.ext e50; replace hb := hb.ext e50; replace hc := hc.ext e50; replace bx := bx.ext e50; go_at_call 43; refine (rats10 bx).mono ?_; rintro e wk50 ⟨Aq10, nq10, cq10, rfl, q10, hx50⟩; replace hq := hq.ext hx50; replace hs := hs.ext hx50; replace hp := hp.ext hx50; replace hi := hi.ext hx50; replace hb := hb.ext hx50; replace hc := hc.ext hx50; have hnq10 : nq10 = 3 := q10.len.symm; subst hnq10)
 refine hK.out _ _ hx50 ?_;clear hK K
 try simp only [zP]
 refine Late.cl (i := 51) rfl hAl hQ (fun w51 e51 E51 K hK => ?_);go_simp
 (replace hq := hq.ext e51; replace hs := hs.ext e51; replace hp := hp.ext e51; replace hi := hi.ext e51; replace hb := hb.ext e51; replace hc := hc.ext e51; replace q10 := q10.ext e51; go_at_call 45; refine (eq_call hc q10 rfl (by omega) (by omega) (by omega) (by omega) (by omega)).mono ?_; rintro e wk51 ⟨rfl, hx51⟩; replace hq := hq.ext hx51; replace hs := hs.ext hx51; replace hp := hp.ext hx51; replace hi := hi.ext hx51; replace hb := hb.ext hx51; replace hc := hc.ext hx51; replace q10 := q10.ext hx51)
 refine hK.out _ _ hx51 ?_;clear hK K
 try simp only [zP]
 refine Late.t 52 108 ?v_10 hQ ?y_10 ?_
 case y_10 => intro w' hSw;go_simp;try rfl
 try simp only [zP]
 refine Late.t 53 0 ?v_11 hQ ?y_11 ?_
 case y_11 => intro w' hSw;go_simp;try rfl
 try simp only [zP]
 refine Late.d0 (fun wz ez Ez => ?_);clear hAl hQ ES
 go_wp2_with fail
 go_ret
 exact ⟨rfl, ext.trans Ez⟩
end
section
open Go.ChangeShapes Go.WideShapes Go.ChangeAt Go.RowKit Go.Joins
theorem Tryz.own : ownKnob Tryz.prog.godebug = none := by kernel_rfl
theorem Tryz.laidOut : laidOutB Tryz.prog = true := by kernel_rfl
theorem Tryz.cellsI : Tryz.prog.cellsOf 25 = 2 := by kernel_rfl
theorem Tryz.cellsW : Tryz.prog.cellsOf 106 = 1 := by kernel_rfl
section
variable {H : Type} {enc : TypeId × Value -> H} {W : World} {base : Nat} {held : Bool}
theorem open_words {m : Nat} {v : Value} {y : DataW H × List MemPlace} (h : DataW.trod enc Tryz.prog W base (fun _ => true) held m 23 [v] = some y) :
  ∃ A n c xs, v = .slice A n c /\ List.length xs = n /\ Rd W A xs /\ n <= c /\ c <= maxLen := by
 rcases open_ints Tryz.underlying23 Tryz.underlying106 Tryz.cellsW h with ⟨hcs, _⟩ | ⟨a, len, cap, zs, hcs, _, hl, hm, hz, _, hcell, hwf⟩
 ·injection hcs with hcs _
  subst hcs;exact ⟨none, 0, 0, [], rfl, rfl, Rd.nil _ _, Nat.le_refl _, Nat.zero_le _⟩
 ·injection hcs with hcs _
  subst hcs;simp only [if_true] at hz
  have hb : ∀ n ∈ zs, 0 <= n /\ n <= 4294967295 := by
   intro n hn;have := hwf n hn;simp [Lit.wf, IntKind.min, IntKind.max, IntKind.bits, IntKind.signed] at this;omega
  refine ⟨some a, len, cap, (zs.take len).map Int.toNat, rfl, by simp; omega, ⟨?_, ?_⟩, hl, hm⟩
  ·intro x hx
   obtain ⟨n, hn, rfl⟩ := List.mem_map.1 hx;have := hb n (List.mem_of_mem_take hn);omega
  ·intro hne
   have hpos : 0 < zs.length := by
    rcases Nat.eq_zero_or_pos zs.length with h0 | h0
    ·exfalso
     apply hne
     have : zs = [] := List.eq_nil_of_length_eq_zero h0;rw [this]; simp
    ·exact h0
   obtain ⟨b, off, spot⟩ := a;have hc0 := hcell 0 hpos
   have hspot : spot = none := by
    cases spot with
    | none => rfl
    | some q => simp [Addr.add, World.cell?] at hc0; split at hc0 <;> simp at hc0
   subst hspot;refine ⟨b, off, rfl, cell_lt (p := ⟨b, off, none⟩) (by simpa [Addr.add] using hc0), fun i hi => ?_⟩;simp only [List.length_map, List.length_take] at hi;have hc := hcell i (by omega);have e1 : (⟨b, off, none⟩ : Addr).add i = ⟨b, off + i, none⟩ := by unfold Addr.add; split <;> simp_all
   rw [e1] at hc;rw [hc];simp only [List.getElem_map, List.getElem_take];have hi2 : i < zs.length := by omega
   have e2 : zs.getD i 0 = zs[i] := by simp [List.getD, hi2]
   rw [e2];have := hb zs[i] (List.getElem_mem hi2)
   congr 2
   omega
end
theorem cellsR : Tryz.prog.cellsOf 27 = 4 := by kernel_rfl
theorem cellsB : Tryz.prog.cellsOf 4 = 1 := by kernel_rfl
theorem cellsS : Tryz.prog.cellsOf 23 = 1 := by kernel_rfl
section
variable {H : Type} {enc : TypeId × Value -> H} {W : World} {base : Nat} {held : Bool}
theorem open_intc {m : Nat} {c0 c1 : Value} {y : DataW H × List MemPlace} (h : DataW.trod enc Tryz.prog W base (fun _ => true) held m 25 [c0, c1] = some y) :
  ∃ s A n c xs, c0 = .bool s /\ c1 = .slice A n c /\ RI W A n c xs := by
 obtain ⟨y0, y1, k, _, _, h0, h1⟩ := trod_struct2 Tryz.underlying25 h;rw [cellsB] at h0;rw [cellsS] at h1;simp only [List.drop_zero, List.drop_succ_cons, List.take_succ_cons, List.take_zero] at h0 h1;obtain ⟨s, e0, _⟩ := DataW.trod_bool Tryz.underlying4 h0
 injection e0 with e0 _
 obtain ⟨A, n, c, xs, rfl, g1, g2, g3, g4⟩ := open_words h1;exact ⟨s, A, n, c, xs, e0, rfl, g1, g2, g3, g4⟩
set_option maxRecDepth 100000 in
theorem open_ratc {m : Nat} {c0 c1 c2 c3 : Value} {y : DataW H × List MemPlace} (h : DataW.trod enc Tryz.prog W base (fun _ => true) held m 27 [c0, c1, c2, c3] = some y) :
  ∃ s A n c t B m d xs ys, c0 = .bool s /\ c1 = .slice A n c /\ c2 = .bool t /\ c3 = .slice B m d /\ RI W A n c xs /\ RI W B m d ys := by
 obtain ⟨y0, y1, k, _, _, h0, h1⟩ := trod_struct2 Tryz.underlying27 h;rw [Tryz.cellsI] at h0 h1;simp only [List.drop_zero, List.drop_succ_cons, List.take_succ_cons, List.take_zero] at h0 h1;obtain ⟨s, A, n, c, xs, rfl, rfl, r1⟩ := open_intc h0;obtain ⟨t, B, m, d, ys, rfl, rfl, r2⟩ := open_intc h1;exact ⟨s, A, n, c, t, B, m, d, xs, ys, rfl, rfl, rfl, rfl, r1, r2⟩
set_option maxRecDepth 100000 in
theorem open_rat {r : Reach} {b0 : Nat} {v : Value} {d : DataW H} {p : List MemPlace} (hv : Value.okWide Tryz.prog W r b0 27 v) (h : DataW.Trod enc Tryz.prog W base (fun _ => true) held 27 v d p) :
  ∃ s A n c t B m d xs ys, v = .agg #[.bool s, .slice A n c, .bool t, .slice B m d] /\ RI W A n c xs /\ RI W B m d ys := by
 obtain ⟨cs, rfl, hsz⟩ := okWide_struct Tryz.underlying27 hv;obtain ⟨c0, c1, c2, c3, rfl⟩ := array4 (hsz.trans cellsR);obtain ⟨fuel, hf⟩ := h;obtain ⟨s, A, n, c, t, B, m, d, xs, ys, rfl, rfl, rfl, rfl, r1, r2⟩ := open_ratc hf;exact ⟨s, A, n, c, t, B, m, d, xs, ys, rfl, r1, r2⟩
set_option maxRecDepth 100000 in
theorem open_rats {r : Reach} {b0 : Nat} {v : Value} {d : DataW H} {p : List MemPlace} (hv : Value.okWide Tryz.prog W r b0 22 v) (h : DataW.Trod enc Tryz.prog W base (fun _ => true) held 22 v d p) :
  ∃ A n c rs, v = .slice A n c /\ RawP W A n c rs := by
 obtain ⟨A, n, c, rfl⟩ := okWide_slice Tryz.underlying22 hv;obtain ⟨fuel, hf⟩ := h
 rcases Deep.open_slice Tryz.underlying22 hf with ⟨hcs, _⟩ | ⟨a, len, cap, m, k, D, Pl, hcs, _, hl, hm, hmm, _, hx⟩
 ·simp only [Value.cells, List.cons.injEq, Value.slice.injEq, and_true] at hcs
  obtain ⟨rfl, rfl, rfl⟩ := hcs;exact ⟨none, 0, 0, [], rfl, rfl, Nat.le_refl _, Nat.zero_le _, fun h => absurd rfl h⟩
 ·simp only [Value.cells, List.cons.injEq, Value.slice.injEq, and_true] at hcs
  obtain ⟨rfl, rfl, rfl⟩ := hcs;simp only [if_true] at hmm
  have key : ∀ i, i < n -> ∃ r : RawR, RawAt W a.block (a.off + 4 * i) r := by
   intro i hi;obtain ⟨cs', h1, h2⟩ := hx i (by omega);rw [cellsR] at h1;obtain ⟨_, hlen, hc⟩ := World.cells?_some h1
   obtain ⟨c0, c1, c2, c3, rfl⟩ : ∃ c0 c1 c2 c3, cs' = [c0, c1, c2, c3] := by
    rcases cs' with _ | ⟨c0, _ | ⟨c1, _ | ⟨c2, _ | ⟨c3, _ | ⟨c4, l⟩⟩⟩⟩⟩ <;> simp at hlen
    exact ⟨c0, c1, c2, c3, rfl⟩
   obtain ⟨s, A', n', c', t, B', m', d', xs, ys, rfl, rfl, rfl, rfl, r1, r2⟩ := open_ratc h2
   have hs : a.spot = none := by
    cases e : a.spot with
    | none => rfl
    | some q =>
     exfalso
     obtain ⟨cs0, g1, _⟩ := hx 0 (by omega);rw [cellsR] at g1;obtain ⟨_, hlen0, hc0⟩ := World.cells?_some g1;have := hc0 0 (by omega);rw [Nat.zero_mul, Deep.add_add] at this;simp only [Addr.add, Nat.add_zero, if_true] at this;rw [List.getElem?_eq_getElem (by omega)] at this;unfold World.cell? at this;rw [e] at this
     split at this <;> simp at this
   have hadd : ∀ j, j < 4 -> (a.add (i * 4)).add j = ⟨a.block, a.off + 4 * i + j, none⟩ := by
    intro j _;rw [Deep.add_add];unfold Addr.add;obtain ⟨ab, ao, asp⟩ := a;simp only at hs;subst hs
    split
    ·rename_i h0
     have : i * 4 + j = 0 := h0;simp only [Addr.mk.injEq, and_true, true_and];omega
    ·simp only [Addr.mk.injEq, and_true, true_and]
     omega
   have q0 := hc 0 (by omega);have q1 := hc 1 (by omega);have q2 := hc 2 (by omega);have q3 := hc 3 (by omega);rw [hadd _ (by omega)] at q0 q1 q2 q3;exact ⟨⟨s, xs, t, ys⟩, A', n', c', B', m', d', q0, q1, q2, q3, r1, r2⟩
  haveI : Inhabited RawR := ⟨⟨false, [], false, []⟩⟩
  obtain ⟨F, hF⟩ := Deep.choose_lt (n := n) (α := RawR) (p := fun i r => RawAt W a.block (a.off + 4 * i) r) key;refine ⟨some a, n, c, (List.range n).map F, rfl, by simp, hl, hm, fun hne => ?_⟩
  have hpos : 0 < n := by
   rcases Nat.eq_zero_or_pos n with h0 | h0
   ·exact absurd (by rw [h0]; rfl) hne
   ·exact h0
  have hs : a.spot = none := by
   cases e : a.spot with
   | none => rfl
   | some q =>
    exfalso
    obtain ⟨cs0, g1, _⟩ := hx 0 (by omega);rw [cellsR] at g1;obtain ⟨_, hlen0, hc0⟩ := World.cells?_some g1;have := hc0 0 (by omega);rw [Nat.zero_mul, Deep.add_add] at this;simp only [Addr.add, Nat.add_zero, if_true] at this;rw [List.getElem?_eq_getElem (by omega)] at this;unfold World.cell? at this;rw [e] at this
    split at this <;> simp at this
  refine ⟨a.block, a.off, ?_, fun i hi => ?_⟩
  ·obtain ⟨ab, ao, asp⟩ := a
   simp only at hs;subst hs
   rfl
  ·have hi2 : i < n := by simpa using hi
   have := hF i hi2
   simpa using this
end
def laidI : List (String × DataW Unit) := [("math/bits.deBruijn64tab", Rows.laid_math_bits_deBruijn64tab)]
def tabY : List Int := Lib.deBruijn64tab.map fun n : Nat => (n : Int)
theorem tabY_at : ∀ j : Fin 64, tabY.getD j.val 0 = ((Lib.deBruijn64tab.getD j.val 0 : Nat) : Int) := by decide +kernel
theorem laidI_tab : laidI = [("math/bits.deBruijn64tab", Lib.tabData .u8 tabY)] := by kernel_rfl
theorem gTab : Tryz.prog.globalNamed "math/bits.deBruijn64tab" = some 0 := by kernel_rfl
theorem tTab : (Tryz.prog.globals[0]?).map (·.type) = some 177 := by kernel_rfl
theorem tab_of_laid {W : World} (h : laidMet Tryz.prog laidI W) : Tab W := by
 rw [laidI_tab] at h;have hT := Lib.tabIs_of_head gTab tTab Tryz.underlying177 Tryz.underlying5 (by kernel_rfl) (by kernel_rfl) h;intro j hj;have := hT.cell gTab j (by rw [show tabY.length = 64 from by decide +kernel]; exact hj);rw [tabY_at ⟨j, hj⟩] at this;exact this
theorem doorI_met (os : Os) (args : Array Value) : laidMetH Tryz.prog laidI ((World.doorLaid Tryz.prog 400 os).forCall (fun _ _ => 0) ⟨#[], args, []⟩).memory :=
 laidMetH_of_parts3 (fuel := 8) (laidMet_of_run' 8 (by kernel_rfl) (by kernel_rfl)) (by kernel_rfl) (by kernel_rfl)
theorem tab_of_laidH {W : World} (h : laidMetH Tryz.prog laidI W) : Tab W := by
 rw [MakeChecks.laidMetH_plain _ _ _ (by kernel_rfl)] at h;exact tab_of_laid h
set_option maxRecDepth 100000
theorem eval4_lifted (os : Os) (started : os.Started) (H : Type) (enc : TypeId × Value -> H) :
  ReturnsInHanded {} Tryz.checked os 5 .any (fun w args => (Rows.polynomialEvalSpec.pre enc Tryz.prog Tryz.f5 [] false w args /\ laidMetH Tryz.prog laidI w) /\ sizedMet enc Tryz.prog Tryz.f5 (OpenSpec.ofChange Rows.polynomialEvalSpec) false w args)
   (Rows.polynomialEvalSpec.post enc Tryz.prog Tryz.f5 false true false false) := by
 refine returnsInHanded_of_change_and (C := Tryz.checked) (X := fun w _ => laidMetH Tryz.prog laidI w) (fun _ _ _ hh h => h.of_heap hh) Tryz.own started (by kernel_rfl) Tryz.func5
  (ChangeSpec.witness_shaped (enc := enc) (C := Tryz.checked) (os := os) (X := fun w _ => laidMetH Tryz.prog laidI w) false (World.doorLaid Tryz.prog 400 os) #[.slice none 0 0, .slice none 0 0, Value.agg #[.bool false, .slice none 0 0, .bool false, .slice none 0 0]] 8 rfl (World.shaped_of_RefB (by kernel_rfl) (by kernel_rfl)) (by kernel_rfl) (by kernel_rfl) (by kernel_rfl) (doorI_met os _)) ?_
 intro W base args ds gs before hval0 hW _ _ hL _;have hval : ∀ (j : Nat) t v, Tryz.f5.params[j]? = some t -> args[j]? = some v -> Value.okWide Tryz.prog W .any base t v := hval0;have hW' := hW;have hlt : ∀ p ∈ before, p.block < W.heap.size := fun p hp => hW.lt p hp
 obtain ⟨p, q, hA0, hV, rfl, _, _⟩ := hW;have hA : DataW.TrodAll enc Tryz.prog W 0 (fun _ => true) true Tryz.f5.params.toList args.toList ds p := hA0;rw [Tryz.params5] at hA hval;obtain ⟨v0, v1, v2, d0, d1, d2, p0, p1, p2, rfl, rfl, rfl, h0, h1, h2⟩ := trodAll_three hA;obtain ⟨rfl, rfl⟩ := trodVars_none hV;simp only [List.append_nil] at hW' hlt;obtain ⟨A0, n0, c0, rs0, rfl, hr0⟩ := open_rats (hval 0 22 v0 rfl rfl) h0;obtain ⟨A1, n1, c1, rs1, rfl, hr1⟩ := open_rats (hval 1 22 v1 rfl rfl) h1;obtain ⟨s, A, n, c, t, B, m, d, xs, ys, rfl, hr2, hk2⟩ := open_rat (hval 2 27 v2 rfl rfl) h2;clear hA0 hval0;have hT := tab_of_laidH hL;refine (eval4_any awake4 hT hr0 hr1 hr2 hk2).mono fun e W' ⟨he, hext⟩ => ?_
 subst he;have hb : Below W.heap.size W W' := hext;have g0 := Below.trod Tryz.laidOut (by kernel_rfl) (of_decide_eq_true (by kernel_rfl)) h0 hb (fun p hp => hlt p (List.mem_append.2 (.inl (List.mem_append.2 (.inl hp)))));have g1 := Below.trod Tryz.laidOut (by kernel_rfl) (of_decide_eq_true (by kernel_rfl)) h1 hb (fun p hp => hlt p (List.mem_append.2 (.inl (List.mem_append.2 (.inr hp)))));have g2 := Below.trod Tryz.laidOut (by kernel_rfl) (of_decide_eq_true (by kernel_rfl)) h2 hb (fun p hp => hlt p (List.mem_append.2 (.inr hp)));exact ⟨_, rfl, _, _, _, [], (p0 ++ (p1 ++ p2)), [], hW', trodAll_mk1 (shut_bool Tryz.underlying4 true), trodAll_mk3 g0 g1 g2, rfl, Below.frame hb _, fun h => by cases h⟩
theorem eval4_row_holds : Rows.PolynomialEvalSaid :=
 OpenClaim.holds_of_wide 5 Tryz.f5 rfl rfl rfl rfl rfl rfl rfl ⟨rfl, rfl, rfl, rfl, rfl⟩ rfl rfl rfl rfl rfl (by kernel_rfl) Tryz.func5 (by kernel_rfl)
  (of_decide_eq_true (by kernel_rfl)) (by unfold Func.isWrapper; first | (rw [if_neg (of_decide_eq_false (by kernel_rfl))]; exact ⟨rfl, rfl⟩) | (rw [if_pos (by decide +kernel)]; kernel_rfl))
  (fun os started H enc _ => eval4_lifted os started H enc)
theorem eval4_holds : Rows.PolynomialEvalCardSaid :=
 Claim7.holds_tied_plain_at .later [] [.data] true Rows.polynomialEvalCard.stood.harness false
  eval4_row_holds (fun _ h => by cases h) (by kernel_rfl) (fun _ h => by cases h) polynomialEval_row_tie rfl ⟨rfl, rfl⟩ (by kernel_rfl) rfl
  (fun f fn hf hfn => by
   obtain rfl : f = 5 := Option.some.inj ((show Tryz.prog.funcNamed "setsquare/setsquarelaw04.PolynomialEval" = some 5 by kernel_rfl).symm.trans hf) |>.symm;obtain rfl : fn = Tryz.f5 := (Option.some.inj (Tryz.func5.symm.trans hfn)).symm
   exact ⟨by kernel_rfl, fun j t ht => by
    rw [Tryz.params5] at ht;have hm : t ∈ [22, 22, 27] := by simpa using Array.mem_of_getElem? ht
    have hall : ([22, 22, 27].all fun u => !Tryz.prog.wantsStandIn u) = true := by kernel_rfl
    exact (show Tryz.prog.wantsStandIn t = false by simpa using List.all_eq_true.1 hall t hm)⟩)
  (by kernel_rfl)
end
end Go.Proofs.YtpeddoaknfjbbaaGreatDoor
