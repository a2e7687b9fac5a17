/- For every tower with three elements and every number of a radicand the law TowerConjugate returns true: Conjugate returns the specified element or none, respects sums and products, and changes nothing when done twice, and the examples of the chapter hold. Condition: the table math/bits.deBruijn64tab holds what its initialiser lays (tied by the given card). -/
import Derived.Test.YtldeolipllejcaaGreatDoorQ10
import Derived.Test.YtldeolipllejcaaGreatDoorQ7
import Derived.Test.YtldeolipllejcaaGreatDoorQ12
import Derived.Test.YtldeolipllejcaaGreatDoorQ0
import Derived.Test.YtldeolipllejcaaGreatDoorQ6
import Derived.Test.YtldeolipllejcaaGreatDoorQ3
import Derived.Test.YtldeolipllejcaaGreatDoorRows
import Derived.ProofKit
import Derived.Lib.SmallJoins
import Derived.Test.YtldeolipllejcaaGreatDoorCards
import Derived.Test.YtldeolipllejcaaGreatDoorTie
import Derived.LaidMore
import Derived.OpenShut
import Derived.LaidLaws
import Derived.Deep.Slices
import Derived.Lib.LaidTab
import Derived.SevenTiedAt
import Derived.Stop.Joined
set_option linter.unusedSimpArgs false
set_option linter.unusedVariables false
set_option maxHeartbeats 64000000
namespace Go.Proofs.YtldeolipllejcaaGreatDoor
section
open Go.RowKit
attribute [local go_sem ↓] Go.wp_at_zero Go.wp_at_succ
theorem Row4.pl {w : World} {base n c L : Nat} {A : Option Addr} {qs : List Rat} (h : Row4 w base (.slice A n c) qs L) : Pol w A n c qs L := by
 obtain ⟨_, _, _, e, hp⟩ := h.polT
 injection e with e1 e2 e3
 subst e1 e2 e3;exact hp
theorem Row4.tightG {w : World} {base L M : Nat} {v : Value} {qs : List Rat} (h : Row4 w base v qs L) (hb : ∀ q ∈ qs, q.num.natAbs < 4294967296 ^ M /\ q.den < 4294967296 ^ M) : Row4 w base v qs M := by
 obtain ⟨⟨cs, h1, h2⟩, hw⟩ := h;refine ⟨⟨cs, h1, ?_⟩, hw⟩;clear h1 hw
 induction h2 with
 | nil => exact .nil
 | cons hq _ ih => exact .cons (hq.tightR (hb _ List.mem_cons_self).1 (hb _ List.mem_cons_self).2) (ih (fun q hq => hb q (List.mem_cons_of_mem _ hq)))
section
variable {R : Nat -> List Rat} {Mr Xr : Nat -> Nat} {S : Nat}
set_option maxRecDepth 100000 in
theorem q_MulT (hRl : ∀ i, (R i).length = 2 ^ i) (hM : ∀ i, 0 < Mr i) (hRi : ∀ i, AllM (Mr i) (Xr i) (R i)) (hS4 : 4 <= S) (hS : S <= 480) (h : Nat) : ∀ {w : World} {Tt A B : Option Addr} {ct n c d Ma Xa Mb Xb : Nat} {ts : List (List Rat)} {qs ps : List Rat} (_ht : TowL ts) (_hl : ts.length = h) (_hR : ∀ i, i < h -> radQ ts i = R i) (_hp : PolT w Tt h ct ts 4) (_ha : Pol w A n c qs S) (_hb : Pol w B n d ps S) (_hn : n = 2 ^ h) (_ia : 0 < Ma /\ AllM Ma Xa qs) (_ib : 0 < Mb /\ AllM Mb Xb ps) (_sz : h <= 5 /\ Ma * Mb * prQ Mr h < 4294967296 ^ S /\ Xa * Xb * prY Mr Xr h < 4294967296 ^ S),
  Calls Tryz.prog 44 #[.slice Tt h ct, .slice A n c, .slice B n d] w (fun e w' => ∃ A' c', e = .returned (.slice A' n c') /\ Row4 w' w.heap.size (.slice A' n c') (mulL R h qs ps) S /\ Ext w w') := by
 induction h with
 | zero =>
  intro w Tt A B ct n c d Ma Xa Mb Xb ts qs ps ht hl hR hp ha hb hn ia ib sz;have hn1 : n = 1 := hn;clear hn;subst hn1;have hj : 0 < qs.length := by rw [ha.len]; omega
  have hj' : 0 < ps.length := by rw [hb.len]; omega
  obtain ⟨b, off, rfl, hr⟩ := ha.at_ (fun e => by rw [e] at hj; exact absurd hj (Nat.not_lt_zero _));obtain ⟨b', off', rfl, hr'⟩ := hb.at_ (fun e => by rw [e] at hj'; exact absurd hj' (Nat.not_lt_zero _));have hin := (mulL_in hM hRi 0 ia.1 ib.1 ia.2 ib.2)
  have hm : mulL R 0 qs ps = [qs[0] * ps[0]] := by
   rw [mulL, List.headD_eq_head?_getD, List.headD_eq_head?_getD, List.head?_eq_getElem?, List.head?_eq_getElem?, List.getElem?_eq_getElem hj, List.getElem?_eq_getElem hj']
   rfl
  rw [hm] at hin;have hsz := (hin _ List.mem_cons_self).size (Nat.mul_pos (Nat.mul_pos ia.1 ib.1) (prQ_pos hM 0));have Hm := Lib.hid hm;have HSZ := Lib.hid (And.intro (Nat.lt_of_le_of_lt hsz.1 sz.2.2) (Nat.lt_of_le_of_lt hsz.2 sz.2.1));clear hm hin hsz sz ia ib hR ht hl hp hRl hM hRi;obtain ⟨sx, Ax, nx, cx, tx, Bx, mx, dx, e0, e1, e2, e3, hx⟩ := hr.at_ 0 hj;obtain ⟨sy, Ay, ny, cy, ty, By, my, dy, i0, i1, i2, i3, hy⟩ := hr'.at_ 0 hj';generalize qs[0] = x0 at *;generalize ps[0] = y0 at *;rw [Nat.mul_zero, Nat.add_zero] at e0 e1 e2 e3 i0 i1 i2 i3
  go_enter Tryz.func44, Tryz.ntmps44
  go_upto_region 2 with (fail)
  have ES0 := Ext.refl w;refine wp_region_held_drew (S := Ext w) (by kernel_rfl) ES0.drew (fun ES => ?_);clear ES0;refine Late.s0 ES (fun hAl hQ => ?_);refine Late.t 0 16 ?v_0 hQ ?y_0 ?_
  case y_0 => intro w' hSw;have q0_ := hSw.cellv e0;have q1_ := hSw.cellv e1;have q2_ := hSw.cellv e2;have q3_ := hSw.cellv e3;have q4_ := hSw.cellv i0;have q5_ := hSw.cellv i1;have q6_ := hSw.cellv i2;have q7_ := hSw.cellv i3;go_simp;try rfl
  try simp only [zP]
  refine Late.t 3 19 ?v_1 hQ ?y_1 ?_
  case y_1 => intro w' hSw;have q0_ := hSw.cellv e0;have q1_ := hSw.cellv e1;have q2_ := hSw.cellv e2;have q3_ := hSw.cellv e3;have q4_ := hSw.cellv i0;have q5_ := hSw.cellv i1;have q6_ := hSw.cellv i2;have q7_ := hSw.cellv i3;go_simp;try rfl
  try simp only [zP]
  refine Late.t 1 17 ?v_2 hQ ?y_2 ?_
  case y_2 => intro w' hSw;have q0_ := hSw.cellv e0;have q1_ := hSw.cellv e1;have q2_ := hSw.cellv e2;have q3_ := hSw.cellv e3;have q4_ := hSw.cellv i0;have q5_ := hSw.cellv i1;have q6_ := hSw.cellv i2;have q7_ := hSw.cellv i3;go_simp;try rfl
  try simp only [zP]
  refine Late.t 4 20 ?v_3 hQ ?y_3 ?_
  case y_3 => intro w' hSw;have q0_ := hSw.cellv e0;have q1_ := hSw.cellv e1;have q2_ := hSw.cellv e2;have q3_ := hSw.cellv e3;have q4_ := hSw.cellv i0;have q5_ := hSw.cellv i1;have q6_ := hSw.cellv i2;have q7_ := hSw.cellv i3;go_simp;try rfl
  try simp only [zP]
  refine Late.t 2 18 ?v_4 hQ ?y_4 ?_
  case y_4 => intro w' hSw;have q0_ := hSw.cellv e0;have q1_ := hSw.cellv e1;have q2_ := hSw.cellv e2;have q3_ := hSw.cellv e3;have q4_ := hSw.cellv i0;have q5_ := hSw.cellv i1;have q6_ := hSw.cellv i2;have q7_ := hSw.cellv i3;go_simp;try rfl
  try simp only [zP]
  refine Late.t 5 21 ?v_5 hQ ?y_5 ?_
  case y_5 => intro w' hSw;have q0_ := hSw.cellv e0;have q1_ := hSw.cellv e1;have q2_ := hSw.cellv e2;have q3_ := hSw.cellv e3;have q4_ := hSw.cellv i0;have q5_ := hSw.cellv i1;have q6_ := hSw.cellv i2;have q7_ := hSw.cellv i3;go_simp;try rfl
  try simp only [zP]
  refine Late.cl (i := 6) rfl hAl hQ (fun w6 e6 E6 K hK => ?_);go_simp
  (go_at_call 85; refine (q_MulR (hx.ext E6) (hy.ext E6) (by omega) (by omega)).mono ?_; rintro e wk6 ⟨s7, A7, n7, c7, t7, B7, m7, d7, rfl, h7, hx6⟩)
  refine hK.out _ _ hx6 ?_;clear hK K
  try simp only [zP]
  refine Late.cl (i := 7) rfl hAl hQ (fun w7 e7 E7 K hK => ?_);go_simp;refine hK.out _ _ ((Ext.refl _).alloc _) ?_;clear hK K
  try simp only [zP]
  refine Late.t 8 6 ?v_6 hQ ?y_6 ?_
  case y_6 => intro w' hSw;have q0_ := hSw.cellv e0;have q1_ := hSw.cellv e1;have q2_ := hSw.cellv e2;have q3_ := hSw.cellv e3;have q4_ := hSw.cellv i0;have q5_ := hSw.cellv i1;have q6_ := hSw.cellv i2;have q7_ := hSw.cellv i3;go_simp;try rfl
  try simp only [zP]
  refine Late.d0 (fun wz ez Ez => ?_);clear hAl hQ ES;have hbx := (Box.new w7 30 #[.bool s7, .slice A7 n7 c7, .bool t7, .slice B7 m7 d7]).ext ez;have h7z := (h7.ext (e7.trans (((Ext.refl w7).alloc _).trans ez))).tightR HSZ.out.1 HSZ.out.2;have hrow : RRow wz w7.heap.size [x0 * y0] S := ⟨_, hbx, .cons h7z .nil⟩;have hgs := E7.size
  go_wp2_with fail
  go_ret
  rw [Hm.out];exact ⟨_, _, rfl, hrow.row4 hgs rfl (by omega), Ez⟩
 | succ h ih =>
  intro w Tt A B ct n c d Ma Xa Mb Xb ts qs ps ht hl hR hp ha hb hn ia ib sz;obtain ⟨k, hk⟩ : ∃ k, k = 2 ^ h := ⟨_, rfl⟩;obtain ⟨H, hH⟩ : ∃ H, H = h + 1 := ⟨_, rfl⟩;have hnk : n = k + k := by rw [hn, hk, two_pow_s]
  have hk0 : 0 < k := by rw [hk]; exact Nat.pow_pos (by omega)
  have hk1 : k <= 16 := by rw [hk]; exact Nat.le_trans (Nat.pow_le_pow_right (by omega) (show h <= 4 by have := sz.1; omega)) (by decide)
  have hql : qs.length = 2 ^ (h + 1) := by rw [ha.len, hn]
  have hpl : ps.length = 2 ^ (h + 1) := by rw [hb.len, hn]
  have hz := prod_sz hM sz.2.1 sz.2.2;have hmm := mulL_in hM hRi (h + 1) ia.1 ib.1 ia.2 ib.2
  have HALL := Lib.hid (fun q (hq : q ∈ mulL R (h + 1) qs ps) => show q.num.natAbs < 4294967296 ^ S /\ q.den < 4294967296 ^ S by
   have h1 := (hmm q hq).size (Nat.mul_pos (Nat.mul_pos ia.1 ib.1) (prQ_pos hM _));exact ⟨Nat.lt_of_le_of_lt h1.1 sz.2.2, Nat.lt_of_le_of_lt h1.2 sz.2.1⟩)
  have HS0 := Lib.hid (show h <= 5 /\ Ma * Mb * prQ Mr h < 4294967296 ^ S /\ Xa * Xb * prY Mr Xr h < 4294967296 ^ S from ⟨by have := sz.1; omega, hz.1, hz.2.1⟩);have HS2 := Lib.hid (show h <= 5 /\ Ma * Mb * prQ Mr h * Mr h * prQ Mr h < 4294967296 ^ S /\ Xa * Xb * prY Mr Xr h * Xr h * prY Mr Xr h < 4294967296 ^ S from ⟨by have := sz.1; omega, hz.2.2.1, hz.2.2.2⟩);have h5 : h <= 5 := by have := sz.1; omega
  have IA0 := Lib.hid (show 0 < Ma /\ AllM Ma Xa (qs.take k) from ⟨ia.1, ia.2.take k⟩);have IA1 := Lib.hid (show 0 < Ma /\ AllM Ma Xa (qs.drop k) from ⟨ia.1, ia.2.drop k⟩);have IB0 := Lib.hid (show 0 < Mb /\ AllM Mb Xb (ps.take k) from ⟨ib.1, ib.2.take k⟩);have IB1 := Lib.hid (show 0 < Mb /\ AllM Mb Xb (ps.drop k) from ⟨ib.1, ib.2.drop k⟩);have IP := Lib.hid (show 0 < Ma * Mb * prQ Mr h /\ AllM (Ma * Mb * prQ Mr h) (Xa * Xb * prY Mr Xr h) (mulL R h (qs.drop k) (ps.drop k)) from ⟨Nat.mul_pos (Nat.mul_pos ia.1 ib.1) (prQ_pos hM _), mulL_in hM hRi h ia.1 ib.1 (ia.2.drop k) (ib.2.drop k)⟩);have IR := Lib.hid (show 0 < Mr h /\ AllM (Mr h) (Xr h) (R h) from ⟨hM h, hRi h⟩);have HTW := Lib.hid (take_TowL ht h);have HLT := Lib.hid (show (ts.take h).length = h by rw [List.length_take, hl]; omega);have HRT := Lib.hid (show ∀ i, i < h -> radQ (ts.take h) i = R i from fun i hi => by rw [radQ_take hi (by omega)]; exact hR i (by omega));have hjt : h < ts.length := by omega
  obtain ⟨bt, ot, rfl, hat⟩ := hp.at_ (fun e => by rw [e] at hjt; exact absurd hjt (Nat.not_lt_zero _));obtain ⟨Ar_, nr_, cr_, t0, hr⟩ := hat h hjt;rw [show ts[h] = R h by rw [<- radQ_at hjt]; exact hR h (by omega)] at hr;obtain rfl : nr_ = k := by rw [<- hr.len, hRl, hk]
  replace hr := hr.le hS4;have hu := hp.take (k := h) (by omega);have hcapt := hp.cap;have hcapa := ha.cap;have hcapb := hb.cap;obtain ⟨ba, oa, rfl, _⟩ := ha.at_ (fun e => by rw [e] at hql; simp at hql; omega);obtain ⟨bb, ob, rfl, _⟩ := hb.at_ (fun e => by rw [e] at hpl; simp at hpl; omega);have hkn : nr_ <= n := by omega
  have hs : n - nr_ = nr_ := by omega
  have ha0 := ha.take hkn;have ha1 := ha.dropT hkn;have hb0 := hb.take hkn;have hb1 := hb.dropT hkn;rw [hs] at ha1 hb1;have HZA := Lib.hid (fun hz => mulL_zA hRl hql hpl hz);have HZB := Lib.hid (fun hz => mulL_zB hRl hql hpl hz);have HZAB := Lib.hid (fun hz hy => mulL_zAB hRl hql hpl hz hy);rw [<- hk] at HZA HZB HZAB;have HMM := Lib.hid (show mulL R (h + 1) qs ps = addL (mulL R h (qs.take nr_) (ps.take nr_)) (mulL R h (mulL R h (qs.drop nr_) (ps.drop nr_)) (R h)) ++ addL (mulL R h (qs.take nr_) (ps.drop nr_)) (mulL R h (qs.drop nr_) (ps.take nr_)) by rw [mulL, <- hk]);have HK := Lib.hid hk;have HN := Lib.hid hnk;have hw1 : IntKind.i64.wrap ((H : Int) - 1) = (h : Int) := by rw [IntWalk.i64_in _ (by omega)]; omega
  have hw2 : wrap64 ((H : Int) - 1) = (h : Int) := by unfold wrap64; omega
  have g1 : ((H : Int) == 0) = false := beq_eq_false_iff_ne.2 (by omega);have i1 : (h : Int) <= (ct : Int) := by omega
  have i2 : (h : Int) < (H : Int) := by omega
  have i3 : (nr_ : Int) <= (n : Int) := by omega
  have i4 : (nr_ : Int) <= (c : Int) := by omega
  have i5 : (nr_ : Int) <= (d : Int) := by omega
  have i6 : (n : Int) <= (c : Int) := by omega
  have i7 : (n : Int) <= (d : Int) := by omega
  have i8 : ¬ c = nr_ := by omega
  have i9 : ¬ d = nr_ := by omega
  have j1 : h <= ct := by omega
  have j2 : h < H := by omega
  have qd1 : Int.tdiv (n : Int) 2 = (nr_ : Int) := by rw [Int.tdiv_eq_ediv_of_nonneg (by omega)]; omega
  have qd2 : (n : Int) / 2 = (nr_ : Int) := by omega
  have qd3 : IntKind.i64.wrap (nr_ : Int) = (nr_ : Int) := IntWalk.i64_in _ (by omega);have hn16 : n <= 32 := by omega
  rw [<- hH] at hp hl HALL HZA HZB HZAB HMM ⊢;clear hn hk hnk hz hmm ia ib sz hM hRi hRl hH hl ht hR hat hql hpl hjt
  go_enter Tryz.func44, Tryz.ntmps44
  go_upto_region 4 with (fail)
  go_quiet (fail)
  have ex := (Ext.refl w).drewN nq;refine at_then (fun U => Ext w U) ex ?_;rintro V EW;clear ex;replace ha0 := ha0.ext EW;replace ha1 := ha1.ext EW;replace hb0 := hb0.ext EW;replace hb1 := hb1.ext EW;replace hu := hu.ext EW;replace hr := hr.ext EW
  go_upto_region 5 with (fail)
  clear t0;have ES0 := Ext.refl V;refine wp_region_held_drew (S := Ext V) (by kernel_rfl) ES0.drew (fun ES => ?_);clear ES0;refine Late.s0 ES (fun hAl hQ => ?_);refine Late.t 0 38 ?v_7 hQ ?y_7 ?_
  case y_7 => intro w' hSw;go_simp;try rfl
  try simp only [zP]
  refine Late.t 1 39 ?v_8 hQ ?y_8 ?_
  case y_8 => intro w' hSw;go_simp;try rfl
  try simp only [zP]
  refine Late.t 4 42 ?v_9 hQ ?y_9 ?_
  case y_9 => intro w' hSw;go_simp;try rfl
  try simp only [zP]
  refine Late.t 5 43 ?v_a hQ ?y_a ?_
  case y_a => intro w' hSw;go_simp;try rfl
  try simp only [zP]
  refine Late.t 2 40 ?v_b hQ ?y_b ?_
  case y_b => intro w' hSw;go_simp;try rfl
  try simp only [zP]
  refine Late.t 6 44 ?v_c hQ ?y_c ?_
  case y_c => intro w' hSw;go_simp;try rfl
  try simp only [zP]
  refine Late.cl (i := 3) rfl hAl hQ (fun w3 e3 E3 K hK => ?_);go_simp
  (go_at_call 36; refine (q_ZeroT (ha1.ext E3) (by omega)).mono ?_; rintro e wk3 ⟨rfl, hx3⟩)
  refine hK.out _ _ hx3 ?_;clear hK K
  try simp only [zP]
  refine Late.cl (i := 7) rfl hAl hQ (fun w7 e7 E7 K hK => ?_);go_simp
  (go_at_call 36; refine (q_ZeroT (hb1.ext E7) (by omega)).mono ?_; rintro e wk7 ⟨rfl, hx7⟩)
  refine hK.out _ _ hx7 ?_;clear hK K
  try simp only [zP]
  refine Late.t 8 10 ?v_d hQ ?y_d ?_
  case y_d => intro w' hSw;go_simp;try rfl
  try simp only [zP]
  refine Late.t 9 11 ?v_e hQ ?y_e ?_
  case y_e => intro w' hSw;go_simp;try rfl
  try simp only [zP]
  refine Late.d0 (fun wz ez Ez => ?_);clear hAl hQ ES;replace EW := EW.trans Ez;replace ha0 := ha0.ext Ez;replace ha1 := ha1.ext Ez;replace hb0 := hb0.ext Ez;replace hb1 := hb1.ext Ez;replace hu := hu.ext Ez;replace hr := hr.ext Ez;clear Ez ez
  go_upto_region 6 with (fail)
  generalize wz = V1 at *;have ES0 := Ext.refl V1;refine wp_region_held_drew (S := Ext V1) (by kernel_rfl) ES0.drew (fun ES => ?_);clear ES0;refine Late.s0 ES (fun hAl hQ => ?_);refine Late.t 0 46 ?v_f hQ ?y_f ?_
  case y_f => intro w' hSw;go_simp;try rfl
  try simp only [zP]
  refine Late.t 1 47 ?v_g hQ ?y_g ?_
  case y_g => intro w' hSw;go_simp;try rfl
  try simp only [zP]
  refine Late.t 2 48 ?v_h hQ ?y_h ?_
  case y_h => intro w' hSw;go_simp;try rfl
  try simp only [zP]
  refine Late.t 4 50 ?v_i hQ ?y_i ?_
  case y_i => intro w' hSw;go_simp;try rfl
  try simp only [zP]
  refine Late.t 5 51 ?v_j hQ ?y_j ?_
  case y_j => intro w' hSw;go_simp;try rfl
  try simp only [zP]
  refine Late.t 3 49 ?v_k hQ ?y_k ?_
  case y_k => intro w' hSw;go_simp;try rfl
  try simp only [zP]
  refine Late.t 6 52 ?v_l hQ ?y_l ?_
  case y_l => intro w' hSw;go_simp;try rfl
  try simp only [zP]
  refine Late.cl (i := 7) rfl hAl hQ (fun w7 e7 E7 K hK => ?_);go_simp
  (go_at_call 44; refine (ih (ts := ts.take h) (Ma := Ma) (Xa := Xa) (Mb := Mb) (Xb := Xb) HTW.out HLT.out HRT.out (hu.ext E7) (ha0.ext E7) (hb0.ext E7) HK.out IA0.out IB0.out HS0.out).mono ?_; rintro e wk7 ⟨Al, cl, rfl, rl, hx7⟩; have hbl := E7.size)
  refine hK.out _ _ hx7 ?_;clear hK K
  try simp only [zP]
  refine Late.t 8 12 ?v_m hQ ?y_m ?_
  case y_m => intro w' hSw;go_simp;try rfl
  try simp only [zP]
  refine Late.d0 (fun V2 ez Ez => ?_);clear hAl hQ ES;have hwb : w.heap.size <= w7.heap.size := by have := EW.size; omega
  have hlow := rl.ext ez;have hbl2 : w7.heap.size <= V2.heap.size := by have := hx7.size; have := ez.size; omega
  replace EW := EW.trans Ez;replace ha0 := ha0.ext Ez;replace ha1 := ha1.ext Ez;replace hb0 := hb0.ext Ez;replace hb1 := hb1.ext Ez;replace hu := hu.ext Ez;replace hr := hr.ext Ez;clear Ez ez rl hbl E7 e7 hx7;generalize w7.heap.size = bl at hwb hlow hbl2
  cases hza : zeroB (qs.drop nr_) with
  | true =>
   cases hzb : zeroB (ps.drop nr_) with
   | true =>
    have HE := Lib.hid (HZAB.out hza hzb);clear hza hzb
    go_wp2_with fail
    refine (q_FromIntR 0 (by omega) (by omega)).mono ?_;rintro ee V3 ⟨s7, A7, n7, c7, t7, B7, m7, d7, rfl, h7, hx3⟩
    go_wp2_with fail
    refine (q_FromRatT (n := h) h7 (Nat.le_refl 2) (by omega)).mono ?_;rintro ee V4 ⟨Af, nf, cf, rfl, hz, hx4⟩
    have hz2 : Pol V4 Af nf cf (List.replicate nr_ 0) S := by
     have e0 : (((0 : Int) : Rat) :: List.replicate (2 ^ h - 1) 0) = List.replicate nr_ 0 := by
      rw [show nr_ = (2 ^ h - 1) + 1 by have := HK.out; omega, List.replicate_succ]
      rfl
     rw [e0] at hz;exact hz.le (by omega)
    obtain rfl : nf = nr_ := by rw [<- hz2.len, List.length_replicate]
    have hx := hx3.trans hx4;have hsx := hx.size;clear hz hx3 hx4
    go_wp2_with (at_builtin; refine wpList_append_row (w0 := w) rfl _ _ rfl rfl rfl (hlow.ext hx) hz2 (by rw [mulL_len, <- HK.out]; omega) (by omega) (by omega) (EW.trans hx) hwb ?_; intro v6 w6 q1 E6)
    obtain ⟨A9, n9, c9, rfl, hq9⟩ := q1.polT;obtain rfl : n9 = n := by rw [<- hq9.len, List.length_append, mulL_len, List.length_replicate, <- HK.out, HN.out]
    go_ret
    rw [HE.out];exact ⟨_, _, rfl, q1.mono hwb, E6⟩
   | false =>
    have HE := Lib.hid (HZA.out hza);clear hza hzb
    go_upto_region 10 with (fail)
    refine wpL.st 9 (fun hQ ES => ?_);refine wpL.tB [9] 0 64 ?v_n hQ ?y_n ES ?_
    case y_n => intro w' hSw;go_simp;try rfl
    try simp only [zP]
    refine wpL.tB [8,9] 1 65 ?v_o hQ ?y_o ES ?_
    case y_o => intro w' hSw;go_simp;try rfl
    try simp only [zP]
    refine wpL.tB [4,8,9] 2 66 ?v_p hQ ?y_p ES ?_
    case y_p => intro w' hSw;go_simp;try rfl
    try simp only [zP]
    refine wpL.tB [4,8,9] 3 67 ?v_q hQ ?y_q ES ?_
    case y_q => intro w' hSw;go_simp;try rfl
    try simp only [zP]
    refine wpL.tB [7,8,9] 5 69 ?v_r hQ ?y_r ES ?_
    case y_r => intro w' hSw;go_simp;try rfl
    try simp only [zP]
    refine wpL.tB [7,8,9] 6 70 ?v_s hQ ?y_s ES ?_
    case y_s => intro w' hSw;go_simp;try rfl
    try simp only [zP]
    refine wpL.tB [8,9] 4 68 ?v_t hQ ?y_t ES ?_
    case y_t => intro w' hSw;go_simp;try rfl
    try simp only [zP]
    refine wpL.tB [8,9] 7 71 ?v_u hQ ?y_u ES ?_
    case y_u => intro w' hSw;go_simp;try rfl
    try simp only [zP]
    refine wpL.cl (i := 8) rfl (fun K hK => ?_);go_simp
    (go_at_call 44; refine (ih (ts := ts.take h) (Ma := Ma) (Xa := Xa) (Mb := Mb) (Xb := Xb) HTW.out HLT.out HRT.out (hu.ext ES) (ha0.ext ES) (hb1.ext ES) HK.out IA0.out IB1.out HS0.out).mono ?_; rintro ee wk8 ⟨A7, c7, rfl, r7_, hx8⟩; obtain ⟨_, _, _, hv7, r7⟩ := r7_.polT; injection hv7 with v1 v2 v3; subst v1 v2 v3; have F8 := Ext.trans ES hx8)
    refine hK.out _ _ F8 ?_;clear hK K
    try simp only [zP]
    refine wpL.tl (i := 9) rfl (fun K hK => ?_);refine step_append_rowR (w0 := w) rfl _ _ rfl rfl rfl (hlow.ext F8) r7 (by rw [mulL_len, <- HK.out]; omega) (by omega) (Nat.le_trans hbl2 (by have := Ext.size F8; omega)) (EW.trans F8) hwb ?_;intro v6 w6 q1 E6;refine hK.out _ _ ?_
    try simp only [List.getElem_toArray, List.getElem_cons_succ, List.getElem_cons_zero]
    clear hK K
    try simp only [zP]
    refine wpL.tl (i := 10) rfl (fun K hK => ?_);go_simp;refine hK.out _ _ ?_;clear hK K
    try simp only [zP]
    refine wpL.done (by kernel_rfl) ?_ _;clear hQ;obtain ⟨A9, n9, c9, rfl, hq9⟩ := q1.polT;obtain rfl : n9 = n := by rw [<- hq9.len, List.length_append, mulL_len, mulL_len, <- HK.out, HN.out]
    go_wp2_with fail
    go_ret
    rw [HE.out];exact ⟨_, _, rfl, q1.mono hwb, E6⟩
  | false =>
   cases hzb : zeroB (ps.drop nr_) with
   | true =>
    have HE := Lib.hid (HZB.out hzb);clear hza hzb
    go_upto_region 12 with (fail)
    refine wpL.st 9 (fun hQ ES => ?_);refine wpL.tB [9] 0 75 ?v_v hQ ?y_v ES ?_
    case y_v => intro w' hSw;go_simp;try rfl
    try simp only [zP]
    refine wpL.tB [8,9] 1 76 ?v_w hQ ?y_w ES ?_
    case y_w => intro w' hSw;go_simp;try rfl
    try simp only [zP]
    refine wpL.tB [4,8,9] 2 77 ?v_x hQ ?y_x ES ?_
    case y_x => intro w' hSw;go_simp;try rfl
    try simp only [zP]
    refine wpL.tB [4,8,9] 3 78 ?v_y hQ ?y_y ES ?_
    case y_y => intro w' hSw;go_simp;try rfl
    try simp only [zP]
    refine wpL.tB [7,8,9] 5 80 ?v_z hQ ?y_z ES ?_
    case y_z => intro w' hSw;go_simp;try rfl
    try simp only [zP]
    refine wpL.tB [7,8,9] 6 81 ?v_10 hQ ?y_10 ES ?_
    case y_10 => intro w' hSw;go_simp;try rfl
    try simp only [zP]
    refine wpL.tB [8,9] 4 79 ?v_11 hQ ?y_11 ES ?_
    case y_11 => intro w' hSw;go_simp;try rfl
    try simp only [zP]
    refine wpL.tB [8,9] 7 82 ?v_12 hQ ?y_12 ES ?_
    case y_12 => intro w' hSw;go_simp;try rfl
    try simp only [zP]
    refine wpL.cl (i := 8) rfl (fun K hK => ?_);go_simp
    (go_at_call 44; refine (ih (ts := ts.take h) (Ma := Ma) (Xa := Xa) (Mb := Mb) (Xb := Xb) HTW.out HLT.out HRT.out (hu.ext ES) (ha1.ext ES) (hb0.ext ES) HK.out IA1.out IB0.out HS0.out).mono ?_; rintro ee wk8 ⟨A7, c7, rfl, r7_, hx8⟩; obtain ⟨_, _, _, hv7, r7⟩ := r7_.polT; injection hv7 with v1 v2 v3; subst v1 v2 v3; have F8 := Ext.trans ES hx8)
    refine hK.out _ _ F8 ?_;clear hK K
    try simp only [zP]
    refine wpL.tl (i := 9) rfl (fun K hK => ?_);refine step_append_rowR (w0 := w) rfl _ _ rfl rfl rfl (hlow.ext F8) r7 (by rw [mulL_len, <- HK.out]; omega) (by omega) (Nat.le_trans hbl2 (by have := Ext.size F8; omega)) (EW.trans F8) hwb ?_;intro v6 w6 q1 E6;refine hK.out _ _ ?_
    try simp only [List.getElem_toArray, List.getElem_cons_succ, List.getElem_cons_zero]
    clear hK K
    try simp only [zP]
    refine wpL.tl (i := 10) rfl (fun K hK => ?_);go_simp;refine hK.out _ _ ?_;clear hK K
    try simp only [zP]
    refine wpL.done (by kernel_rfl) ?_ _;clear hQ;obtain ⟨A9, n9, c9, rfl, hq9⟩ := q1.polT;obtain rfl : n9 = n := by rw [<- hq9.len, List.length_append, mulL_len, mulL_len, <- HK.out, HN.out]
    go_wp2_with fail
    go_ret
    rw [HE.out];exact ⟨_, _, rfl, q1.mono hwb, E6⟩
   | false =>
    clear hza hzb
    go_upto_region 13 with (fail)
    have ES0 := Ext.refl V2;refine wp_region_held_drew (S := Ext V2) (by kernel_rfl) ES0.drew (fun ES => ?_);clear ES0;refine Late.s0 ES (fun hAl hQ => ?_);refine Late.t 0 85 ?v_13 hQ ?y_13 ?_
    case y_13 => intro w' hSw;go_simp;try rfl
    try simp only [zP]
    refine Late.t 1 86 ?v_14 hQ ?y_14 ?_
    case y_14 => intro w' hSw;go_simp;try rfl
    try simp only [zP]
    refine Late.t 2 87 ?v_15 hQ ?y_15 ?_
    case y_15 => intro w' hSw;go_simp;try rfl
    try simp only [zP]
    refine Late.t 3 88 ?v_16 hQ ?y_16 ?_
    case y_16 => intro w' hSw;go_simp;try rfl
    try simp only [zP]
    refine Late.t 4 89 ?v_17 hQ ?y_17 ?_
    case y_17 => intro w' hSw;go_simp;try rfl
    try simp only [zP]
    refine Late.t 5 90 ?v_18 hQ ?y_18 ?_
    case y_18 => intro w' hSw;go_simp;try rfl
    try simp only [zP]
    refine Late.t 7 92 ?v_19 hQ ?y_19 ?_
    case y_19 => intro w' hSw;go_simp;try rfl
    try simp only [zP]
    refine Late.t 8 93 ?v_1a hQ ?y_1a ?_
    case y_1a => intro w' hSw;go_simp;try rfl
    try simp only [zP]
    refine Late.t 11 96 ?v_1b hQ ?y_1b ?_
    case y_1b => intro w' hSw;go_simp;try rfl
    try simp only [zP]
    refine Late.t 6 91 ?v_1c hQ ?y_1c ?_
    case y_1c => intro w' hSw;go_simp;try rfl
    try simp only [zP]
    refine Late.t 9 94 ?v_1d hQ ?y_1d ?_
    case y_1d => intro w' hSw;go_simp;try rfl
    try simp only [zP]
    refine Late.cl (i := 10) rfl hAl hQ (fun w10 e10 E10 K hK => ?_);go_simp
    (go_at_call 44; refine (ih (ts := ts.take h) (Ma := Ma) (Xa := Xa) (Mb := Mb) (Xb := Xb) HTW.out HLT.out HRT.out (hu.ext E10) (ha1.ext E10) (hb1.ext E10) HK.out IA1.out IB1.out HS0.out).mono ?_; rintro e wk10 ⟨A11, c11, rfl, r11, hx10⟩)
    refine hK.out _ _ hx10 ?_;clear hK K
    try simp only [zP]
    refine Late.cl (i := 12) rfl hAl hQ (fun w12 e12 E12 K hK => ?_);go_simp
    (replace r11 := r11.ext e12; go_at_call 44; refine (ih (ts := ts.take h) (Ma := Ma * Mb * prQ Mr h) (Xa := Xa * Xb * prY Mr Xr h) (Mb := Mr h) (Xb := Xr h) HTW.out HLT.out HRT.out (hu.ext E12) r11.pl (hr.ext E12) HK.out IP.out IR.out HS2.out).mono ?_; rintro e wk12 ⟨A12, c12, rfl, r12, hx12⟩; replace r11 := r11.ext hx12)
    refine hK.out _ _ hx12 ?_;clear hK K
    try simp only [zP]
    refine Late.cl (i := 13) rfl hAl hQ (fun w13 e13 E13 K hK => ?_);go_simp
    (replace r11 := r11.ext e13; replace r12 := r12.ext e13; go_at_call 43; refine (q_AddT4 (hlow.ext E13).pl r12.pl (by omega) (by omega) (by omega)).mono ?_; rintro e wk13 ⟨A13, c13, rfl, r13, hx13⟩; replace r11 := r11.ext hx13; replace r12 := r12.ext hx13)
    refine hK.out _ _ hx13 ?_;clear hK K
    try simp only [zP]
    refine Late.t 14 12 ?v_1e hQ ?y_1e ?_
    case y_1e => intro w' hSw;go_simp;try rfl
    try simp only [zP]
    refine Late.d0 (fun wz ez Ez => ?_);clear hAl hQ ES;have hlow2 := (r13.tightG (fun q hq => HALL.out q (by rw [HMM.out]; exact List.mem_append_left _ hq))).ext ez;have hwb3 : w.heap.size <= w13.heap.size := by have := EW.size; have := E13.size; omega
    have hbl3 : w13.heap.size <= wz.heap.size := by have := hx13.size; have := ez.size; omega
    replace EW := EW.trans Ez;replace ha0 := ha0.ext Ez;replace ha1 := ha1.ext Ez;replace hb0 := hb0.ext Ez;replace hb1 := hb1.ext Ez;replace hu := hu.ext Ez;clear r11 r12 r13 Ez ez hlow hwb hbl2 hx10 hx12 hx13 E10 E12 E13 e10 e12 e13;generalize w13.heap.size = bl3 at hlow2 hwb3 hbl3;have HE := HMM
    go_upto_region 14 with (fail)
    refine wpL.st 19 (fun hQ ES => ?_);refine wpL.tB [19] 0 99 ?v_1f hQ ?y_1f ES ?_
    case y_1f => intro w' hSw;go_simp;try rfl
    try simp only [zP]
    refine wpL.tB [18,19] 1 100 ?v_1g hQ ?y_1g ES ?_
    case y_1g => intro w' hSw;go_simp;try rfl
    try simp only [zP]
    refine wpL.tB [9,18,19] 2 101 ?v_1h hQ ?y_1h ES ?_
    case y_1h => intro w' hSw;go_simp;try rfl
    try simp only [zP]
    refine wpL.tB [5,9,18,19] 3 102 ?v_1i hQ ?y_1i ES ?_
    case y_1i => intro w' hSw;go_simp;try rfl
    try simp only [zP]
    refine wpL.tB [5,9,18,19] 4 103 ?v_1j hQ ?y_1j ES ?_
    case y_1j => intro w' hSw;go_simp;try rfl
    try simp only [zP]
    refine wpL.tB [8,9,18,19] 6 105 ?v_1k hQ ?y_1k ES ?_
    case y_1k => intro w' hSw;go_simp;try rfl
    try simp only [zP]
    refine wpL.tB [8,9,18,19] 7 106 ?v_1l hQ ?y_1l ES ?_
    case y_1l => intro w' hSw;go_simp;try rfl
    try simp only [zP]
    refine wpL.tB [17,18,19] 10 109 ?v_1m hQ ?y_1m ES ?_
    case y_1m => intro w' hSw;go_simp;try rfl
    try simp only [zP]
    refine wpL.tB [13,17,18,19] 11 110 ?v_1n hQ ?y_1n ES ?_
    case y_1n => intro w' hSw;go_simp;try rfl
    try simp only [zP]
    refine wpL.tB [13,17,18,19] 12 111 ?v_1o hQ ?y_1o ES ?_
    case y_1o => intro w' hSw;go_simp;try rfl
    try simp only [zP]
    refine wpL.tB [16,17,18,19] 14 113 ?v_1p hQ ?y_1p ES ?_
    case y_1p => intro w' hSw;go_simp;try rfl
    try simp only [zP]
    refine wpL.tB [16,17,18,19] 15 114 ?v_1q hQ ?y_1q ES ?_
    case y_1q => intro w' hSw;go_simp;try rfl
    try simp only [zP]
    refine wpL.tB [9,18,19] 5 104 ?v_1r hQ ?y_1r ES ?_
    case y_1r => intro w' hSw;go_simp;try rfl
    try simp only [zP]
    refine wpL.tB [9,18,19] 8 107 ?v_1s hQ ?y_1s ES ?_
    case y_1s => intro w' hSw;go_simp;try rfl
    try simp only [zP]
    refine wpL.tB [17,18,19] 13 112 ?v_1t hQ ?y_1t ES ?_
    case y_1t => intro w' hSw;go_simp;try rfl
    try simp only [zP]
    refine wpL.tB [17,18,19] 16 115 ?v_1u hQ ?y_1u ES ?_
    case y_1u => intro w' hSw;go_simp;try rfl
    try simp only [zP]
    refine wpL.cl (i := 9) rfl (fun K hK => ?_);go_simp
    (go_at_call 44; refine (ih (ts := ts.take h) (Ma := Ma) (Xa := Xa) (Mb := Mb) (Xb := Xb) HTW.out HLT.out HRT.out (hu.ext ES) (ha0.ext ES) (hb1.ext ES) HK.out IA0.out IB1.out HS0.out).mono ?_; rintro ee wk9 ⟨A7, c7, rfl, r7, hx9⟩; have F9 := Ext.trans ES hx9)
    refine hK.out _ _ F9 ?_;clear hK K
    try simp only [zP]
    refine wpL.cl (i := 17) rfl (fun K hK => ?_);go_simp
    (go_at_call 44; refine (ih (ts := ts.take h) (Ma := Ma) (Xa := Xa) (Mb := Mb) (Xb := Xb) HTW.out HLT.out HRT.out (hu.ext F9) (ha1.ext F9) (hb0.ext F9) HK.out IA1.out IB0.out HS0.out).mono ?_; rintro ee wk17 ⟨A8, c8, rfl, r8, hx17⟩; have F17 := Ext.trans F9 hx17)
    refine hK.out _ _ F17 ?_;clear hK K
    try simp only [zP]
    refine wpL.cl (i := 18) rfl (fun K hK => ?_);go_simp
    (go_at_call 43; refine (q_AddT4 (r7.ext hx17).pl r8.pl (by omega) (by omega) (by omega)).mono ?_; rintro ee wk18 ⟨A10, c10, rfl, r10, hx18⟩; have F18 := Ext.trans F17 hx18)
    refine hK.out _ _ F18 ?_;clear hK K
    try simp only [zP]
    refine wpL.tl (i := 19) rfl (fun K hK => ?_);refine step_append_rowR (w0 := w) rfl _ _ rfl rfl rfl (hlow2.ext F18) (r10.tightG (fun q hq => HALL.out q (by rw [HMM.out]; exact List.mem_append_right _ hq))).pl (by rw [show (List.zipWith (fun x y : Rat => x + y) (mulL R h (qs.take nr_) (ps.take nr_)) (mulL R h (mulL R h (qs.drop nr_) (ps.drop nr_)) (R h))).length = 2 ^ h from addL_len mulL_len mulL_len, <- HK.out]; omega) (by omega) (Nat.le_trans hbl3 (by have := Ext.size F18; omega)) (EW.trans F18) hwb3 ?_;intro v6 w6 q1 E6;refine hK.out _ _ ?_
    try simp only [List.getElem_toArray, List.getElem_cons_succ, List.getElem_cons_zero]
    clear hK K
    try simp only [zP]
    refine wpL.tl (i := 20) rfl (fun K hK => ?_);go_simp;refine hK.out _ _ ?_;clear hK K
    try simp only [zP]
    refine wpL.done (by kernel_rfl) ?_ _;clear hQ;obtain ⟨A9, n9, c9, rfl, hq9⟩ := q1.polT
    obtain rfl : n9 = n := by
     have h1 := hq9.len;rw [List.length_append, show (List.zipWith (fun x y : Rat => x + y) (mulL R h (qs.take nr_) (ps.drop nr_)) (mulL R h (qs.drop nr_) (ps.take nr_))).length = 2 ^ h from addL_len mulL_len mulL_len, show (List.zipWith (fun x y : Rat => x + y) (mulL R h (qs.take nr_) (ps.take nr_)) (mulL R h (mulL R h (qs.drop nr_) (ps.drop nr_)) (R h))).length = 2 ^ h from addL_len mulL_len mulL_len, <- HK.out] at h1;rw [<- h1, HN.out]
    go_wp2_with fail
    go_ret
    rw [HE.out];exact ⟨_, _, rfl, q1.mono hwb3, E6⟩
end
end
section
open Go.RowKit
section
variable {K : Type} [Lean.Grind.CommRing K]
theorem El.neg_smul : (h : Nat) -> (a : El K h) -> El.neg h a = El.smul h (-1) a
 | 0, a => by
  have h : ∀ x : K, -x = (-1 : K) * x := fun x => Lean.Grind.Ring.neg_eq_neg_one_mul (α := K) x
  exact h a
 | h + 1, a => El.ext (El.neg_smul h a.1) (El.neg_smul h a.2)
theorem El.neg_mul (R : (h : Nat) -> El K h) (h : Nat) (a b : El K h) : El.mul R h (El.neg h a) b = El.neg h (El.mul R h a b) := by
 rw [El.neg_smul, El.neg_smul, El.smul_mul]
end
theorem take_app {α : Type} {a b : List α} {n : Nat} (h : a.length = n) : (a ++ b).take n = a := by subst h; exact List.take_left
theorem drop_app {α : Type} {a b : List α} {n : Nat} (h : a.length = n) : (a ++ b).drop n = b := by subst h; exact List.drop_left
theorem mulL_negA {R : Nat -> List Rat} (hR : ∀ i, (R i).length = 2 ^ i) {h : Nat} {a b : List Rat} (ha : a.length = 2 ^ h) (hb : b.length = 2 ^ h) : mulL R h (negL a) b = negL (mulL R h a b) :=
 toE_inj mulL_len (by rw [negL_len, mulL_len]) (by rw [toE_mul hR (by rw [negL_len, ha]) hb, toE_neg ha, toE_neg mulL_len, toE_mul hR ha hb, El.neg_mul])
theorem mulL_negB {R : Nat -> List Rat} (hR : ∀ i, (R i).length = 2 ^ i) {h : Nat} {a b : List Rat} (ha : a.length = 2 ^ h) (hb : b.length = 2 ^ h) : mulL R h a (negL b) = negL (mulL R h a b) := by
 rw [mulL_comm hR ha (by rw [negL_len, hb]), mulL_negA hR hb ha, mulL_comm hR hb ha]
theorem negL_negL (a : List Rat) : negL (negL a) = a := by
 unfold negL;rw [List.map_map]
 conv => rhs; rw [<- List.map_id a]
 exact List.map_congr_left fun x _ => Rat.neg_neg x
theorem negL_addL : ∀ {a b : List Rat}, negL (addL a b) = addL (negL a) (negL b)
 | [], _ => rfl
 | _ :: _, [] => rfl
 | x :: a, y :: b => by
  have ih := negL_addL (a := a) (b := b);unfold negL addL at *;simp only [List.zipWith_cons_cons, List.map_cons];rw [ih, Rat.neg_add]
theorem flipL_len (i : Nat) (qs : List Rat) : (flipL i qs).length = qs.length := by unfold flipL; rw [List.length_mapIdx]
theorem flipL_at {i p : Nat} {qs : List Rat} (hp : p < (flipL i qs).length) : (flipL i qs)[p] = if belB p i = true then -(qs[p]'(by rw [flipL_len] at hp; exact hp)) else qs[p]'(by rw [flipL_len] at hp; exact hp) := by
 simp [flipL]
theorem bel_low {p i : Nat} (hp : p < 2 ^ i) : belB p i = false := by
 unfold belB;rw [Nat.div_eq_of_lt hp]
 rfl
theorem bel_mid {p i : Nat} (hp : p < 2 ^ i) : belB (2 ^ i + p) i = true := by
 unfold belB;rw [Nat.add_div_left _ (Nat.pow_pos (by omega)), Nat.div_eq_of_lt hp]
 rfl
theorem bel_high {p i h : Nat} (hi : i < h) : belB (2 ^ h + p) i = belB p i := by
 unfold belB;obtain ⟨j, rfl⟩ : ∃ j, h = i + (j + 1) := ⟨h - i - 1, by omega⟩;have e : 2 ^ (i + (j + 1)) = 2 ^ i * (2 * 2 ^ j) := by rw [Nat.pow_add, Nat.pow_succ]; congr 1; exact Nat.mul_comm _ _
 rw [e, Nat.mul_add_div (Nat.pow_pos (by omega))]
 congr 1
 rw [show 2 * 2 ^ j + p / 2 ^ i = p / 2 ^ i + 2 * 2 ^ j by omega, Nat.add_mul_mod_self_left]
theorem flip_low {i : Nat} {a : List Rat} (ha : a.length <= 2 ^ i) : flipL i a = a := by
 refine List.ext_getElem (flipL_len i a) fun p h1 h2 => ?_
 rw [flipL_at h1, bel_low (by omega)]
 rfl
theorem flip_mid {i : Nat} {a b : List Rat} (ha : a.length = 2 ^ i) (hb : b.length <= 2 ^ i) : flipL i (a ++ b) = a ++ negL b := by
 refine List.ext_getElem (by rw [flipL_len, List.length_append, List.length_append, negL_len]) fun p h1 h2 => ?_
 rw [flipL_at h1];have h3 : p < a.length + b.length := by rw [flipL_len, List.length_append] at h1; exact h1
 rcases Nat.lt_or_ge p (2 ^ i) with hp | hp
 ·rw [bel_low hp, List.getElem_append_left (by omega), List.getElem_append_left (by omega)]
  rfl
 ·obtain ⟨q, rfl⟩ : ∃ q, p = 2 ^ i + q := ⟨p - 2 ^ i, by omega⟩
  rw [bel_mid (by omega), if_pos rfl, List.getElem_append_right (by omega), List.getElem_append_right (by omega)];simp [negL]
theorem flip_high {i h : Nat} (hi : i < h) {a b : List Rat} (ha : a.length = 2 ^ h) : flipL i (a ++ b) = flipL i a ++ flipL i b := by
 refine List.ext_getElem (by rw [flipL_len, List.length_append, List.length_append, flipL_len, flipL_len]) fun p h1 h2 => ?_
 rw [flipL_at h1];have h3 : p < a.length + b.length := by rw [flipL_len, List.length_append] at h1; exact h1
 rcases Nat.lt_or_ge p (2 ^ h) with hp | hp
 ·rw [List.getElem_append_left (by omega), List.getElem_append_left (by rw [flipL_len]; omega), flipL_at (by rw [flipL_len]; omega)]
 ·obtain ⟨q, rfl⟩ : ∃ q, p = 2 ^ h + q := ⟨p - 2 ^ h, by omega⟩
  rw [bel_high hi, List.getElem_append_right (by omega), List.getElem_append_right (by rw [flipL_len]; omega), flipL_at (by rw [flipL_len, flipL_len]; omega)];simp only [flipL_len, ha, Nat.add_sub_cancel_left]
theorem flip_add {i : Nat} {a b : List Rat} (h : a.length = b.length) : flipL i (addL a b) = addL (flipL i a) (flipL i b) := by
 have l1 : (addL a b).length = a.length := addL_len rfl h.symm;have l2 : (addL (flipL i a) (flipL i b)).length = a.length := addL_len (flipL_len i a) (by rw [flipL_len, h]);refine List.ext_getElem (by rw [flipL_len, l1, l2]) fun p h1 h2 => ?_
 have hp : p < a.length := by rw [flipL_len, l1] at h1; exact h1
 have e2 : (addL (flipL i a) (flipL i b))[p] = (flipL i a)[p]'(by rw [flipL_len]; exact hp) + (flipL i b)[p]'(by rw [flipL_len, <- h]; exact hp) := by simp [addL]
 have e1 : (addL a b)[p]'(by rw [l1]; exact hp) = a[p] + b[p] := by simp [addL]
 rw [e2, flipL_at h1, flipL_at (by rw [flipL_len]; exact hp), flipL_at (by rw [flipL_len, <- h]; exact hp), e1]
 split
 ·exact Rat.neg_add
 ·rfl
theorem flip_flip (i : Nat) (a : List Rat) : flipL i (flipL i a) = a := by
 refine List.ext_getElem (by rw [flipL_len, flipL_len]) fun p h1 h2 => ?_
 rw [flipL_at h1, flipL_at (by rw [flipL_len]; exact h2)]
 split
 ·exact Rat.neg_neg _
 ·rfl
theorem flip_mul {R : Nat -> List Rat} (hR : ∀ i, (R i).length = 2 ^ i) {i : Nat} : ∀ (h : Nat) {a b : List Rat}, a.length = 2 ^ h -> b.length = 2 ^ h -> (∀ k, i < k -> k < h -> flipL i (R k) = R k) -> flipL i (mulL R h a b) = mulL R h (flipL i a) (flipL i b)
 | 0, a, b, ha, hb, _ => by
  have h1 : 1 <= 2 ^ i := Nat.pow_pos (by omega);rw [flip_low (by rw [mulL_len]; exact h1), flip_low (by rw [ha]; exact h1), flip_low (by rw [hb]; exact h1)]
 | h + 1, a, b, ha, hb, hf => by
  have l0 := take_len ha;have l1 := drop_len ha;have k0 := take_len hb;have k1 := drop_len hb
  rcases Nat.lt_trichotomy h i with hi | hi | hi
  ·have h1 : 2 ^ (h + 1) <= 2 ^ i := Nat.pow_le_pow_right (by omega) (by omega)
   rw [flip_low (by rw [mulL_len]; exact h1), flip_low (by rw [ha]; exact h1), flip_low (by rw [hb]; exact h1)]
  ·subst hi
   have ea : flipL h a = a.take (2 ^ h) ++ negL (a.drop (2 ^ h)) := by
    conv => lhs; rw [<- List.take_append_drop (2 ^ h) a]
    exact flip_mid l0 (Nat.le_of_eq l1)
   have eb : flipL h b = b.take (2 ^ h) ++ negL (b.drop (2 ^ h)) := by
    conv => lhs; rw [<- List.take_append_drop (2 ^ h) b]
    exact flip_mid k0 (Nat.le_of_eq k1)
   have ta : (a.take (2 ^ h) ++ negL (a.drop (2 ^ h))).take (2 ^ h) = a.take (2 ^ h) := take_app l0;have da : (a.take (2 ^ h) ++ negL (a.drop (2 ^ h))).drop (2 ^ h) = negL (a.drop (2 ^ h)) := drop_app l0;have tb : (b.take (2 ^ h) ++ negL (b.drop (2 ^ h))).take (2 ^ h) = b.take (2 ^ h) := take_app k0;have db : (b.take (2 ^ h) ++ negL (b.drop (2 ^ h))).drop (2 ^ h) = negL (b.drop (2 ^ h)) := drop_app k0;rw [ea, eb, mulL, mulL, ta, da, tb, db, flip_mid (addL_len mulL_len mulL_len) (Nat.le_of_eq (addL_len mulL_len mulL_len))];rw [mulL_negA hR l1 (by rw [negL_len, k1]), mulL_negB hR l1 k1, negL_negL, mulL_negB hR l0 k1, mulL_negA hR l1 k0, negL_addL]
  ·have ea : flipL i a = flipL i (a.take (2 ^ h)) ++ flipL i (a.drop (2 ^ h)) := by
    conv => lhs; rw [<- List.take_append_drop (2 ^ h) a]
    exact flip_high hi l0
   have eb : flipL i b = flipL i (b.take (2 ^ h)) ++ flipL i (b.drop (2 ^ h)) := by
    conv => lhs; rw [<- List.take_append_drop (2 ^ h) b]
    exact flip_high hi k0
   have fa0 : (flipL i (a.take (2 ^ h))).length = 2 ^ h := by rw [flipL_len, l0]
   have fb0 : (flipL i (b.take (2 ^ h))).length = 2 ^ h := by rw [flipL_len, k0]
   have ta : (flipL i (a.take (2 ^ h)) ++ flipL i (a.drop (2 ^ h))).take (2 ^ h) = flipL i (a.take (2 ^ h)) := take_app fa0;have da : (flipL i (a.take (2 ^ h)) ++ flipL i (a.drop (2 ^ h))).drop (2 ^ h) = flipL i (a.drop (2 ^ h)) := drop_app fa0;have tb : (flipL i (b.take (2 ^ h)) ++ flipL i (b.drop (2 ^ h))).take (2 ^ h) = flipL i (b.take (2 ^ h)) := take_app fb0;have db : (flipL i (b.take (2 ^ h)) ++ flipL i (b.drop (2 ^ h))).drop (2 ^ h) = flipL i (b.drop (2 ^ h)) := drop_app fb0;have hf' : ∀ k, i < k -> k < h -> flipL i (R k) = R k := fun k h1 h2 => hf k h1 (by omega)
   rw [ea, eb, mulL, mulL, ta, da, tb, db, flip_high hi (addL_len mulL_len mulL_len), flip_add (by rw [mulL_len, mulL_len]), flip_add (by rw [mulL_len, mulL_len])];rw [flip_mul hR h l0 k0 hf', flip_mul hR h mulL_len (hR h) hf', flip_mul hR h l1 k1 hf', flip_mul hR h l0 k1 hf', flip_mul hR h l1 k0 hf', hf h hi (by omega)]
theorem cha_flip (r : List Rat) (i : Nat) : chaB r i = false ↔ flipL i r = r := by
 unfold chaB;rw [List.any_eq_false]
 constructor
 ·intro h
  refine List.ext_getElem (flipL_len i r) fun p h1 h2 => ?_
  rw [flipL_at h1]
  split
  ·rename_i hb
   have := h p (List.mem_range.2 h2);rw [hb, Bool.true_and] at this;simp only [Bool.not_eq_true', Bool.not_eq_false, decide_eq_true_eq, List.getD_eq_getElem?_getD, List.getElem?_eq_getElem h2, Option.getD_some] at this;rw [this];exact Rat.neg_zero
  ·rfl
 ·intro h p hp
  have h2 := List.mem_range.1 hp;have h3 := List.getElem_of_eq h (show p < (flipL i r).length by rw [flipL_len]; exact h2);rw [flipL_at (by rw [flipL_len]; exact h2)] at h3
  cases hb : belB p i with
  | false => simp
  | true =>
   rw [hb, if_pos rfl] at h3;have h4 : r[p] = 0 := by grind
   simp [List.getD_eq_getElem?_getD, List.getElem?_eq_getElem h2, h4]
theorem conjC_eq (ts : List (List Rat)) (i : Nat) : conjC (ts.drop (i + 1)) i = conjB ts i := by
 unfold conjC conjB
 congr 1
 funext r
 cases hc : chaB r i with
 | false => rw [decide_eq_true ((cha_flip r i).1 hc)]; rfl
 | true =>
  rw [decide_eq_false]
  ·rfl
  ·intro h
   rw [(cha_flip r i).2 h] at hc
   cases hc
theorem conjB_rad {ts : List (List Rat)} {i : Nat} (h : conjB ts i = true) : ∀ k, i < k -> k < ts.length -> flipL i (radQ ts k) = radQ ts k := by
 intro k hk hl;unfold conjB at h;rw [List.all_eq_true] at h;rw [radQ_at hl];refine of_decide_eq_true (h _ ?_)
 have : ts[k] = (ts.drop (i + 1))[k - (i + 1)]'(by rw [List.length_drop]; omega) := by
  rw [List.getElem_drop]
  congr 1
  omega
 rw [this];exact List.getElem_mem _
end
section
open Go.RowKit
attribute [local go_sem ↓] Go.wp_at_zero Go.wp_at_succ
theorem towerB_at : ∀ (ts : List (List RawR)) (k : Nat), towerB ts k = true -> ∀ i (hi : i < ts.length), validL ts[i] (2 ^ (k + i)) = true
 | [], _, _, i, hi => absurd hi (Nat.not_lt_zero _)
 | l :: ts, k, h, i, hi => by
  rw [towerB, Bool.and_eq_true] at h
  cases i with
  | zero => exact h.1
  | succ i =>
   have := towerB_at ts (k + 1) h.2 i (by simpa using hi);rw [show k + 1 + i = k + (i + 1) by omega] at this;exact this
theorem validL_parts {l : List RawR} {k : Nat} (h : validL l k = true) : l.length = k /\ l.all RawR.valid = true := by
 unfold validL at h;rw [Bool.and_eq_true, decide_eq_true_eq] at h;exact h
section
variable {w w' : World} {A A1 A2 A3 : Option Addr} {n c n1 c1 n2 c2 n3 c3 L : Nat} {qs : List Rat} {ts : List (List RawR)} {r1 r2 r3 : List RawR}
theorem NR.sm {q : Rat} {s t : Bool} {B : Option Addr} {m d : Nat} (h : NR w q 4 s A n c t B m d) : SmQ q := ⟨h.num.le_pow, by have := h.den.le_pow; rw [Int.natAbs_natCast] at this; exact this⟩
theorem Pol.sm (h : Pol w A n c qs 4) : ∀ q ∈ qs, SmQ q := by
 intro q hq;obtain ⟨i, hi, rfl⟩ := List.getElem_of_mem hq;obtain ⟨b, off, _, h2⟩ := h.at_ (fun e => by subst e; exact absurd hi (Nat.not_lt_zero _));obtain ⟨_, _, _, _, _, _, _, _, _, _, _, _, hx⟩ := h2.at_ i hi;exact hx.sm
theorem PolT.sm {T : List (List Rat)} (h : PolT w A n c T 4) : ∀ r ∈ T, ∀ q ∈ r, SmQ q := by
 intro r hr;obtain ⟨i, hi, rfl⟩ := List.getElem_of_mem hr;obtain ⟨b, off, _, h2⟩ := h.at_ (fun e => by subst e; exact absurd hi (Nat.not_lt_zero _));obtain ⟨_, _, _, _, hp⟩ := h2 i hi;exact hp.sm
theorem formed_bundle (h : RawT w A n c ts) (h1 : RawP w A1 n1 c1 r1) (hf : formedB ts [r1] = true) (l4 : ∀ l ∈ ts, l.all (fun r => r.le L) = true) (k4 : r1.all (fun r => r.le L) = true) :
  PolT w A n c (ts.map fun l => l.map RawR.q) L /\ TowL (ts.map fun l => l.map RawR.q) /\ Pol w A1 n1 c1 (r1.map RawR.q) L /\ n1 = 2 ^ n := by
 unfold formedB at hf;rw [Bool.and_eq_true] at hf;obtain ⟨f1, f2⟩ := hf;have f3 := towerB_at ts 0 f1;simp only [List.all_cons, List.all_nil, Bool.and_true] at f2;obtain ⟨g1, g2⟩ := validL_parts f2;refine ⟨h.polT (fun l hl => ?_) l4, fun i hi => ?_, h1.polV g2 k4, ?_⟩
 ·obtain ⟨i, hi, rfl⟩ := List.getElem_of_mem hl
  exact (validL_parts (f3 i hi)).2
 ·rw [List.length_map] at hi
  rw [List.getElem_map, List.length_map, (validL_parts (f3 i hi)).1, Nat.zero_add]
 ·rw [<- h1.len, g1, h.len]
theorem right_bundle (h : RawT w A n c ts) (h1 : RawP w A1 n1 c1 r1) (h2 : RawP w A2 n2 c2 r2) (h3 : RawP w A3 n3 c3 r3) (hr : rightB ts r1 r2 r3 = true) :
  ∃ T qa qb qc, PolT w A n c T 4 /\ TowL T /\ n <= 4 /\ (Pol w A1 n1 c1 qa 4 /\ n1 = 2 ^ n) /\ (Pol w A2 n2 c2 qb 4 /\ n2 = 2 ^ n) /\ (Pol w A3 n3 c3 qc 4 /\ n3 = 2 ^ n) := by
 unfold rightB at hr;simp only [Bool.and_eq_true] at hr;obtain ⟨f0, f1, f2, f3⟩ := hr;obtain ⟨p0, p1, p2, p3, p4⟩ := fewB4_parts f0;have l4 : ∀ l ∈ ts, l.all (fun r => r.le 4) = true := fun l hl => (p1 l hl).2
 obtain ⟨a1, a2, a3, a4⟩ := formed_bundle h h1 f1 l4 p2.2;obtain ⟨_, _, b3, b4⟩ := formed_bundle h h2 f2 l4 p3.2;obtain ⟨_, _, c3, c4⟩ := formed_bundle h h3 f3 l4 p4.2;exact ⟨_, _, _, _, a1, a2, by rw [<- h.len]; exact p0, ⟨a3, a4⟩, ⟨b3, b4⟩, ⟨c3, c4⟩⟩
end
def eYq : Nat -> Nat
 | 0 => 0
 | h + 1 => eYq h + eYq h + 2 ^ h + 2
theorem eF_le : ∀ h, eF h <= eYq h
 | 0 => Nat.le_refl _
 | h + 1 => by
  have := eF_le h
  show eF h + (2 ^ h + eF h) <= eYq h + eYq h + 2 ^ h + 2
  omega
theorem in_few {qs : List Rat} (h : ∀ q ∈ qs, SmQ q) : 0 < prodD qs /\ prodD qs <= W4 ^ qs.length /\ AllM (prodD qs) (W4 * prodD qs) qs := by
 obtain ⟨h1, h2⟩ := prodD_le h;refine ⟨h1, h2, fun q hq => ?_⟩;obtain ⟨k, hk⟩ := prodD_dvd q hq;have h3 : k <= prodD qs := by rw [hk]; exact Nat.le_mul_of_pos_left _ q.den_pos
 refine ⟨q.num * (k : Int), ?_, ?_⟩
 ·have h4 : 0 < k := by
   rcases Nat.eq_zero_or_pos k with h0 | h0
   ·rw [h0, Nat.mul_zero] at hk; omega
   ·exact h0
  have h5 := nat_ne h4;have h6 := nat_ne q.den_pos;have h7 := rat_quo q;rw [Rat.intCast_natCast] at h7;rw [hk, Rat.mkRat_eq_div, Rat.intCast_mul, Rat.natCast_mul, Rat.intCast_natCast]
  conv => lhs; rw [h7]
  grind
 ·rw [Int.natAbs_mul, Int.natAbs_natCast]
  exact Nat.mul_le_mul (h q hq).1 h3
theorem pr_bd {Mr Xr : Nat -> Nat} {n : Nat} (hM : ∀ i, i < n -> Mr i <= W4 ^ 2 ^ i) (hX : ∀ i, i < n -> Xr i <= W4 ^ (1 + 2 ^ i)) : ∀ h, h <= n -> prQ Mr h <= W4 ^ eF h /\ prY Mr Xr h <= W4 ^ eYq h
 | 0, _ => ⟨Nat.le_refl _, Nat.le_refl _⟩
 | h + 1, hh => by
  obtain ⟨i1, i2⟩ := pr_bd hM hX h (by omega);have hm := hM h (by omega);have hx := hX h (by omega);have hq : Mr h * prQ Mr h <= W4 ^ (2 ^ h + eF h) := by rw [Nat.pow_add]; exact Nat.mul_le_mul hm i1
  constructor
  ·show prQ Mr h * (Mr h * prQ Mr h) <= W4 ^ (eF h + (2 ^ h + eF h))
   rw [Nat.pow_add];exact Nat.mul_le_mul i1 hq
  ·have e := eF_le h
   have a1 : prY Mr Xr h * (Mr h * prQ Mr h) <= W4 ^ (eYq h + eYq h + 2 ^ h + 1) := by
    refine Nat.le_trans (Nat.mul_le_mul i2 hq) ?_;rw [<- Nat.pow_add];exact Nat.pow_le_pow_right W4_pos (by omega)
   have a2 : prY Mr Xr h * (Xr h * prY Mr Xr h) <= W4 ^ (eYq h + eYq h + 2 ^ h + 1) := by
    refine Nat.le_trans (Nat.mul_le_mul i2 (Nat.mul_le_mul hx i2)) ?_;rw [<- Nat.pow_add, <- Nat.pow_add];exact Nat.pow_le_pow_right W4_pos (by omega)
   show prY Mr Xr h * (Mr h * prQ Mr h) + prY Mr Xr h * (Mr h * prQ Mr h) + prY Mr Xr h * (Xr h * prY Mr Xr h) <= W4 ^ (eYq h + eYq h + 2 ^ h + 1 + 1)
   rw [Nat.pow_succ W4 (eYq h + eYq h + 2 ^ h + 1)];generalize W4 ^ (eYq h + eYq h + 2 ^ h + 1) = p at a1 a2;have h4 : p * 3 <= p * W4 := Nat.mul_le_mul_left _ (by decide +kernel);omega
section
variable {w : World} {Tt A B : Option Addr} {n ct m c d : Nat} {T : List (List Rat)} {qs ps : List Rat}
theorem q_MulF (hp : PolT w Tt n ct T 4) (ht : TowL T) (hn : n <= 4) (ha : Pol w A m c qs 4) (hb : Pol w B m d ps 4) (hm : m = 2 ^ n) :
  Calls Tryz.prog 44 #[.slice Tt n ct, .slice A m c, .slice B m d] w (fun e w' => ∃ A' c', e = .returned (.slice A' m c') /\ Pol w' A' m c' (mulL (radQ T) n qs ps) 400 /\ Ext w w') := by
 obtain ⟨S, hS⟩ : ∃ S : Nat, S = 400 := ⟨_, rfl⟩;have hl := hp.len;have hsm := hp.sm
 have hR : ∀ i q, q ∈ radQ T i -> SmQ q := by
  intro i q hq
  rcases Nat.lt_or_ge i T.length with hi | hi
  ·rw [radQ_at hi] at hq
   exact hsm _ (List.getElem_mem hi) q hq
  ·unfold radQ at hq
   rw [List.getD_eq_getElem?_getD, List.getElem?_eq_none hi] at hq;rw [List.eq_of_mem_replicate hq];exact ⟨Nat.zero_le _, W4_pos⟩
 have hM : ∀ i, 0 < prodD (radQ T i) := fun i => (in_few (hR i)).1
 have hMb : ∀ i, prodD (radQ T i) <= W4 ^ 2 ^ i := fun i => by have := (in_few (hR i)).2.1; rwa [radQ_len ht] at this
 obtain ⟨b1, b2⟩ := pr_bd (Mr := fun i => prodD (radQ T i)) (Xr := fun i => W4 * prodD (radQ T i)) (n := n) (fun i _ => hMb i) (fun i _ => by rw [Nat.pow_add, Nat.pow_one]; exact Nat.mul_le_mul_left _ (hMb i)) n (Nat.le_refl _);obtain ⟨p1, p2, p3⟩ := in_few ha.sm;obtain ⟨q1, q2, q3⟩ := in_few hb.sm;have hm16 : 2 ^ n <= 16 := (m_few n (by omega)).2.2.2.2.2.2;rw [ha.len, hm] at p2;rw [hb.len, hm] at q2
 have hfe : ∀ n, n < 5 -> eF n <= 32 /\ eYq n <= 62 := by
  intro n hn
  match n, hn with
  | 0, _ => decide
  | 1, _ => decide
  | 2, _ => decide
  | 3, _ => decide
  | 4, _ => decide
 have hf := hfe n (by omega)
 have z1 : prodD qs * prodD ps * prQ (fun i => prodD (radQ T i)) n < 4294967296 ^ S := by
  refine Nat.lt_of_lt_of_le (W4_words (e := 2 ^ n + 2 ^ n + eF n) ?_) (Nat.pow_le_pow_right (by omega) (by omega));rw [Nat.pow_add, Nat.pow_add];exact Nat.mul_le_mul (Nat.mul_le_mul p2 q2) b1
 have z2 : W4 * prodD qs * (W4 * prodD ps) * prY (fun i => prodD (radQ T i)) (fun i => W4 * prodD (radQ T i)) n < 4294967296 ^ S := by
  refine Nat.lt_of_lt_of_le (W4_words (e := (1 + 2 ^ n) + (1 + 2 ^ n) + eYq n) ?_) (Nat.pow_le_pow_right (by omega) (by omega));rw [Nat.pow_add, Nat.pow_add, Nat.pow_add, Nat.pow_one];exact Nat.mul_le_mul (Nat.mul_le_mul (Nat.mul_le_mul_left _ p2) (Nat.mul_le_mul_left _ q2)) b2
 refine (q_MulT (S := S) (R := radQ T) (radQ_len ht) hM (fun i => (in_few (hR i)).2.2) (by omega) (by omega) n ht hl (fun i _ => rfl) hp (ha.le (by omega)) (hb.le (by omega)) hm ⟨p1, p3⟩ ⟨q1, q3⟩ ⟨by omega, z1, z2⟩).mono ?_;rintro e w' ⟨A', c', rfl, h1, h2⟩;exact ⟨A', c', rfl, hS ▸ h1.pl, h2⟩
end
theorem p_ConjT_bad {w : World} {T A : Option Addr} {nt ct n c : Nat} {z : Int} (hz : z < 0 \/ (nt : Int) <= z) : Calls Tryz.prog 27 #[.slice T nt ct, .slice A n c, .int .i64 z] w (fun e w' => e = .returned (.tuple #[.slice Option.none 0 0, .bool false]) /\ Ext w w') := by
 by_cases h0 : z < 0
 ·have g0 : decide (z < 0) = true := decide_eq_true h0
  clear hz
  go_enter Tryz.func27, Tryz.ntmps27
  go_wp2_with fail
  exact bodyPost_ret (v := .tuple #[.slice Option.none 0 0, .bool false]) (by simp [results, Tryz.results27, go_sem]) rfl ⟨rfl, Ext.refl _⟩
 ·have g0 : decide (z < 0) = false := decide_eq_false h0
  have h1 : (nt : Int) <= z := by omega
  have g1 : decide ((nt : Int) <= z) = true := decide_eq_true h1;clear hz
  go_enter Tryz.func27, Tryz.ntmps27
  go_wp2_with fail
  exact bodyPost_ret (v := .tuple #[.slice Option.none 0 0, .bool false]) (by simp [results, Tryz.results27, go_sem]) rfl ⟨rfl, Ext.refl _⟩
theorem q_ConjT_bad {w : World} {T A : Option Addr} {nt ct n c : Nat} {z : Int} (hz : z < 0 \/ (nt : Int) <= z) : Calls Tryz.prog 42 #[.slice T nt ct, .slice A n c, .int .i64 z] w (fun e w' => e = .returned (.tuple #[.slice Option.none 0 0, .bool false]) /\ Ext w w') := by
 by_cases h0 : z < 0
 ·have g0 : decide (z < 0) = true := decide_eq_true h0
  clear hz
  go_enter Tryz.func42, Tryz.ntmps42
  go_wp2_with fail
  exact bodyPost_ret (v := .tuple #[.slice Option.none 0 0, .bool false]) (by simp [results, Tryz.results42, go_sem]) rfl ⟨rfl, Ext.refl _⟩
 ·have g0 : decide (z < 0) = false := decide_eq_false h0
  have h1 : (nt : Int) <= z := by omega
  have g1 : decide ((nt : Int) <= z) = true := decide_eq_true h1;clear hz
  go_enter Tryz.func42, Tryz.ntmps42
  go_wp2_with fail
  exact bodyPost_ret (v := .tuple #[.slice Option.none 0 0, .bool false]) (by simp [results, Tryz.results42, go_sem]) rfl ⟨rfl, Ext.refl _⟩
section
variable {w : World} {Tt B : Option Addr} {n ct m d i0 L : Nat} {T : List (List Rat)} {qs : List Rat}
theorem cj (hp : PolT w Tt n ct T 4) (ht : TowL T) (hq : Pol w B m d qs L) (hm : m = 2 ^ n) (hL : L <= 900) (hn : n <= 4) (hi : i0 < n) (hc : conjB T i0 = true) (hT : Tab w) :
  Calls Tryz.prog 27 #[.slice Tt n ct, .slice B m d, .int .i64 (i0 : Int)] w (fun e w' => ∃ A' c', e = .returned (.tuple #[.slice A' m c', .bool true]) /\ Pol w' A' m c' (flipL i0 qs) L /\ Ext w w') := by
 have h := p_ConjT hp ht hq hm hL (by omega) (by omega) hi hT;rw [conjC_eq, hc] at h;refine h.mono ?_;rintro e w' ⟨A', n', c', rfl, h1, h2⟩;obtain rfl : m = n' := by rw [<- h1.len, flipL_len, hq.len]
 exact ⟨A', c', rfl, h1, h2⟩
theorem cj_no (hp : PolT w Tt n ct T 4) (ht : TowL T) (hq : Pol w B m d qs 4) (hm : m = 2 ^ n) (hn : n <= 4) (hi : i0 < n) (hc : conjB T i0 = false) (hT : Tab w) :
  Calls Tryz.prog 27 #[.slice Tt n ct, .slice B m d, .int .i64 (i0 : Int)] w (fun e w' => e = .returned (.tuple #[.slice Option.none 0 0, .bool false]) /\ Ext w w') := by
 have h := p_ConjT hp ht hq hm (by omega) (by omega) (by omega) hi hT;rw [conjC_eq, hc] at h;exact h
theorem T_len (ht : TowL T) (hl : T.length <= 4) : ∀ r ∈ T, r.length <= 100 := by
 intro r hr;obtain ⟨i, hi, rfl⟩ := List.getElem_of_mem hr;rw [ht i hi];exact Nat.le_trans (m_few i (by omega)).2.2.2.2.2.2 (by omega)
theorem qj (hp : PolT w Tt n ct T 4) (ht : TowL T) (hq : Pol w B m d qs L) (hL : L <= 1000) (hm : m <= 100) (hn : n <= 4) (hi : i0 < n) (hc : conjB T i0 = true) :
  Calls Tryz.prog 42 #[.slice Tt n ct, .slice B m d, .int .i64 (i0 : Int)] w (fun e w' => ∃ A' n' c', e = .returned (.tuple #[.slice A' n' c', .bool true]) /\ Pol w' A' n' c' (flipL i0 qs) L /\ Ext w w') := by
 have h := q_ConjT hp hq (T_len ht (by rw [hp.len]; exact hn)) hL (by omega) hm (by omega) hi;rw [hc] at h;exact h
theorem qj_no (hp : PolT w Tt n ct T 4) (ht : TowL T) (hq : Pol w B m d qs 4) (hm : m <= 100) (hn : n <= 4) (hi : i0 < n) (hc : conjB T i0 = false) :
  Calls Tryz.prog 42 #[.slice Tt n ct, .slice B m d, .int .i64 (i0 : Int)] w (fun e w' => e = .returned (.tuple #[.slice Option.none 0 0, .bool false]) /\ Ext w w') := by
 have h := q_ConjT hp hq (T_len ht (by rw [hp.len]; exact hn)) (by omega) (by omega) hm (by omega) hi;rw [hc] at h;exact h
end
set_option maxRecDepth 100000 in
theorem conj6_any {w : World} {A A1 A2 A3 : Option Addr} {n c n1 c1 n2 c2 n3 c3 : Nat} {ts : List (List RawR)} {r1 r2 r3 : List RawR} (hA : Awake6) (hT : Tab w) (h : RawT w A n c ts) (h1 : RawP w A1 n1 c1 r1) (h2 : RawP w A2 n2 c2 r2) (h3 : RawP w A3 n3 c3 r3) {z : Int} (hz0 : -9223372036854775808 <= z) (hz1 : z < 9223372036854775808) :
  Calls Tryz.prog 9 #[.agg #[.slice A n c, .slice A1 n1 c1, .slice A2 n2 c2, .slice A3 n3 c3], .int .i64 z] w (fun e w' => e = .returned (.bool true) /\ Ext w w') := by
 go_enter Tryz.func9, Tryz.ntmps9
 go_upto_region 1 with (fail)
 obtain ⟨W, hW, EW, bx, hz⟩ := box1 w 25 #[.slice A n c, .slice A1 n1 c1, .slice A2 n2 c2, .slice A3 n3 c3];rw [<- hW];clear hW hz;have HA := Lib.hid hA;clear hA
 go_wp2_with fail
 refine (HA.out _ (hT.ext EW)).mono ?_;rintro e V1 ⟨rfl, hx⟩;replace bx := bx.ext hx;replace EW := EW.trans hx;clear hx;have x0 := bx.cell 0 (.slice A n c) rfl;have x1 := bx.cell 1 (.slice A1 n1 c1) rfl;have x2 := bx.cell 2 (.slice A2 n2 c2) rfl;have x3 := bx.cell 3 (.slice A3 n3 c3) rfl
 go_wp2_with fail
 refine (p_rightL (h.ext EW) (h1.ext EW) (h2.ext EW) (h3.ext EW)).mono ?_;rintro e V2 ⟨rfl, hx⟩;replace bx := bx.ext hx;replace EW := EW.trans hx;clear hx x0 x1 x2 x3
 cases hrb : rightB ts r1 r2 r3 with
 | false =>
  go_wp2_with fail
  refine (HA.out _ (hT.ext EW)).mono ?_;rintro e V3 ⟨rfl, hx⟩
  go_wp2_with fail
  go_ret
  exact ⟨rfl, EW.trans hx⟩
 | true =>
  obtain ⟨T, qa, qb, qc, hp, ht, hn4, ⟨ha, ha2⟩, ⟨hb, hb2⟩, ⟨hc, hc2⟩⟩ := right_bundle h h1 h2 h3 hrb;have HN1 := Lib.hid ha2;have HN2 := Lib.hid hb2;have HN3 := Lib.hid hc2;have hm1 : n1 <= 16 := by rw [ha2]; exact (m_few n (by omega)).2.2.2.2.2.2
  have hm2 : n2 <= 16 := by rw [hb2]; exact (m_few n (by omega)).2.2.2.2.2.2
  have hm3 : n3 <= 16 := by rw [hc2]; exact (m_few n (by omega)).2.2.2.2.2.2
  replace hp := hp.ext EW;replace ha := ha.ext EW;replace hb := hb.ext EW;replace hc := hc.ext EW;clear h h1 h2 h3 hrb ha2 hb2 hc2;clear hc HN3 hm3;obtain rfl : n2 = n1 := by rw [HN2.out, HN1.out]
  clear HN2 hm2
  by_cases hz : z < 0 \/ (n : Int) <= z
  ·have x0 := bx.cell 0 (.slice A n c) rfl
   have x1 := bx.cell 1 (.slice A1 n2 c1) rfl;have x2 := bx.cell 2 (.slice A2 n2 c2) rfl
   go_wp2_with fail
   refine (p_ConjT_bad hz).mono ?_;rintro e U1 ⟨rfl, hx⟩;clear x0 x1 x2;replace bx := bx.ext hx;replace EW := EW.trans hx;clear hx;have x0 := bx.cell 0 (.slice A n c) rfl;have x1 := bx.cell 1 (.slice A1 n2 c1) rfl;have x2 := bx.cell 2 (.slice A2 n2 c2) rfl
   go_wp2_with fail
   refine (q_ConjT_bad hz).mono ?_;rintro e U2 ⟨rfl, hx⟩;clear x0 x1 x2;replace bx := bx.ext hx;replace EW := EW.trans hx;clear hx;have x0 := bx.cell 0 (.slice A n c) rfl;have x1 := bx.cell 1 (.slice A1 n2 c1) rfl;have x2 := bx.cell 2 (.slice A2 n2 c2) rfl
   go_wp2_with fail
   refine (q_SameT (Pol.nilT _ _ _ 2 (Nat.zero_le _)) (Pol.nilT _ _ _ 2 (Nat.zero_le _)) (by omega) (by omega) (by omega)).mono ?_;rintro e U8 ⟨rfl, hx8⟩
   go_wp2_with fail
   refine (q_SameT (Pol.nilT _ _ _ 2 (Nat.zero_le _)) (Pol.nilT _ _ _ 2 (Nat.zero_le _)) (by omega) (by omega) (by omega)).mono ?_;rintro e U9 ⟨rfl, hx9⟩
   go_wp2_with fail
   go_ret
   exact ⟨rfl, EW.trans (hx8.trans hx9)⟩
  ·obtain ⟨i0, rfl⟩ : ∃ i0 : Nat, z = (i0 : Int) := ⟨z.toNat, by omega⟩
   have hi0 : i0 < n := by omega
   clear hz;have HQA := Lib.hid ha.len;have HQB := Lib.hid hb.len;have HTL := Lib.hid hp.len
   cases hc : conjB T i0 with
   | false =>
    have HC := Lib.hid hc;clear hc;have x0 := bx.cell 0 (.slice A n c) rfl;have x1 := bx.cell 1 (.slice A1 n2 c1) rfl;have x2 := bx.cell 2 (.slice A2 n2 c2) rfl
    go_wp2_with fail
    refine (cj_no hp ht ha HN1.out hn4 hi0 HC.out (hT.ext EW)).mono ?_;rintro e U1 ⟨rfl, hx⟩;clear x0 x1 x2;replace bx := bx.ext hx;replace hp := hp.ext hx;replace ha := ha.ext hx;replace EW := EW.trans hx;clear hx;have x0 := bx.cell 0 (.slice A n c) rfl;have x1 := bx.cell 1 (.slice A1 n2 c1) rfl;have x2 := bx.cell 2 (.slice A2 n2 c2) rfl
    go_wp2_with fail
    refine (qj_no hp ht ha (by omega) hn4 hi0 HC.out).mono ?_;rintro e U2 ⟨rfl, hx⟩;clear x0 x1 x2;replace bx := bx.ext hx;replace hp := hp.ext hx;replace ha := ha.ext hx;replace EW := EW.trans hx;clear hx;have x0 := bx.cell 0 (.slice A n c) rfl;have x1 := bx.cell 1 (.slice A1 n2 c1) rfl;have x2 := bx.cell 2 (.slice A2 n2 c2) rfl
    go_wp2_with fail
    refine (q_SameT (Pol.nilT _ _ _ 2 (Nat.zero_le _)) (Pol.nilT _ _ _ 2 (Nat.zero_le _)) (by omega) (by omega) (by omega)).mono ?_;rintro e U8 ⟨rfl, hx8⟩
    go_wp2_with fail
    refine (q_SameT (Pol.nilT _ _ _ 2 (Nat.zero_le _)) (Pol.nilT _ _ _ 2 (Nat.zero_le _)) (by omega) (by omega) (by omega)).mono ?_;rintro e U9 ⟨rfl, hx9⟩
    go_wp2_with fail
    go_ret
    exact ⟨rfl, EW.trans (hx8.trans hx9)⟩
   | true =>
    have HC := Lib.hid hc;have HFA := Lib.hid (show flipL i0 (List.zipWith (fun x y : Rat => x + y) qa qb) = List.zipWith (fun x y : Rat => x + y) (flipL i0 qa) (flipL i0 qb) from flip_add (by rw [HQA.out, HQB.out]));have HFM := Lib.hid (flip_mul (radQ_len ht) (i := i0) n (a := qa) (b := qb) (by rw [HQA.out, HN1.out]) (by rw [HQB.out, HN1.out]) (fun k h1 h2 => conjB_rad hc k h1 (by rw [HTL.out]; exact h2)));have HFF := Lib.hid (flip_flip i0 qa);clear hc;have x0 := bx.cell 0 (.slice A n c) rfl;have x1 := bx.cell 1 (.slice A1 n2 c1) rfl;have x2 := bx.cell 2 (.slice A2 n2 c2) rfl
    go_wp2_with fail
    refine (cj hp ht ha HN1.out (by omega) hn4 hi0 HC.out (hT.ext EW)).mono ?_;rintro e U1 ⟨A5, c5, rfl, p5, hx⟩;clear x0 x1 x2;replace bx := bx.ext hx;replace hp := hp.ext hx;replace ha := ha.ext hx;replace hb := hb.ext hx;replace EW := EW.trans hx;clear hx;have x0 := bx.cell 0 (.slice A n c) rfl;have x1 := bx.cell 1 (.slice A1 n2 c1) rfl;have x2 := bx.cell 2 (.slice A2 n2 c2) rfl
    go_wp2_with fail
    refine (qj hp ht ha (by omega) (by omega) hn4 hi0 HC.out).mono ?_;rintro e U2 ⟨A6, n6, c6, rfl, p6, hx⟩;clear x0 x1 x2;replace bx := bx.ext hx;replace hp := hp.ext hx;replace ha := ha.ext hx;replace hb := hb.ext hx;replace p5 := p5.ext hx;replace EW := EW.trans hx;clear hx;have x0 := bx.cell 0 (.slice A n c) rfl;have x1 := bx.cell 1 (.slice A1 n2 c1) rfl;have x2 := bx.cell 2 (.slice A2 n2 c2) rfl
    go_wp2_with fail
    refine (q_SameT p5 p6 (by omega) (by omega) (by omega)).mono ?_;rintro e U3 ⟨rfl, hx⟩;clear x0 x1 x2;replace bx := bx.ext hx;replace hp := hp.ext hx;replace ha := ha.ext hx;replace hb := hb.ext hx;replace p5 := p5.ext hx;replace p6 := p6.ext hx;replace EW := EW.trans hx;clear hx;have x0 := bx.cell 0 (.slice A n c) rfl;have x1 := bx.cell 1 (.slice A1 n2 c1) rfl;have x2 := bx.cell 2 (.slice A2 n2 c2) rfl
    go_wp2_with fail
    refine (cj hp ht hb HN1.out (by omega) hn4 hi0 HC.out (hT.ext EW)).mono ?_;rintro e U4 ⟨A7, c7, rfl, p7, hx⟩;clear x0 x1 x2;replace bx := bx.ext hx;replace hp := hp.ext hx;replace ha := ha.ext hx;replace hb := hb.ext hx;replace p5 := p5.ext hx;replace p6 := p6.ext hx;replace EW := EW.trans hx;clear hx;have x0 := bx.cell 0 (.slice A n c) rfl;have x1 := bx.cell 1 (.slice A1 n2 c1) rfl;have x2 := bx.cell 2 (.slice A2 n2 c2) rfl;clear x0 x1 x2
    go_upto_region 8 with (fail)
    have ES0 := Ext.refl U4;refine wp_region_held_drew (S := Ext U4) (by kernel_rfl) ES0.drew (fun ES => ?_);clear ES0;refine Late.s0 ES (fun hAl hQ => ?_);refine Late.t 0 74 ?v_0 hQ ?y_0 ?_
    case y_0 => intro w' hSw;go_simp;try rfl
    try simp only [zP]
    refine Late.t 2 76 ?v_1 hQ ?y_1 ?_
    case y_1 => intro w' hSw;go_simp;try rfl
    try simp only [zP]
    refine Late.t 4 78 ?v_2 hQ ?y_2 ?_
    case y_2 => intro w' hSw;go_simp;try rfl
    try simp only [zP]
    refine Late.t 6 80 ?v_3 hQ ?y_3 ?_
    case y_3 => intro w' hSw;go_simp;try rfl
    try simp only [zP]
    refine Late.t 9 83 ?v_4 hQ ?y_4 ?_
    case y_4 => intro w' hSw;go_simp;try rfl
    try simp only [zP]
    refine Late.t 1 75 ?v_5 hQ ?y_5 ?_
    case y_5 => intro w' hSw;have k00 := (bx.ext hSw).c4;go_simp;try rfl
    try simp only [zP]
    refine Late.t 3 77 ?v_6 hQ ?y_6 ?_
    case y_6 => intro w' hSw;have k00 := (bx.ext hSw).c4;go_simp;try rfl
    try simp only [zP]
    refine Late.t 5 79 ?v_7 hQ ?y_7 ?_
    case y_7 => intro w' hSw;have k00 := (bx.ext hSw).c4;go_simp;try rfl
    try simp only [zP]
    refine Late.t 7 81 ?v_8 hQ ?y_8 ?_
    case y_8 => intro w' hSw;have k00 := (bx.ext hSw).c4;go_simp;try rfl
    try simp only [zP]
    refine Late.cl (i := 8) rfl hAl hQ (fun w8 e8 E8 K hK => ?_);go_simp
    (go_at_call 43; refine (q_AddT (ha.ext E8) (hb.ext E8) (by omega) (by omega) (by omega)).mono ?_; rintro e wk8 ⟨A8, n8, c8, rfl, ps, hx8⟩; obtain rfl : n2 = n8 := by rw [<- ps.len, List.length_zipWith, HQA.out, HQB.out, Nat.min_self])
    refine hK.out _ _ hx8 ?_;clear hK K
    try simp only [zP]
    refine Late.cl (i := 10) rfl hAl hQ (fun w10 e10 E10 K hK => ?_);go_simp
    (replace ps := ps.ext e10; go_at_call 27; refine (cj (hp.ext E10) ht ps HN1.out (by omega) hn4 hi0 HC.out (hT.ext (EW.trans E10))).mono ?_; rintro e wk10 ⟨A9, c9, rfl, pcs, hx10⟩; replace ps := ps.ext hx10)
    refine hK.out _ _ hx10 ?_;clear hK K
    try simp only [zP]
    refine Late.t 11 73 ?v_9 hQ ?y_9 ?_
    case y_9 => intro w' hSw;go_simp;try rfl
    try simp only [zP]
    refine Late.t 12 85 ?v_a hQ ?y_a ?_
    case y_a => intro w' hSw;go_simp;try rfl
    try simp only [zP]
    refine Late.t 13 86 ?v_b hQ ?y_b ?_
    case y_b => intro w' hSw;go_simp;try rfl
    try simp only [zP]
    refine Late.t 14 11 ?v_c hQ ?y_c ?_
    case y_c => intro w' hSw;go_simp;try rfl
    try simp only [zP]
    refine Late.t 15 12 ?v_d hQ ?y_d ?_
    case y_d => intro w' hSw;go_simp;try rfl
    try simp only [zP]
    refine Late.d0 (fun U5 ez Ez => ?_);clear hAl hQ ES;replace pcs := pcs.ext ez;replace bx := bx.ext Ez;replace hp := hp.ext Ez;replace ha := ha.ext Ez;replace hb := hb.ext Ez;replace p5 := p5.ext Ez;replace p6 := p6.ext Ez;replace p7 := p7.ext Ez;replace EW := EW.trans Ez;clear ez Ez;have x0 := bx.cell 0 (.slice A n c) rfl;have x1 := bx.cell 1 (.slice A1 n2 c1) rfl;have x2 := bx.cell 2 (.slice A2 n2 c2) rfl;clear x0 x1 x2
    go_upto_region 9 with (fail)
    have ES0 := Ext.refl U5;refine wp_region_held_drew (S := Ext U5) (by kernel_rfl) ES0.drew (fun ES => ?_);clear ES0;refine Late.s0 ES (fun hAl hQ => ?_);refine Late.t 0 88 ?v_e hQ ?y_e ?_
    case y_e => intro w' hSw;go_simp;try rfl
    try simp only [zP]
    refine Late.t 2 90 ?v_f hQ ?y_f ?_
    case y_f => intro w' hSw;go_simp;try rfl
    try simp only [zP]
    refine Late.t 4 92 ?v_g hQ ?y_g ?_
    case y_g => intro w' hSw;go_simp;try rfl
    try simp only [zP]
    refine Late.t 6 94 ?v_h hQ ?y_h ?_
    case y_h => intro w' hSw;go_simp;try rfl
    try simp only [zP]
    refine Late.t 9 97 ?v_i hQ ?y_i ?_
    case y_i => intro w' hSw;go_simp;try rfl
    try simp only [zP]
    refine Late.t 1 89 ?v_j hQ ?y_j ?_
    case y_j => intro w' hSw;have k00 := (bx.ext hSw).c4;go_simp;try rfl
    try simp only [zP]
    refine Late.t 3 91 ?v_k hQ ?y_k ?_
    case y_k => intro w' hSw;have k00 := (bx.ext hSw).c4;go_simp;try rfl
    try simp only [zP]
    refine Late.t 5 93 ?v_l hQ ?y_l ?_
    case y_l => intro w' hSw;have k00 := (bx.ext hSw).c4;go_simp;try rfl
    try simp only [zP]
    refine Late.t 7 95 ?v_m hQ ?y_m ?_
    case y_m => intro w' hSw;have k00 := (bx.ext hSw).c4;go_simp;try rfl
    try simp only [zP]
    refine Late.cl (i := 8) rfl hAl hQ (fun w8 e8 E8 K hK => ?_);go_simp
    (go_at_call 44; refine (q_MulF (hp.ext E8) ht hn4 (ha.ext E8) (hb.ext E8) HN1.out).mono ?_; rintro e wk8 ⟨A10, c10, rfl, pm, hx8⟩)
    refine hK.out _ _ hx8 ?_;clear hK K
    try simp only [zP]
    refine Late.cl (i := 10) rfl hAl hQ (fun w10 e10 E10 K hK => ?_);go_simp
    (replace pm := pm.ext e10; go_at_call 27; refine (cj (hp.ext E10) ht pm HN1.out (by omega) hn4 hi0 HC.out (hT.ext (EW.trans E10))).mono ?_; rintro e wk10 ⟨A11, c11, rfl, pcm, hx10⟩; replace pm := pm.ext hx10)
    refine hK.out _ _ hx10 ?_;clear hK K
    try simp only [zP]
    refine Late.t 11 87 ?v_n hQ ?y_n ?_
    case y_n => intro w' hSw;go_simp;try rfl
    try simp only [zP]
    refine Late.t 12 99 ?v_o hQ ?y_o ?_
    case y_o => intro w' hSw;go_simp;try rfl
    try simp only [zP]
    refine Late.t 13 100 ?v_p hQ ?y_p ?_
    case y_p => intro w' hSw;go_simp;try rfl
    try simp only [zP]
    refine Late.t 14 13 ?v_q hQ ?y_q ?_
    case y_q => intro w' hSw;go_simp;try rfl
    try simp only [zP]
    refine Late.t 15 14 ?v_r hQ ?y_r ?_
    case y_r => intro w' hSw;go_simp;try rfl
    try simp only [zP]
    refine Late.d0 (fun U6 ez Ez => ?_);clear hAl hQ ES;replace pcm := pcm.ext ez;replace bx := bx.ext Ez;replace hp := hp.ext Ez;replace ha := ha.ext Ez;replace hb := hb.ext Ez;replace p5 := p5.ext Ez;replace p6 := p6.ext Ez;replace p7 := p7.ext Ez;replace pcs := pcs.ext Ez;replace EW := EW.trans Ez;clear ez Ez;have x0 := bx.cell 0 (.slice A n c) rfl;have x1 := bx.cell 1 (.slice A1 n2 c1) rfl;have x2 := bx.cell 2 (.slice A2 n2 c2) rfl
    go_wp2_with fail
    refine (cj hp ht p5 HN1.out (by omega) hn4 hi0 HC.out (hT.ext EW)).mono ?_;rintro e U7 ⟨A12, c12, rfl, p12, hx⟩;clear x0 x1 x2;replace bx := bx.ext hx;replace hp := hp.ext hx;replace ha := ha.ext hx;replace hb := hb.ext hx;replace p5 := p5.ext hx;replace p6 := p6.ext hx;replace p7 := p7.ext hx;replace pcs := pcs.ext hx;replace pcm := pcm.ext hx;replace EW := EW.trans hx;clear hx;have x0 := bx.cell 0 (.slice A n c) rfl;have x1 := bx.cell 1 (.slice A1 n2 c1) rfl;have x2 := bx.cell 2 (.slice A2 n2 c2) rfl
    go_wp2_with fail
    refine (q_AddT p5 p7 (by omega) (by omega) (by omega)).mono ?_;rintro e U8 ⟨A13, n13, c13, rfl, p13, hx⟩;clear x0 x1 x2;replace bx := bx.ext hx;replace hp := hp.ext hx;replace ha := ha.ext hx;replace hb := hb.ext hx;replace p5 := p5.ext hx;replace p6 := p6.ext hx;replace p7 := p7.ext hx;replace pcs := pcs.ext hx;replace pcm := pcm.ext hx;replace p12 := p12.ext hx;replace EW := EW.trans hx;clear hx;have x0 := bx.cell 0 (.slice A n c) rfl;have x1 := bx.cell 1 (.slice A1 n2 c1) rfl;have x2 := bx.cell 2 (.slice A2 n2 c2) rfl
    go_wp2_with fail
    refine (q_SameT (HFA.out ▸ pcs) p13 (by omega) (by omega) (by omega)).mono ?_;rintro e U9 ⟨rfl, hx⟩;clear x0 x1 x2;replace bx := bx.ext hx;replace hp := hp.ext hx;replace ha := ha.ext hx;replace hb := hb.ext hx;replace p5 := p5.ext hx;replace p6 := p6.ext hx;replace p7 := p7.ext hx;replace pcs := pcs.ext hx;replace pcm := pcm.ext hx;replace p12 := p12.ext hx;replace p13 := p13.ext hx;replace EW := EW.trans hx;clear hx;have x0 := bx.cell 0 (.slice A n c) rfl;have x1 := bx.cell 1 (.slice A1 n2 c1) rfl;have x2 := bx.cell 2 (.slice A2 n2 c2) rfl
    go_wp2_with fail
    refine (q_MulF hp ht hn4 p5 p7 HN1.out).mono ?_;rintro e U10 ⟨A14, c14, rfl, p14, hx⟩;clear x0 x1 x2;replace bx := bx.ext hx;replace hp := hp.ext hx;replace ha := ha.ext hx;replace hb := hb.ext hx;replace p5 := p5.ext hx;replace p6 := p6.ext hx;replace p7 := p7.ext hx;replace pcs := pcs.ext hx;replace pcm := pcm.ext hx;replace p12 := p12.ext hx;replace p13 := p13.ext hx;replace EW := EW.trans hx;clear hx;have x0 := bx.cell 0 (.slice A n c) rfl;have x1 := bx.cell 1 (.slice A1 n2 c1) rfl;have x2 := bx.cell 2 (.slice A2 n2 c2) rfl
    go_wp2_with fail
    refine (q_SameT (HFM.out ▸ pcm) p14 (by omega) (by omega) (by omega)).mono ?_;rintro e U11 ⟨rfl, hx⟩;clear x0 x1 x2;replace bx := bx.ext hx;replace hp := hp.ext hx;replace ha := ha.ext hx;replace hb := hb.ext hx;replace p5 := p5.ext hx;replace p6 := p6.ext hx;replace p7 := p7.ext hx;replace pcs := pcs.ext hx;replace pcm := pcm.ext hx;replace p12 := p12.ext hx;replace p13 := p13.ext hx;replace p14 := p14.ext hx;replace EW := EW.trans hx;clear hx;have x0 := bx.cell 0 (.slice A n c) rfl;have x1 := bx.cell 1 (.slice A1 n2 c1) rfl;have x2 := bx.cell 2 (.slice A2 n2 c2) rfl
    go_wp2_with fail
    refine (q_SameT (HFF.out ▸ p12) ha (by omega) (by omega) (by omega)).mono ?_;rintro e U12 ⟨rfl, hx⟩;clear x0 x1 x2;replace bx := bx.ext hx;replace hp := hp.ext hx;replace ha := ha.ext hx;replace hb := hb.ext hx;replace p5 := p5.ext hx;replace p6 := p6.ext hx;replace p7 := p7.ext hx;replace pcs := pcs.ext hx;replace pcm := pcm.ext hx;replace p12 := p12.ext hx;replace p13 := p13.ext hx;replace p14 := p14.ext hx;replace EW := EW.trans hx;clear hx
    go_wp2_with fail
    go_ret
    exact ⟨rfl, EW⟩
end
section
open Go.ChangeShapes Go.WideShapes Go.ChangeAt Go.RowKit Go.Joins
theorem Tryz.own : ownKnob Tryz.prog.godebug = none := by kernel_rfl
theorem Tryz.laidOut : laidOutB Tryz.prog = true := by kernel_rfl
theorem Tryz.cellsI : Tryz.prog.cellsOf 28 = 2 := by kernel_rfl
theorem Tryz.cellsW : Tryz.prog.cellsOf 89 = 1 := by kernel_rfl
section
variable {H : Type} {enc : TypeId × Value -> H} {W : World} {base : Nat} {held : Bool}
theorem open_words {m : Nat} {v : Value} {y : DataW H × List MemPlace} (h : DataW.trod enc Tryz.prog W base (fun _ => true) held m 26 [v] = some y) :
  ∃ A n c xs, v = .slice A n c /\ List.length xs = n /\ Rd W A xs /\ n <= c /\ c <= maxLen := by
 rcases open_ints Tryz.underlying26 Tryz.underlying89 Tryz.cellsW h with ⟨hcs, _⟩ | ⟨a, len, cap, zs, hcs, _, hl, hm, hz, _, hcell, hwf⟩
 ·injection hcs with hcs _
  subst hcs;exact ⟨none, 0, 0, [], rfl, rfl, Rd.nil _ _, Nat.le_refl _, Nat.zero_le _⟩
 ·injection hcs with hcs _
  subst hcs;simp only [if_true] at hz
  have hb : ∀ n ∈ zs, 0 <= n /\ n <= 4294967295 := by
   intro n hn;have := hwf n hn;simp [Lit.wf, IntKind.min, IntKind.max, IntKind.bits, IntKind.signed] at this;omega
  refine ⟨some a, len, cap, (zs.take len).map Int.toNat, rfl, by simp; omega, ⟨?_, ?_⟩, hl, hm⟩
  ·intro x hx
   obtain ⟨n, hn, rfl⟩ := List.mem_map.1 hx;have := hb n (List.mem_of_mem_take hn);omega
  ·intro hne
   have hpos : 0 < zs.length := by
    rcases Nat.eq_zero_or_pos zs.length with h0 | h0
    ·exfalso
     apply hne
     have : zs = [] := List.eq_nil_of_length_eq_zero h0;rw [this]; simp
    ·exact h0
   obtain ⟨b, off, spot⟩ := a;have hc0 := hcell 0 hpos
   have hspot : spot = none := by
    cases spot with
    | none => rfl
    | some q => simp [Addr.add, World.cell?] at hc0; split at hc0 <;> simp at hc0
   subst hspot;refine ⟨b, off, rfl, cell_lt (p := ⟨b, off, none⟩) (by simpa [Addr.add] using hc0), fun i hi => ?_⟩;simp only [List.length_map, List.length_take] at hi;have hc := hcell i (by omega);have e1 : (⟨b, off, none⟩ : Addr).add i = ⟨b, off + i, none⟩ := by unfold Addr.add; split <;> simp_all
   rw [e1] at hc;rw [hc];simp only [List.getElem_map, List.getElem_take];have hi2 : i < zs.length := by omega
   have e2 : zs.getD i 0 = zs[i] := by simp [List.getD, hi2]
   rw [e2];have := hb zs[i] (List.getElem_mem hi2)
   congr 2
   omega
end
theorem cellsR : Tryz.prog.cellsOf 30 = 4 := by kernel_rfl
theorem cellsB : Tryz.prog.cellsOf 4 = 1 := by kernel_rfl
theorem cellsS : Tryz.prog.cellsOf 26 = 1 := by kernel_rfl
section
variable {H : Type} {enc : TypeId × Value -> H} {W : World} {base : Nat} {held : Bool}
theorem open_intc {m : Nat} {c0 c1 : Value} {y : DataW H × List MemPlace} (h : DataW.trod enc Tryz.prog W base (fun _ => true) held m 28 [c0, c1] = some y) :
  ∃ s A n c xs, c0 = .bool s /\ c1 = .slice A n c /\ RI W A n c xs := by
 obtain ⟨y0, y1, k, _, _, h0, h1⟩ := trod_struct2 Tryz.underlying28 h;rw [cellsB] at h0;rw [cellsS] at h1;simp only [List.drop_zero, List.drop_succ_cons, List.take_succ_cons, List.take_zero] at h0 h1;obtain ⟨s, e0, _⟩ := DataW.trod_bool Tryz.underlying4 h0
 injection e0 with e0 _
 obtain ⟨A, n, c, xs, rfl, g1, g2, g3, g4⟩ := open_words h1;exact ⟨s, A, n, c, xs, e0, rfl, g1, g2, g3, g4⟩
set_option maxRecDepth 100000 in
theorem open_ratc {m : Nat} {c0 c1 c2 c3 : Value} {y : DataW H × List MemPlace} (h : DataW.trod enc Tryz.prog W base (fun _ => true) held m 30 [c0, c1, c2, c3] = some y) :
  ∃ s A n c t B m d xs ys, c0 = .bool s /\ c1 = .slice A n c /\ c2 = .bool t /\ c3 = .slice B m d /\ RI W A n c xs /\ RI W B m d ys := by
 obtain ⟨y0, y1, k, _, _, h0, h1⟩ := trod_struct2 Tryz.underlying30 h;rw [Tryz.cellsI] at h0 h1;simp only [List.drop_zero, List.drop_succ_cons, List.take_succ_cons, List.take_zero] at h0 h1;obtain ⟨s, A, n, c, xs, rfl, rfl, r1⟩ := open_intc h0;obtain ⟨t, B, m, d, ys, rfl, rfl, r2⟩ := open_intc h1;exact ⟨s, A, n, c, t, B, m, d, xs, ys, rfl, rfl, rfl, rfl, r1, r2⟩
set_option maxRecDepth 100000 in
theorem open_ratsc {fuel : Nat} {v : Value} {y : DataW H × List MemPlace} (hf : DataW.trod enc Tryz.prog W base (fun _ => true) held fuel 23 [v] = some y) :
  ∃ A n c rs, v = .slice A n c /\ RawP W A n c rs := by
 rcases Deep.open_slice Tryz.underlying23 hf with ⟨hcs, _⟩ | ⟨a, n, c, m, k, D, Pl, hcs, _, hl, hm, hmm, _, hx⟩
 ·simp only [List.cons.injEq, and_true] at hcs
  subst hcs;exact ⟨none, 0, 0, [], rfl, rfl, Nat.le_refl _, Nat.zero_le _, fun h => absurd rfl h⟩
 ·simp only [List.cons.injEq, and_true] at hcs
  subst hcs;simp only [if_true] at hmm
  have key : ∀ i, i < n -> ∃ r : RawR, RawAt W a.block (a.off + 4 * i) r := by
   intro i hi;obtain ⟨cs', h1, h2⟩ := hx i (by omega);rw [cellsR] at h1;obtain ⟨_, hlen, hc⟩ := World.cells?_some h1
   obtain ⟨c0, c1, c2, c3, rfl⟩ : ∃ c0 c1 c2 c3, cs' = [c0, c1, c2, c3] := by
    rcases cs' with _ | ⟨c0, _ | ⟨c1, _ | ⟨c2, _ | ⟨c3, _ | ⟨c4, l⟩⟩⟩⟩⟩ <;> simp at hlen
    exact ⟨c0, c1, c2, c3, rfl⟩
   obtain ⟨s, A', n', c', t, B', m', d', xs, ys, rfl, rfl, rfl, rfl, r1, r2⟩ := open_ratc h2
   have hs : a.spot = none := by
    cases e : a.spot with
    | none => rfl
    | some q =>
     exfalso
     obtain ⟨cs0, g1, _⟩ := hx 0 (by omega);rw [cellsR] at g1;obtain ⟨_, hlen0, hc0⟩ := World.cells?_some g1;have := hc0 0 (by omega);rw [Nat.zero_mul, Deep.add_add] at this;simp only [Addr.add, Nat.add_zero, if_true] at this;rw [List.getElem?_eq_getElem (by omega)] at this;unfold World.cell? at this;rw [e] at this
     split at this <;> simp at this
   have hadd : ∀ j, j < 4 -> (a.add (i * 4)).add j = ⟨a.block, a.off + 4 * i + j, none⟩ := by
    intro j _;rw [Deep.add_add];unfold Addr.add;obtain ⟨ab, ao, asp⟩ := a;simp only at hs;subst hs
    split
    ·rename_i h0
     have : i * 4 + j = 0 := h0;simp only [Addr.mk.injEq, and_true, true_and];omega
    ·simp only [Addr.mk.injEq, and_true, true_and]
     omega
   have q0 := hc 0 (by omega);have q1 := hc 1 (by omega);have q2 := hc 2 (by omega);have q3 := hc 3 (by omega);rw [hadd _ (by omega)] at q0 q1 q2 q3;exact ⟨⟨s, xs, t, ys⟩, A', n', c', B', m', d', q0, q1, q2, q3, r1, r2⟩
  haveI : Inhabited RawR := ⟨⟨false, [], false, []⟩⟩
  obtain ⟨F, hF⟩ := Deep.choose_lt (n := n) (α := RawR) (p := fun i r => RawAt W a.block (a.off + 4 * i) r) key;refine ⟨some a, n, c, (List.range n).map F, rfl, by simp, hl, hm, fun hne => ?_⟩
  have hpos : 0 < n := by
   rcases Nat.eq_zero_or_pos n with h0 | h0
   ·exact absurd (by rw [h0]; rfl) hne
   ·exact h0
  have hs : a.spot = none := by
   cases e : a.spot with
   | none => rfl
   | some q =>
    exfalso
    obtain ⟨cs0, g1, _⟩ := hx 0 (by omega);rw [cellsR] at g1;obtain ⟨_, hlen0, hc0⟩ := World.cells?_some g1;have := hc0 0 (by omega);rw [Nat.zero_mul, Deep.add_add] at this;simp only [Addr.add, Nat.add_zero, if_true] at this;rw [List.getElem?_eq_getElem (by omega)] at this;unfold World.cell? at this;rw [e] at this
    split at this <;> simp at this
  refine ⟨a.block, a.off, ?_, fun i hi => ?_⟩
  ·obtain ⟨ab, ao, asp⟩ := a
   simp only at hs;subst hs
   rfl
  ·have hi2 : i < n := by simpa using hi
   have := hF i hi2
   simpa using this
theorem open_ratss {fuel : Nat} {v : Value} {y : DataW H × List MemPlace} (hf : DataW.trod enc Tryz.prog W base (fun _ => true) held fuel 22 [v] = some y) :
  ∃ A n c ts, v = .slice A n c /\ RawT W A n c ts := by
 rcases Deep.open_slice1 Tryz.underlying22 (by kernel_rfl) hf with ⟨hcs, _⟩ | ⟨a, n, c, m, k, V, D, Pl, hcs, _, hl, hm, hmm, _, hx⟩
 ·simp only [List.cons.injEq, and_true] at hcs
  subst hcs;exact ⟨none, 0, 0, [], rfl, RawT.none _⟩
 ·simp only [List.cons.injEq, and_true] at hcs
  subst hcs;simp only [if_true] at hmm
  have key : ∀ i, i < n -> ∃ r : List RawR, ∃ A' n' c', W.cell? (a.add i) = some (.slice A' n' c') /\ RawP W A' n' c' r := by
   intro i hi;obtain ⟨h1, h2⟩ := hx i (by omega);obtain ⟨A', n', c', rs, h3, h4⟩ := open_ratsc h2;exact ⟨rs, A', n', c', by rw [h1, h3], h4⟩
  obtain ⟨F, hF⟩ := Deep.choose_lt (n := n) (α := List RawR) (p := fun i r => ∃ A' n' c', W.cell? (a.add i) = some (.slice A' n' c') /\ RawP W A' n' c' r) key;refine ⟨some a, n, c, (List.range n).map F, rfl, by simp, hl, hm, fun hne => ?_⟩
  have hpos : 0 < n := by
   rcases Nat.eq_zero_or_pos n with h0 | h0
   ·exact absurd (by rw [h0]; rfl) hne
   ·exact h0
  have hs : a.spot = none := by
   cases e : a.spot with
   | none => rfl
   | some q =>
    exfalso
    obtain ⟨A', n', c', g1, _⟩ := hF 0 hpos;simp only [Addr.add, if_true] at g1;unfold World.cell? at g1;rw [e] at g1
    split at g1 <;> simp at g1
  have hadd : ∀ i, a.add i = ⟨a.block, a.off + i, none⟩ := by
   intro i;obtain ⟨ab, ao, asp⟩ := a;simp only at hs;subst hs;unfold Addr.add
   split
   ·rename_i h0
    have h0' : i = 0 := h0;simp only [Addr.mk.injEq, and_true, true_and];omega
   ·rfl
  refine ⟨a.block, a.off, ?_, fun i hi => ?_⟩
  ·obtain ⟨ab, ao, asp⟩ := a
   simp only at hs;subst hs
   rfl
  ·have hi2 : i < n := by simpa using hi
   obtain ⟨A', n', c', g1, g2⟩ := hF i hi2;rw [hadd] at g1;exact ⟨A', n', c', g1, by simpa using g2⟩
set_option maxRecDepth 100000 in
theorem open_case {r : Reach} {b0 : Nat} {v : Value} {d : DataW H} {p : List MemPlace} (hv : Value.okWide Tryz.prog W r b0 25 v) (h : DataW.Trod enc Tryz.prog W base (fun _ => true) held 25 v d p) :
  ∃ A n c A1 n1 c1 A2 n2 c2 A3 n3 c3 ts r1 r2 r3, v = .agg #[.slice A n c, .slice A1 n1 c1, .slice A2 n2 c2, .slice A3 n3 c3] /\ RawT W A n c ts /\ RawP W A1 n1 c1 r1 /\ RawP W A2 n2 c2 r2 /\ RawP W A3 n3 c3 r3 := by
 obtain ⟨v0, v1, v2, v3, y0, y1, y2, y3, n, rfl, _, _, h0, h1, h2, h3⟩ := open_agg4 Tryz.underlying25 (by kernel_rfl) (by kernel_rfl) hv h;obtain ⟨A, n, c, ts, rfl, g⟩ := open_ratss h0;obtain ⟨A1, n1, c1, r1, rfl, g1⟩ := open_ratsc h1;obtain ⟨A2, n2, c2, r2, rfl, g2⟩ := open_ratsc h2;obtain ⟨A3, n3, c3, r3, rfl, g3⟩ := open_ratsc h3;exact ⟨A, n, c, A1, n1, c1, A2, n2, c2, A3, n3, c3, ts, r1, r2, r3, rfl, g, g1, g2, g3⟩
end
def laidI : List (String × DataW Unit) := [("math/bits.deBruijn64tab", Rows.laid_math_bits_deBruijn64tab)]
def tabY : List Int := Lib.deBruijn64tab.map fun n : Nat => (n : Int)
theorem tabY_at : ∀ j : Fin 64, tabY.getD j.val 0 = ((Lib.deBruijn64tab.getD j.val 0 : Nat) : Int) := by decide +kernel
theorem laidI_tab : laidI = [("math/bits.deBruijn64tab", Lib.tabData .u8 tabY)] := by kernel_rfl
theorem gTab : Tryz.prog.globalNamed "math/bits.deBruijn64tab" = some 0 := by kernel_rfl
theorem tTab : (Tryz.prog.globals[0]?).map (·.type) = some 159 := by kernel_rfl
theorem tab_of_laid {W : World} (h : laidMet Tryz.prog laidI W) : Tab W := by
 rw [laidI_tab] at h;have hT := Lib.tabIs_of_head gTab tTab Tryz.underlying159 Tryz.underlying5 (by kernel_rfl) (by kernel_rfl) h;intro j hj;have := hT.cell gTab j (by rw [show tabY.length = 64 from by decide +kernel]; exact hj);rw [tabY_at ⟨j, hj⟩] at this;exact this
theorem doorI_met (os : Os) (args : Array Value) : laidMetH Tryz.prog laidI ((World.doorLaid Tryz.prog 400 os).forCall (fun _ _ => 0) ⟨#[], args, []⟩).memory :=
 laidMetH_of_parts3 (fuel := 8) (laidMet_of_run' 8 (by kernel_rfl) (by kernel_rfl)) (by kernel_rfl) (by kernel_rfl)
theorem tab_of_laidH {W : World} (h : laidMetH Tryz.prog laidI W) : Tab W := by
 rw [MakeChecks.laidMetH_plain _ _ _ (by kernel_rfl)] at h;exact tab_of_laid h
set_option maxRecDepth 100000
theorem conj6_lifted (os : Os) (started : os.Started) (H : Type) (enc : TypeId × Value -> H) :
  ReturnsInHanded {} Tryz.checked os 9 .any (fun w args => (Rows.towerConjugateSpec.pre enc Tryz.prog Tryz.f9 [] false w args /\ laidMetH Tryz.prog laidI w) /\ sizedMet enc Tryz.prog Tryz.f9 (OpenSpec.ofChange Rows.towerConjugateSpec) false w args)
   (Rows.towerConjugateSpec.post enc Tryz.prog Tryz.f9 false true false false) := by
 refine returnsInHanded_of_change_and (C := Tryz.checked) (X := fun w _ => laidMetH Tryz.prog laidI w) (fun _ _ _ hh h => h.of_heap hh) Tryz.own started (by kernel_rfl) Tryz.func9
  (ChangeSpec.witness_shaped (enc := enc) (C := Tryz.checked) (os := os) (X := fun w _ => laidMetH Tryz.prog laidI w) false (World.doorLaid Tryz.prog 400 os) #[Value.agg #[Value.slice none 0 0, Value.slice none 0 0, Value.slice none 0 0, Value.slice none 0 0], .int .i64 0] 8 rfl (World.shaped_of_RefB (by kernel_rfl) (by kernel_rfl)) (by kernel_rfl) (by kernel_rfl) (by kernel_rfl) (doorI_met os _)) ?_
 intro W base args ds gs before hval0 hW _ _ hL _;have hval : ∀ (j : Nat) t v, Tryz.f9.params[j]? = some t -> args[j]? = some v -> Value.okWide Tryz.prog W .any base t v := hval0;have hW' := hW;have hlt : ∀ p ∈ before, p.block < W.heap.size := fun p hp => hW.lt p hp
 obtain ⟨p, q, hA0, hV, rfl, _, _⟩ := hW;have hA : DataW.TrodAll enc Tryz.prog W 0 (fun _ => true) true Tryz.f9.params.toList args.toList ds p := hA0;rw [Tryz.params9] at hA hval;obtain ⟨v0, v1, d0, d1, p0, p1, rfl, rfl, rfl, h0, h1⟩ := trodAll_two hA;obtain ⟨rfl, rfl⟩ := trodVars_none hV;simp only [List.append_nil] at hW' hlt;obtain ⟨A, n, c, A1, n1, c1, A2, n2, c2, A3, n3, c3, ts, r1, r2, r3, rfl, hr0, hr1, hr2, hr3⟩ := open_case (hval 0 25 v0 rfl rfl) h0;obtain ⟨z, rfl, _, _, hwf⟩ := open_int Tryz.underlying3 (hval 1 3 v1 rfl rfl) h1;simp [Lit.wf, IntKind.min, IntKind.max, IntKind.bits, IntKind.signed] at hwf;clear hA0 hval0;have hT := tab_of_laidH hL;refine (conj6_any awake6 hT hr0 hr1 hr2 hr3 (by omega) (by omega)).mono fun e W' ⟨he, hext⟩ => ?_
 subst he;have hb : Below W.heap.size W W' := hext;have g0 := Below.trod Tryz.laidOut (by kernel_rfl) (of_decide_eq_true (by kernel_rfl)) h0 hb (fun p hp => hlt p (List.mem_append.2 (.inl hp)));have g1 := Below.trod Tryz.laidOut (by kernel_rfl) (of_decide_eq_true (by kernel_rfl)) h1 hb (fun p hp => hlt p (List.mem_append.2 (.inr hp)));exact ⟨_, rfl, _, _, _, [], (p0 ++ p1), [], hW', trodAll_mk1 (shut_bool Tryz.underlying4 true), trodAll_mk2 g0 g1, rfl, Below.frame hb _, fun h => by cases h⟩
theorem conj6_row_holds : Rows.TowerConjugateSaid :=
 OpenClaim.holds_of_wide 9 Tryz.f9 rfl rfl rfl rfl rfl rfl rfl ⟨rfl, rfl, rfl, rfl, rfl⟩ rfl rfl rfl rfl rfl (by kernel_rfl) Tryz.func9 (by kernel_rfl)
  (of_decide_eq_true (by kernel_rfl)) (by unfold Func.isWrapper; first | (rw [if_neg (of_decide_eq_false (by kernel_rfl))]; exact ⟨rfl, rfl⟩) | (rw [if_pos (by decide +kernel)]; kernel_rfl))
  (fun os started H enc _ => conj6_lifted os started H enc)
theorem conj6_holds : Rows.TowerConjugateCardSaid :=
 Claim7.holds_tied_plain_at .later [] [.data] true Rows.towerConjugateCard.stood.harness false
  conj6_row_holds (fun _ h => by cases h) (by kernel_rfl) (fun _ h => by cases h) towerConjugate_row_tie rfl ⟨rfl, rfl⟩ (by kernel_rfl) rfl
  (fun f fn hf hfn => by
   obtain rfl : f = 9 := Option.some.inj ((show Tryz.prog.funcNamed "setsquare/setsquarelaw06.TowerConjugate" = some 9 by kernel_rfl).symm.trans hf) |>.symm;obtain rfl : fn = Tryz.f9 := (Option.some.inj (Tryz.func9.symm.trans hfn)).symm
   exact ⟨by kernel_rfl, fun j t ht => by
    rw [Tryz.params9] at ht;have hm : t ∈ [25, 3] := by simpa using Array.mem_of_getElem? ht
    have hall : ([25, 3].all fun u => !Tryz.prog.wantsStandIn u) = true := by kernel_rfl
    exact (show Tryz.prog.wantsStandIn t = false by simpa using List.all_eq_true.1 hall t hm)⟩)
  (by kernel_rfl)
end
end Go.Proofs.YtldeolipllejcaaGreatDoor
