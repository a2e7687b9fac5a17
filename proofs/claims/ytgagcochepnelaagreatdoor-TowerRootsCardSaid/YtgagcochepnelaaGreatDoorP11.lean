/- Walks and laws, a part. -/
import Derived.Test.YtgagcochepnelaaGreatDoorP10
import Derived.Test.YtgagcochepnelaaGreatDoorP8
import Derived.Test.YtgagcochepnelaaGreatDoorP7
import Derived.Test.YtgagcochepnelaaGreatDoorP9
import Derived.Test.YtgagcochepnelaaGreatDoorP5
import Derived.Test.YtgagcochepnelaaGreatDoorP0
import Derived.Test.YtgagcochepnelaaGreatDoorP4
import Derived.Maps.AppendAt
set_option linter.unusedSimpArgs false
set_option linter.unusedVariables false
set_option maxHeartbeats 64000000
namespace Go.Proofs.YtgagcochepnelaaGreatDoor
section
open Go.RowKit
def W4 : Nat := 4294967296 ^ 4
def SmQ (q : Rat) : Prop := q.num.natAbs <= W4 /\ q.den <= W4
theorem W4_pos : 0 < W4 := Nat.pow_pos (by omega)
theorem mkRat_sizes (n : Int) (d : Nat) (hd : d ≠ 0) : (mkRat n d).den ∣ d /\ (mkRat n d).num.natAbs <= n.natAbs := by
 obtain ⟨n', d', z', c, h⟩ : ∃ n' d' z' c, mkRat n d = ⟨n', d', z', c⟩ := ⟨_, _, _, _, rfl⟩;obtain ⟨m, h1, h2, h3⟩ := Rat.mkRat_num_den hd h;rw [h];refine ⟨⟨m, h3⟩, ?_⟩
 show n'.natAbs <= n.natAbs
 rw [h2, Int.natAbs_mul];exact Nat.le_mul_of_pos_right _ (by simp only [Int.natAbs_natCast]; omega)
theorem partQ_parts {q : Rat} {f : Int} (hf : 0 < f) : (partQ q f).den ∣ q.den * f.natAbs /\ (partQ q f).num.natAbs <= q.num.natAbs := by
 have h0 : (0 : Int) < ((q.den : Nat) : Int) * f := Int.mul_pos (by have := q.den_pos; omega) hf;have h1 : (((q.den : Nat) : Int) * f).natAbs = q.den * f.natAbs := by rw [Int.natAbs_mul, Int.natAbs_natCast]
 unfold partQ mkQ;rw [if_neg (by omega), h1];exact mkRat_sizes _ _ (by rw [<- h1]; omega)
theorem denP_dvd_of {ps : List Rat} {M : Nat} (h : ∀ q ∈ ps, q.den ∣ M) : denP ps ∣ M := by
 have key : ∀ (ps : List Rat) (d : Nat), d ∣ M -> (∀ q ∈ ps, q.den ∣ M) -> ps.foldl (fun d q => Nat.lcm d q.den) d ∣ M := by
  intro ps
  induction ps with
  | nil => intro d hd _; exact hd
  | cons p ps ih => intro d hd hp; exact ih _ (Nat.lcm_dvd hd (hp p List.mem_cons_self)) (fun q hq => hp q (List.mem_cons_of_mem _ hq))
 exact key ps 1 (Nat.one_dvd M) h
def prodD (qs : List Rat) : Nat := qs.foldr (fun q a => q.den * a) 1
theorem prodD_dvd {qs : List Rat} : ∀ q ∈ qs, q.den ∣ prodD qs := by
 induction qs with
 | nil => intro q hq; cases hq
 | cons p qs ih =>
  intro q hq
  rcases List.mem_cons.1 hq with rfl | hq
  ·exact Nat.dvd_mul_right _ _
  ·exact Nat.dvd_trans (ih q hq) (Nat.dvd_mul_left _ _)
theorem prodD_le {qs : List Rat} (h : ∀ q ∈ qs, SmQ q) : 0 < prodD qs /\ prodD qs <= W4 ^ qs.length := by
 induction qs with
 | nil => exact ⟨Nat.one_pos, Nat.le_refl _⟩
 | cons p qs ih =>
  obtain ⟨h1, h2⟩ := ih (fun q hq => h q (List.mem_cons_of_mem _ hq));refine ⟨Nat.mul_pos p.den_pos h1, ?_⟩;rw [List.length_cons, Nat.pow_succ, Nat.mul_comm (W4 ^ qs.length)];exact Nat.mul_le_mul (h p List.mem_cons_self).2 h2
theorem partL_mem {qs : List Rat} {fs : List Int} {p : Rat} (h : p ∈ partL qs fs) : ∃ q ∈ qs, ∃ f ∈ fs, p = partQ q f := by
 induction qs generalizing fs with
 | nil => cases h
 | cons q qs ih =>
  cases fs with
  | nil => cases h
  | cons f fs =>
   rcases List.mem_cons.1 h with rfl | h
   ·exact ⟨q, List.mem_cons_self, f, List.mem_cons_self, rfl⟩
   ·obtain ⟨q', h1, f', h2, h3⟩ := ih h
    exact ⟨q', List.mem_cons_of_mem _ h1, f', List.mem_cons_of_mem _ h2, h3⟩
def FacD (fs : List Int) (D : Nat) : Prop := ∀ f ∈ fs, 0 < f /\ f.natAbs ∣ D
theorem den_le {qs : List Rat} {fs : List Int} {D : Nat} (hs : ∀ q ∈ qs, SmQ q) (hf : FacD fs D) (hD : 0 < D) : denP (partL qs fs) <= W4 ^ qs.length * D := by
 have h1 : denP (partL qs fs) ∣ prodD qs * D := by
  refine denP_dvd_of fun p hp => ?_
  obtain ⟨q, hq, f, hff, rfl⟩ := partL_mem hp;exact Nat.dvd_trans (partQ_parts (hf f hff).1).1 (Nat.mul_dvd_mul (prodD_dvd q hq) (hf f hff).2)
 have h2 := prodD_le hs;exact Nat.le_trans (Nat.le_of_dvd (Nat.mul_pos h2.1 hD) h1) (Nat.mul_le_mul_right _ h2.2)
theorem nums_le {qs : List Rat} {fs : List Int} {D : Nat} (hs : ∀ q ∈ qs, SmQ q) (hf : FacD fs D) : ∀ z ∈ numsP (partL qs fs), z.natAbs <= W4 * denP (partL qs fs) := by
 intro z hz;obtain ⟨p, hp, rfl⟩ := List.mem_map.1 hz;obtain ⟨q, hq, f, hff, hpq⟩ := partL_mem hp;have h1 : p.num.natAbs <= W4 := by rw [hpq]; exact Nat.le_trans (partQ_parts (hf f hff).1).2 (hs q hq).1
 rw [Int.natAbs_mul];refine Nat.mul_le_mul h1 ?_;have e : ((denP (partL qs fs) : Nat) : Int) / ((p.den : Nat) : Int) = ((denP (partL qs fs) / p.den : Nat) : Int) := by push_cast; rfl
 rw [e, Int.natAbs_natCast];exact Nat.div_le_self _ _
def eF : Nat -> Nat
 | 0 => 0
 | k + 1 => eF k + (2 ^ k + eF k)
theorem ringR_val {ts : List (List Rat)} (ht : TowL ts) (hs : ∀ r ∈ ts, ∀ q ∈ r, SmQ q) : ∀ k, k <= ts.length -> ∃ D, 0 < D /\ D <= W4 ^ eF k /\ FacD (ringR (ts.take k)).2 D := by
 intro k
 induction k with
 | zero =>
  intro _;rw [List.take_zero];refine ⟨1, Nat.one_pos, Nat.le_refl _, fun f hf => ?_⟩;rw [List.mem_singleton.1 hf];exact ⟨by decide, Nat.dvd_refl _⟩
 | succ k ih =>
  intro hk;have hj : k < ts.length := by omega
  obtain ⟨D, h1, h2, h3⟩ := ih (by omega);have hl := ht k hj;have hq : ∀ q ∈ ts[k], SmQ q := hs _ (List.getElem_mem hj);rw [List.take_succ_eq_append_getElem hj, ringR_snoc];generalize ts[k] = r at hl hq;generalize ringR (ts.take k) = G at h3;have hd := den_le hq h3 h1;have hdp := denP_pos (partL r G.2);refine ⟨D * denP (partL r G.2), Nat.mul_pos h1 hdp, ?_, ?_⟩
  ·show _ <= W4 ^ (eF k + (2 ^ k + eF k))
   rw [Nat.pow_add, Nat.pow_add, <- hl];exact Nat.mul_le_mul h2 (Nat.le_trans hd (Nat.mul_le_mul_left _ h2))
  ·intro f hf
   rcases List.mem_append.1 hf with hf | hf
   ·exact ⟨(h3 f hf).1, Nat.dvd_trans (h3 f hf).2 (Nat.dvd_mul_right _ _)⟩
   ·obtain ⟨g, hg, rfl⟩ := List.mem_map.1 hf
    refine ⟨Int.mul_pos (h3 g hg).1 (by omega), ?_⟩;rw [Int.natAbs_mul, Int.natAbs_natCast];exact Nat.mul_dvd_mul_right (h3 g hg).2 _
theorem W4_words {x e : Nat} (h : x <= W4 ^ e) : x < 4294967296 ^ (4 * e + 1) := by
 refine Nat.lt_of_le_of_lt h ?_;unfold W4;rw [<- Nat.pow_mul];exact Nat.pow_lt_pow_right (by decide) (by omega)
theorem split_val {ts : List (List Rat)} (ht : TowL ts) (hs : ∀ r ∈ ts, ∀ q ∈ r, SmQ q) {k : Nat} (hk : k <= ts.length) {qs : List Rat} (hl : qs.length = 2 ^ k) (hq : ∀ q ∈ qs, SmQ q) :
  denP (partL qs (ringR (ts.take k)).2) < 4294967296 ^ (4 * (2 ^ k + eF k) + 1) /\ ∀ z ∈ numsP (partL qs (ringR (ts.take k)).2), z.natAbs < 4294967296 ^ (4 * (1 + (2 ^ k + eF k)) + 1) := by
 obtain ⟨D, h1, h2, h3⟩ := ringR_val ht hs k hk
 have hd : denP (partL qs (ringR (ts.take k)).2) <= W4 ^ (2 ^ k + eF k) := by
  rw [Nat.pow_add, <- hl];exact Nat.le_trans (den_le hq h3 h1) (Nat.mul_le_mul_left _ h2)
 refine ⟨W4_words hd, fun z hz => W4_words ?_⟩;rw [Nat.pow_add, Nat.pow_one];exact Nat.le_trans (nums_le hq h3 z hz) (Nat.mul_le_mul_left _ hd)
end
section
open Go.RowKit
attribute [local go_sem ↓] Go.wp_at_zero Go.wp_at_succ
def eD (k : Nat) : Nat := 2 ^ k + eF k
def fS : Nat -> Nat
 | 0 => 2
 | k + 1 => fS k + (4 * eD k + 1)
theorem fS_step (k : Nat) : fS (k + 1) = fS k + (4 * eD k + 1) := rfl
theorem fS_few : ∀ k, k < 4 -> 2 <= fS k /\ fS k <= 60 /\ 8 * eD k + 6 <= 166 /\ 2 ^ k * (4 + fS k) <= 1000 := by
 intro k hk
 match k, hk with
 | 0, _ => decide
 | 1, _ => decide
 | 2, _ => decide
 | 3, _ => decide
section
variable {w : World} {A : Option Addr} {n c : Nat} {ts : List (List Rat)}
set_option maxRecDepth 100000 in
theorem p_ringOf (h : PolT w A n c ts 4) (ht : TowL ts) (hs : ∀ r ∈ ts, ∀ q ∈ r, SmQ q) (hn : n <= 4) (hT : Tab w) : Calls Tryz.prog 65 #[.slice A n c] w (fun e w' => ∃ Ar cr Af cf, e = .returned (.agg #[.slice Ar n cr, .slice Af (2 ^ n) cf]) /\ ISl w' Ar n cr (ringR ts).1 166 /\ IPol w' Af (2 ^ n) cf (ringR ts).2 (fS n) /\ Ext w w') := by
 have Hlen := Lib.hid h.len;have HSM := Lib.hid hs;clear hs
 go_enter Tryz.func65, Tryz.ntmps65
 go_upto_region 1 with (fail)
 obtain ⟨W0, hW0, ext0, b2, hz0⟩ := box1 w 72 #[.slice Option.none 0 0, .slice Option.none 0 0];rw [<- hW0];clear hW0
 go_wp2_with fail
 refine (p_FromInt 1 (by omega) (by omega)).mono ?_;rintro e W1 ⟨s1, A1, n1, c1, rfl, h1, hx1⟩
 go_upto_region 2 with (fail)
 obtain ⟨W2, hW2, ext2, b9, b3, hz2⟩ := box2 W1 28 72 #[.bool s1, .slice A1 n1 c1] #[.slice Option.none 0 0, .slice (some ⟨W1.heap.size, 0, Option.none⟩) 1 1];rw [<- hW2];clear hW2;have hlo : w.heap.size + 1 <= W1.heap.size := by have := hx1.size; omega
 have S0 : RingS w W2 (W1.heap.size + 1) (.slice Option.none 0 0) (.slice (some ⟨W1.heap.size, 0, Option.none⟩) 1 1) [] [1] 166 (fS 0) := by
  have hrow : IRow W2 W1.heap.size [1] (fS 0) := ⟨_, b9, .cons (h1.ext ext2) .nil⟩;exact ⟨(ext0.trans hx1).trans ext2, (b2.ext hx1).ext ext2, b3, RowO.nil _ _ _ _, hrow.row2 hlo rfl (by omega), by omega⟩
 clear b9 b3 b2 ext0 hx1 hz0 ext2 h1 hlo hz2
 go_wp2_with fail
 go_loopw [13] (fun i wr => ∃ (k : Nat) (vr vf : Value), k <= n /\ i = .int .i64 (k : Int) /\ RingS w wr (W1.heap.size + 1) vr vf (ringR (ts.take k)).1 (ringR (ts.take k)).2 166 (fS k)) (fun i _ => n - (intOf i).toNat)
 case atStart => exact ⟨0, _, _, Nat.zero_le _, rfl, S0⟩
 case round =>
  clear S0;obtain ⟨k, vr, vf, hk, rfl, S⟩ := hrel;obtain ⟨G1, G2, G3, G4, _⟩ := ringR_take ht k (by rw [Hlen.out]; exact hk)
  by_cases hlt : k < n
  ·have hj : k < ts.length := by rw [Hlen.out]; exact hlt
   have hI : (k : Int) < (n : Int) := by omega
   obtain ⟨b, off, rfl, hr⟩ := h.at_ (fun e => by rw [e] at hj; exact absurd hj (Nat.not_lt_zero _));obtain ⟨Aq, nq, cq, e0, hq⟩ := hr k hj;replace e0 := S.ext.cellv e0;replace hq := hq.ext S.ext;have HN := ringR_snoc (ts.take k) ts[k];rw [<- List.take_succ_eq_append_getElem hj] at HN;have HLT := ht k hj;have HSR := HSM.out _ (List.getElem_mem hj);have hlq := hq.len;generalize ts[k] = r at hq HN HLT hlq HSR;obtain ⟨Ar, nr, cr, rfl⟩ := S.hO.shape;obtain ⟨Af, nf, cf, hvf, hfp⟩ := S.hF.pol;subst hvf;have hlf := hfp.len;have hqf : nq = nf := by rw [<- hlq, <- hlf, G2, HLT]
   have hN2 : nf = 2 ^ k := by rw [<- hlf, G2]
   have Hqf := Lib.hid hqf;have HNK := Lib.hid hN2;have hfew := fS_few k (by omega);have HSV := Lib.hid (split_val ht HSM.out (Nat.le_of_lt hj) HLT HSR);rw [<- hN2, <- hqf] at hfew;have HSZ := Lib.hid (fS_step k)
   have hn8 : nq <= 8 := by
    rw [hqf, hN2];exact Nat.le_trans (Nat.pow_le_pow_right (by omega) (show k <= 3 by omega)) (by decide)
   have hn0 : 0 < nq := by
    rw [hqf, hN2];exact Nat.pow_pos (by omega)
   obtain ⟨P, hP⟩ : ∃ P, P = 4 + fS k := ⟨_, rfl⟩;rw [<- hP] at hfew;obtain ⟨E, hE⟩ : ∃ E, E = eD k := ⟨_, rfl⟩;have hE2 : 2 ^ k + eF k = E := hE.symm;have hE1 : 1 <= E := by have := Nat.pow_pos (n := k) (show 0 < 2 by omega); omega
   rw [<- hE] at hfew HSZ;rw [hE2] at HSV;clear hE hE2;have HLR := Lib.hid (show (4 * (1 + E) + 1) + (4 * E + 1) <= 166 by omega);have HL1 := Lib.hid (show (ringR (ts.take k)).1.length <= 1000 by omega);have HL2 := Lib.hid (show (ringR (ts.take k)).2.length <= 1000 by omega);have HG3 := Lib.hid G3;have HG4 := Lib.hid G4;have HHN := Lib.hid HN;clear hN2 G3 G4 HN hlq hlf hqf;have hnf8 : nf <= 8 := by rw [<- Hqf.out]; exact hn8
   have hnf0 : 0 < nf := by rw [<- Hqf.out]; exact hn0
   have x0 := S.b3.cell 0 (.slice Ar nr cr) rfl;have x1 := S.b3.cell 1 (.slice Af nf cf) rfl
   go_wp2_with fail
   refine (p_splitT hq hfp Hqf.out HG3.out hP (by omega) (by omega) hn0 (by omega) HSV.out.1 (by omega) (by omega) (hT.ext S.ext)).mono ?_;rintro e V1 ⟨g6, s7, B7, m7, d7, rfl, hg6, hz, hy, hx1⟩;have hof := S.off hg6;replace hz := hz.tight HSV.out.2;replace hy := hy.tight' (by rw [Int.natAbs_natCast]; exact HSV.out.1);clear HSV
   go_upto_region 6 with (fail)
   obtain ⟨V2, hV2, ex2, b7, hz7⟩ := box1 V1 28 #[.bool s7, .slice B7 m7 d7];rw [<- hV2];clear hV2 hz7 x0 x1 e0 hq;replace hz := hz.ext ex2;replace hy := hy.ext ex2;replace S := S.next (hx1.trans ex2);clear hx1 ex2 hg6;generalize V1.heap.size = g8 at *;refine wpL.st 6 (fun hQ ES => ?_);refine wpL.uB [1,6] 0 23 hQ ES ?_
   try simp only [zP]
   refine wpL.tB [6] 1 24 ?v_1 hQ ?y_1 ES ?_
   case y_1 => intro w' hSw;have k00 := (S.b3.ext hSw).cell 0 _ rfl;have k01 := (S.b3.ext hSw).cell 1 _ rfl;have k10 := (b7.ext hSw).c2;go_simp;try rfl
   try simp only [zP]
   refine wpL.uB [4,5,6] 2 25 hQ ES ?_
   try simp only [zP]
   refine wpL.tB [4,5,6] 3 26 ?v_3 hQ ?y_3 ES ?_
   case y_3 => intro w' hSw;have k00 := (S.b3.ext hSw).cell 0 _ rfl;have k01 := (S.b3.ext hSw).cell 1 _ rfl;have k10 := (b7.ext hSw).c2;go_simp;try rfl
   try simp only [zP]
   refine wpL.cl (i := 4) rfl (fun K hK => ?_);go_simp
   (go_at_call 73; refine (p_multipleN (hz.ext ES) (hy.ext ES) (by omega) (by omega) (by omega) (by omega)).mono ?_; rintro e wa ⟨A5, c5, rfl, h5, hf5, hx0⟩; have E4 := Ext.trans ES hx0)
   refine hK.out _ _ E4 ?_;clear hK K
   try simp only [zP]
   refine wpL.cl (i := 5) rfl (fun K hK => ?_);go_simp;obtain ⟨wb, hwb, exb, bb, hzb⟩ := box1 wa 70 #[.slice A5 nq c5];rw [<- hwb];have E5 := E4.trans exb;refine hK.out _ _ E5 ?_;clear hK K hwb hzb
   try simp only [zP]
   have SB := S.next E5
   have hoA : Off (.slice Af nf cf) A5 := by
    rcases hf5 with rfl | ⟨g, rfl, hg⟩
    ·exact hof
    ·exact S.off hg
   refine wpL.tl (i := 6) rfl (fun K hK => ?_);refine step_append_rowO rfl _ _ rfl rfl rfl SB.hO ((h5.ext exb).leT HLR.out) hoA bb HL1.out (by have := SB.ext.size; have := SB.lo; have := SB.b3.lt; omega) ?_;intro v6 w6 q1 q2;refine hK.out _ _ ?_
   try simp only [List.getElem_toArray, List.getElem_cons_succ, List.getElem_cons_zero]
   clear hK K
   try simp only [zP]
   have m3 := SB.midR q2;obtain ⟨A6, n6, c6, rfl⟩ := q1.shape;refine wpL.tl (i := 7) rfl (fun K hK => ?_);go_simp;refine hK.out _ _ ?_;clear hK K
   try simp only [zP]
   have z0 := m3.cell 0 _ rfl;have f0 := m3.frozen 0;refine wpL.tl (i := 8) rfl (fun K hK => ?_);go_simp;refine hK.out _ _ ?_;clear hK K
   try simp only [zP]
   refine wpL.done (by kernel_rfl) ?_ _;clear hQ;have SA := SB.addR q2 q1;have b7' := SA.2.2 _ _ (b7.ext E5);have hy' := SA.2.1 _ _ _ _ _ _ (hy.ext E5);have S' := SA.1;clear SA SB S b7 hy z0 f0 m3 q1 q2 E4 E5 exb bb hx0 ES h5 hz hfp hof hoA hf5;refine at_exit (fun U => RingS w U (W1.heap.size + 1) (.slice A6 n6 c6) (.slice Af nf cf) ((ringR (ts.take k)).1 ++ [(numsP (partL r (ringR (ts.take k)).2)).map (· * ((denP (partL r (ringR (ts.take k)).2) : Nat) : Int))]) (ringR (ts.take k)).2 166 (fS k) /\ Box U g8 28 #[.bool s7, .slice B7 m7 d7] /\ NI U ((denP (partL r (ringR (ts.take k)).2) : Nat) : Int) (4 * E + 1) s7 B7 m7 d7) ⟨S', b7', hy'⟩ ?_;clear S' b7' hy';rintro V3 ⟨S, b7, hy⟩;obtain ⟨Af', nf', cf', hvf, hfp⟩ := S.hF.pol
   injection hvf with hv1 hv2 hv3
   subst hv1 hv2 hv3
   go_upto_region 7 with (fail)
   refine wpL.st 6 (fun hQ ES => ?_);refine wpL.uB [1,6] 0 31 hQ ES ?_
   try simp only [zP]
   refine wpL.tB [6] 1 32 ?v_5 hQ ?y_5 ES ?_
   case y_5 => intro w' hSw;have k00 := (S.b3.ext hSw).cell 0 _ rfl;have k01 := (S.b3.ext hSw).cell 1 _ rfl;have k10 := (b7.ext hSw).c2;go_simp;try rfl
   try simp only [zP]
   refine wpL.uB [3,5,6] 2 33 hQ ES ?_
   try simp only [zP]
   refine wpL.tB [5,6] 3 34 ?v_7 hQ ?y_7 ES ?_
   case y_7 => intro w' hSw;have k00 := (S.b3.ext hSw).cell 0 _ rfl;have k01 := (S.b3.ext hSw).cell 1 _ rfl;have k10 := (b7.ext hSw).c2;go_simp;try rfl
   try simp only [zP]
   refine wpL.tB [5,6] 4 35 ?v_8 hQ ?y_8 ES ?_
   case y_8 => intro w' hSw;have k00 := (S.b3.ext hSw).cell 0 _ rfl;have k01 := (S.b3.ext hSw).cell 1 _ rfl;have k10 := (b7.ext hSw).c2;go_simp;try rfl
   try simp only [zP]
   refine wpL.cl (i := 5) rfl (fun K hK => ?_);go_simp
   (go_at_call 73; refine (p_multipleN (hfp.ext ES) (hy.ext ES) (by omega) (by omega) (by omega) (by omega)).mono ?_; rintro e wa ⟨A5, c5, rfl, h5, hf5, hx0⟩; have E4 := Ext.trans ES hx0)
   refine hK.out _ _ E4 ?_;clear hK K
   try simp only [zP]
   have SB := S.next E4;refine wpL.tl (i := 6) rfl (fun K hK => ?_);refine step_append_row2 rfl _ _ rfl rfl rfl (SB.hF.leT (show fS k <= fS (k + 1) by have := HSZ.out; omega)) (h5.leT (by have := HSZ.out; omega)) (by omega) HL2.out (by omega) (by have := SB.ext.size; have := SB.lo; have := SB.b3.lt; omega) ?_;intro v6 w6 q1 q2 q3;refine hK.out _ _ ?_
   try simp only [List.getElem_toArray, List.getElem_cons_succ, List.getElem_cons_zero]
   clear hK K
   try simp only [zP]
   have m3 := SB.midF q2;obtain ⟨A6, n6, c6, rfl⟩ := q1.shape;refine wpL.tl (i := 7) rfl (fun K hK => ?_);go_simp;refine hK.out _ _ ?_;clear hK K
   try simp only [zP]
   have z0 := m3.cell 1 _ rfl;have f0 := m3.frozen 1;refine wpL.tl (i := 8) rfl (fun K hK => ?_);go_simp;refine hK.out _ _ ?_;clear hK K
   try simp only [zP]
   refine wpL.done (by kernel_rfl) ?_ _;clear hQ
   have S' := SB.addF q2 q1 q3 (by
    intro R hR
    rcases List.mem_append.1 hR with hR | hR
    ·exact HG4.out R hR
    ·rw [List.mem_singleton.1 hR]
     intro e;have e2 := congrArg List.length e;rw [List.length_map, numsP_len] at e2;unfold partL at e2;rw [List.length_zipWith, HLT, G2, Nat.min_self] at e2;have := Nat.pow_pos (n := k) (show 0 < 2 by omega);simp at e2)
   clear SB S b7 hy z0 f0 m3 q1 q2 q3 E4 hx0 ES h5 hfp hf5
   go_wp2_with fail
   go_roundw
   case rel => exact ⟨k + 1, _, _, by omega, by go_num, by rw [HHN.out]; exact S'⟩
   case measure => simp [intOf]; omega
  ·have hkn : k = n := by omega
   subst hkn;rw [List.take_of_length_le (Nat.le_of_eq Hlen.out)] at S G1 G2;have hI : (k : Int) <= (k : Int) := Int.le_refl _;obtain ⟨Ar, nr, cr, hvr, hir⟩ := S.hO.isl;subst hvr;obtain ⟨Af, nf, cf, hvf, hfp⟩ := S.hF.pol;subst hvf;have hnr : k = nr := by rw [<- hir.len, G1]
   have hnf : nf = 2 ^ k := by rw [<- hfp.len, G2]
   have x0 := S.b3.cell 0 (.slice Ar nr cr) rfl;have x1 := S.b3.cell 1 (.slice Af nf cf) rfl;have z0 := S.b2.cell 0 _ rfl;have z1 := S.b2.cell 1 _ rfl;have f0 := S.b2.frozen 0;have f1 := S.b2.frozen 1;have hv : NSB wr (.slice (some ⟨w.heap.size, 0, Option.none⟩) 2 2) := NSB.box S.b2 (nsw2 ⟨_, _, _, rfl⟩ ⟨_, _, _, rfl⟩);have kc := (grownC wr ⟨w.heap.size, 0, Option.none⟩ (.slice Ar nr cr)).trans (grownC _ ⟨w.heap.size, 1, Option.none⟩ (.slice Af nf cf));have ex := (S.ext.setCell (p := ⟨w.heap.size, 0, Option.none⟩) (Nat.le_refl _) (.slice Ar nr cr)).setCell (p := ⟨w.heap.size, 1, Option.none⟩) (Nat.le_refl _) (.slice Af nf cf);have hb := (S.b2.set 0 (.slice Ar nr cr)).set 1 (.slice Af nf cf);have hO2 := S.hO.ownN hv kc (fun g hg e => S.hO.boxne' S.b2 sl_ne_ring (hg.trans e.symm));have hF2 := S.hF.ownN hv kc (fun g hg e => S.hF.boxne S.b2 int_ne_ring (hg.trans e.symm));obtain ⟨_, _, _, q1, hi2⟩ := hO2.isl
   injection q1 with q1 q2 q3
   subst q1 q2 q3;obtain ⟨_, _, _, q1, hp2⟩ := hF2.pol
   injection q1 with q1 q2 q3
   subst q1 q2 q3;have r0 := hb.cell 0 (.slice Ar nr cr) (by simp);have r1 := hb.cell 1 (.slice Af nf cf) (by simp)
   go_wp2_with fail
   subst hnr;rw [<- hnf];refine bodyPost_ret (v := .agg #[.slice Ar k cr, .slice Af nf cf]) (by simp [results, Tryz.results65, go_sem, r0, r1]) rfl ⟨_, _, _, _, rfl, hi2, hp2, ex⟩
end
section
variable {w w' : World} {q x : Rat} {L M : Nat} {s t : Bool} {A B : Option Addr} {n c m d : Nat} {sx tx : Bool} {Ax Bx : Option Addr} {nx cx mx dx : Nat} {qs ps : List Rat} {rs : List RawR} {ts us : List (List RawR)}
theorem zeroB_nil : zeroB [] = true := rfl
theorem p_heightT {m : Nat} (h : Pol w A n c qs L) (hn : n = 2 ^ m) (hm : m <= 16) (hL : L <= 7000) : Calls Tryz.prog 60 #[.slice A n c] w (fun e w' => ∃ k, k <= m /\ e = .returned (.int .i64 (k : Int)) /\ zeroB (qs.drop (2 ^ k)) = true /\ (∀ j, j < k -> zeroB (qs.drop (2 ^ j)) = false) /\ Ext w w') := by
 have hcap := h.cap;have htop := h.top;have hn0 : 0 < n := by rw [hn]; exact Nat.pow_pos (by omega)
 have hn1 : n <= 65536 := by rw [hn]; exact Nat.le_trans (Nat.pow_le_pow_right (by omega) hm) (by decide)
 obtain ⟨b, off, rfl, _⟩ := h.at_ (fun e => by have := h.len; rw [e] at this; simp at this; omega);have HN := Lib.hid hn;have hnc : (n : Int) <= (c : Int) := by omega
 clear hn
 go_enter Tryz.func60, Tryz.ntmps60
 go_wp2_with fail
 go_loopw [3] (fun i wr => ∃ k : Nat, k <= m /\ i = .int .i64 (k : Int) /\ Ext w wr /\ ∀ j, j < k -> zeroB (qs.drop (2 ^ j)) = false) (fun i _ => m - (intOf i).toNat)
 case atStart => exact ⟨0, Nat.zero_le _, rfl, Ext.refl _, fun j hj => by omega⟩
 case round =>
  obtain ⟨k, hk, rfl, ext, hall⟩ := hrel;have HA := Lib.hid hall;clear hall;obtain ⟨P, hP⟩ : ∃ P, P = 2 ^ k := ⟨_, rfl⟩;have hPn : P <= n := by rw [hP, HN.out]; exact Nat.pow_le_pow_right (by omega) hk
  have HP := Lib.hid hP
  have hW2 : wrap64 ((2 : Int) ^ k) = (P : Int) := by
   rw [hP];have e1 : ((2 : Int) ^ k) = ((2 ^ k : Nat) : Int) := by push_cast; rfl
   rw [e1];unfold wrap64;omega
  have hW3 : IntKind.i64.wrap ((2 : Int) ^ k) = (P : Int) := by rw [<- hW2, IntKind.wrap_i64]; unfold wrap64; omega
  clear hP;have hI1 : (P : Int) <= (n : Int) := by omega
  have hI2 : (P : Int) <= (c : Int) := by omega
  by_cases hcP : c = P
  ·go_wp2_with fail
   rw [show n - P = 0 by omega];refine (p_ZeroT (Pol.nilT wr _ 0 L (Nat.zero_le _)) hL (by omega)).mono ?_;rintro e V ⟨rfl, hx1⟩;rw [zeroB_nil];have hz0 : zeroB (qs.drop P) = true := by rw [List.drop_of_length_le (by rw [h.len]; omega)]; rfl
   have HZ := Lib.hid hz0;clear hz0
   go_wp2_with fail
   go_ret
   exact ⟨k, hk, rfl, by rw [<- HP.out]; exact HZ.out, HA.out, ext.trans hx1⟩
  ·have hcP2 : ¬ c - P = 0 := by omega
   go_wp2_with fail
   refine (p_ZeroT ((h.dropT hPn).ext ext) hL (by omega)).mono ?_;rintro e V ⟨rfl, hx1⟩
   cases hzb : zeroB (qs.drop P) with
   | true =>
    have HZ := Lib.hid hzb;clear hzb
    go_wp2_with fail
    go_ret
    exact ⟨k, hk, rfl, by rw [<- HP.out]; exact HZ.out, HA.out, ext.trans hx1⟩
   | false =>
    have HZ := Lib.hid hzb;clear hzb
    have hkm : k < m := by
     rcases Nat.lt_or_ge k m with q | q
     ·exact q
     ·have e : k = m := by omega
      have hz := HZ.out;rw [HP.out, e, List.drop_of_length_le (by rw [h.len, HN.out]; omega)] at hz
      cases hz
    go_wp2_with fail
    go_roundw
    case rel =>
     refine ⟨k + 1, by omega, by go_num, ext.trans hx1, fun j hj => ?_⟩
     rcases Nat.lt_or_ge j k with q | q
     ·exact HA.out j q
     ·have e : j = k := by omega
      subst e;rw [<- HP.out];exact HZ.out
    case measure => simp [intOf]; omega
end
end
section
open Go.RowKit
section
variable {w w' : World} {base L : Nat} {v : Value} {qs ps : List Rat} {A : Option Addr} {n m c g : Nat}
theorem RRow.row4 (h : RRow w g qs L) (hg : base <= g) (hn : qs.length = n) (hm : n <= 1000000) : Row4 w base (.slice (some ⟨g, 0, Option.none⟩) n n) qs L := by
 obtain ⟨cs, h1, h2⟩ := h;have hl := h2.len;refine ⟨⟨cs, ⟨hl, Or.inr ⟨g, n, cs.toArray, by rw [hn], hg, h1, by omega, by unfold maxLen; omega, by simp [hl, hn], by simp [<- hl]⟩⟩, h2⟩, ?_⟩
 ·intro g' hg'
  injection hg' with hg'
  subst hg';exact ⟨_, _, _, h1, h2.nwl.arr⟩
theorem run_append_rowR {ty : TypeId} (h : Row4 w base v qs L) (hp : Pol w A n c ps L) (h0 : 0 < n) (hl : qs.length <= 1000) (hn : n <= 1000) (hbase : base <= w.heap.size) :
  ∃ v' w', (Builtin.append_ #[23, 23] ty #[v, .slice A n c]).run Tryz.prog w = .ok v' w' /\ Row4 w' base v' (qs ++ ps) L := by
 obtain ⟨i0, hi, hz0, hz1, hz2⟩ := info_partsB Tryz.infoR;obtain ⟨cs, h1, h2⟩ := h.own;have hne : ps ≠ [] := fun e => by have := hp.len; rw [e] at this; simp at this; omega
 obtain ⟨b, off, rfl, hrat⟩ := hp.at_ hne;obtain ⟨ds, k1, k2⟩ := hrat.list;have hdl : ds.length = n * 4 := by rw [k1.len, hp.len]
 rw [<- hz1] at h1
 obtain ⟨v', w', hr, j1, j2, j3, j4⟩ := run_append_nw (P := Tryz.prog) (ty := ty) (c := c) Tryz.underlying23 hi hz0 hz2 (by rw [hz1]; rfl) (by omega) (by
  intro u hu k e;simp [Value.cells] at hu
  rcases hu with rfl | rfl | rfl | rfl <;> cases e) h1 h.nwb (m := n) (by rw [hz1]; exact hdl) (fun j u hj => k2 j u hj) k1.one k1.nwl h0 (by unfold maxLen; omega) (by omega) hbase
 rw [hz1] at j1;refine ⟨v', w', hr, ⟨⟨cs ++ ds, ?_, (h2.own h.nwb j2).append (k1.own h.nwb j2)⟩, j4⟩⟩;rw [List.length_append, hp.len];exact j1
theorem Row4.polR (h : Row4 w base v qs L) (hq : qs ≠ []) (hn : qs.length = n) : ∃ A c, v = .slice A n c /\ Pol w A n c qs L := by
 obtain ⟨cs, h1, h2⟩ := h.own
 rcases h1.2 with ⟨rfl, h0⟩ | ⟨g, cap, cur, rfl, _, _, h3, h4, _⟩
 ·exact absurd (List.length_eq_zero_iff.1 h0) hq
 ·obtain ⟨g', cap', e, h5⟩ := h.shape hq
  injection e with e1 e2 e3
  injection e1 with e1
  injection e1 with e1
  subst e1 e3;rw [hn] at h3 ⊢;exact ⟨_, _, rfl, hn, h3, h4, fun _ => ⟨_, _, rfl, h5⟩⟩
theorem run_append_ratsF {ty : TypeId} (h : RRow w g qs L) (hn : qs.length = n) (hp : Pol w A m c ps L) (hn0 : 0 < n) (hn1 : n <= 1000) (hm1 : m <= 1000) :
  ∃ A' c' w', (Builtin.append_ #[23, 23] ty #[.slice (some ⟨g, 0, Option.none⟩) n n, .slice A m c]).run Tryz.prog w = .ok (.slice A' (n + m) c') w' /\ Pol w' A' (n + m) c' (qs ++ ps) L /\ Ext w w' := by
 have hrow : Row4 w g (.slice (some ⟨g, 0, Option.none⟩) n n) qs L := h.row4 (Nat.le_refl _) hn (by omega);have hq0 : qs ≠ [] := fun e => by rw [e] at hn; simp at hn; omega
 rcases Nat.eq_zero_or_pos m with h0 | h0
 ·subst h0
  have hps : ps = [] := List.eq_nil_of_length_eq_zero hp.len;subst hps;rw [List.append_nil];refine ⟨_, _, w, ?_, (h.pol hn (by unfold maxLen; omega)), Ext.refl _⟩;obtain ⟨i0, hi, hz0, hz1, hz2⟩ := info_partsB Tryz.infoR
  cases A with
  | none => simp [Builtin.append_, run_underlying Tryz.underlying23, sizeOf, typeInfo, hi, Builtin.lenOf, Builtin.firstCells, storeCells]
  | some ad => simp [Builtin.append_, run_underlying Tryz.underlying23, sizeOf, typeInfo, hi, Builtin.lenOf, Builtin.firstCells, loadCells, loadCellsFrom, storeCells]
 ·obtain ⟨v', w', hr, h2⟩ := run_append_rowR (ty := ty) hrow hp h0 (by omega) hm1 (Nat.le_of_lt h.lt)
  obtain ⟨i0, hi, hz0, hz1, hz2⟩ := info_partsB Tryz.infoR;obtain ⟨cs, b1, b2⟩ := h;have hne : ps ≠ [] := fun e => by have := hp.len; rw [e] at this; simp at this; omega
  obtain ⟨b, off, rfl, hrat⟩ := hp.at_ hne;obtain ⟨ds, k1, k2⟩ := hrat.list;have hdl : ds.length = m * 4 := by rw [k1.len, hp.len]
  have hcl : cs.length = n * 4 := by rw [b2.len, hn]
  have hr2 := run_append_grow (P := Tryz.prog) w 23 ty 30 i0 _ Tryz.underlying23 hi hz0 ⟨g, 0, Option.none⟩ n n cs (by rw [hz1]; exact hcl) (fun j u hj => by rw [addr_addI, Nat.zero_add]; exact b1.cell j u (by simpa using hj)) ⟨b, off, Option.none⟩ m c ds (by rw [hz1]; exact hdl) (fun j u hj => k2 j u hj) (by omega) (by omega) (by rw [hz2]; exact growslice_fits (by omega) (by omega));rw [hr] at hr2
  injection hr2 with e1 e2
  obtain ⟨A', c', e3, h3⟩ := h2.polR (n := n + m) (by intro e; rw [List.append_eq_nil_iff] at e; exact hq0 e.1) (by rw [List.length_append, hn, hp.len]);subst e3;exact ⟨A', c', w', hr, h3, by rw [e2]; exact ((Ext.refl w).drew).alloc _⟩
theorem wpList_append_ratsF {ops : Array Oper} {rest : List Oper} {o : Oper} {a : Act} {Q : Exit -> Act -> World -> Prop} (hgd : o.guard = Option.none) (x y : Operand)
  (ho : o.op = .call { callee := .builtin .append, args := #[x, y], argTypes := #[23, 23] })
  (hx : a.eval x = .slice (some ⟨g, 0, Option.none⟩) n n) (hy : a.eval y = .slice A m c)
  (h : RRow w g qs L) (hn : qs.length = n) (hp : Pol w A m c ps L) (hn0 : 0 < n) (hn1 : n <= 1000) (hm1 : m <= 1000)
  (hK : ∀ A' c' w', Pol w' A' (n + m) c' (qs ++ ps) L -> Ext w w' -> wpList Tryz.prog ops Q rest (a.put o.dst (.slice A' (n + m) c')) w') :
  wpList Tryz.prog ops Q (o :: rest) a w := by
 refine wpList_plain hgd fun K hKK => ?_
 obtain ⟨A', c', w', hr, h2, h3⟩ := run_append_ratsF (ty := o.type) h hn hp hn0 hn1 hm1;unfold Oper.wp execOp;simp only [ho, resolve, invoke, builtin, Sem.run_bind, Sem.run_pure, Result.andThen_ok, List.map_toArray, List.map_cons, List.map_nil, hx, hy, hr];exact hKK _ _ (hK A' c' w' h2 h3)
theorem p_liftT {N : Nat} (h : RRow w g qs L) (hn : qs.length = n) (hn0 : 0 < n) (hnN : n <= N) (hN : N <= 1000) (hL : 2 <= L) : Calls Tryz.prog 67 #[.slice (some ⟨g, 0, Option.none⟩) n n, .int .i64 (N : Int)] w (fun e w' => ∃ A c, e = .returned (.slice A N c) /\ Pol w' A N c (qs ++ List.replicate (N - n) 0) L /\ Ext w w') := by
 have e1 : IntKind.i64.wrap ((N : Int) - (n : Int)) = ((N - n : Nat) : Int) := by rw [IntWalk.i64_in _ (by omega)]; omega
 go_enter Tryz.func67, Tryz.ntmps67
 go_wp2_with fail
 refine (p_zerosT (N - n) (by omega)).mono ?_;rintro e V ⟨rfl, hF, hx⟩;have hz := (hF.pol (by simp) (by unfold maxLen; omega)).le hL
 go_wp2_with (at_builtin; refine wpList_append_ratsF rfl _ _ rfl rfl rfl (h.ext hx) hn hz hn0 (by omega) (by omega) ?_; intro A' c' w' k1 k2)
 go_ret
 try rw [show n + (N - n) = N by omega] at k1
 exact ⟨_, _, rfl, k1, hx.trans k2⟩
end
end
section
open Go.RowKit
attribute [local go_sem ↓] Go.wp_at_zero Go.wp_at_succ
def fewB4 (ts ls : List (List RawR)) : Bool := decide (ts.length <= 4) && fewL (ts ++ ls)
section
variable {w w' : World} {v : Value} {r : RawR} {rs : List RawR} {ts us : List (List RawR)} {A : Option Addr} {n c b o base : Nat} {cs ds : List Value}
theorem RawP.own (h : RawP w A n c rs) (hv : NSB w v) (k : w.grownBy w' v.ownBlock) : RawP w' A n c rs := by
 refine ⟨h.len, h.cap, h.top, fun hq => ?_⟩;obtain ⟨b, off, h1, h2⟩ := h.at_ hq;refine ⟨b, off, h1, fun i hi => ?_⟩;obtain ⟨A', n', c', B', m', d', e0, e1, e2, e3, r1, r2⟩ := h2 i hi
 have hne : v.ownBlock ≠ some b := by
  intro hb;obtain ⟨cur, e, fz, hg, hn⟩ := hv b hb;rw [cell_of_row w b _ _ _ _ hg] at e0;obtain ⟨A, n, c, h3⟩ := hn _ (Array.mem_toList_iff.2 (Array.mem_of_getElem? e0))
  cases h3
 have hc : ∀ o u, w.cell? ⟨b, o, Option.none⟩ = some u -> w'.cell? ⟨b, o, Option.none⟩ = some u := fun o u hu => by
  have hlt := cell_lt hu;rw [World.cell?_of_block (k.block b hlt (fun e => hne e.symm)), hu]
 exact ⟨A', n', c', B', m', d', hc _ _ e0, hc _ _ e1, hc _ _ e2, hc _ _ e3, ⟨r1.len, r1.rd.own hv.nwb k, r1.cap, r1.top⟩, ⟨r2.len, r2.rd.own hv.nwb k, r2.cap, r2.top⟩⟩
inductive WCells (w : World) : List (List RawR) -> List Value -> Prop
 | nil : WCells w [] []
 | cons {rs : List RawR} {ts : List (List RawR)} {A : Option Addr} {n c : Nat} {cs : List Value} : RawP w A n c rs -> WCells w ts cs -> WCells w (rs :: ts) (.slice A n c :: cs)
theorem WCells.own (h : WCells w ts cs) (hv : NSB w v) (k : w.grownBy w' v.ownBlock) : WCells w' ts cs := by
 induction h with
 | nil => exact .nil
 | cons h _ ih => exact .cons (h.own hv k) ih
theorem WCells.ext (h : WCells w ts cs) (e : Ext w w') : WCells w' ts cs := by
 induction h with
 | nil => exact .nil
 | cons h _ ih => exact .cons (h.ext e) ih
theorem WCells.append (h : WCells w ts cs) (k : WCells w us ds) : WCells w (ts ++ us) (cs ++ ds) := by
 induction h with
 | nil => exact k
 | cons h _ ih => exact .cons h ih
theorem WCells.len (h : WCells w ts cs) : cs.length = ts.length := by
 induction h with
 | nil => rfl
 | cons h _ ih => rw [List.length_cons, List.length_cons, ih]
theorem WCells.nsl (h : WCells w ts cs) : NSL cs := by
 induction h with
 | nil => intro u hu; cases hu
 | cons h _ ih =>
  intro u hu
  rcases List.mem_cons.1 hu with rfl | hu
  ·exact ⟨_, _, _, rfl⟩
  ·exact ih u hu
theorem WCells.get (h : WCells w ts cs) : ∀ i (hi : i < ts.length), ∃ A n c, cs[i]? = some (.slice A n c) /\ RawP w A n c ts[i] := by
 induction h with
 | nil => intro i hi; cases hi
 | cons h _ ih =>
  intro i hi
  cases i with
  | zero => exact ⟨_, _, _, rfl, h⟩
  | succ i =>
   obtain ⟨A, n, c, h1, h2⟩ := ih i (by simpa using hi);exact ⟨A, n, c, by simpa using h1, by simpa using h2⟩
theorem RawT.list {b o : Nat} : ∀ (ts : List (List RawR)) (o : Nat), (∀ i (h : i < ts.length), ∃ A' n' c', w.cell? ⟨b, o + i, Option.none⟩ = some (.slice A' n' c') /\ RawP w A' n' c' ts[i]) -> ∃ cs, WCells w ts cs /\ ∀ j u, cs[j]? = some u -> w.cell? ⟨b, o + j, Option.none⟩ = some u
 | [], o, _ => ⟨[], .nil, fun j u hj => by simp at hj⟩
 | rs :: ts, o, h => by
  obtain ⟨A', n', c', h1, h2⟩ := h 0 (by simp)
  obtain ⟨cs, h3, h4⟩ := RawT.list (b := b) (o := o) ts (o + 1) (fun i hi => by
   obtain ⟨A, n, c, k1, k2⟩ := h (i + 1) (by simp; omega);exact ⟨A, n, c, by rw [<- k1]; congr 2; omega, by simpa using k2⟩)
  refine ⟨.slice A' n' c' :: cs, .cons (by simpa using h2) h3, fun j u hj => ?_⟩
  cases j with
  | zero => simp only [List.getElem?_cons_zero, Option.some.injEq] at hj; subst hj; exact h1
  | succ j =>
   rw [List.getElem?_cons_succ] at hj;rw [show o + (j + 1) = o + 1 + j by omega];exact h4 j u hj
structure RowW (w : World) (base : Nat) (v : Value) (ts : List (List RawR)) : Prop where
 own : ∃ cs, w.ownsRow base 23 1 v ts.length cs /\ WCells w ts cs
 nsb : NSB w v
theorem RowW.ext (h : RowW w base v ts) (e : Ext w w') : RowW w' base v ts := by
 obtain ⟨cs, h1, h2⟩ := h.own;exact ⟨⟨cs, owns_ext h1 e, h2.ext e⟩, h.nsb.ext e⟩
theorem RowW.block (h : RowW w base v ts) : ∀ k, v.ownBlock = some k -> base <= k /\ k < w.heap.size := by
 intro k hk;obtain ⟨cs, h1, _⟩ := h.own;refine ⟨owns_block h1 k hk, ?_⟩;obtain ⟨cur, e', fz, h2, _⟩ := h.nsb k hk
 rcases Nat.lt_or_ge k w.heap.size with j | j
 ·exact j
 ·rw [Array.getElem?_eq_none j] at h2; cases h2
theorem RowW.empty {g : Nat} (hb : Box w g 23 #[]) (hg : base <= g) : RowW w base (.slice (some ⟨g, 0, Option.none⟩) 0 0) [] :=
 ⟨⟨[], ⟨rfl, Or.inr ⟨g, 0, #[], rfl, hg, hb, Nat.le_refl _, Nat.zero_le _, rfl, rfl⟩⟩, .nil⟩, fun g' hg' => by
  injection hg' with hg'
  subst hg';exact ⟨_, _, _, hb, fun u hu => by cases hu⟩⟩
theorem RowW.rawT (h : RowW w base v ts) : ∃ A n c, v = .slice A n c /\ RawT w A n c ts := by
 obtain ⟨cs, h1, h2⟩ := h.own
 rcases h1.2 with ⟨rfl, h0⟩ | ⟨g, cap, cur, rfl, hbg, hg, hnc, hcm, hcs, htk⟩
 ·have hz : ts = [] := List.length_eq_zero_iff.1 h0
  subst hz;exact ⟨_, _, _, rfl, RawT.none _⟩
 ·refine ⟨_, _, _, rfl, rfl, hnc, hcm, fun _ => ⟨g, 0, rfl, fun i hi => ?_⟩⟩
  obtain ⟨A, n, c, e0, e1⟩ := h2.get i hi;refine ⟨A, n, c, ?_, e1⟩;rw [Nat.zero_add, cell_of_row w g _ _ _ _ hg];rw [<- htk] at e0;rw [List.getElem?_take] at e0
  split at e0
  ·simpa using e0
  ·cases e0
theorem Tryz.infoSr : (Tryz.prog.info? 23).map (fun i => (i.zero, i.size, i.bytes)) = some (some (.slice Option.none 0 0), 1, 24) := by kernel_rfl
theorem run_append_raws {ty : TypeId} (h : RowW w base v ts) (hp : RawT w A n c us) (hl : ts.length <= 1000) (hn : n <= 1000) (hbase : base <= w.heap.size) :
  ∃ v' w', (Builtin.append_ #[22, 22] ty #[v, .slice A n c]).run Tryz.prog w = .ok v' w' /\ RowW w' base v' (ts ++ us) /\ w.grownBy w' v.ownBlock := by
 obtain ⟨i0, hi, hz0, hz1, hz2⟩ := info_partsB Tryz.infoSr;obtain ⟨cs, h1, h2⟩ := h.own
 rcases Nat.eq_zero_or_pos n with h0 | h0
 ·subst h0
  have hus : us = [] := List.eq_nil_of_length_eq_zero hp.len;subst hus;refine ⟨v, w, ?_, by rw [List.append_nil]; exact h, World.grownBy.refl w _⟩
  rcases h1.2 with ⟨rfl, h0⟩ | ⟨g, cap, cur, rfl, hbg, hg, hnc, hcm, hcs, htake⟩
  ·cases A with
   | none => simp [Builtin.append_, run_underlying Tryz.underlying22, sizeOf, typeInfo, hi, Builtin.lenOf, Builtin.firstCells]
   | some ad => simp [Builtin.append_, run_underlying Tryz.underlying22, sizeOf, typeInfo, hi, Builtin.lenOf, Builtin.firstCells, loadCells, loadCellsFrom]
  ·cases A with
   | none => simp [Builtin.append_, run_underlying Tryz.underlying22, sizeOf, typeInfo, hi, Builtin.lenOf, Builtin.firstCells, storeCells, hnc]
   | some ad => simp [Builtin.append_, run_underlying Tryz.underlying22, sizeOf, typeInfo, hi, Builtin.lenOf, Builtin.firstCells, loadCells, loadCellsFrom, storeCells, hnc]
 ·have hne : us ≠ [] := fun e => by have := hp.len; rw [e] at this; simp at this; omega
  obtain ⟨b, off, rfl, hr⟩ := hp.at_ hne;obtain ⟨ds, k1, k2'⟩ := RawT.list (b := b) (o := off) us off hr;have k2 : ∀ j u, ds[j]? = some u -> w.cell? ((⟨b, off, Option.none⟩ : Addr).add j) = some u := fun j u hj => by rw [addr_addI]; exact k2' j u hj
  have hdl : ds.length = n * 1 := by rw [k1.len, hp.len, Nat.mul_one]
  rw [<- hz1] at h1
  obtain ⟨v', w', hr, j1, j2, j3, j4⟩ := run_append_sl (P := Tryz.prog) (ty := ty) (c := c) Tryz.underlying22 hi hz0 hz2 (by rw [hz1]; rfl) (by omega) (by
   intro u hu;simp [Value.cells] at hu;subst hu;exact ⟨_, _, _, rfl⟩) h1 h.nsb (m := n) (by rw [hz1]; exact hdl) (fun j u hj => k2 j u hj) (fun u hu => by obtain ⟨A, n, c, rfl⟩ := k1.nsl u hu; rfl) k1.nsl h0 (by unfold maxLen; omega) (by omega) hbase
  rw [hz1] at j1;refine ⟨v', w', hr, ⟨⟨cs ++ ds, ?_, (h2.own h.nsb j2).append (k1.own h.nsb j2)⟩, j4⟩, j2⟩;rw [List.length_append, hp.len];exact j1
theorem wpList_append_raws {w0 : World} {ops : Array Oper} {rest : List Oper} {o : Oper} {a : Act} {Q : Exit -> Act -> World -> Prop} (hgd : o.guard = Option.none) (x y : Operand)
  (ho : o.op = .call { callee := .builtin .append, args := #[x, y], argTypes := #[22, 22] })
  (hx : a.eval x = v) (hy : a.eval y = .slice A n c)
  (h : RowW w base v ts) (hp : RawT w A n c us) (hl : ts.length <= 1000) (hn : n <= 1000) (hbase : base <= w.heap.size) (he : Ext w0 w) (hb0 : w0.heap.size <= base)
  (hK : ∀ v' w', RowW w' base v' (ts ++ us) -> w.grownBy w' v.ownBlock -> Ext w0 w' -> wpList Tryz.prog ops Q rest (a.put o.dst v') w') :
  wpList Tryz.prog ops Q (o :: rest) a w := by
 refine wpList_plain hgd fun K hKK => ?_
 obtain ⟨v', w', hr, h2, h3⟩ := run_append_raws (ty := o.type) h hp hl hn hbase;have h4 : Ext w0 w' := Below.grown he h3 he.size (fun k hk => Nat.le_trans hb0 (h.block k hk).1);unfold Oper.wp execOp;simp only [ho, resolve, invoke, builtin, Sem.run_bind, Sem.run_pure, Result.andThen_ok, List.map_toArray, List.map_cons, List.map_nil, hx, hy, hr];exact hKK _ _ (hK v' w' h2 h3 h4)
end
end
section
open Go.RowKit
def AbsL (a : List Int) (x : Nat) : Prop := ∀ z ∈ a, z.natAbs <= x
theorem AbsL.le {a : List Int} {x y : Nat} (h : AbsL a x) (hxy : x <= y) : AbsL a y := fun z hz => Nat.le_trans (h z hz) hxy
theorem AbsL.take {a : List Int} {x : Nat} (h : AbsL a x) (n : Nat) : AbsL (a.take n) x := fun z hz => h z (List.mem_of_mem_take hz)
theorem AbsL.drop {a : List Int} {x : Nat} (h : AbsL a x) (n : Nat) : AbsL (a.drop n) x := fun z hz => h z (List.mem_of_mem_drop hz)
theorem AbsL.append {a b : List Int} {x : Nat} (h : AbsL a x) (k : AbsL b x) : AbsL (a ++ b) x := fun z hz => (List.mem_append.1 hz).elim (h z) (k z)
theorem zipWith_abs (f : Int -> Int -> Int) {x y : Nat} (hf : ∀ u v : Int, u.natAbs <= x -> v.natAbs <= y -> (f u v).natAbs <= x + y) : ∀ {a b : List Int}, AbsL a x -> AbsL b y -> AbsL (List.zipWith f a b) (x + y)
 | [], _, _, _ => fun z hz => by cases hz
 | _ :: _, [], _, _ => fun z hz => by cases hz
 | u :: a, v :: b, ha, hb => by
  intro z hz
  rcases List.mem_cons.1 hz with rfl | hz
  ·exact hf u v (ha u List.mem_cons_self) (hb v List.mem_cons_self)
  ·exact zipWith_abs f hf (fun z hz => ha z (List.mem_cons_of_mem _ hz)) (fun z hz => hb z (List.mem_cons_of_mem _ hz)) z hz
theorem addL_abs {a b : List Int} {x y : Nat} (ha : AbsL a x) (hb : AbsL b y) : AbsL (addL a b) (x + y) := zipWith_abs _ (fun u v h k => by have := Int.natAbs_add_le u v; omega) ha hb
theorem subI_abs {a b : List Int} {x y : Nat} (ha : AbsL a x) (hb : AbsL b y) : AbsL (subI a b) (x + y) := zipWith_abs _ (fun u v h k => by have := Int.natAbs_sub_le u v; omega) ha hb
def vV (r : Nat -> Nat) : Nat -> Nat
 | 0 => 1
 | h + 1 => vV r h * (2 + r h * vV r h)
theorem mulL_abs {R : Nat -> List Int} {r : Nat -> Nat} (hR : ∀ i, AbsL (R i) (r i)) : ∀ {h : Nat} {a b : List Int} {x y : Nat}, AbsL a x -> AbsL b y -> AbsL (mulL R h a b) (x * y * vV r h)
 | 0, a, b, x, y, ha, hb => by
  have h0 : ∀ {a : List Int} {x : Nat}, AbsL a x -> (a.headD 0).natAbs <= x := by
   intro a x ha
   cases a with
   | nil => exact Nat.zero_le _
   | cons u a => exact ha u List.mem_cons_self
  intro z hz;rw [mulL, List.mem_singleton] at hz;rw [hz, Int.natAbs_mul, vV, Nat.mul_one];exact Nat.mul_le_mul (h0 ha) (h0 hb)
 | h + 1, a, b, x, y, ha, hb => by
  have h1 := mulL_abs (h := h) hR (ha.take (2 ^ h)) (hb.take (2 ^ h));have h2 := mulL_abs (h := h) hR (ha.drop (2 ^ h)) (hb.drop (2 ^ h));have h3 := mulL_abs (h := h) hR h2 (hR h);have h4 := mulL_abs (h := h) hR (ha.take (2 ^ h)) (hb.drop (2 ^ h));have h5 := mulL_abs (h := h) hR (ha.drop (2 ^ h)) (hb.take (2 ^ h));rw [mulL]
  have e : x * y * vV r (h + 1) = x * y * vV r h + x * y * vV r h + x * y * vV r h * r h * vV r h := by
   rw [vV];generalize vV r h = V;generalize r h = t;generalize x * y = p;rw [Nat.mul_add, Nat.mul_add];rw [show V * 2 = V + V by omega, Nat.mul_add]
   congr 1
   simp only [Nat.mul_left_comm, Nat.mul_comm]
  rw [e];refine AbsL.append ((addL_abs h1 h3).le ?_) ((addL_abs h4 h5).le ?_)
  ·omega
  ·omega
theorem normLI_abs {R : Nat -> List Int} {r : Nat -> Nat} (hR : ∀ i, AbsL (R i) (r i)) {h : Nat} {a : List Int} {x : Nat} (ha : AbsL a x) : AbsL (normLI R h a) (x * x * vV r (h + 1)) := by
 have h1 := mulL_abs (h := h) hR (ha.take (2 ^ h)) (ha.take (2 ^ h));have h2 := mulL_abs (h := h) hR (ha.drop (2 ^ h)) (ha.drop (2 ^ h));have h3 := mulL_abs (h := h) hR h2 (hR h);unfold normLI;refine (subI_abs h1 h3).le ?_
 have e : x * x * vV r (h + 1) = x * x * vV r h + x * x * vV r h + x * x * vV r h * r h * vV r h := by
  rw [vV];generalize vV r h = V;generalize r h = t;generalize x * x = p;rw [Nat.mul_add, Nat.mul_add];rw [show V * 2 = V + V by omega, Nat.mul_add]
  congr 1
  simp only [Nat.mul_left_comm, Nat.mul_comm]
 omega
def rW (k : Nat) : Nat := W4 ^ (1 + 2 * (2 ^ k + eF k))
theorem rad_val {ts : List (List Rat)} (ht : TowL ts) (hs : ∀ r ∈ ts, ∀ q ∈ r, SmQ q) : ∀ k, k <= ts.length -> ∀ i (hi : i < (ringR (ts.take k)).1.length), AbsL (ringR (ts.take k)).1[i] (rW i) := by
 intro k
 induction k with
 | zero => intro _ i hi; cases hi
 | succ k ih =>
  intro hk i hi;have hj : k < ts.length := by omega
  obtain ⟨g1, _⟩ := ringR_take ht k (by omega);obtain ⟨D, h1, h2, h3⟩ := ringR_val ht hs k (by omega);have hl := ht k hj;have hq : ∀ q ∈ ts[k], SmQ q := hs _ (List.getElem_mem hj);have ih := ih (by omega);have e := ringR_snoc (ts.take k) ts[k];rw [<- List.take_succ_eq_append_getElem hj] at e;have e1 := congrArg Prod.fst e;simp only at e1;generalize (ringR (ts.take (k + 1))).1 = X at hi e1;subst e1;clear e;generalize ts[k] = r at hl hq hi;generalize ringR (ts.take k) = G at g1 h3 ih hi
  rcases Nat.lt_or_ge i k with hik | hik
  ·rw [List.getElem_append_left (by omega)]
   exact ih i (by omega)
  ·simp only [List.length_append, List.length_singleton] at hi
   have e : i = k := by omega
   subst e;rw [List.getElem_append_right (by omega)];simp only [g1, Nat.sub_self, List.getElem_cons_zero];intro z hz;obtain ⟨u, hu, rfl⟩ := List.mem_map.1 hz;have hd := den_le hq h3 h1;have hn := nums_le hq h3 u hu
   have hd2 : denP (partL r G.2) <= W4 ^ (2 ^ i + eF i) := by
    rw [Nat.pow_add, <- hl];exact Nat.le_trans hd (Nat.mul_le_mul_left _ h2)
   rw [Int.natAbs_mul, Int.natAbs_natCast];unfold rW;rw [Nat.pow_add, Nat.pow_one, Nat.two_mul, Nat.pow_add, <- Nat.mul_assoc];exact Nat.mul_le_mul (Nat.le_trans hn (Nat.mul_le_mul_left _ hd2)) hd2
theorem radI_val {ts : List (List Rat)} (ht : TowL ts) (hs : ∀ r ∈ ts, ∀ q ∈ r, SmQ q) : ∀ i, AbsL (radI (ringR ts).1 i) (rW i) := by
 intro i;have h := rad_val ht hs ts.length (Nat.le_refl _);rw [List.take_length] at h
 rcases Nat.lt_or_ge i (ringR ts).1.length with hi | hi
 ·rw [radI_at hi]
  exact h i hi
 ·unfold radI
  rw [List.getD_eq_getElem?_getD, List.getElem?_eq_none hi];intro z hz;have : z = 0 := List.eq_of_mem_replicate hz;rw [this];exact Nat.zero_le _
section
variable {K : Type} [Add K] [Mul K] [Neg K] [OfNat K 0] [OfNat K 1] [RingK K]
theorem El.psi_smul (D : Nat -> K) : (h : Nat) -> (k : K) -> (a : El K h) -> El.psi D h (El.smul h k a) = El.smul h k (El.psi D h a)
 | 0, _, _ => rfl
 | h + 1, k, a => by
  simp only [El.psi, El.smul, El.psi_smul D h, El.smul_smul];refine El.ext rfl ?_
  show El.smul h (D h * k) _ = El.smul h (k * D h) _
  rw [RingK.mul_comm]
end
theorem int_ne {z : Int} (h : z ≠ 0) : ((z : Int) : Rat) ≠ 0 := fun e => h (Rat.intCast_inj.1 (e.trans Rat.intCast_zero.symm))
theorem mkQ_quo {z y : Int} (h : y ≠ 0) : mkQ z y = ((z : Int) : Rat) / ((y : Int) : Rat) := by
 unfold mkQ
 split
 ·rename_i hy
  have e : ((-y).natAbs : Int) = -y := by omega
  have hn := int_ne h;rw [Rat.mkRat_eq_div, show (((-y).natAbs : Nat) : Rat) = (((-y).natAbs : Int) : Rat) from by push_cast; rfl, e, Rat.intCast_neg, Rat.intCast_neg]
  grind
 ·rename_i hy
  have e : (y.natAbs : Int) = y := by omega
  rw [Rat.mkRat_eq_div, show ((y.natAbs : Nat) : Rat) = ((y.natAbs : Int) : Rat) from by push_cast; rfl, e]
def castL (a : List Int) : List Rat := a.map fun z : Int => (z : Rat)
theorem castL_len (a : List Int) : (castL a).length = a.length := List.length_map _
theorem castL_take (a : List Int) (n : Nat) : castL (a.take n) = (castL a).take n := by unfold castL; rw [List.map_take]
theorem castL_drop (a : List Int) (n : Nat) : castL (a.drop n) = (castL a).drop n := by unfold castL; rw [List.map_drop]
theorem castL_app (a b : List Int) : castL (a ++ b) = castL a ++ castL b := List.map_append
theorem castL_add : ∀ a b : List Int, castL (addL a b) = addL (castL a) (castL b)
 | [], _ => rfl
 | _ :: _, [] => rfl
 | x :: a, y :: b => by
  have ih := castL_add a b;unfold addL castL at *;simp only [List.zipWith_cons_cons, List.map_cons];rw [ih, Rat.intCast_add]
theorem castL_mul (R : Nat -> List Int) : ∀ (h : Nat) (a b : List Int), castL (mulL R h a b) = mulL (fun i => castL (R i)) h (castL a) (castL b)
 | 0, a, b => by
  have e : ∀ a : List Int, ((a.headD 0 : Int) : Rat) = (castL a).headD 0 := by
   intro a
   cases a with
   | nil => rfl
   | cons x a => rfl
  show [((a.headD 0 * b.headD 0 : Int) : Rat)] = [(castL a).headD 0 * (castL b).headD 0]
  rw [Rat.intCast_mul, e, e]
 | h + 1, a, b => by
  rw [mulL, mulL, castL_app, castL_add, castL_add];simp only [castL_mul R h, castL_take, castL_drop]
def radQ (ts : List (List Rat)) (i : Nat) : List Rat := ts.getD i (List.replicate (2 ^ i) 0)
theorem radQ_len {ts : List (List Rat)} (h : TowL ts) (i : Nat) : (radQ ts i).length = 2 ^ i := by
 unfold radQ
 rcases Nat.lt_or_ge i ts.length with hi | hi
 ·rw [List.getD_eq_getElem?_getD, List.getElem?_eq_getElem hi]
  exact h i hi
 ·rw [List.getD_eq_getElem?_getD, List.getElem?_eq_none hi]
  exact List.length_replicate
theorem radQ_at {ts : List (List Rat)} {i : Nat} (hi : i < ts.length) : radQ ts i = ts[i] := by
 unfold radQ;rw [List.getD_eq_getElem?_getD, List.getElem?_eq_getElem hi]
 rfl
def denK (ts : List (List Rat)) (k : Nat) : Int := ((denP (partL (radQ ts k) (ringR (ts.take k)).2) : Nat) : Int)
theorem fac_ring (ts : List (List Rat)) : ∀ k, k <= ts.length -> castL (ringR (ts.take k)).2 = facL (fun i => ((denK ts i : Int) : Rat)) k := by
 intro k
 induction k with
 | zero => intro _; rw [List.take_zero]; rfl
 | succ k ih =>
  intro hk;have hj : k < ts.length := by omega
  have ih := ih (by omega);rw [List.take_succ_eq_append_getElem hj, ringR_snoc, facL, <- ih];simp only [castL_app]
  congr 1
  unfold castL denK;rw [radQ_at hj, List.map_map, List.map_map]
  congr 1
  funext x
  exact Rat.intCast_mul x _
theorem ring_len (ts : List (List Rat)) : ∀ k, k <= ts.length -> (ringR (ts.take k)).1.length = k := by
 intro k
 induction k with
 | zero => intro _; rw [List.take_zero]; rfl
 | succ k ih =>
  intro hk;rw [List.take_succ_eq_append_getElem (show k < ts.length by omega), ringR_snoc];simp only [List.length_append, ih (by omega), List.length_singleton]
theorem rat_quo (q : Rat) : q = ((q.num : Int) : Rat) / (((q.den : Nat) : Int) : Rat) := by
 rw [Rat.intCast_natCast, <- Rat.mkRat_eq_div, Rat.mkRat_self]
theorem rad_ring (ts : List (List Rat)) : ∀ k, k <= ts.length -> ∀ i, i < k -> radI (ringR (ts.take k)).1 i = (numsP (partL (radQ ts i) (ringR (ts.take i)).2)).map (· * denK ts i) := by
 intro k
 induction k with
 | zero => intro _ i hi; omega
 | succ k ih =>
  intro hk i hi;have hj : k < ts.length := by omega
  have h1 := ring_len ts k (by omega);have ih := ih (by omega);have e := congrArg Prod.fst (ringR_snoc (ts.take k) ts[k]);rw [<- List.take_succ_eq_append_getElem hj] at e;simp only at e;have h2 : (ringR (ts.take (k + 1))).1.length = k + 1 := by rw [e, List.length_append, h1]; rfl
  rw [radI_at (by rw [h2]; exact hi)]
  rcases Nat.lt_or_ge i k with hik | hik
  ·rw [<- ih i hik, radI_at (by rw [h1]; exact hik)]
   simp only [e];rw [List.getElem_append_left (by rw [h1]; exact hik)]
  ·have hie : i = k := by omega
   subst hie;simp only [e];rw [List.getElem_append_right (by rw [h1]; omega)];simp only [h1, Nat.sub_self, List.getElem_cons_zero];unfold denK;rw [radQ_at hj]
theorem part_val {q : Rat} {f : Int} (hf : 0 < f) : partQ q f * (f : Rat) = q := by
 have hd : (0 : Int) < ((q.den : Nat) : Int) := by have := q.den_pos; omega
 have h0 : (0 : Int) < ((q.den : Nat) : Int) * f := Int.mul_pos hd hf
 have key : ∀ N D F x : Rat, D ≠ 0 -> F ≠ 0 -> x = N / D -> N / (D * F) * F = x := by
  intro N D F x h1 h2 h3;subst h3
  grind
 unfold partQ;rw [mkQ_quo (by omega), Rat.intCast_mul];exact key _ _ _ _ (int_ne (by omega)) (int_ne (by omega)) (rat_quo q)
theorem num_val {ps : List Rat} {q : Rat} (h : q ∈ ps) : ((q.num * (((denP ps : Nat) : Int) / ((q.den : Nat) : Int)) : Int) : Rat) = ((denP ps : Int) : Rat) * q := by
 obtain ⟨c, hc⟩ := denP_dvd h;have hd : (0 : Int) < ((q.den : Nat) : Int) := by have := q.den_pos; omega
 have e : ((denP ps : Nat) : Int) / ((q.den : Nat) : Int) = (c : Int) := by
  rw [hc]
  push_cast
  exact Int.mul_ediv_cancel_left _ (by omega)
 have e2 : ((denP ps : Nat) : Int) = ((q.den : Nat) : Int) * (c : Int) := by rw [hc]; push_cast; rfl
 have key : ∀ N D C x : Rat, D ≠ 0 -> x = N / D -> N * C = D * C * x := by
  intro N D C x h1 h3;subst h3
  grind
 rw [e, e2, Rat.intCast_mul, Rat.intCast_mul];exact key _ _ _ _ (int_ne (by omega)) (rat_quo q)
theorem split_mean {qs : List Rat} {fs : List Int} (hl : qs.length = fs.length) (hf : ∀ f ∈ fs, 0 < f) : timesL (castL (numsP (partL qs fs))) (castL fs) = qs.map (((denP (partL qs fs) : Int) : Rat) * ·) := by
 have hpl : (partL qs fs).length = qs.length := by unfold partL; rw [List.length_zipWith, hl, Nat.min_self]
 refine List.ext_getElem ?_ fun i h1 h2 => ?_
 ·unfold timesL
  rw [List.length_zipWith, castL_len, castL_len, numsP_len, hpl, List.length_map, hl, Nat.min_self]
 ·rw [List.length_map] at h2
  have hi : i < (partL qs fs).length := by rw [hpl]; exact h2
  have hif : i < fs.length := by rw [<- hl]; exact h2
  have e0 : (timesL (castL (numsP (partL qs fs))) (castL fs))[i] = (((numsP (partL qs fs))[i]'(by rw [numsP_len]; exact hi) : Int) : Rat) * ((fs[i] : Int) : Rat) := by simp [timesL, castL]
  rw [e0, List.getElem_map, numsP_at _ i (by rw [numsP_len]; exact hi) hi, num_val (List.getElem_mem hi)];have e : (partL qs fs)[i] = partQ qs[i] fs[i] := by simp [partL]
  rw [e, Rat.mul_assoc, part_val (hf _ (List.getElem_mem hif))]
theorem map_toE {h : Nat} {a : List Rat} (ha : a.length = 2 ^ h) (k : Rat) : toE h (a.map (k * ·)) = El.smul h k (toE h a) := toE_map_mul ha k
theorem rad_mean {ts : List (List Rat)} (ht : TowL ts) (i : Nat) (hi : i < ts.length) :
  El.psi (fun i => ((denK ts i : Int) : Rat)) i (toE i (castL (radI (ringR ts).1 i))) = El.smul i (((denK ts i : Int) : Rat) * ((denK ts i : Int) : Rat)) (toE i (radQ ts i)) := by
 have h0 := rad_ring ts ts.length (Nat.le_refl _) i hi;rw [List.take_length] at h0;obtain ⟨_, g2, g3, _, _⟩ := ringR_take ht i (Nat.le_of_lt hi);have hf := fac_ring ts i (Nat.le_of_lt hi);have hl : (radQ ts i).length = (ringR (ts.take i)).2.length := by rw [radQ_len ht, g2]
 have hm := split_mean hl g3
 have hpl : (numsP (partL (radQ ts i) (ringR (ts.take i)).2)).length = 2 ^ i := by
  rw [numsP_len];unfold partL;rw [List.length_zipWith, <- hl, Nat.min_self, radQ_len ht]
 have e1 : castL ((numsP (partL (radQ ts i) (ringR (ts.take i)).2)).map (· * denK ts i)) = (castL (numsP (partL (radQ ts i) (ringR (ts.take i)).2))).map (((denK ts i : Int) : Rat) * ·) := by
  unfold castL;rw [List.map_map, List.map_map]
  congr 1
  funext x
  show ((x * denK ts i : Int) : Rat) = (denK ts i : Rat) * (x : Rat)
  rw [Rat.intCast_mul, Rat.mul_comm]
 rw [h0, e1, map_toE (by rw [castL_len, hpl]), El.psi_smul, <- toE_fac _ (by rw [castL_len, hpl]), <- hf, hm, map_toE (radQ_len ht i), El.smul_smul]
 rfl
theorem join_mean {zs fs : List Int} {y : Int} (hy : y ≠ 0) : List.zipWith (fun z f : Int => mkQ (z * f) y) zs fs = (timesL (castL zs) (castL fs)).map ((((y : Int) : Rat)⁻¹) * ·) := by
 induction zs generalizing fs with
 | nil => rfl
 | cons z zs ih =>
  cases fs with
  | nil => rfl
  | cons f fs =>
   have ih := ih (fs := fs);unfold timesL castL at *;simp only [List.zipWith_cons_cons, List.map_cons];rw [ih, mkQ_quo hy, Rat.intCast_mul, Rat.div_def, Rat.mul_comm]
theorem join_elem {ts : List (List Rat)} (ht : TowL ts) {zs : List Int} {y : Int} (hy : y ≠ 0) (hz : zs.length = 2 ^ ts.length) {os : List Rat} (ho : os.length = 2 ^ ts.length)
  (h : El.psi (fun i => ((denK ts i : Int) : Rat)) ts.length (toE ts.length (castL zs)) = El.smul ts.length ((y : Int) : Rat) (toE ts.length os)) :
  List.zipWith (fun z f : Int => mkQ (z * f) y) zs (ringR ts).2 = os := by
 have hf := fac_ring ts ts.length (Nat.le_refl _);rw [List.take_length] at hf;have hg := (ringR_take ht ts.length (Nat.le_refl _)).2.1;rw [List.take_length] at hg;have hy1 := int_ne hy;rw [join_mean hy];have hl : (timesL (castL zs) (castL (ringR ts).2)).length = 2 ^ ts.length := timesL_len (by rw [castL_len, hz]) (by rw [castL_len, hg]);refine toE_inj (by rw [List.length_map, hl]) ho ?_;rw [map_toE hl, hf, toE_fac _ (by rw [castL_len, hz]), h, El.smul_smul, Rat.inv_mul_cancel _ hy1, El.smul_one]
theorem split_elem {ts : List (List Rat)} (ht : TowL ts) {qs : List Rat} (hq : qs.length = 2 ^ ts.length) :
  El.psi (fun i => ((denK ts i : Int) : Rat)) ts.length (toE ts.length (castL (numsP (partL qs (ringR ts).2)))) = El.smul ts.length ((denP (partL qs (ringR ts).2) : Int) : Rat) (toE ts.length qs) := by
 have hf := fac_ring ts ts.length (Nat.le_refl _);rw [List.take_length] at hf;obtain ⟨_, g2, g3, _, _⟩ := ringR_take ht ts.length (Nat.le_refl _);rw [List.take_length] at g2 g3;have hm := split_mean (qs := qs) (fs := (ringR ts).2) (by rw [hq, g2]) g3
 have hpl : (numsP (partL qs (ringR ts).2)).length = 2 ^ ts.length := by
  rw [numsP_len];unfold partL;rw [List.length_zipWith, hq, g2, Nat.min_self]
 rw [<- toE_fac _ (by rw [castL_len, hpl]), <- hf, hm, map_toE hq]
theorem radI_ring_len {ts : List (List Rat)} (ht : TowL ts) (i : Nat) : (castL (radI (ringR ts).1 i)).length = 2 ^ i := by
 have h := (ringR_take ht ts.length (Nat.le_refl _)).2.2.2.2;rw [List.take_length] at h;rw [castL_len, radI_len h]
theorem mul_psi {ts : List (List Rat)} (ht : TowL ts) {h : Nat} (hh : h <= ts.length) {a b : List Int} (ha : a.length = 2 ^ h) (hb : b.length = 2 ^ h) :
  El.psi (fun i => ((denK ts i : Int) : Rat)) h (toE h (castL (mulL (radI (ringR ts).1) h a b))) = El.mul (fun i => toE i (radQ ts i)) h (El.psi (fun i => ((denK ts i : Int) : Rat)) h (toE h (castL a))) (El.psi (fun i => ((denK ts i : Int) : Rat)) h (toE h (castL b))) := by
 rw [castL_mul, toE_mul (radI_ring_len ht) (by rw [castL_len, ha]) (by rw [castL_len, hb])];exact El.psi_mul _ _ h (fun i hi => rad_mean ht i (by omega)) _ _
theorem mul_mean {ts : List (List Rat)} (ht : TowL ts) {qs ps : List Rat} (hq : qs.length = 2 ^ ts.length) (hp : ps.length = 2 ^ ts.length) :
  List.zipWith (fun z f : Int => mkQ (z * f) (((denP (partL qs (ringR ts).2) : Nat) : Int) * ((denP (partL ps (ringR ts).2) : Nat) : Int))) (mulL (radI (ringR ts).1) ts.length (numsP (partL qs (ringR ts).2)) (numsP (partL ps (ringR ts).2))) (ringR ts).2 = mulL (radQ ts) ts.length qs ps := by
 have g2 := (ringR_take ht ts.length (Nat.le_refl _)).2.1;rw [List.take_length] at g2
 have hn : ∀ qs : List Rat, qs.length = 2 ^ ts.length -> (numsP (partL qs (ringR ts).2)).length = 2 ^ ts.length := by
  intro qs hq;rw [numsP_len];unfold partL;rw [List.length_zipWith, hq, g2, Nat.min_self]
 have d1 := denP_pos (partL qs (ringR ts).2);have d2 := denP_pos (partL ps (ringR ts).2);refine join_elem ht (Int.mul_ne_zero (by omega) (by omega)) mulL_len mulL_len ?_;rw [mul_psi ht (Nat.le_refl _) (hn qs hq) (hn ps hp), split_elem ht hq, split_elem ht hp, El.smul_mul, El.mul_smul, El.smul_smul, toE_mul (radQ_len ht) hq hp, Rat.intCast_mul]
theorem mulL_low {R : Nat -> List Rat} (hR : ∀ i, (R i).length = 2 ^ i) {h : Nat} {a b : List Rat} (ha : a.length = 2 ^ h) (hb : b.length = 2 ^ h) :
  mulL R (h + 1) (a ++ List.replicate (2 ^ h) 0) (b ++ List.replicate (2 ^ h) 0) = mulL R h a b ++ List.replicate (2 ^ h) 0 := by
 have hz : ∀ c : List Rat, c.length = 2 ^ h -> addL c (List.replicate (2 ^ h) 0) = c := by
  intro c hc;refine List.ext_getElem (by rw [addL_len hc List.length_replicate, hc]) fun i h1 h2 => ?_
  simp [addL, Rat.add_zero]
 rw [mulL];rw [<- ha, List.take_left, List.drop_left, ha, <- hb, List.take_left, List.drop_left, hb];rw [mulL_zero_left hR hb, mulL_zero_right hR ha, mulL_zero_left hR List.length_replicate, mulL_zero_left hR (hR h), hz _ mulL_len, hz _ List.length_replicate]
theorem mulL_up {R : Nat -> List Rat} (hR : ∀ i, (R i).length = 2 ^ i) {k : Nat} {a b : List Rat} (ha : a.length = 2 ^ k) (hb : b.length = 2 ^ k) : ∀ j, mulL R (k + j) (a ++ List.replicate (2 ^ (k + j) - 2 ^ k) 0) (b ++ List.replicate (2 ^ (k + j) - 2 ^ k) 0) = mulL R k a b ++ List.replicate (2 ^ (k + j) - 2 ^ k) 0
 | 0 => by simp
 | j + 1 => by
  have hle : 2 ^ k <= 2 ^ (k + j) := Nat.pow_le_pow_right (by omega) (by omega)
  have e : 2 ^ (k + (j + 1)) - 2 ^ k = (2 ^ (k + j) - 2 ^ k) + 2 ^ (k + j) := by
   rw [<- Nat.add_assoc, two_pow_s];omega
  have hl : ∀ c : List Rat, c.length = 2 ^ k -> (c ++ List.replicate (2 ^ (k + j) - 2 ^ k) 0).length = 2 ^ (k + j) := by
   intro c hc;rw [List.length_append, List.length_replicate, hc];omega
  rw [e, <- List.replicate_append_replicate, <- List.append_assoc, <- List.append_assoc, <- List.append_assoc, <- mulL_up hR ha hb j];exact mulL_low hR (hl a ha) (hl b hb)
theorem radQ_take {ts : List (List Rat)} {k i : Nat} (hi : i < k) (hk : k <= ts.length) : radQ (ts.take k) i = radQ ts i := by
 rw [radQ_at (by rw [List.length_take]; omega), radQ_at (by omega), List.getElem_take]
theorem mulL_congr {R S : Nat -> List Rat} : ∀ {h : Nat}, (∀ i, i < h -> R i = S i) -> ∀ a b, mulL R h a b = mulL S h a b
 | 0, _, _, _ => rfl
 | h + 1, e, a, b => by
  rw [mulL, mulL];simp only [mulL_congr (h := h) (fun i hi => e i (by omega)), e h (by omega)]
end
section
open Go.RowKit
attribute [local go_sem ↓] Go.wp_at_zero Go.wp_at_succ
def eV : Nat -> Nat
 | 0 => 0
 | h + 1 => eV h + (1 + 2 * (2 ^ h + eF h) + eV h + 1)
theorem vV_le : ∀ h, vV rW h <= W4 ^ eV h
 | 0 => Nat.le_refl _
 | h + 1 => by
  have ih := vV_le h
  have h1 : rW h * vV rW h <= W4 ^ (1 + 2 * (2 ^ h + eF h) + eV h) := by
   rw [Nat.pow_add];exact Nat.mul_le_mul (Nat.le_refl _) ih
  have h2 : 2 + rW h * vV rW h <= W4 ^ (1 + 2 * (2 ^ h + eF h) + eV h + 1) := by
   rw [Nat.pow_succ];have h3 : 0 < W4 ^ (1 + 2 * (2 ^ h + eF h) + eV h) := Nat.pow_pos W4_pos;generalize W4 ^ (1 + 2 * (2 ^ h + eF h) + eV h) = p at h1 h3;have h4 : p * 3 <= p * W4 := Nat.mul_le_mul_left _ (by decide +kernel);omega
  show vV rW h * (2 + rW h * vV rW h) <= W4 ^ (eV h + (1 + 2 * (2 ^ h + eF h) + eV h + 1))
  rw [Nat.pow_add];exact Nat.mul_le_mul ih h2
theorem W4_abs {a : List Int} {e : Nat} (h : AbsL a (W4 ^ e)) : ∀ z ∈ a, z.natAbs < 4294967296 ^ (4 * e + 1) := fun z hz => W4_words (h z hz)
theorem norm_abs {ts : List (List Rat)} (ht : TowL ts) (hs : ∀ r ∈ ts, ∀ q ∈ r, SmQ q) {h e : Nat} {a : List Int} (ha : AbsL a (W4 ^ e)) : AbsL (normLI (radI (ringR ts).1) h a) (W4 ^ (e + e + eV (h + 1))) := by
 refine (normLI_abs (radI_val ht hs) ha).le ?_;rw [Nat.pow_add, Nat.pow_add];exact Nat.mul_le_mul_left _ (vV_le _)
def BdQ (e d : Nat) (qs : List Rat) : Prop := (∀ q ∈ qs, q.num.natAbs <= W4 ^ e) /\ ∃ M, 0 < M /\ M <= W4 ^ d /\ ∀ q ∈ qs, q.den ∣ M
theorem BdQ.sm {qs : List Rat} {d : Nat} (h : ∀ q ∈ qs, SmQ q) (hd : qs.length <= d) : BdQ 1 d qs :=
 ⟨fun q hq => by rw [Nat.pow_one]; exact (h q hq).1, prodD qs, (prodD_le h).1, Nat.le_trans (prodD_le h).2 (Nat.pow_le_pow_right W4_pos hd), prodD_dvd⟩
theorem BdQ.sub {e d : Nat} {qs ps : List Rat} (h : BdQ e d qs) (hs : ∀ p ∈ ps, p ∈ qs) : BdQ e d ps := by
 obtain ⟨h1, M, h2, h3, h4⟩ := h;exact ⟨fun q hq => h1 q (hs q hq), M, h2, h3, fun q hq => h4 q (hs q hq)⟩
theorem BdQ.take {e d : Nat} {qs : List Rat} (h : BdQ e d qs) (n : Nat) : BdQ e d (qs.take n) := h.sub fun _ hp => List.mem_of_mem_take hp
theorem split_bd {ts : List (List Rat)} (ht : TowL ts) (hs : ∀ r ∈ ts, ∀ q ∈ r, SmQ q) {e d : Nat} {qs : List Rat} (hq : BdQ e d qs) :
  AbsL (numsP (partL qs (ringR ts).2)) (W4 ^ (e + (d + eF ts.length))) /\ denP (partL qs (ringR ts).2) <= W4 ^ (d + eF ts.length) := by
 obtain ⟨D, h1, h2, h3⟩ := ringR_val ht hs ts.length (Nat.le_refl _);rw [List.take_length] at h3;obtain ⟨q1, M, q2, q3, q4⟩ := hq
 have hd : denP (partL qs (ringR ts).2) <= W4 ^ (d + eF ts.length) := by
  have h4 : denP (partL qs (ringR ts).2) ∣ M * D := by
   refine denP_dvd_of fun p hp => ?_
   obtain ⟨q, hq, f, hff, rfl⟩ := partL_mem hp;exact Nat.dvd_trans (partQ_parts (h3 f hff).1).1 (Nat.mul_dvd_mul (q4 q hq) (h3 f hff).2)
  rw [Nat.pow_add];exact Nat.le_trans (Nat.le_of_dvd (Nat.mul_pos q2 h1) h4) (Nat.mul_le_mul q3 h2)
 refine ⟨fun z hz => ?_, hd⟩;obtain ⟨p, hp, rfl⟩ := List.mem_map.1 hz;obtain ⟨q, hq, f, hff, hpq⟩ := partL_mem hp;have h5 : p.num.natAbs <= W4 ^ e := by rw [hpq]; exact Nat.le_trans (partQ_parts (h3 f hff).1).2 (q1 q hq)
 rw [Int.natAbs_mul, Nat.pow_add];refine Nat.mul_le_mul h5 (Nat.le_trans ?_ hd);have e : ((denP (partL qs (ringR ts).2) : Nat) : Int) / ((p.den : Nat) : Int) = ((denP (partL qs (ringR ts).2) / p.den : Nat) : Int) := by push_cast; rfl
 rw [e, Int.natAbs_natCast];exact Nat.div_le_self _ _
theorem mul_abs {ts : List (List Rat)} (ht : TowL ts) (hs : ∀ r ∈ ts, ∀ q ∈ r, SmQ q) {h e e' : Nat} {a b : List Int} (ha : AbsL a (W4 ^ e)) (hb : AbsL b (W4 ^ e')) : AbsL (mulL (radI (ringR ts).1) h a b) (W4 ^ (e + e' + eV h)) := by
 refine (mulL_abs (radI_val ht hs) ha hb).le ?_;rw [Nat.pow_add, Nat.pow_add];exact Nat.mul_le_mul_left _ (vV_le _)
theorem m_few : ∀ k, k < 5 -> eF k <= 32 /\ eV k <= 142 /\ fS k <= 140 /\ 2 <= fS k /\ szP 166 k <= 2600 /\ 2 ^ k * (40 + fS k) <= 2898 /\ 2 ^ k <= 16 := by
 intro k hk
 match k, hk with
 | 0, _ => decide
 | 1, _ => decide
 | 2, _ => decide
 | 3, _ => decide
 | 4, _ => decide
theorem zeroB_repl : ∀ {l : List Rat}, zeroB l = true -> l = List.replicate l.length 0
 | [], _ => rfl
 | q :: l, h => by
  unfold zeroB at h;rw [List.all_cons, Bool.and_eq_true, decide_eq_true_eq] at h;have ih := zeroB_repl (l := l) h.2;rw [List.length_cons, List.replicate_succ, <- ih, h.1]
theorem zeroB_drop {l : List Rat} {a b : Nat} (h : zeroB (l.drop a) = true) (hab : a <= b) : zeroB (l.drop b) = true := by
 unfold zeroB at *;rw [List.all_eq_true] at *;intro q hq;refine h q ?_;rw [show b = a + (b - a) by omega, <- List.drop_drop] at hq;exact List.mem_of_mem_drop hq
theorem low_zero {qs : List Rat} {n k : Nat} (hl : qs.length = 2 ^ n) (hz : zeroB (qs.drop (2 ^ k)) = true) : qs = qs.take (2 ^ k) ++ List.replicate (2 ^ n - 2 ^ k) 0 := by
 have h := zeroB_repl hz;rw [List.length_drop, hl] at h;rw [<- h, List.take_append_drop]
theorem take_TowL {ts : List (List Rat)} (h : TowL ts) (k : Nat) : TowL (ts.take k) := fun i hi => by
 rw [List.length_take] at hi;rw [List.getElem_take];exact h i (by omega)
theorem mul_low {ts : List (List Rat)} (ht : TowL ts) {qs ps : List Rat} {k : Nat} (hk : k <= ts.length) (hq : qs.length = 2 ^ ts.length) (hp : ps.length = 2 ^ ts.length) (zq : zeroB (qs.drop (2 ^ k)) = true) (zp : zeroB (ps.drop (2 ^ k)) = true) :
  mulL (radQ ts) ts.length qs ps = mulL (radQ (ts.take k)) (ts.take k).length (qs.take (2 ^ k)) (ps.take (2 ^ k)) ++ List.replicate (2 ^ ts.length - 2 ^ k) 0 := by
 have hle : 2 ^ k <= 2 ^ ts.length := Nat.pow_le_pow_right (by omega) hk;have e1 := low_zero hq zq;have e2 := low_zero hp zp;have e3 : (ts.take k).length = k := by rw [List.length_take]; omega
 obtain ⟨j, hj⟩ : ∃ j, ts.length = k + j := ⟨ts.length - k, by omega⟩;have lq : (qs.take (2 ^ k)).length = 2 ^ k := by rw [List.length_take, hq]; omega
 have lp : (ps.take (2 ^ k)).length = 2 ^ k := by rw [List.length_take, hp]; omega
 rw [e3, mulL_congr (h := k) (S := radQ ts) (fun i hi => radQ_take hi hk)]
 conv => lhs; rw [e1, e2]
 rw [hj];exact mulL_up (radQ_len ht) lq lp j
theorem toE_const {K : Type} [Add K] [Mul K] [Neg K] [OfNat K 0] [OfNat K 1] [RingK K] (q : K) : ∀ h, toE h (q :: List.replicate (2 ^ h - 1) 0) = El.smul h q (El.one h)
 | 0 => (RingK.mul_one (K := K) q).symm
 | h + 1 => by
  have h1 : 0 < 2 ^ h := Nat.pow_pos (by omega)
  have e : q :: List.replicate (2 ^ (h + 1) - 1) (0 : K) = (q :: List.replicate (2 ^ h - 1) 0) ++ List.replicate (2 ^ h) 0 := by
   rw [List.cons_append, List.replicate_append_replicate, two_pow_s]
   congr 2
   omega
  rw [e, toE_app (by rw [List.length_cons, List.length_replicate]; omega) List.length_replicate, toE_const q h, toE_zero]
  show (El.smul h q (El.one h), El.zero h) = (El.smul h q (El.one h), El.smul h q (El.zero h))
  rw [El.smul_zero]
theorem mul_const {R : Nat -> List Rat} (hR : ∀ i, (R i).length = 2 ^ i) {h : Nat} {qs ps : List Rat} {q : Rat} (hq : (q :: qs).length = 2 ^ h) (hp : ps.length = 2 ^ h) (hz : zeroB qs = true) : mulL R h (q :: qs) ps = ps.map (q * ·) := by
 have e : qs = List.replicate (2 ^ h - 1) 0 := by
  have := zeroB_repl hz;rw [List.length_cons] at hq;rw [this, show qs.length = 2 ^ h - 1 by omega]
 refine toE_inj mulL_len (by rw [List.length_map, hp]) ?_;rw [toE_mul hR hq hp, e, toE_const, El.smul_mul, El.mul_comm, El.mul_one, map_toE hp]
theorem mulL_comm {R : Nat -> List Rat} (hR : ∀ i, (R i).length = 2 ^ i) {h : Nat} {qs ps : List Rat} (hq : qs.length = 2 ^ h) (hp : ps.length = 2 ^ h) : mulL R h qs ps = mulL R h ps qs :=
 toE_inj mulL_len mulL_len (by rw [toE_mul hR hq hp, toE_mul hR hp hq, El.mul_comm])
theorem mul_const' {R : Nat -> List Rat} (hR : ∀ i, (R i).length = 2 ^ i) {h : Nat} {qs ps : List Rat} {p : Rat} (hq : qs.length = 2 ^ h) (hp : (p :: ps).length = 2 ^ h) (hz : zeroB ps = true) : mulL R h qs (p :: ps) = qs.map (· * p) := by
 rw [mulL_comm hR hq hp, mul_const hR hp hq hz];exact List.map_congr_left fun x _ => Rat.mul_comm _ _
theorem mul_all {ts : List (List Rat)} (ht : TowL ts) {n N : Nat} (hTL : ts.length = n) (hN : N <= n) {qs ps : List Rat} (hq : qs.length = 2 ^ n) (hp : ps.length = 2 ^ n) (zq : zeroB (qs.drop (2 ^ N)) = true) (zp : zeroB (ps.drop (2 ^ N)) = true) :
  List.zipWith (fun z f : Int => mkQ (z * f) (((denP (partL (qs.take (2 ^ N)) (ringR (ts.take N)).2) : Nat) : Int) * ((denP (partL (ps.take (2 ^ N)) (ringR (ts.take N)).2) : Nat) : Int))) (mulL (radI (ringR (ts.take N)).1) N (numsP (partL (qs.take (2 ^ N)) (ringR (ts.take N)).2)) (numsP (partL (ps.take (2 ^ N)) (ringR (ts.take N)).2))) (ringR (ts.take N)).2 ++ List.replicate (2 ^ n - 2 ^ N) 0 = mulL (radQ ts) n qs ps := by
 subst hTL;have hle : 2 ^ N <= 2 ^ ts.length := Nat.pow_le_pow_right (by omega) hN;have e3 : (ts.take N).length = N := by rw [List.length_take]; omega
 have h1 := mul_mean (take_TowL ht N) (qs := qs.take (2 ^ N)) (ps := ps.take (2 ^ N)) (by rw [e3, List.length_take, hq]; omega) (by rw [e3, List.length_take, hp]; omega);rw [mul_low ht hN hq hp zq zp, <- h1, e3]
theorem mul_bds {ts : List (List Rat)} (ht : TowL ts) (hs : ∀ r ∈ ts, ∀ q ∈ r, SmQ q) {N u1 v1 u2 v2 : Nat} (hN : N <= ts.length) {qs ps : List Rat} (hq : BdQ u1 v1 qs) (hp : BdQ u2 v2 ps) :
  (∀ z ∈ numsP (partL qs (ringR (ts.take N)).2), z.natAbs < 4294967296 ^ (4 * (u1 + (v1 + eF N)) + 1)) /\ (∀ z ∈ numsP (partL ps (ringR (ts.take N)).2), z.natAbs < 4294967296 ^ (4 * (u2 + (v2 + eF N)) + 1)) /\
  denP (partL qs (ringR (ts.take N)).2) < 4294967296 ^ (4 * (v1 + eF N) + 1) /\ denP (partL ps (ringR (ts.take N)).2) < 4294967296 ^ (4 * (v2 + eF N) + 1) /\
  ∀ z ∈ mulL (radI (ringR (ts.take N)).1) N (numsP (partL qs (ringR (ts.take N)).2)) (numsP (partL ps (ringR (ts.take N)).2)), z.natAbs < 4294967296 ^ (4 * (u1 + (v1 + eF N) + (u2 + (v2 + eF N)) + eV N) + 1) := by
 have e3 : (ts.take N).length = N := by rw [List.length_take]; omega
 have hs' : ∀ r ∈ ts.take N, ∀ q ∈ r, SmQ q := fun r hr => hs r (List.mem_of_mem_take hr)
 obtain ⟨a1, a2⟩ := split_bd (take_TowL ht N) hs' hq;obtain ⟨b1, b2⟩ := split_bd (take_TowL ht N) hs' hp;rw [e3] at a1 a2 b1 b2;exact ⟨W4_abs a1, W4_abs b1, W4_words a2, W4_words b2, W4_abs (mul_abs (take_TowL ht N) hs' a1 b1)⟩
end
section
open Go.RowKit
def invL (R : Nat -> List Int) : Nat -> List Int -> List Int × Int
 | 0, a => ([1], a.headD 0)
 | h + 1, a =>
  if noneB (a.drop (2 ^ h)) = true then ((invL R h (a.take (2 ^ h))).1 ++ List.replicate (2 ^ h) 0, (invL R h (a.take (2 ^ h))).2)
  else if noneB (a.take (2 ^ h)) = true then (List.replicate (2 ^ h) 0 ++ (invL R h (mulL R h (a.drop (2 ^ h)) (R h))).1, (invL R h (mulL R h (a.drop (2 ^ h)) (R h))).2)
  else if gcdL 0 (normLI R h a) = 0 then ([], 0)
  else if (invL R h ((normLI R h a).map (· / ((gcdL 0 (normLI R h a) : Nat) : Int)))).2 = 0 then ([], 0)
  else
   ((mulL R h (a.take (2 ^ h)) (invL R h ((normLI R h a).map (· / ((gcdL 0 (normLI R h a) : Nat) : Int)))).1 ++ mulL R h (subI (List.replicate (2 ^ h) 0) (a.drop (2 ^ h))) (invL R h ((normLI R h a).map (· / ((gcdL 0 (normLI R h a) : Nat) : Int)))).1).map
     (· / ((gcdL ((invL R h ((normLI R h a).map (· / ((gcdL 0 (normLI R h a) : Nat) : Int)))).2 * ((gcdL 0 (normLI R h a) : Nat) : Int)).natAbs (mulL R h (a.take (2 ^ h)) (invL R h ((normLI R h a).map (· / ((gcdL 0 (normLI R h a) : Nat) : Int)))).1 ++ mulL R h (subI (List.replicate (2 ^ h) 0) (a.drop (2 ^ h))) (invL R h ((normLI R h a).map (· / ((gcdL 0 (normLI R h a) : Nat) : Int)))).1) : Nat) : Int)),
    ((invL R h ((normLI R h a).map (· / ((gcdL 0 (normLI R h a) : Nat) : Int)))).2 * ((gcdL 0 (normLI R h a) : Nat) : Int)) /
     ((gcdL ((invL R h ((normLI R h a).map (· / ((gcdL 0 (normLI R h a) : Nat) : Int)))).2 * ((gcdL 0 (normLI R h a) : Nat) : Int)).natAbs (mulL R h (a.take (2 ^ h)) (invL R h ((normLI R h a).map (· / ((gcdL 0 (normLI R h a) : Nat) : Int)))).1 ++ mulL R h (subI (List.replicate (2 ^ h) 0) (a.drop (2 ^ h))) (invL R h ((normLI R h a).map (· / ((gcdL 0 (normLI R h a) : Nat) : Int)))).1) : Nat) : Int))
theorem invL_len (R : Nat -> List Int) : ∀ (h : Nat) (a : List Int), (invL R h a).1.length <= 2 ^ h /\ ((invL R h a).2 ≠ 0 -> (invL R h a).1.length = 2 ^ h)
 | 0, a => ⟨Nat.le_refl _, fun _ => rfl⟩
 | h + 1, a => by
  have e := two_pow_s h;rw [invL]
  split
  ·have ih := invL_len R h (a.take (2 ^ h))
   simp only [List.length_append, List.length_replicate];exact ⟨by omega, fun hp => by have := ih.2 hp; omega⟩
  ·split
   ·have ih := invL_len R h (mulL R h (a.drop (2 ^ h)) (R h))
    simp only [List.length_append, List.length_replicate];exact ⟨by omega, fun hp => by have := ih.2 hp; omega⟩
   ·split
    ·exact ⟨Nat.zero_le _, fun hp => absurd rfl hp⟩
    ·split
     ·exact ⟨Nat.zero_le _, fun hp => absurd rfl hp⟩
     ·simp only [List.length_map, List.length_append, mulL_len]
      omega
def iE : Nat -> Nat -> Nat
 | 0, _ => 0
 | h + 1, e => e + iE h (e + e + eV (h + 1)) + eV h
def iP : Nat -> Nat -> Nat
 | 0, e => e
 | h + 1, e => iP h (e + e + eV (h + 1)) + (e + e + eV (h + 1))
theorem abs_div {x g : Int} : (x / g).natAbs <= x.natAbs := by
 rw [Int.natAbs_ediv]
 split
 ·exact Nat.div_le_self _ _
 ·rename_i h1
  obtain ⟨_, h3⟩ := not_or.1 h1;obtain ⟨hg, h4⟩ := not_or.1 h3
  have h2 : g.natAbs ≠ 1 := by
   intro h3
   apply h4
   rcases Int.natAbs_eq g with h4 | h4
   ·rw [h4, h3]; exact ⟨x, by omega⟩
   ·rw [h4, h3]; exact ⟨-x, by omega⟩
  have h5 : x.natAbs ≠ 0 := by
   intro h6
   apply h4
   rw [Int.natAbs_eq_zero.1 h6];exact Int.dvd_zero _
  have h8 : x.natAbs / g.natAbs < x.natAbs := Nat.div_lt_self (by omega) (by omega);omega
theorem AbsL.divs {a : List Int} {x : Nat} (h : AbsL a x) (g : Int) : AbsL (a.map (· / g)) x := fun z hz => by
 obtain ⟨y, hy, rfl⟩ := List.mem_map.1 hz;exact Nat.le_trans abs_div (h y hy)
theorem AbsL.repl {n x : Nat} : AbsL (List.replicate n 0) x := fun z hz => by
 rw [List.eq_of_mem_replicate hz];exact Nat.zero_le _
theorem gcd_le {g : Nat} {zs : List Int} {x : Nat} (hz : AbsL zs x) (h0 : gcdL g zs ≠ 0) (hne : g ≠ 0 -> g <= x) : gcdL g zs <= x := by
 by_cases hg : g = 0
 ·subst hg
  by_cases ha : ∀ z ∈ zs, z = 0
  ·exfalso
   apply h0
   clear h0 hz hne
   have : ∀ zs : List Int, (∀ z ∈ zs, z = 0) -> gcdL 0 zs = 0 := by
    intro zs
    induction zs with
    | nil => intro _; rfl
    | cons z zs ih =>
     intro h
     show gcdL (Nat.gcd 0 z.natAbs) zs = 0
     rw [h z List.mem_cons_self];exact ih (fun y hy => h y (List.mem_cons_of_mem _ hy))
   exact this zs ha
  ·have ⟨z, h1, h2⟩ : ∃ z ∈ zs, z ≠ 0 := by
    refine Decidable.byContradiction fun hc => ha fun z hz => Decidable.byContradiction fun h => hc ⟨z, hz, h⟩
   have h3 := (gcdL_dvd zs 0).2 z h1;have h4 : gcdL 0 zs ∣ z.natAbs := Int.ofNat_dvd_left.1 h3;exact Nat.le_trans (Nat.le_of_dvd (by omega) h4) (hz z h1)
 ·exact Nat.le_trans (Nat.le_of_dvd (by omega) (gcdL_dvd zs g).1) (hne hg)
theorem invL_bd {ts : List (List Rat)} (ht : TowL ts) (hs : ∀ r ∈ ts, ∀ q ∈ r, SmQ q) : ∀ (h : Nat) {a : List Int} {e : Nat}, a.length = 2 ^ h -> AbsL a (W4 ^ e) ->
  AbsL (invL (radI (ringR ts).1) h a).1 (W4 ^ iE h e) /\ (invL (radI (ringR ts).1) h a).2.natAbs <= W4 ^ iP h e
 | 0, a, e, _, ha => by
  refine ⟨fun z hz => ?_, ?_⟩
  ·rw [invL, List.mem_singleton] at hz
   rw [hz];exact Nat.pow_pos W4_pos
  ·cases a with
   | nil => exact Nat.zero_le _
   | cons x a => exact ha x List.mem_cons_self
 | h + 1, a, e, hl, ha => by
  have lt := take_len hl;have ld := drop_len hl;have h0 := (ha.take (2 ^ h)).le (Nat.pow_le_pow_right W4_pos (show e <= e + e + eV (h + 1) by omega));have h1 := norm_abs ht hs (h := h) ha;have hV : eV (h + 1) = eV h + (1 + 2 * (2 ^ h + eF h) + eV h + 1) := rfl
  have h2 : AbsL (mulL (radI (ringR ts).1) h (a.drop (2 ^ h)) (radI (ringR ts).1 h)) (W4 ^ (e + e + eV (h + 1))) := by
   have := mul_abs ht hs (h := h) (ha.drop (2 ^ h)) (radI_val ht hs h);exact this.le (Nat.pow_le_pow_right W4_pos (by omega))
  have i1 : iE h (e + e + eV (h + 1)) <= iE (h + 1) e := by show _ <= e + iE h (e + e + eV (h + 1)) + eV h; omega
  have i2 : iP h (e + e + eV (h + 1)) <= iP (h + 1) e := by show _ <= iP h (e + e + eV (h + 1)) + (e + e + eV (h + 1)); omega
  rw [invL]
  split
  ·obtain ⟨k1, k2⟩ := invL_bd ht hs h lt h0
   exact ⟨(k1.le (Nat.pow_le_pow_right W4_pos i1)).append AbsL.repl, Nat.le_trans k2 (Nat.pow_le_pow_right W4_pos i2)⟩
  ·split
   ·obtain ⟨k1, k2⟩ := invL_bd ht hs h mulL_len h2
    exact ⟨AbsL.repl.append (k1.le (Nat.pow_le_pow_right W4_pos i1)), Nat.le_trans k2 (Nat.pow_le_pow_right W4_pos i2)⟩
   ·split
    ·exact ⟨fun z hz => (by cases hz), Nat.zero_le _⟩
    ·rename_i hc
     split
     ·exact ⟨fun z hz => (by cases hz), Nat.zero_le _⟩
     ·obtain ⟨k1, k2⟩ := invL_bd ht hs h (a := (normLI (radI (ringR ts).1) h a).map (· / ((gcdL 0 (normLI (radI (ringR ts).1) h a) : Nat) : Int))) (by rw [List.length_map, normLI_len]) (h1.divs _)
      generalize invL (radI (ringR ts).1) h ((normLI (radI (ringR ts).1) h a).map (· / ((gcdL 0 (normLI (radI (ringR ts).1) h a) : Nat) : Int))) = r at k1 k2;have k3 : gcdL 0 (normLI (radI (ringR ts).1) h a) <= W4 ^ (e + e + eV (h + 1)) := gcd_le h1 hc (fun hh => absurd rfl hh);refine ⟨AbsL.divs ?_ _, Nat.le_trans abs_div ?_⟩
      ·refine AbsL.append (mul_abs ht hs (ha.take _) k1) (mul_abs ht hs ?_ k1)
       rw [show W4 ^ e = 0 + W4 ^ e by omega];exact subI_abs AbsL.repl (ha.drop _)
      ·rw [Int.natAbs_mul, Int.natAbs_natCast]
       show _ <= W4 ^ (iP h (e + e + eV (h + 1)) + (e + e + eV (h + 1)))
       rw [Nat.pow_add];exact Nat.mul_le_mul k2 k3
section
variable {P : Program} {ops : Array Oper} {Q : Exit -> Act -> World -> Prop} {md : Region.Mode} {S : World -> Prop} {W0 : World} {N : Nat -> Prop}
def LateN (P : Program) (md : Region.Mode) (ops : Array Oper) (Q : Exit -> Act -> World -> Prop) (W0 : World) (AL : List Al) (N : Nat -> Prop) (n : Nat) (L : Array Bool) (a : Act) (w : World) : Prop :=
 ∀ w', Ext w w' -> Ext W0 w' -> ∀ D, Val W0 AL w' D -> (∀ y ∈ D, N y.2) -> ∀ f, n + AL.length = f + D.length -> wpAnyH P md ops Q (Ext W0) f (marks L D) (lays a D) w'
theorem LateN.take {AL : List Al} {n i : Nat} {oi : Oper} {d : Option Tmp} {v : Value} {L : Array Bool} {a : Act} {w : World} (hi : ops[i]? = some oi) (hd : oi.dst = d) (hs : Region.noSelect ops = true) (hf : Region.free md ops L i = true)
  (hr : (Region.ready md ops L).contains i = true) (hp : sep ops AL i oi = true) (hQ : QStill Q) (hy : YieldsIf P ops (Ext W0) oi v a)
  (h : LateN P md ops Q W0 AL N n (L.setIfInBounds i true) (a.put d v) w) : LateN P md ops Q W0 AL N (n + 1) L a w := by
 subst hd;intro w' e hS D hD hN f hl;have hlen := hD.len;obtain ⟨f, rfl⟩ : ∃ k, f = k + 1 := ⟨f - 1, by omega⟩;have hsep := fun y (hy : y ∈ D) => sep_spec hp (hD.mem y hy)
 refine wpAnyH_first hi (Region.noSelect_spec hs) (fun c a w => (hQ.put c a _ _ w).1) f _ _ w' ?_ (ready_marks D L (by simpa using hr) (fun y hy => (hsep y hy).1)) (yields_lays (fun cs b => Region.noSelect_spec hs i oi cs b hi) D a (fun y hy => (hsep y hy).2.1) hy) hS ?_
 ·intro j oj hj hne hun hno
  exact Region.free_spec hi hf j oj hj hne (marks_un D L j hun).1 hno
 ·have := h w' e hS D hD hN f (by omega)
  rwa [marks_set D L i (fun y hy => (hsep y hy).1), lays_put D a _ _ (fun y hy => (hsep y hy).2.2)] at this
theorem Late.callN {AL : List Al} {n i : Nat} {o : Oper} {L : Array Bool} {a : Act} {w : World} (ho : ops[i]? = some o) (hs : Region.noSelect ops = true) (hal : ∀ x ∈ AL, IsAl P ops x)
  (hr : Region.ready md ops (allMarks L AL) = [i]) (hri : (Region.ready md ops L).contains i = true) (hp : sep ops AL i o = true) (hQ : QStill Q)
  (h : ∀ w', Ext w w' -> Ext W0 w' -> ∀ K : Act -> World -> Prop, Shut (∀ a' w'', Ext w' w'' -> LateN P md ops Q W0 AL (fun g => g < w'.heap.size \/ w''.heap.size <= g) n (L.setIfInBounds i true) a' w'' -> K a' w'') -> if Region.wanted o (yielded ops a.tmps) = true then Oper.wp P o a w' K Q else K (a.put o.dst undef) w') :
  Late P md ops Q W0 AL (n + 1) L a w := by
 have go : ∀ (k : Nat) w', Ext w w' -> Ext W0 w' -> ∀ D, Val W0 AL w' D -> AL.length <= D.length + k -> ∀ f, n + 1 + AL.length = f + D.length -> wpAnyH P md ops Q (Ext W0) f (marks L D) (lays a D) w' := by
  intro k
  induction k with
  | zero =>
   intro w' e hS D hD hk f hl;have hlen := hD.len;obtain ⟨f, rfl⟩ : ∃ k, f = k + 1 := ⟨f - 1, by omega⟩;have hsep := fun y (hy : y ∈ D) => sep_spec hp (hD.mem y hy)
   have hir : i ∈ Region.ready md ops (marks L D) := ready_marks D L (by simpa using hri) (fun y hy => (hsep y hy).1);refine ⟨(fun h0 => by rw [h0] at hir; cases hir), fun j hj => ?_⟩
   have hji : j = i := by
    by_cases hx : ∃ x ∈ AL, x.i = j
    ·obtain ⟨x, hx, rfl⟩ := hx
     have hun := (marks_un D L x.i (mem_ready.1 hj).1).2;have := hD.len_lt hx hun;omega
    ·have := ready_all hD.mem hj (fun x hx' e => hx ⟨x, hx', e⟩)
     rw [hr] at this
     simpa using this
   subst hji;refine wpOp_lays ho (fun cs b => Region.noSelect_spec hs j o cs b ho) hQ D _ a (fun y hy => (hsep y hy).2) (wpOp_step ho fun K' hK => h w' e hS K' (fun a' w'' e' hL => hK a' w'' ?_));have hS' := hS.trans e';refine ⟨hS', ?_⟩;have := hL w'' (Ext.refl _) hS' D (hD.ext e') (fun y hy => Or.inl (hD.box y hy).lt) f (by omega)
   rwa [marks_set D L j (fun y hy => (hsep y hy).1)] at this
  | succ k ih =>
   intro w' e hS D hD hk f hl;have hlen := hD.len;obtain ⟨f, rfl⟩ : ∃ k, f = k + 1 := ⟨f - 1, by omega⟩;have hsep := fun y (hy : y ∈ D) => sep_spec hp (hD.mem y hy)
   have hir : i ∈ Region.ready md ops (marks L D) := ready_marks D L (by simpa using hri) (fun y hy => (hsep y hy).1);refine ⟨(fun h0 => by rw [h0] at hir; cases hir), fun j hj => ?_⟩
   by_cases hx : ∃ x ∈ AL, x.i = j
   ·obtain ⟨x, hx, rfl⟩ := hx
    have hun := (marks_un D L x.i (mem_ready.1 hj).1).2;refine wpOp_alloc (hal x hx) ?_;have e1 := (Ext.refl w').alloc (.cells x.cs x.t);have hS1 := hS.trans e1;refine ⟨hS1, ?_⟩;have := ih (w'.alloc (.cells x.cs x.t)) (e.trans e1) hS1 (D ++ [(x, w'.heap.size)]) (hD.snoc hx hun hS) (by simp; omega) f (by simp; omega)
    rwa [marks_snoc, lays_snoc] at this
   ·have := ready_all hD.mem hj (fun x hx' e => hx ⟨x, hx', e⟩)
    rw [hr] at this;have hji : j = i := by simpa using this
    subst hji;refine wpOp_lays ho (fun cs b => Region.noSelect_spec hs j o cs b ho) hQ D _ a (fun y hy => (hsep y hy).2) (wpOp_step ho fun K' hK => h w' e hS K' (fun a' w'' e' hL => hK a' w'' ?_));have hS' := hS.trans e';refine ⟨hS', ?_⟩;have := hL w'' (Ext.refl _) hS' D (hD.ext e') (fun y hy => Or.inl (hD.box y hy).lt) f (by omega)
    rwa [marks_set D L j (fun y hy => (hsep y hy).1)] at this
 exact fun w' e hS D hD f hl => go AL.length w' e hS D hD (by omega) f hl
theorem LateN.finish1 {x : Al} {n : Nat} {L : Array Bool} {a : Act} {w : World} (hNw : ∀ g, w.heap.size <= g -> N g) (hx : IsAl P ops x) (hr : Region.ready md ops L = [x.i])
  (h : ∀ w' g, Ext w w' -> Ext W0 w' -> W0.heap.size <= g -> N g -> Box w' g x.t x.cs -> wpAnyH P md ops Q (Ext W0) n (L.setIfInBounds x.i true) (a.put (some x.d) (.pointer (some ⟨g, 0, none⟩))) w') :
  LateN P md ops Q W0 [x] N n L a w := by
 intro w' e hS D hD hN f hl;have hlen := hD.len
 match D, hD, hN, hl, hlen with
 | [], hD, hN, hl, _ =>
  simp only [List.length_singleton, List.length_nil, Nat.add_zero] at hl;subst hl
  show wpAnyH P md ops Q (Ext W0) (n + 1) L a w'
  refine ⟨(fun h0 => by rw [hr] at h0; cases h0), fun j hj => ?_⟩;rw [hr, List.mem_singleton] at hj;subst hj;refine wpOp_alloc hx ?_;have e1 := (Ext.refl w').alloc (.cells x.cs x.t);have hS1 := hS.trans e1;exact ⟨hS1, h _ w'.heap.size (e.trans e1) hS1 hS.size (hNw _ e.size) (Box.new w' _ _)⟩
 | [y], hD, hN, hl, _ =>
  simp only [List.length_singleton] at hl;have hnf : n = f := by omega
  subst hnf;obtain ⟨u, g⟩ := y;have hu := hD.mem (u, g) List.mem_cons_self;simp only [List.mem_singleton] at hu;subst hu;exact h w' g e hS (hD.ge (u, g) List.mem_cons_self) (hN (u, g) List.mem_cons_self) (hD.box (u, g) List.mem_cons_self)
 | _ :: _ :: _, _, _, _, hlen => simp at hlen
end
section
variable {w w2 : World} {L : Nat} {s x : Bool} {A P : Option Addr} {n c k l i g : Nat} {T : TypeId} {zs : List Int}
theorem IPol.set2 {g6 n6 c6 : Nat} (h : IPol w2 (some ⟨g6, 0, Option.none⟩) n6 c6 zs L) (hb : Box w2 g T #[.bool x, .slice P k l]) (hne : g6 ≠ g) : IPol (set2 w2 g (.bool s) (.slice A n c)) (some ⟨g6, 0, Option.none⟩) n6 c6 zs L := by
 refine ⟨h.len, h.cap, h.top, fun hq => ?_⟩;obtain ⟨b, off, h1, h2⟩ := h.at_ hq;refine ⟨b, off, h1, ⟨fun i hi => ?_⟩⟩
 injection h1 with h1
 injection h1 with q1 q2
 subst q1 q2;obtain ⟨s', A', n', c', r1, r2, r3⟩ := h2.at_ i hi;have b1 : Box (w2.setCell ⟨g, 0, Option.none⟩ (.bool s)) g T #[.bool s, .slice P k l] := hb.set 0 (.bool s)
 have far : ∀ (q : Nat) (v : Value), w2.cell? ⟨g6, q, Option.none⟩ = some v -> (Go.Proofs.YtgagcochepnelaaGreatDoor.set2 w2 g (.bool s) (.slice A n c)).cell? ⟨g6, q, Option.none⟩ = some v := by
  intro q v hv;unfold Go.Proofs.YtgagcochepnelaaGreatDoor.set2;exact (cell_far2 hne).trans hv
 exact ⟨s', A', n', c', far _ _ r1, far _ _ r2, (fin_dual hb).2.1 _ _ _ _ _ _ r3⟩
theorem IPol.lt {g6 n6 c6 : Nat} (h : IPol w (some ⟨g6, 0, Option.none⟩) n6 c6 zs L) (h0 : 0 < n6) : g6 < w.heap.size := by
 obtain ⟨b, off, h1, h2⟩ := h.at_ (fun e => by have := h.len; rw [e] at this; simp at this; omega)
 injection h1 with h1
 injection h1 with q1 q2
 subst q1 q2;obtain ⟨_, _, _, _, r1, _, _⟩ := h2.at_ 0 (by rw [h.len]; exact h0);exact cell_lt r1
end
end
end Go.Proofs.YtgagcochepnelaaGreatDoor
