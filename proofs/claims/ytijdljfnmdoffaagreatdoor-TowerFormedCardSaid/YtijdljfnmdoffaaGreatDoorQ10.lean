/- Walks and laws, a part. -/
import Derived.Test.YtijdljfnmdoffaaGreatDoorQ9
import Derived.Test.YtijdljfnmdoffaaGreatDoorQ8
import Derived.Test.YtijdljfnmdoffaaGreatDoorQ7
import Derived.Test.YtijdljfnmdoffaaGreatDoorQ6
import Derived.Test.YtijdljfnmdoffaaGreatDoorQ5
import Derived.Test.YtijdljfnmdoffaaGreatDoorQ1
import Derived.Test.YtijdljfnmdoffaaGreatDoorQ3
import Derived.Test.YtijdljfnmdoffaaGreatDoorQ4
import Derived.Maps.AppendAt
set_option linter.unusedSimpArgs false
set_option linter.unusedVariables false
set_option maxHeartbeats 64000000
namespace Go.Proofs.YtijdljfnmdoffaaGreatDoor
section
open Go.RowKit
def W4 : Nat := 4294967296 ^ 4
def SmQ (q : Rat) : Prop := q.num.natAbs <= W4 /\ q.den <= W4
theorem W4_pos : 0 < W4 := Nat.pow_pos (by omega)
theorem mkRat_sizes (n : Int) (d : Nat) (hd : d ≠ 0) : (mkRat n d).den ∣ d /\ (mkRat n d).num.natAbs <= n.natAbs := by
 obtain ⟨n', d', z', c, h⟩ : ∃ n' d' z' c, mkRat n d = ⟨n', d', z', c⟩ := ⟨_, _, _, _, rfl⟩;obtain ⟨m, h1, h2, h3⟩ := Rat.mkRat_num_den hd h;rw [h];refine ⟨⟨m, h3⟩, ?_⟩
 show n'.natAbs <= n.natAbs
 rw [h2, Int.natAbs_mul];exact Nat.le_mul_of_pos_right _ (by simp only [Int.natAbs_natCast]; omega)
theorem partQ_parts {q : Rat} {f : Int} (hf : 0 < f) : (partQ q f).den ∣ q.den * f.natAbs /\ (partQ q f).num.natAbs <= q.num.natAbs := by
 have h0 : (0 : Int) < ((q.den : Nat) : Int) * f := Int.mul_pos (by have := q.den_pos; omega) hf;have h1 : (((q.den : Nat) : Int) * f).natAbs = q.den * f.natAbs := by rw [Int.natAbs_mul, Int.natAbs_natCast]
 unfold partQ mkQ;rw [if_neg (by omega), h1];exact mkRat_sizes _ _ (by rw [<- h1]; omega)
theorem denP_dvd_of {ps : List Rat} {M : Nat} (h : ∀ q ∈ ps, q.den ∣ M) : denP ps ∣ M := by
 have key : ∀ (ps : List Rat) (d : Nat), d ∣ M -> (∀ q ∈ ps, q.den ∣ M) -> ps.foldl (fun d q => Nat.lcm d q.den) d ∣ M := by
  intro ps
  induction ps with
  | nil => intro d hd _; exact hd
  | cons p ps ih => intro d hd hp; exact ih _ (Nat.lcm_dvd hd (hp p List.mem_cons_self)) (fun q hq => hp q (List.mem_cons_of_mem _ hq))
 exact key ps 1 (Nat.one_dvd M) h
def prodD (qs : List Rat) : Nat := qs.foldr (fun q a => q.den * a) 1
theorem prodD_dvd {qs : List Rat} : ∀ q ∈ qs, q.den ∣ prodD qs := by
 induction qs with
 | nil => intro q hq; cases hq
 | cons p qs ih =>
  intro q hq
  rcases List.mem_cons.1 hq with rfl | hq
  ·exact Nat.dvd_mul_right _ _
  ·exact Nat.dvd_trans (ih q hq) (Nat.dvd_mul_left _ _)
theorem prodD_le {qs : List Rat} (h : ∀ q ∈ qs, SmQ q) : 0 < prodD qs /\ prodD qs <= W4 ^ qs.length := by
 induction qs with
 | nil => exact ⟨Nat.one_pos, Nat.le_refl _⟩
 | cons p qs ih =>
  obtain ⟨h1, h2⟩ := ih (fun q hq => h q (List.mem_cons_of_mem _ hq));refine ⟨Nat.mul_pos p.den_pos h1, ?_⟩;rw [List.length_cons, Nat.pow_succ, Nat.mul_comm (W4 ^ qs.length)];exact Nat.mul_le_mul (h p List.mem_cons_self).2 h2
theorem partL_mem {qs : List Rat} {fs : List Int} {p : Rat} (h : p ∈ partL qs fs) : ∃ q ∈ qs, ∃ f ∈ fs, p = partQ q f := by
 induction qs generalizing fs with
 | nil => cases h
 | cons q qs ih =>
  cases fs with
  | nil => cases h
  | cons f fs =>
   rcases List.mem_cons.1 h with rfl | h
   ·exact ⟨q, List.mem_cons_self, f, List.mem_cons_self, rfl⟩
   ·obtain ⟨q', h1, f', h2, h3⟩ := ih h
    exact ⟨q', List.mem_cons_of_mem _ h1, f', List.mem_cons_of_mem _ h2, h3⟩
def FacD (fs : List Int) (D : Nat) : Prop := ∀ f ∈ fs, 0 < f /\ f.natAbs ∣ D
theorem den_le {qs : List Rat} {fs : List Int} {D : Nat} (hs : ∀ q ∈ qs, SmQ q) (hf : FacD fs D) (hD : 0 < D) : denP (partL qs fs) <= W4 ^ qs.length * D := by
 have h1 : denP (partL qs fs) ∣ prodD qs * D := by
  refine denP_dvd_of fun p hp => ?_
  obtain ⟨q, hq, f, hff, rfl⟩ := partL_mem hp;exact Nat.dvd_trans (partQ_parts (hf f hff).1).1 (Nat.mul_dvd_mul (prodD_dvd q hq) (hf f hff).2)
 have h2 := prodD_le hs;exact Nat.le_trans (Nat.le_of_dvd (Nat.mul_pos h2.1 hD) h1) (Nat.mul_le_mul_right _ h2.2)
theorem nums_le {qs : List Rat} {fs : List Int} {D : Nat} (hs : ∀ q ∈ qs, SmQ q) (hf : FacD fs D) : ∀ z ∈ numsP (partL qs fs), z.natAbs <= W4 * denP (partL qs fs) := by
 intro z hz;obtain ⟨p, hp, rfl⟩ := List.mem_map.1 hz;obtain ⟨q, hq, f, hff, hpq⟩ := partL_mem hp;have h1 : p.num.natAbs <= W4 := by rw [hpq]; exact Nat.le_trans (partQ_parts (hf f hff).1).2 (hs q hq).1
 rw [Int.natAbs_mul];refine Nat.mul_le_mul h1 ?_;have e : ((denP (partL qs fs) : Nat) : Int) / ((p.den : Nat) : Int) = ((denP (partL qs fs) / p.den : Nat) : Int) := by push_cast; rfl
 rw [e, Int.natAbs_natCast];exact Nat.div_le_self _ _
def eF : Nat -> Nat
 | 0 => 0
 | k + 1 => eF k + (2 ^ k + eF k)
theorem ringR_val {ts : List (List Rat)} (ht : TowL ts) (hs : ∀ r ∈ ts, ∀ q ∈ r, SmQ q) : ∀ k, k <= ts.length -> ∃ D, 0 < D /\ D <= W4 ^ eF k /\ FacD (ringR (ts.take k)).2 D := by
 intro k
 induction k with
 | zero =>
  intro _;rw [List.take_zero];refine ⟨1, Nat.one_pos, Nat.le_refl _, fun f hf => ?_⟩;rw [List.mem_singleton.1 hf];exact ⟨by decide, Nat.dvd_refl _⟩
 | succ k ih =>
  intro hk;have hj : k < ts.length := by omega
  obtain ⟨D, h1, h2, h3⟩ := ih (by omega);have hl := ht k hj;have hq : ∀ q ∈ ts[k], SmQ q := hs _ (List.getElem_mem hj);rw [List.take_succ_eq_append_getElem hj, ringR_snoc];generalize ts[k] = r at hl hq;generalize ringR (ts.take k) = G at h3;have hd := den_le hq h3 h1;have hdp := denP_pos (partL r G.2);refine ⟨D * denP (partL r G.2), Nat.mul_pos h1 hdp, ?_, ?_⟩
  ·show _ <= W4 ^ (eF k + (2 ^ k + eF k))
   rw [Nat.pow_add, Nat.pow_add, <- hl];exact Nat.mul_le_mul h2 (Nat.le_trans hd (Nat.mul_le_mul_left _ h2))
  ·intro f hf
   rcases List.mem_append.1 hf with hf | hf
   ·exact ⟨(h3 f hf).1, Nat.dvd_trans (h3 f hf).2 (Nat.dvd_mul_right _ _)⟩
   ·obtain ⟨g, hg, rfl⟩ := List.mem_map.1 hf
    refine ⟨Int.mul_pos (h3 g hg).1 (by omega), ?_⟩;rw [Int.natAbs_mul, Int.natAbs_natCast];exact Nat.mul_dvd_mul_right (h3 g hg).2 _
theorem W4_words {x e : Nat} (h : x <= W4 ^ e) : x < 4294967296 ^ (4 * e + 1) := by
 refine Nat.lt_of_le_of_lt h ?_;unfold W4;rw [<- Nat.pow_mul];exact Nat.pow_lt_pow_right (by decide) (by omega)
theorem split_val {ts : List (List Rat)} (ht : TowL ts) (hs : ∀ r ∈ ts, ∀ q ∈ r, SmQ q) {k : Nat} (hk : k <= ts.length) {qs : List Rat} (hl : qs.length = 2 ^ k) (hq : ∀ q ∈ qs, SmQ q) :
  denP (partL qs (ringR (ts.take k)).2) < 4294967296 ^ (4 * (2 ^ k + eF k) + 1) /\ ∀ z ∈ numsP (partL qs (ringR (ts.take k)).2), z.natAbs < 4294967296 ^ (4 * (1 + (2 ^ k + eF k)) + 1) := by
 obtain ⟨D, h1, h2, h3⟩ := ringR_val ht hs k hk
 have hd : denP (partL qs (ringR (ts.take k)).2) <= W4 ^ (2 ^ k + eF k) := by
  rw [Nat.pow_add, <- hl];exact Nat.le_trans (den_le hq h3 h1) (Nat.mul_le_mul_left _ h2)
 refine ⟨W4_words hd, fun z hz => W4_words ?_⟩;rw [Nat.pow_add, Nat.pow_one];exact Nat.le_trans (nums_le hq h3 z hz) (Nat.mul_le_mul_left _ hd)
end
section
open Go.RowKit
attribute [local go_sem ↓] Go.wp_at_zero Go.wp_at_succ
def eD (k : Nat) : Nat := 2 ^ k + eF k
def fS : Nat -> Nat
 | 0 => 2
 | k + 1 => fS k + (4 * eD k + 1)
theorem fS_step (k : Nat) : fS (k + 1) = fS k + (4 * eD k + 1) := rfl
theorem fS_few : ∀ k, k < 4 -> 2 <= fS k /\ fS k <= 60 /\ 8 * eD k + 6 <= 166 /\ 2 ^ k * (4 + fS k) <= 1000 := by
 intro k hk
 match k, hk with
 | 0, _ => decide
 | 1, _ => decide
 | 2, _ => decide
 | 3, _ => decide
section
variable {w : World} {A : Option Addr} {n c : Nat} {ts : List (List Rat)}
set_option maxRecDepth 100000 in
theorem p_ringOf (h : PolT w A n c ts 4) (ht : TowL ts) (hs : ∀ r ∈ ts, ∀ q ∈ r, SmQ q) (hn : n <= 4) (hT : Tab w) : Calls Tryz.prog 65 #[.slice A n c] w (fun e w' => ∃ Ar cr Af cf, e = .returned (.agg #[.slice Ar n cr, .slice Af (2 ^ n) cf]) /\ ISl w' Ar n cr (ringR ts).1 166 /\ IPol w' Af (2 ^ n) cf (ringR ts).2 (fS n) /\ Ext w w') := by
 have Hlen := Lib.hid h.len;have HSM := Lib.hid hs;clear hs
 go_enter Tryz.func65, Tryz.ntmps65
 go_upto_region 1 with (fail)
 obtain ⟨W0, hW0, ext0, b2, hz0⟩ := box1 w 72 #[.slice Option.none 0 0, .slice Option.none 0 0];rw [<- hW0];clear hW0
 go_wp2_with fail
 refine (p_FromInt 1 (by omega) (by omega)).mono ?_;rintro e W1 ⟨s1, A1, n1, c1, rfl, h1, hx1⟩
 go_upto_region 2 with (fail)
 obtain ⟨W2, hW2, ext2, b9, b3, hz2⟩ := box2 W1 28 72 #[.bool s1, .slice A1 n1 c1] #[.slice Option.none 0 0, .slice (some ⟨W1.heap.size, 0, Option.none⟩) 1 1];rw [<- hW2];clear hW2;have hlo : w.heap.size + 1 <= W1.heap.size := by have := hx1.size; omega
 have S0 : RingS w W2 (W1.heap.size + 1) (.slice Option.none 0 0) (.slice (some ⟨W1.heap.size, 0, Option.none⟩) 1 1) [] [1] 166 (fS 0) := by
  have hrow : IRow W2 W1.heap.size [1] (fS 0) := ⟨_, b9, .cons (h1.ext ext2) .nil⟩;exact ⟨(ext0.trans hx1).trans ext2, (b2.ext hx1).ext ext2, b3, RowO.nil _ _ _ _, hrow.row2 hlo rfl (by omega), by omega⟩
 clear b9 b3 b2 ext0 hx1 hz0 ext2 h1 hlo hz2
 go_wp2_with fail
 go_loopw [13] (fun i wr => ∃ (k : Nat) (vr vf : Value), k <= n /\ i = .int .i64 (k : Int) /\ RingS w wr (W1.heap.size + 1) vr vf (ringR (ts.take k)).1 (ringR (ts.take k)).2 166 (fS k)) (fun i _ => n - (intOf i).toNat)
 case atStart => exact ⟨0, _, _, Nat.zero_le _, rfl, S0⟩
 case round =>
  clear S0;obtain ⟨k, vr, vf, hk, rfl, S⟩ := hrel;obtain ⟨G1, G2, G3, G4, _⟩ := ringR_take ht k (by rw [Hlen.out]; exact hk)
  by_cases hlt : k < n
  ·have hj : k < ts.length := by rw [Hlen.out]; exact hlt
   have hI : (k : Int) < (n : Int) := by omega
   obtain ⟨b, off, rfl, hr⟩ := h.at_ (fun e => by rw [e] at hj; exact absurd hj (Nat.not_lt_zero _));obtain ⟨Aq, nq, cq, e0, hq⟩ := hr k hj;replace e0 := S.ext.cellv e0;replace hq := hq.ext S.ext;have HN := ringR_snoc (ts.take k) ts[k];rw [<- List.take_succ_eq_append_getElem hj] at HN;have HLT := ht k hj;have HSR := HSM.out _ (List.getElem_mem hj);have hlq := hq.len;generalize ts[k] = r at hq HN HLT hlq HSR;obtain ⟨Ar, nr, cr, rfl⟩ := S.hO.shape;obtain ⟨Af, nf, cf, hvf, hfp⟩ := S.hF.pol;subst hvf;have hlf := hfp.len;have hqf : nq = nf := by rw [<- hlq, <- hlf, G2, HLT]
   have hN2 : nf = 2 ^ k := by rw [<- hlf, G2]
   have Hqf := Lib.hid hqf;have HNK := Lib.hid hN2;have hfew := fS_few k (by omega);have HSV := Lib.hid (split_val ht HSM.out (Nat.le_of_lt hj) HLT HSR);rw [<- hN2, <- hqf] at hfew;have HSZ := Lib.hid (fS_step k)
   have hn8 : nq <= 8 := by
    rw [hqf, hN2];exact Nat.le_trans (Nat.pow_le_pow_right (by omega) (show k <= 3 by omega)) (by decide)
   have hn0 : 0 < nq := by
    rw [hqf, hN2];exact Nat.pow_pos (by omega)
   obtain ⟨P, hP⟩ : ∃ P, P = 4 + fS k := ⟨_, rfl⟩;rw [<- hP] at hfew;obtain ⟨E, hE⟩ : ∃ E, E = eD k := ⟨_, rfl⟩;have hE2 : 2 ^ k + eF k = E := hE.symm;have hE1 : 1 <= E := by have := Nat.pow_pos (n := k) (show 0 < 2 by omega); omega
   rw [<- hE] at hfew HSZ;rw [hE2] at HSV;clear hE hE2;have HLR := Lib.hid (show (4 * (1 + E) + 1) + (4 * E + 1) <= 166 by omega);have HL1 := Lib.hid (show (ringR (ts.take k)).1.length <= 1000 by omega);have HL2 := Lib.hid (show (ringR (ts.take k)).2.length <= 1000 by omega);have HG3 := Lib.hid G3;have HG4 := Lib.hid G4;have HHN := Lib.hid HN;clear hN2 G3 G4 HN hlq hlf hqf;have hnf8 : nf <= 8 := by rw [<- Hqf.out]; exact hn8
   have hnf0 : 0 < nf := by rw [<- Hqf.out]; exact hn0
   have x0 := S.b3.cell 0 (.slice Ar nr cr) rfl;have x1 := S.b3.cell 1 (.slice Af nf cf) rfl
   go_wp2_with fail
   refine (p_splitT hq hfp Hqf.out HG3.out hP (by omega) (by omega) hn0 (by omega) HSV.out.1 (by omega) (by omega) (hT.ext S.ext)).mono ?_;rintro e V1 ⟨g6, s7, B7, m7, d7, rfl, hg6, hz, hy, hx1⟩;have hof := S.off hg6;replace hz := hz.tight HSV.out.2;replace hy := hy.tight' (by rw [Int.natAbs_natCast]; exact HSV.out.1);clear HSV
   go_upto_region 6 with (fail)
   obtain ⟨V2, hV2, ex2, b7, hz7⟩ := box1 V1 28 #[.bool s7, .slice B7 m7 d7];rw [<- hV2];clear hV2 hz7 x0 x1 e0 hq;replace hz := hz.ext ex2;replace hy := hy.ext ex2;replace S := S.next (hx1.trans ex2);clear hx1 ex2 hg6;generalize V1.heap.size = g8 at *;refine wpL.st 6 (fun hQ ES => ?_);refine wpL.tB [1,6] 0 23 ?v_0 hQ ?y_0 ES ?_
   case y_0 => intro w' hSw;go_simp;try rfl
   try simp only [zP]
   refine wpL.tB [6] 1 24 ?v_1 hQ ?y_1 ES ?_
   case y_1 => intro w' hSw;have k00 := (S.b3.ext hSw).cell 0 _ rfl;have k01 := (S.b3.ext hSw).cell 1 _ rfl;have k10 := (b7.ext hSw).c2;go_simp;try rfl
   try simp only [zP]
   refine wpL.tB [4,5,6] 2 25 ?v_2 hQ ?y_2 ES ?_
   case y_2 => intro w' hSw;go_simp;try rfl
   try simp only [zP]
   refine wpL.tB [4,5,6] 3 26 ?v_3 hQ ?y_3 ES ?_
   case y_3 => intro w' hSw;have k00 := (S.b3.ext hSw).cell 0 _ rfl;have k01 := (S.b3.ext hSw).cell 1 _ rfl;have k10 := (b7.ext hSw).c2;go_simp;try rfl
   try simp only [zP]
   refine wpL.cl (i := 4) rfl (fun K hK => ?_);go_simp
   (go_at_call 73; refine (p_multipleN (hz.ext ES) (hy.ext ES) (by omega) (by omega) (by omega) (by omega)).mono ?_; rintro e wa ⟨A5, c5, rfl, h5, hf5, hx0⟩; have E4 := Ext.trans ES hx0)
   refine hK.out _ _ E4 ?_;clear hK K
   try simp only [zP]
   refine wpL.cl (i := 5) rfl (fun K hK => ?_);go_simp;obtain ⟨wb, hwb, exb, bb, hzb⟩ := box1 wa 70 #[.slice A5 nq c5];rw [<- hwb];have E5 := E4.trans exb;refine hK.out _ _ E5 ?_;clear hK K hwb hzb
   try simp only [zP]
   have SB := S.next E5
   have hoA : Off (.slice Af nf cf) A5 := by
    rcases hf5 with rfl | ⟨g, rfl, hg⟩
    ·exact hof
    ·exact S.off hg
   refine wpL.tl (i := 6) rfl (fun K hK => ?_);refine step_append_rowO rfl _ _ rfl rfl rfl SB.hO ((h5.ext exb).leT HLR.out) hoA bb HL1.out (by have := SB.ext.size; have := SB.lo; have := SB.b3.lt; omega) ?_;intro v6 w6 q1 q2;refine hK.out _ _ ?_
   try simp only [List.getElem_toArray, List.getElem_cons_succ, List.getElem_cons_zero]
   clear hK K
   try simp only [zP]
   have m3 := SB.midR q2;obtain ⟨A6, n6, c6, rfl⟩ := q1.shape;refine wpL.tl (i := 7) rfl (fun K hK => ?_);go_simp;refine hK.out _ _ ?_;clear hK K
   try simp only [zP]
   have z0 := m3.cell 0 _ rfl;have f0 := m3.frozen 0;refine wpL.tl (i := 8) rfl (fun K hK => ?_);go_simp;refine hK.out _ _ ?_;clear hK K
   try simp only [zP]
   refine wpL.done (by kernel_rfl) ?_ _;clear hQ;have SA := SB.addR q2 q1;have b7' := SA.2.2 _ _ (b7.ext E5);have hy' := SA.2.1 _ _ _ _ _ _ (hy.ext E5);have S' := SA.1;clear SA SB S b7 hy z0 f0 m3 q1 q2 E4 E5 exb bb hx0 ES h5 hz hfp hof hoA hf5;refine at_exit (fun U => RingS w U (W1.heap.size + 1) (.slice A6 n6 c6) (.slice Af nf cf) ((ringR (ts.take k)).1 ++ [(numsP (partL r (ringR (ts.take k)).2)).map (· * ((denP (partL r (ringR (ts.take k)).2) : Nat) : Int))]) (ringR (ts.take k)).2 166 (fS k) /\ Box U g8 28 #[.bool s7, .slice B7 m7 d7] /\ NI U ((denP (partL r (ringR (ts.take k)).2) : Nat) : Int) (4 * E + 1) s7 B7 m7 d7) ⟨S', b7', hy'⟩ ?_;clear S' b7' hy';rintro V3 ⟨S, b7, hy⟩;obtain ⟨Af', nf', cf', hvf, hfp⟩ := S.hF.pol
   injection hvf with hv1 hv2 hv3
   subst hv1 hv2 hv3
   go_upto_region 7 with (fail)
   refine wpL.st 6 (fun hQ ES => ?_);refine wpL.tB [1,6] 0 31 ?v_4 hQ ?y_4 ES ?_
   case y_4 => intro w' hSw;go_simp;try rfl
   try simp only [zP]
   refine wpL.tB [6] 1 32 ?v_5 hQ ?y_5 ES ?_
   case y_5 => intro w' hSw;have k00 := (S.b3.ext hSw).cell 0 _ rfl;have k01 := (S.b3.ext hSw).cell 1 _ rfl;have k10 := (b7.ext hSw).c2;go_simp;try rfl
   try simp only [zP]
   refine wpL.tB [3,5,6] 2 33 ?v_6 hQ ?y_6 ES ?_
   case y_6 => intro w' hSw;go_simp;try rfl
   try simp only [zP]
   refine wpL.tB [5,6] 3 34 ?v_7 hQ ?y_7 ES ?_
   case y_7 => intro w' hSw;have k00 := (S.b3.ext hSw).cell 0 _ rfl;have k01 := (S.b3.ext hSw).cell 1 _ rfl;have k10 := (b7.ext hSw).c2;go_simp;try rfl
   try simp only [zP]
   refine wpL.tB [5,6] 4 35 ?v_8 hQ ?y_8 ES ?_
   case y_8 => intro w' hSw;have k00 := (S.b3.ext hSw).cell 0 _ rfl;have k01 := (S.b3.ext hSw).cell 1 _ rfl;have k10 := (b7.ext hSw).c2;go_simp;try rfl
   try simp only [zP]
   refine wpL.cl (i := 5) rfl (fun K hK => ?_);go_simp
   (go_at_call 73; refine (p_multipleN (hfp.ext ES) (hy.ext ES) (by omega) (by omega) (by omega) (by omega)).mono ?_; rintro e wa ⟨A5, c5, rfl, h5, hf5, hx0⟩; have E4 := Ext.trans ES hx0)
   refine hK.out _ _ E4 ?_;clear hK K
   try simp only [zP]
   have SB := S.next E4;refine wpL.tl (i := 6) rfl (fun K hK => ?_);refine step_append_row2 rfl _ _ rfl rfl rfl (SB.hF.leT (show fS k <= fS (k + 1) by have := HSZ.out; omega)) (h5.leT (by have := HSZ.out; omega)) (by omega) HL2.out (by omega) (by have := SB.ext.size; have := SB.lo; have := SB.b3.lt; omega) ?_;intro v6 w6 q1 q2 q3;refine hK.out _ _ ?_
   try simp only [List.getElem_toArray, List.getElem_cons_succ, List.getElem_cons_zero]
   clear hK K
   try simp only [zP]
   have m3 := SB.midF q2;obtain ⟨A6, n6, c6, rfl⟩ := q1.shape;refine wpL.tl (i := 7) rfl (fun K hK => ?_);go_simp;refine hK.out _ _ ?_;clear hK K
   try simp only [zP]
   have z0 := m3.cell 1 _ rfl;have f0 := m3.frozen 1;refine wpL.tl (i := 8) rfl (fun K hK => ?_);go_simp;refine hK.out _ _ ?_;clear hK K
   try simp only [zP]
   refine wpL.done (by kernel_rfl) ?_ _;clear hQ
   have S' := SB.addF q2 q1 q3 (by
    intro R hR
    rcases List.mem_append.1 hR with hR | hR
    ·exact HG4.out R hR
    ·rw [List.mem_singleton.1 hR]
     intro e;have e2 := congrArg List.length e;rw [List.length_map, numsP_len] at e2;unfold partL at e2;rw [List.length_zipWith, HLT, G2, Nat.min_self] at e2;have := Nat.pow_pos (n := k) (show 0 < 2 by omega);simp at e2)
   clear SB S b7 hy z0 f0 m3 q1 q2 q3 E4 hx0 ES h5 hfp hf5
   go_wp2_with fail
   go_roundw
   case rel => exact ⟨k + 1, _, _, by omega, by go_num, by rw [HHN.out]; exact S'⟩
   case measure => simp [intOf]; omega
  ·have hkn : k = n := by omega
   subst hkn;rw [List.take_of_length_le (Nat.le_of_eq Hlen.out)] at S G1 G2;have hI : (k : Int) <= (k : Int) := Int.le_refl _;obtain ⟨Ar, nr, cr, hvr, hir⟩ := S.hO.isl;subst hvr;obtain ⟨Af, nf, cf, hvf, hfp⟩ := S.hF.pol;subst hvf;have hnr : k = nr := by rw [<- hir.len, G1]
   have hnf : nf = 2 ^ k := by rw [<- hfp.len, G2]
   have x0 := S.b3.cell 0 (.slice Ar nr cr) rfl;have x1 := S.b3.cell 1 (.slice Af nf cf) rfl;have z0 := S.b2.cell 0 _ rfl;have z1 := S.b2.cell 1 _ rfl;have f0 := S.b2.frozen 0;have f1 := S.b2.frozen 1;have hv : NSB wr (.slice (some ⟨w.heap.size, 0, Option.none⟩) 2 2) := NSB.box S.b2 (nsw2 ⟨_, _, _, rfl⟩ ⟨_, _, _, rfl⟩);have kc := (grownC wr ⟨w.heap.size, 0, Option.none⟩ (.slice Ar nr cr)).trans (grownC _ ⟨w.heap.size, 1, Option.none⟩ (.slice Af nf cf));have ex := (S.ext.setCell (p := ⟨w.heap.size, 0, Option.none⟩) (Nat.le_refl _) (.slice Ar nr cr)).setCell (p := ⟨w.heap.size, 1, Option.none⟩) (Nat.le_refl _) (.slice Af nf cf);have hb := (S.b2.set 0 (.slice Ar nr cr)).set 1 (.slice Af nf cf);have hO2 := S.hO.ownN hv kc (fun g hg e => S.hO.boxne' S.b2 sl_ne_ring (hg.trans e.symm));have hF2 := S.hF.ownN hv kc (fun g hg e => S.hF.boxne S.b2 int_ne_ring (hg.trans e.symm));obtain ⟨_, _, _, q1, hi2⟩ := hO2.isl
   injection q1 with q1 q2 q3
   subst q1 q2 q3;obtain ⟨_, _, _, q1, hp2⟩ := hF2.pol
   injection q1 with q1 q2 q3
   subst q1 q2 q3;have r0 := hb.cell 0 (.slice Ar nr cr) (by simp);have r1 := hb.cell 1 (.slice Af nf cf) (by simp)
   go_wp2_with fail
   subst hnr;rw [<- hnf];refine bodyPost_ret (v := .agg #[.slice Ar k cr, .slice Af nf cf]) (by simp [results, Tryz.results65, go_sem, r0, r1]) rfl ⟨_, _, _, _, rfl, hi2, hp2, ex⟩
end
section
variable {w w' : World} {q x : Rat} {L M : Nat} {s t : Bool} {A B : Option Addr} {n c m d : Nat} {sx tx : Bool} {Ax Bx : Option Addr} {nx cx mx dx : Nat} {qs ps : List Rat} {rs : List RawR} {ts us : List (List RawR)}
theorem zeroB_nil : zeroB [] = true := rfl
theorem p_heightT {m : Nat} (h : Pol w A n c qs L) (hn : n = 2 ^ m) (hm : m <= 16) (hL : L <= 1000) : Calls Tryz.prog 60 #[.slice A n c] w (fun e w' => ∃ k, k <= m /\ e = .returned (.int .i64 (k : Int)) /\ zeroB (qs.drop (2 ^ k)) = true /\ (∀ j, j < k -> zeroB (qs.drop (2 ^ j)) = false) /\ Ext w w') := by
 have hcap := h.cap;have htop := h.top;have hn0 : 0 < n := by rw [hn]; exact Nat.pow_pos (by omega)
 have hn1 : n <= 65536 := by rw [hn]; exact Nat.le_trans (Nat.pow_le_pow_right (by omega) hm) (by decide)
 obtain ⟨b, off, rfl, _⟩ := h.at_ (fun e => by have := h.len; rw [e] at this; simp at this; omega);have HN := Lib.hid hn;have hnc : (n : Int) <= (c : Int) := by omega
 clear hn
 go_enter Tryz.func60, Tryz.ntmps60
 go_wp2_with fail
 go_loopw [3] (fun i wr => ∃ k : Nat, k <= m /\ i = .int .i64 (k : Int) /\ Ext w wr /\ ∀ j, j < k -> zeroB (qs.drop (2 ^ j)) = false) (fun i _ => m - (intOf i).toNat)
 case atStart => exact ⟨0, Nat.zero_le _, rfl, Ext.refl _, fun j hj => by omega⟩
 case round =>
  obtain ⟨k, hk, rfl, ext, hall⟩ := hrel;have HA := Lib.hid hall;clear hall;obtain ⟨P, hP⟩ : ∃ P, P = 2 ^ k := ⟨_, rfl⟩;have hPn : P <= n := by rw [hP, HN.out]; exact Nat.pow_le_pow_right (by omega) hk
  have HP := Lib.hid hP
  have hW2 : wrap64 ((2 : Int) ^ k) = (P : Int) := by
   rw [hP];have e1 : ((2 : Int) ^ k) = ((2 ^ k : Nat) : Int) := by push_cast; rfl
   rw [e1];unfold wrap64;omega
  have hW3 : IntKind.i64.wrap ((2 : Int) ^ k) = (P : Int) := by rw [<- hW2, IntKind.wrap_i64]; unfold wrap64; omega
  clear hP;have hI1 : (P : Int) <= (n : Int) := by omega
  have hI2 : (P : Int) <= (c : Int) := by omega
  by_cases hcP : c = P
  ·go_wp2_with fail
   rw [show n - P = 0 by omega];refine (p_ZeroT (Pol.nilT wr _ 0 L (Nat.zero_le _)) hL (by omega)).mono ?_;rintro e V ⟨rfl, hx1⟩;rw [zeroB_nil];have hz0 : zeroB (qs.drop P) = true := by rw [List.drop_of_length_le (by rw [h.len]; omega)]; rfl
   have HZ := Lib.hid hz0;clear hz0
   go_wp2_with fail
   go_ret
   exact ⟨k, hk, rfl, by rw [<- HP.out]; exact HZ.out, HA.out, ext.trans hx1⟩
  ·have hcP2 : ¬ c - P = 0 := by omega
   go_wp2_with fail
   refine (p_ZeroT ((h.dropT hPn).ext ext) hL (by omega)).mono ?_;rintro e V ⟨rfl, hx1⟩
   cases hzb : zeroB (qs.drop P) with
   | true =>
    have HZ := Lib.hid hzb;clear hzb
    go_wp2_with fail
    go_ret
    exact ⟨k, hk, rfl, by rw [<- HP.out]; exact HZ.out, HA.out, ext.trans hx1⟩
   | false =>
    have HZ := Lib.hid hzb;clear hzb
    have hkm : k < m := by
     rcases Nat.lt_or_ge k m with q | q
     ·exact q
     ·have e : k = m := by omega
      have hz := HZ.out;rw [HP.out, e, List.drop_of_length_le (by rw [h.len, HN.out]; omega)] at hz
      cases hz
    go_wp2_with fail
    go_roundw
    case rel =>
     refine ⟨k + 1, by omega, by go_num, ext.trans hx1, fun j hj => ?_⟩
     rcases Nat.lt_or_ge j k with q | q
     ·exact HA.out j q
     ·have e : j = k := by omega
      subst e;rw [<- HP.out];exact HZ.out
    case measure => simp [intOf]; omega
end
end
section
open Go.RowKit
section
variable {w w' : World} {base L : Nat} {v : Value} {qs ps : List Rat} {A : Option Addr} {n m c g : Nat}
theorem RRow.row4 (h : RRow w g qs L) (hg : base <= g) (hn : qs.length = n) (hm : n <= 1000000) : Row4 w base (.slice (some ⟨g, 0, Option.none⟩) n n) qs L := by
 obtain ⟨cs, h1, h2⟩ := h;have hl := h2.len;refine ⟨⟨cs, ⟨hl, Or.inr ⟨g, n, cs.toArray, by rw [hn], hg, h1, by omega, by unfold maxLen; omega, by simp [hl, hn], by simp [<- hl]⟩⟩, h2⟩, ?_⟩
 ·intro g' hg'
  injection hg' with hg'
  subst hg';exact ⟨_, _, _, h1, h2.nwl.arr⟩
theorem run_append_rowR {ty : TypeId} (h : Row4 w base v qs L) (hp : Pol w A n c ps L) (h0 : 0 < n) (hl : qs.length <= 1000) (hn : n <= 1000) (hbase : base <= w.heap.size) :
  ∃ v' w', (Builtin.append_ #[23, 23] ty #[v, .slice A n c]).run Tryz.prog w = .ok v' w' /\ Row4 w' base v' (qs ++ ps) L := by
 obtain ⟨i0, hi, hz0, hz1, hz2⟩ := info_partsB Tryz.infoR;obtain ⟨cs, h1, h2⟩ := h.own;have hne : ps ≠ [] := fun e => by have := hp.len; rw [e] at this; simp at this; omega
 obtain ⟨b, off, rfl, hrat⟩ := hp.at_ hne;obtain ⟨ds, k1, k2⟩ := hrat.list;have hdl : ds.length = n * 4 := by rw [k1.len, hp.len]
 rw [<- hz1] at h1
 obtain ⟨v', w', hr, j1, j2, j3, j4⟩ := run_append_nw (P := Tryz.prog) (ty := ty) (c := c) Tryz.underlying23 hi hz0 hz2 (by rw [hz1]; rfl) (by omega) (by
  intro u hu k e;simp [Value.cells] at hu
  rcases hu with rfl | rfl | rfl | rfl <;> cases e) h1 h.nwb (m := n) (by rw [hz1]; exact hdl) (fun j u hj => k2 j u hj) k1.one k1.nwl h0 (by unfold maxLen; omega) (by omega) hbase
 rw [hz1] at j1;refine ⟨v', w', hr, ⟨⟨cs ++ ds, ?_, (h2.own h.nwb j2).append (k1.own h.nwb j2)⟩, j4⟩⟩;rw [List.length_append, hp.len];exact j1
theorem Row4.polR (h : Row4 w base v qs L) (hq : qs ≠ []) (hn : qs.length = n) : ∃ A c, v = .slice A n c /\ Pol w A n c qs L := by
 obtain ⟨cs, h1, h2⟩ := h.own
 rcases h1.2 with ⟨rfl, h0⟩ | ⟨g, cap, cur, rfl, _, _, h3, h4, _⟩
 ·exact absurd (List.length_eq_zero_iff.1 h0) hq
 ·obtain ⟨g', cap', e, h5⟩ := h.shape hq
  injection e with e1 e2 e3
  injection e1 with e1
  injection e1 with e1
  subst e1 e3;rw [hn] at h3 ⊢;exact ⟨_, _, rfl, hn, h3, h4, fun _ => ⟨_, _, rfl, h5⟩⟩
theorem run_append_ratsF {ty : TypeId} (h : RRow w g qs L) (hn : qs.length = n) (hp : Pol w A m c ps L) (hn0 : 0 < n) (hn1 : n <= 1000) (hm1 : m <= 1000) :
  ∃ A' c' w', (Builtin.append_ #[23, 23] ty #[.slice (some ⟨g, 0, Option.none⟩) n n, .slice A m c]).run Tryz.prog w = .ok (.slice A' (n + m) c') w' /\ Pol w' A' (n + m) c' (qs ++ ps) L /\ Ext w w' := by
 have hrow : Row4 w g (.slice (some ⟨g, 0, Option.none⟩) n n) qs L := h.row4 (Nat.le_refl _) hn (by omega);have hq0 : qs ≠ [] := fun e => by rw [e] at hn; simp at hn; omega
 rcases Nat.eq_zero_or_pos m with h0 | h0
 ·subst h0
  have hps : ps = [] := List.eq_nil_of_length_eq_zero hp.len;subst hps;rw [List.append_nil];refine ⟨_, _, w, ?_, (h.pol hn (by unfold maxLen; omega)), Ext.refl _⟩;obtain ⟨i0, hi, hz0, hz1, hz2⟩ := info_partsB Tryz.infoR
  cases A with
  | none => simp [Builtin.append_, run_underlying Tryz.underlying23, sizeOf, typeInfo, hi, Builtin.lenOf, Builtin.firstCells, storeCells]
  | some ad => simp [Builtin.append_, run_underlying Tryz.underlying23, sizeOf, typeInfo, hi, Builtin.lenOf, Builtin.firstCells, loadCells, loadCellsFrom, storeCells]
 ·obtain ⟨v', w', hr, h2⟩ := run_append_rowR (ty := ty) hrow hp h0 (by omega) hm1 (Nat.le_of_lt h.lt)
  obtain ⟨i0, hi, hz0, hz1, hz2⟩ := info_partsB Tryz.infoR;obtain ⟨cs, b1, b2⟩ := h;have hne : ps ≠ [] := fun e => by have := hp.len; rw [e] at this; simp at this; omega
  obtain ⟨b, off, rfl, hrat⟩ := hp.at_ hne;obtain ⟨ds, k1, k2⟩ := hrat.list;have hdl : ds.length = m * 4 := by rw [k1.len, hp.len]
  have hcl : cs.length = n * 4 := by rw [b2.len, hn]
  have hr2 := run_append_grow (P := Tryz.prog) w 23 ty 30 i0 _ Tryz.underlying23 hi hz0 ⟨g, 0, Option.none⟩ n n cs (by rw [hz1]; exact hcl) (fun j u hj => by rw [addr_addI, Nat.zero_add]; exact b1.cell j u (by simpa using hj)) ⟨b, off, Option.none⟩ m c ds (by rw [hz1]; exact hdl) (fun j u hj => k2 j u hj) (by omega) (by omega) (by rw [hz2]; exact growslice_fits (by omega) (by omega));rw [hr] at hr2
  injection hr2 with e1 e2
  obtain ⟨A', c', e3, h3⟩ := h2.polR (n := n + m) (by intro e; rw [List.append_eq_nil_iff] at e; exact hq0 e.1) (by rw [List.length_append, hn, hp.len]);subst e3;exact ⟨A', c', w', hr, h3, by rw [e2]; exact ((Ext.refl w).drew).alloc _⟩
theorem wpList_append_ratsF {ops : Array Oper} {rest : List Oper} {o : Oper} {a : Act} {Q : Exit -> Act -> World -> Prop} (hgd : o.guard = Option.none) (x y : Operand)
  (ho : o.op = .call { callee := .builtin .append, args := #[x, y], argTypes := #[23, 23] })
  (hx : a.eval x = .slice (some ⟨g, 0, Option.none⟩) n n) (hy : a.eval y = .slice A m c)
  (h : RRow w g qs L) (hn : qs.length = n) (hp : Pol w A m c ps L) (hn0 : 0 < n) (hn1 : n <= 1000) (hm1 : m <= 1000)
  (hK : ∀ A' c' w', Pol w' A' (n + m) c' (qs ++ ps) L -> Ext w w' -> wpList Tryz.prog ops Q rest (a.put o.dst (.slice A' (n + m) c')) w') :
  wpList Tryz.prog ops Q (o :: rest) a w := by
 refine wpList_plain hgd fun K hKK => ?_
 obtain ⟨A', c', w', hr, h2, h3⟩ := run_append_ratsF (ty := o.type) h hn hp hn0 hn1 hm1;unfold Oper.wp execOp;simp only [ho, resolve, invoke, builtin, Sem.run_bind, Sem.run_pure, Result.andThen_ok, List.map_toArray, List.map_cons, List.map_nil, hx, hy, hr];exact hKK _ _ (hK A' c' w' h2 h3)
theorem p_liftT {N : Nat} (h : RRow w g qs L) (hn : qs.length = n) (hn0 : 0 < n) (hnN : n <= N) (hN : N <= 1000) (hL : 2 <= L) : Calls Tryz.prog 67 #[.slice (some ⟨g, 0, Option.none⟩) n n, .int .i64 (N : Int)] w (fun e w' => ∃ A c, e = .returned (.slice A N c) /\ Pol w' A N c (qs ++ List.replicate (N - n) 0) L /\ Ext w w') := by
 have e1 : IntKind.i64.wrap ((N : Int) - (n : Int)) = ((N - n : Nat) : Int) := by rw [IntWalk.i64_in _ (by omega)]; omega
 go_enter Tryz.func67, Tryz.ntmps67
 go_wp2_with fail
 refine (p_zerosT (N - n) (by omega)).mono ?_;rintro e V ⟨rfl, hF, hx⟩;have hz := (hF.pol (by simp) (by unfold maxLen; omega)).le hL
 go_wp2_with (at_builtin; refine wpList_append_ratsF rfl _ _ rfl rfl rfl (h.ext hx) hn hz hn0 (by omega) (by omega) ?_; intro A' c' w' k1 k2)
 go_ret
 try rw [show n + (N - n) = N by omega] at k1
 exact ⟨_, _, rfl, k1, hx.trans k2⟩
end
end
section
open Go.RowKit
attribute [local go_sem ↓] Go.wp_at_zero Go.wp_at_succ
section
variable {w : World} {L n : Nat}
def lenS : Value -> Nat
 | .slice _ n _ => n
 | _ => 0
set_option maxRecDepth 100000 in
theorem q_FromRatO {q : Rat} {T : Option Addr} {ct : Nat} {sx tx : Bool} {Ax Bx : Option Addr} {nx cx mx dx : Nat} (hk : NR w q L sx Ax nx cx tx Bx mx dx) (hL : 2 <= L) (hn : n <= 6) : Calls Tryz.prog 20 #[.slice T n ct, .agg #[.bool sx, .slice Ax nx cx, .bool tx, .slice Bx mx dx]] w (fun e w' => ∃ A n' c, e = .returned (.slice A n' c) /\ Row4 w' w.heap.size (.slice A n' c) (q :: List.replicate (2 ^ n - 1) 0) L /\ Ext w w') := by
 obtain ⟨P, hP⟩ : ∃ P, P = 2 ^ n := ⟨_, rfl⟩;have hP1 : P <= 64 := by rw [hP]; exact Nat.le_trans (Nat.pow_le_pow_right (by omega) hn) (by decide)
 have hP0 : 0 < P := by rw [hP]; exact Nat.pow_pos (by omega)
 have hW2 : wrap64 ((2 : Int) ^ n) = (P : Int) := by
  rw [hP];have e1 : ((2 : Int) ^ n) = ((2 ^ n : Nat) : Int) := by push_cast; rfl
  rw [e1];unfold wrap64;omega
 have HP := Lib.hid hP;clear hP
 go_enter Tryz.func20, Tryz.ntmps20
 go_upto_region 1 with (fail)
 obtain ⟨W, hW, extW, bx, hz⟩ := box1 w 30 #[.bool sx, .slice Ax nx cx, .bool tx, .slice Bx mx dx];rw [<- hW];clear hW;have x0 := bx.cell 0 (.bool sx) rfl;have x1 := bx.cell 1 (.slice Ax nx cx) rfl;have x2 := bx.cell 2 (.bool tx) rfl;have x3 := bx.cell 3 (.slice Bx mx dx) rfl
 have hR0 : Row4 (W.alloc (.cells #[.bool sx, .slice Ax nx cx, .bool tx, .slice Bx mx dx] 30)) w.heap.size (.slice (some ⟨W.heap.size, 0, Option.none⟩) 1 1) [q] L := by
  have ha := (Ext.refl W).alloc (.cells #[.bool sx, .slice Ax nx cx, .bool tx, .slice Bx mx dx] 30);exact RRow.row4 ⟨_, Box.new W _ _, .cons ((hk.ext extW).ext ha) .nil⟩ extW.size rfl (by omega)
 have hE0 := extW.alloc (.cells #[.bool sx, .slice Ax nx cx, .bool tx, .slice Bx mx dx] 30)
 go_wp2_with fail
 go_loopw [5] (fun v wr => ∃ k : Nat, k < P /\ Ext w wr /\ lenS v = k + 1 /\ Row4 wr w.heap.size v (q :: List.replicate k 0) L) (fun v _ => P - lenS v)
 case atStart => exact ⟨0, hP0, hE0, rfl, hR0⟩
 case round =>
  clear hR0 hE0 bx x0 x1 x2 x3;obtain ⟨k, hk1, extr, hlv, hrow⟩ := hrel;obtain ⟨g5, cap5, rfl, _⟩ := hrow.shape (by simp);rw [show (q :: List.replicate k (0 : Rat)).length = k + 1 by simp] at hrow ⊢;have HLV := Lib.hid hlv;clear hlv
  by_cases hlt : k + 1 < P
  ·have hkI : ((k + 1 : Nat) : Int) < (P : Int) := by omega
   have hkJ : (k : Int) + 1 < (P : Int) := by omega
   go_wp2_with fail
   refine (q_FromIntR 0 (by omega) (by omega)).mono ?_;rintro e W5 ⟨s7, A7, n7, c7, t7, B7, m7, d7, rfl, h7, ext5⟩;have ha5 := (ext5).alloc (.cells #[.bool s7, .slice A7 n7 c7, .bool t7, .slice B7 m7 d7] 30);replace extr := extr.trans ha5;replace hrow := hrow.ext ha5;replace h7 := (h7.ext ((Ext.refl W5).alloc (.cells #[.bool s7, .slice A7 n7 c7, .bool t7, .slice B7 m7 d7] 30))).le hL;clear ext5 ha5;have hlen : (q :: List.replicate k (0 : Rat)).length <= 1000 := by simp; omega
   go_wp2_with (at_builtin; refine wpList_append_rat rfl _ _ rfl rfl rfl hrow h7 (Box.new W5 _ _) hlen extr.size ?_; intro v6 W6 hrow6 hgr hob)
   have hl6 : (q :: List.replicate k (0 : Rat)) ++ [((0 : Int) : Rat)] = q :: List.replicate (k + 1) 0 := by
    rw [List.replicate_succ']
    rfl
   rw [hl6] at hrow6;obtain ⟨g6, cap6, e6, _⟩ := hrow6.shape (by simp);have hl7 : lenS v6 = k + 1 + 1 := by rw [e6]; simp [lenS]
   go_roundw
   case rel => exact ⟨k + 1, hlt, Below.grown extr hgr extr.size (fun k hk => (hrow.block k hk).1), hl7, hrow6⟩
   case measure => simp [lenS] at *; omega
  ·have hkI : (P : Int) <= ((k + 1 : Nat) : Int) := by omega
   have hkJ : (P : Int) <= (k : Int) + 1 := by omega
   have hkP : k = P - 1 := by omega
   go_wp2_with fail
   go_ret
   rw [<- HP.out, <- hkP];exact ⟨_, _, _, rfl, hrow, extr⟩
theorem q_FromRatT {q : Rat} {T : Option Addr} {ct : Nat} {sx tx : Bool} {Ax Bx : Option Addr} {nx cx mx dx : Nat} (hk : NR w q L sx Ax nx cx tx Bx mx dx) (hL : 2 <= L) (hn : n <= 6) : Calls Tryz.prog 20 #[.slice T n ct, .agg #[.bool sx, .slice Ax nx cx, .bool tx, .slice Bx mx dx]] w (RetPol (q :: List.replicate (2 ^ n - 1) 0) L w) := by
 refine (q_FromRatO hk hL hn).mono ?_;rintro e w' ⟨A, n', c, rfl, h1, h2⟩;obtain ⟨A9, n9, c9, e9, hp⟩ := h1.polT
 injection e9 with e1 e2 e3
 subst e1 e2 e3;exact ⟨_, _, _, rfl, hp, h2⟩
end
section
variable {w : World} {base g m cap k L a c b d : Nat} {qs : List Rat} {q : Rat} {s t : Bool} {A B : Option Addr}
end
section
variable {w : World} {A : Option Addr} {n c : Nat}
end
inductive RCells (w : World) : List RawR -> List Value -> Prop
 | nil : RCells w [] []
 | cons {r : RawR} {rs : List RawR} {A : Option Addr} {n c : Nat} {B : Option Addr} {m d : Nat} {cs : List Value} : RI w A n c r.xs -> RI w B m d r.ys -> RCells w rs cs -> RCells w (r :: rs) (.bool r.s :: .slice A n c :: .bool r.t :: .slice B m d :: cs)
section
variable {w w' : World} {base n c m d g : Nat} {v : Value} {A B : Option Addr} {r : RawR} {rs ps : List RawR} {cs ds : List Value}
theorem RI.own {xs : List Nat} (h : RI w A n c xs) (hv : NWB w v) (k : w.grownBy w' v.ownBlock) : RI w' A n c xs := ⟨h.len, h.rd.own hv k, h.cap, h.top⟩
theorem RCells.ext (h : RCells w rs cs) (e : Ext w w') : RCells w' rs cs := by
 induction h with
 | nil => exact .nil
 | cons h k _ ih => exact .cons (h.ext e) (k.ext e) ih
theorem RCells.own (h : RCells w rs cs) (hv : NWB w v) (k : w.grownBy w' v.ownBlock) : RCells w' rs cs := by
 induction h with
 | nil => exact .nil
 | cons h j _ ih => exact .cons (h.own hv k) (j.own hv k) ih
theorem RCells.append (h : RCells w rs cs) (k : RCells w ps ds) : RCells w (rs ++ ps) (cs ++ ds) := by
 induction h with
 | nil => exact k
 | cons h j _ ih => exact .cons h j ih
theorem RCells.one (h : RCells w rs cs) : ∀ u ∈ cs, u.oneCell' = true := by
 induction h with
 | nil => intro u hu; cases hu
 | cons _ _ _ ih =>
  intro u hu;simp only [List.mem_cons] at hu
  rcases hu with rfl | rfl | rfl | rfl | hu
  ·rfl
  ·rfl
  ·rfl
  ·rfl
  ·exact ih u hu
theorem RCells.nwl (h : RCells w rs cs) : NWL cs := by
 induction h with
 | nil => intro u hu; cases hu
 | cons _ _ _ ih =>
  intro u hu;simp only [List.mem_cons] at hu
  rcases hu with rfl | rfl | rfl | rfl | hu
  ·intro k e; cases e
  ·intro k e; cases e
  ·intro k e; cases e
  ·intro k e; cases e
  ·exact ih u hu
theorem RCells.get (h : RCells w rs cs) : ∀ i (hi : i < rs.length), ∃ A n c B m d, cs[4 * i]? = some (.bool rs[i].s) /\ cs[4 * i + 1]? = some (.slice A n c) /\ cs[4 * i + 2]? = some (.bool rs[i].t) /\ cs[4 * i + 3]? = some (.slice B m d) /\ RI w A n c rs[i].xs /\ RI w B m d rs[i].ys := by
 induction h with
 | nil => intro i hi; simp at hi
 | @cons r rs A n c B m d cs h k _ ih =>
  intro i hi
  cases i with
  | zero => exact ⟨A, n, c, B, m, d, rfl, rfl, rfl, rfl, h, k⟩
  | succ i =>
   obtain ⟨A1, n1, c1, B1, m1, d1, k0, k1, k2, k3, k4, k5⟩ := ih i (by simpa using hi);refine ⟨A1, n1, c1, B1, m1, d1, ?_, ?_, ?_, ?_, k4, k5⟩
   ·rw [show 4 * (i + 1) = 4 * i + 1 + 1 + 1 + 1 by omega]; exact k0
   ·rw [show 4 * (i + 1) + 1 = 4 * i + 1 + 1 + 1 + 1 + 1 by omega]; exact k1
   ·rw [show 4 * (i + 1) + 2 = 4 * i + 2 + 1 + 1 + 1 + 1 by omega]; exact k2
   ·rw [show 4 * (i + 1) + 3 = 4 * i + 3 + 1 + 1 + 1 + 1 by omega]; exact k3
structure RowX (w : World) (base : Nat) (v : Value) (rs : List RawR) : Prop where
 own : ∃ cs, w.ownsRow base 30 4 v rs.length cs /\ RCells w rs cs
 nwb : NWB w v
theorem RowX.ext (h : RowX w base v rs) (e : Ext w w') : RowX w' base v rs := by
 obtain ⟨cs, h1, h2⟩ := h.own;exact ⟨⟨cs, owns_ext h1 e, h2.ext e⟩, h.nwb.ext e⟩
theorem RowX.nil (w : World) (base : Nat) : RowX w base (.slice none 0 0) [] := ⟨⟨[], owns_nil _ _ _ _, .nil⟩, fun g hg => by cases hg⟩
theorem RowX.block (h : RowX w base v rs) : ∀ k, v.ownBlock = some k -> base <= k /\ k < w.heap.size := by
 intro k hk;obtain ⟨cs, h1, _⟩ := h.own;refine ⟨owns_block h1 k hk, ?_⟩;obtain ⟨cur, e', fz, h2, _⟩ := h.nwb k hk
 rcases Nat.lt_or_ge k w.heap.size with j | j
 ·exact j
 ·rw [Array.getElem?_eq_none j] at h2; cases h2
theorem RowX.rawP (h : RowX w base v rs) : ∃ A c, v = .slice A rs.length c /\ RawP w A rs.length c rs := by
 obtain ⟨cs, ⟨hl, h1⟩, h2⟩ := h.own
 rcases h1 with ⟨rfl, h0⟩ | ⟨g, cap, cur, rfl, _, hg, h3, h4, hsz, htk⟩
 ·exact ⟨none, 0, by rw [h0], by
   have : rs = [] := List.length_eq_zero_iff.1 h0;exact ⟨rfl, by omega, Nat.zero_le _, fun e => absurd this e⟩⟩
 ·have hcell : ∀ j u, cs[j]? = some u -> w.cell? ⟨g, j, none⟩ = some u := by
   intro j u hu
   have hj : j < cs.length := by
    rcases Nat.lt_or_ge j cs.length with h | h
    ·exact h
    ·rw [List.getElem?_eq_none h] at hu; cases hu
   rw [<- htk, List.getElem?_take, if_pos (by rw [<- hl]; exact hj)] at hu;rw [cell_of_row w g j _ _ (0, 0) hg]
   simpa using hu
  refine ⟨_, _, rfl, rfl, h3, h4, fun _ => ⟨g, 0, rfl, fun i hi => ?_⟩⟩;obtain ⟨A, n, c, B, m, d, k0, k1, k2, k3, k4, k5⟩ := h2.get i hi;rw [Nat.zero_add];exact ⟨A, n, c, B, m, d, hcell _ _ k0, hcell _ _ k1, hcell _ _ k2, hcell _ _ k3, k4, k5⟩
theorem run_append_raw {ty : TypeId} (h : RowX w base v rs) (hx : RI w A n c r.xs) (hy : RI w B m d r.ys) (hb : Box w g 30 #[.bool r.s, .slice A n c, .bool r.t, .slice B m d]) (hl : (rs.length + 1) * 64 <= 140737488355328) (hbase : base <= w.heap.size) :
  ∃ v' w', (Builtin.append_ #[23, 23] ty #[v, .slice (some ⟨g, 0, none⟩) 1 1]).run Tryz.prog w = .ok v' w' /\ RowX w' base v' (rs ++ [r]) /\ w.grownBy w' v.ownBlock /\ (v'.ownBlock = v.ownBlock \/ v'.ownBlock = some w.heap.size) := by
 obtain ⟨i0, hi, hz0, hz1, hz2⟩ := info_partsB Tryz.infoR;obtain ⟨cs, h1, h2⟩ := h.own;have hone : RCells w [r] [.bool r.s, .slice A n c, .bool r.t, .slice B m d] := .cons hx hy .nil
 have hnews : ∀ j u, ([.bool r.s, .slice A n c, .bool r.t, .slice B m d] : List Value)[j]? = some u -> w.cell? ((⟨g, 0, none⟩ : Addr).add j) = some u := by
  intro j u hj
  match j, hj with
  | 0, hj => exact hb.cell 0 u hj
  | 1, hj => exact hb.cell 1 u hj
  | 2, hj => exact hb.cell 2 u hj
  | 3, hj => exact hb.cell 3 u hj
  | j + 4, hj => simp at hj
 rw [<- hz1] at h1
 obtain ⟨v', w', hr, k1, k2, k3, k4⟩ := run_append_nw (P := Tryz.prog) (ty := ty) (c := 1) Tryz.underlying23 hi hz0 hz2 (by rw [hz1]; rfl) (by omega) (by
  intro u hu k e;simp [Value.cells] at hu
  rcases hu with rfl | rfl | rfl | rfl <;> cases e) h1 h.nwb (m := 1) (by rw [hz1]; rfl) hnews hone.one hone.nwl (by omega) (by unfold maxLen; omega) (by omega) hbase
 rw [hz1] at k1;refine ⟨v', w', hr, ⟨⟨cs ++ [.bool r.s, .slice A n c, .bool r.t, .slice B m d], ?_, (h2.own h.nwb k2).append (hone.own h.nwb k2)⟩, k4⟩, k2, k3⟩;rw [List.length_append];exact k1
end
theorem step_append_raw {w : World} {base : Nat} {v : Value} {rs : List RawR} {r : RawR} {A B : Option Addr} {n c m d g : Nat} {ops : Array Oper} {o : Oper} {a : Act} {K : Act -> World -> Prop} {Q : Exit -> Act -> World -> Prop} {E : Prop} (hgd : o.guard = none) (x y : Operand)
  (ho : o.op = .call { callee := .builtin .append, args := #[x, y], argTypes := #[23, 23] })
  (hx : a.eval x = v) (hy : a.eval y = .slice (some ⟨g, 0, none⟩) 1 1)
  (h : RowX w base v rs) (hq : RI w A n c r.xs) (hq2 : RI w B m d r.ys) (hb : Box w g 30 #[.bool r.s, .slice A n c, .bool r.t, .slice B m d]) (hl : (rs.length + 1) * 64 <= 140737488355328) (hbase : base <= w.heap.size)
  (hK : ∀ v' w', RowX w' base v' (rs ++ [r]) -> w.grownBy w' v.ownBlock -> (v'.ownBlock = v.ownBlock \/ v'.ownBlock = some w.heap.size) -> K (a.put o.dst v') w') :
  if Region.wanted o (yielded ops a.tmps) = true then Oper.wp Tryz.prog o a w K Q else E := by
 have hw : Region.wanted o (yielded ops a.tmps) = true := by simp [Region.wanted, hgd]
 rw [if_pos hw];obtain ⟨v', w', hr, h2, h3, h5⟩ := run_append_raw (ty := o.type) h hq hq2 hb hl hbase;unfold Oper.wp execOp;simp only [ho, resolve, invoke, builtin, Sem.run_bind, Sem.run_pure, Result.andThen_ok, List.map_toArray, List.map_cons, List.map_nil, hx, hy, hr];exact hK v' w' h2 h3 h5
end
section
open Go.RowKit
section
variable {P : Program} {md : Region.Mode} {ops : Array Oper} {Q : Exit -> Act -> World -> Prop} {W0 : World} {z : Nat}
theorem wpL.two {f i j : Nat} {o o2 : Oper} {L : Array Bool} {a : Act} {w : World} (ho : ops[i]? = some o) (ho2 : ops[j]? = some o2) (hr : Region.ready md ops L = [i, j])
  (h : ∀ K : Act -> World -> Prop, Shut (∀ a' w', Ext W0 w' -> wpL P md ops Q W0 z f (L.setIfInBounds i true) a' w' -> K a' w') -> if Region.wanted o (yielded ops a.tmps) = true then Oper.wp P o a w K Q else K (a.put o.dst undef) w)
  (h2 : ∀ K : Act -> World -> Prop, Shut (∀ a' w', Ext W0 w' -> wpL P md ops Q W0 z f (L.setIfInBounds j true) a' w' -> K a' w') -> if Region.wanted o2 (yielded ops a.tmps) = true then Oper.wp P o2 a w K Q else K (a.put o2.dst undef) w) : wpL P md ops Q W0 z (f + 1) L a w := by
 refine ⟨(fun h0 => by rw [hr] at h0; cases h0), fun k hk => ?_⟩;rw [hr] at hk
 rcases List.mem_cons.1 hk with rfl | hk
 ·exact wpOp_step ho fun K hK => h K (fun a' w' e hL => hK a' w' ⟨.inr e, hL⟩)
 ·rw [List.mem_singleton] at hk
  subst hk;exact wpOp_step ho2 fun K hK => h2 K (fun a' w' e hL => hK a' w' ⟨.inr e, hL⟩)
end
theorem run_append_wordsE {P : Program} {w0 w : World} (t ty : TypeId) (i : TypeInfo) (ht : P.underlying t = some (.slice 89)) (hi : P.info? 89 = some i) (hz : i.zero = some (.int .u32 0)) (hsize : i.size = 1) (hby : i.bytes = 4)
  (he : Ext w0 w) (g : Nat) (hg : w.heap[g]? = some (.cells #[] 89 (0, 0))) (hg0 : w0.heap.size <= g) {A : Option Addr} {xs : List Nat} {c : Nat} (hr : Rd w A xs) (hl : xs.length * 4 <= 140737488355328) :
  ∃ A' c' w', (Builtin.append_ #[t, t] ty #[.slice (some ⟨g, 0, none⟩) 0 0, .slice A xs.length c]).run P w = .ok (.slice A' xs.length c') w' /\ RI w' A' xs.length c' xs /\ Ext w w' := by
 obtain ⟨A', c', w', hrun, h1, h2, h3, h4⟩ := run_append_words (P := P) t ty i ht hi hz hsize hby he g hg hg0 (c := c) hr hl;refine ⟨A', c', w', hrun, ⟨rfl, h1.rd, h2, h3⟩, ?_⟩
 by_cases h0 : xs = []
 ·subst h0
  have hr2 : (Builtin.append_ #[t, t] ty #[.slice (some ⟨g, 0, none⟩) 0 0, .slice A ([] : List Nat).length c]).run P w = .ok (.slice (some ⟨g, 0, none⟩) 0 0) w := by
   cases A with
   | none => simp [Builtin.append_, run_underlying ht, sizeOf, typeInfo, hi, Builtin.lenOf, Builtin.firstCells, storeCells]
   | some ad => simp [Builtin.append_, run_underlying ht, sizeOf, typeInfo, hi, Builtin.lenOf, Builtin.firstCells, loadCells, loadCellsFrom, storeCells]
  rw [hrun] at hr2
  injection hr2 with e1 e2
  subst e2;exact Ext.refl _
 ·obtain ⟨b, off, rfl, _, _⟩ := hr.2 h0
  have hpos : 0 < xs.length := List.length_pos_iff.2 h0;have hr2 := run_append_grow (P := P) w t ty 89 i _ ht hi hz ⟨g, 0, none⟩ 0 0 [] (by simp) (fun j u hj => by simp at hj) ⟨b, off, none⟩ xs.length c (xs.map Wd) (by rw [hsize]; simp) (cells_of_rd hr) (by omega) (by omega) (by rw [hby]; exact growslice_fits (by omega) (by omega));rw [hrun] at hr2
  injection hr2 with e1 e2
  subst e2;exact ((Ext.refl w).drew).alloc _
theorem step_append_wordsE {w0 w : World} {ops : Array Oper} {o : Oper} {a : Act} {K : Act -> World -> Prop} {Q : Exit -> Act -> World -> Prop} {E : Prop} (hgd : o.guard = none) (s x : Operand) (t : TypeId)
  (ho : o.op = .call { callee := .builtin .append, args := #[s, x], argTypes := #[t, t] }) (ht : Tryz.prog.underlying t = some (.slice 89))
  (he : Ext w0 w) (g : Nat) (hs : a.eval s = .slice (some ⟨g, 0, none⟩) 0 0) (hg : Box w g 89 #[]) (hg0 : w0.heap.size <= g)
  {A : Option Addr} {n : Nat} {xs : List Nat} {c : Nat} (hx : a.eval x = .slice A n c) (hr : RI w A n c xs) (hl : n * 4 <= 140737488355328)
  (h : ∀ A' c' w', RI w' A' n c' xs -> Ext w w' -> K (a.put o.dst (.slice A' n c')) w') :
  if Region.wanted o (yielded ops a.tmps) = true then Oper.wp Tryz.prog o a w K Q else E := by
 have hw : Region.wanted o (yielded ops a.tmps) = true := by simp [Region.wanted, hgd]
 rw [if_pos hw];obtain ⟨hn, hrd, hc1, hc2⟩ := hr;subst hn;obtain ⟨i0, hi, hz0, hz1, hz2⟩ := info_parts Tryz.infoW;obtain ⟨A', c', w', hrun, h1, h4⟩ := run_append_wordsE (P := Tryz.prog) t o.type i0 ht hi hz0 hz1 hz2 he g hg hg0 (c := c) hrd hl;unfold Oper.wp execOp;simp only [ho, resolve, invoke, builtin, Sem.run_bind, Sem.run_pure, Result.andThen_ok, List.map_toArray, List.map_cons, List.map_nil, hs, hx, hrun];exact h A' c' w' h1 h4
end
section
open Go.RowKit
attribute [local go_sem ↓] Go.wp_at_zero Go.wp_at_succ
section
variable {w : World} {A : Option Addr} {n c : Nat} {rs : List RawR}
set_option maxRecDepth 100000 in
theorem law_copyL (h : RawP w A n c rs) (hn : n * 64 <= 140737488355328) (hw : ∀ r ∈ rs, r.xs.length * 4 <= 140737488355328 /\ r.ys.length * 4 <= 140737488355328) : Calls Tryz.prog 48 #[.slice A n c] w (fun e w' => ∃ A' c', e = .returned (.slice A' n c') /\ RawP w' A' n c' rs /\ Ext w w') := by
 have HL := Lib.hid h.len;have HW := Lib.hid hw;have HN := Lib.hid hn;have hnZ : n < 9223372036854775807 := by omega
 clear hw hn
 go_enter Tryz.func48, Tryz.ntmps48
 go_wp2_with fail
 go_loopw [3, 8] (fun v i wr => ∃ k : Nat, k <= n /\ i = .int .i64 (k : Int) /\ Ext w wr /\ RowX wr w.heap.size v (rs.take k)) (fun _ i _ => n - (intOf i).toNat)
 case atStart => exact ⟨0, Nat.zero_le _, rfl, Ext.refl w, by rw [List.take_zero]; exact RowX.nil _ _⟩
 case round =>
  obtain ⟨k, hk, rfl, extr, hrow⟩ := hrel
  rename_i v _
  by_cases hlt : k < n
  ·have hkI : (k : Int) < (n : Int) := by omega
   have hkl : k < rs.length := by rw [HL.out]; exact hlt
   obtain ⟨p, off, rfl, hat⟩ := h.at_ (fun e => by rw [e] at hkl; exact absurd hkl (Nat.not_lt_zero _));obtain ⟨Ax, nx, cx, By, ny, dy, e0, e1, e2, e3, hx, hy⟩ := (hat k hkl).ext extr;have e0' : wr.cell? ⟨p, off + k * 4, Option.none⟩ = some (.bool rs[k].s) := by rw [Nat.mul_comm]; exact e0
   have e1' : wr.cell? ⟨p, off + k * 4 + 1, Option.none⟩ = some (.slice Ax nx cx) := by rw [Nat.mul_comm]; exact e1
   have e2' : wr.cell? ⟨p, off + k * 4 + 2, Option.none⟩ = some (.bool rs[k].t) := by rw [Nat.mul_comm]; exact e2
   have e3' : wr.cell? ⟨p, off + k * 4 + 3, Option.none⟩ = some (.slice By ny dy) := by rw [Nat.mul_comm]; exact e3
   have HT := Lib.hid (show rs.take (k + 1) = rs.take k ++ [rs[k]] from List.take_succ_eq_append_getElem hkl);have hW := HW.out _ (List.getElem_mem hkl);rw [hx.len, hy.len] at hW;have HW1 := Lib.hid hW.1;have HW2 := Lib.hid hW.2;clear hW;have hlen := Lib.hid (show ((rs.take k).length + 1) * 64 <= 140737488355328 by have := HN.out; rw [List.length_take]; omega);generalize rs[k] = r at *
   go_upto_region 5 with (fail)
   obtain ⟨W2, hW2, extW, bv, hz⟩ := box1 wr 30 #[.bool r.s, .slice Ax nx cx, .bool r.t, .slice By ny dy];rw [<- hW2];clear hW2 hz e0 e1 e2 e3 e0' e1' e2' e3';replace hx := hx.ext extW;replace hy := hy.ext extW;replace hrow := hrow.ext extW;replace extr := extr.trans extW;refine wpL.st 21 (fun hQ ES => ?_);refine wpL.tB [21] 0 12 ?v_0 hQ ?y_0 ES ?_
   case y_0 => intro w' hSw;go_simp;try rfl
   try simp only [zP]
   refine wpL.tB [2,3,9,19,20,21] 1 13 ?v_1 hQ ?y_1 ES ?_
   case y_1 => intro w' hSw;go_simp;try rfl
   try simp only [zP]
   refine wpL.tB [3,9,19,20,21] 2 14 ?v_2 hQ ?y_2 ES ?_
   case y_2 => intro w' hSw;go_simp;try rfl
   try simp only [zP]
   refine wpL.tB [9,19,20,21] 3 15 ?v_3 hQ ?y_3 ES ?_
   case y_3 => intro w' hSw;have k0 := (bv.ext hSw).c4;go_simp;try rfl
   try simp only [zP]
   refine wpL.tB [6,7,8,9,19,20,21] 5 17 ?v_4 hQ ?y_4 ES ?_
   case y_4 => intro w' hSw;go_simp;try rfl
   try simp only [zP]
   refine wpL.tB [7,8,9,19,20,21] 6 18 ?v_5 hQ ?y_5 ES ?_
   case y_5 => intro w' hSw;go_simp;try rfl
   try simp only [zP]
   refine wpL.tB [8,9,19,20,21] 7 19 ?v_6 hQ ?y_6 ES ?_
   case y_6 => intro w' hSw;have k0 := (bv.ext hSw).c4;go_simp;try rfl
   try simp only [zP]
   refine wpL.tB [11,12,18,19,20,21] 10 22 ?v_7 hQ ?y_7 ES ?_
   case y_7 => intro w' hSw;go_simp;try rfl
   try simp only [zP]
   refine wpL.tB [12,18,19,20,21] 11 23 ?v_8 hQ ?y_8 ES ?_
   case y_8 => intro w' hSw;go_simp;try rfl
   try simp only [zP]
   refine wpL.tB [18,19,20,21] 12 24 ?v_9 hQ ?y_9 ES ?_
   case y_9 => intro w' hSw;have k0 := (bv.ext hSw).c4;go_simp;try rfl
   try simp only [zP]
   refine wpL.tB [15,16,17,18,19,20,21] 14 26 ?v_a hQ ?y_a ES ?_
   case y_a => intro w' hSw;go_simp;try rfl
   try simp only [zP]
   refine wpL.tB [16,17,18,19,20,21] 15 27 ?v_b hQ ?y_b ES ?_
   case y_b => intro w' hSw;go_simp;try rfl
   try simp only [zP]
   refine wpL.tB [17,18,19,20,21] 16 28 ?v_c hQ ?y_c ES ?_
   case y_c => intro w' hSw;have k0 := (bv.ext hSw).c4;go_simp;try rfl
   try simp only [zP]
   refine wpL.two (i := 4) (j := 13) rfl rfl (by kernel_rfl) (fun K hK => ?_) (fun K hK => ?_)
   ·go_simp
    have B4 := Box.new (W2.drew) 89 #[];have Z4 := Ext.size ES;have X4 := (Ext.refl (W2.drew)).alloc (.cells #[] 89);have F4 := Ext.trans ES X4;refine hK.out _ _ F4 ?_;clear hK K
    try simp only [zP]
    refine wpL.two (i := 8) (j := 13) rfl rfl (by kernel_rfl) (fun K hK => ?_) (fun K hK => ?_)
    ·refine step_append_wordsE (w0 := W2) rfl _ _ _ rfl Tryz.underlying26 F4 _ rfl B4 Z4 rfl (hx.ext F4) HW1.out ?_
     intro A8 cA8 u8 n8 J8;replace B4 := B4.ext J8;have G8 := Ext.trans F4 J8;refine hK.out _ _ G8 ?_
     try simp only [List.getElem_toArray, List.getElem_cons_succ, List.getElem_cons_zero]
     clear hK K
     try simp only [zP]
     refine wpL.tB [19,20,21] 9 21 ?v_d hQ ?y_d G8 ?_
     case y_d => intro w' hSw;go_simp;try rfl
     try simp only [zP]
     refine wpL.cl (i := 13) rfl (fun K hK => ?_);go_simp;have B13 := Box.new (u8) 89 #[];have Z13 := Ext.size G8;have X13 := (Ext.refl (u8)).alloc (.cells #[] 89);replace B4 := B4.ext X13;replace n8 := n8.ext X13;have F13 := Ext.trans G8 X13;refine hK.out _ _ F13 ?_;clear hK K
     try simp only [zP]
     refine wpL.cl (i := 17) rfl (fun K hK => ?_);refine step_append_wordsE (w0 := W2) rfl _ _ _ rfl Tryz.underlying26 F13 _ rfl B13 Z13 rfl (hy.ext F13) HW2.out ?_;intro A17 cA17 u17 n17 J17;replace B4 := B4.ext J17;replace n8 := n8.ext J17;replace B13 := B13.ext J17;have G17 := Ext.trans F13 J17;refine hK.out _ _ G17 ?_
     try simp only [List.getElem_toArray, List.getElem_cons_succ, List.getElem_cons_zero]
     clear hK K
     try simp only [zP]
     refine wpL.tB [19,20,21] 18 30 ?v_e hQ ?y_e G17 ?_
     case y_e => intro w' hSw;go_simp;try rfl
     try simp only [zP]
     refine wpL.tB [20,21] 19 31 ?v_f hQ ?y_f G17 ?_
     case y_f => intro w' hSw;go_simp;try rfl
     try simp only [zP]
     refine wpL.cl (i := 20) rfl (fun K hK => ?_);go_simp;have B20 := Box.new (u17) 30 #[.bool r.s, .slice A8 nx cA8, .bool r.t, .slice A17 ny cA17];have X20 := (Ext.refl (u17)).alloc (.cells #[.bool r.s, .slice A8 nx cA8, .bool r.t, .slice A17 ny cA17] 30);replace B4 := B4.ext X20;replace n8 := n8.ext X20;replace B13 := B13.ext X20;replace n17 := n17.ext X20;have F20 := Ext.trans G17 X20;refine hK.out _ _ F20 ?_;clear hK K
     try simp only [zP]
     refine wpL.tl (i := 21) rfl (fun K hK => ?_);refine step_append_raw rfl _ _ rfl rfl rfl (hrow.ext F20) n8 n17 B20 hlen.out (extr.trans F20).size ?_;intro v6 W6 hrow6 hgr hob;refine hK.out _ _ ?_
     try simp only [List.getElem_toArray, List.getElem_cons_succ, List.getElem_cons_zero]
     clear hK K
     try simp only [zP]
     refine wpL.tl (i := 22) rfl (fun K hK => ?_);go_simp;refine hK.out _ _ ?_;clear hK K
     try simp only [zP]
     refine wpL.done (by kernel_rfl) ?_ _;clear hQ
     go_wp2_with fail
     go_roundw
     case rel =>
      refine ⟨k + 1, by omega, by go_num, Below.grown (extr.trans F20) hgr (extr.trans F20).size (fun k hk => (hrow.block k hk).1), ?_⟩;rw [HT.out];exact hrow6
     case measure => simp [intOf]; omega
    ·go_simp
     have B13 := Box.new ((W2.drew).alloc (.cells #[] 89)) 89 #[];have Z13 := Ext.size F4;have X13 := (Ext.refl ((W2.drew).alloc (.cells #[] 89))).alloc (.cells #[] 89);rw [World.size_alloc] at B13 Z13;replace B4 := B4.ext X13;have F13 := Ext.trans F4 X13;refine hK.out _ _ F13 ?_;clear hK K
     try simp only [zP]
     refine wpL.cl (i := 8) rfl (fun K hK => ?_);refine step_append_wordsE (w0 := W2) rfl _ _ _ rfl Tryz.underlying26 F13 _ rfl B4 Z4 rfl (hx.ext F13) HW1.out ?_;intro A8 cA8 u8 n8 J8;replace B4 := B4.ext J8;replace B13 := B13.ext J8;have G8 := Ext.trans F13 J8;refine hK.out _ _ G8 ?_
     try simp only [List.getElem_toArray, List.getElem_cons_succ, List.getElem_cons_zero]
     clear hK K
     try simp only [zP]
     refine wpL.tB [19,20,21] 9 21 ?v_g hQ ?y_g G8 ?_
     case y_g => intro w' hSw;go_simp;try rfl
     try simp only [zP]
     refine wpL.cl (i := 17) rfl (fun K hK => ?_);refine step_append_wordsE (w0 := W2) rfl _ _ _ rfl Tryz.underlying26 G8 _ rfl B13 Z13 rfl (hy.ext G8) HW2.out ?_;intro A17 cA17 u17 n17 J17;replace B4 := B4.ext J17;replace B13 := B13.ext J17;replace n8 := n8.ext J17;have G17 := Ext.trans G8 J17;refine hK.out _ _ G17 ?_
     try simp only [List.getElem_toArray, List.getElem_cons_succ, List.getElem_cons_zero]
     clear hK K
     try simp only [zP]
     refine wpL.tB [19,20,21] 18 30 ?v_h hQ ?y_h G17 ?_
     case y_h => intro w' hSw;go_simp;try rfl
     try simp only [zP]
     refine wpL.tB [20,21] 19 31 ?v_i hQ ?y_i G17 ?_
     case y_i => intro w' hSw;go_simp;try rfl
     try simp only [zP]
     refine wpL.cl (i := 20) rfl (fun K hK => ?_);go_simp;have B20 := Box.new (u17) 30 #[.bool r.s, .slice A8 nx cA8, .bool r.t, .slice A17 ny cA17];have X20 := (Ext.refl (u17)).alloc (.cells #[.bool r.s, .slice A8 nx cA8, .bool r.t, .slice A17 ny cA17] 30);replace B4 := B4.ext X20;replace B13 := B13.ext X20;replace n8 := n8.ext X20;replace n17 := n17.ext X20;have F20 := Ext.trans G17 X20;refine hK.out _ _ F20 ?_;clear hK K
     try simp only [zP]
     refine wpL.tl (i := 21) rfl (fun K hK => ?_);refine step_append_raw rfl _ _ rfl rfl rfl (hrow.ext F20) n8 n17 B20 hlen.out (extr.trans F20).size ?_;intro v6 W6 hrow6 hgr hob;refine hK.out _ _ ?_
     try simp only [List.getElem_toArray, List.getElem_cons_succ, List.getElem_cons_zero]
     clear hK K
     try simp only [zP]
     refine wpL.tl (i := 22) rfl (fun K hK => ?_);go_simp;refine hK.out _ _ ?_;clear hK K
     try simp only [zP]
     refine wpL.done (by kernel_rfl) ?_ _;clear hQ
     go_wp2_with fail
     go_roundw
     case rel =>
      refine ⟨k + 1, by omega, by go_num, Below.grown (extr.trans F20) hgr (extr.trans F20).size (fun k hk => (hrow.block k hk).1), ?_⟩;rw [HT.out];exact hrow6
     case measure => simp [intOf]; omega
   ·go_simp
    have B13 := Box.new (W2.drew) 89 #[];have Z13 := Ext.size ES;have X13 := (Ext.refl (W2.drew)).alloc (.cells #[] 89);have F13 := Ext.trans ES X13;refine hK.out _ _ F13 ?_;clear hK K
    try simp only [zP]
    refine wpL.cl (i := 4) rfl (fun K hK => ?_);go_simp;have B4 := Box.new ((W2.drew).alloc (.cells #[] 89)) 89 #[];have Z4 := Ext.size F13;have X4 := (Ext.refl ((W2.drew).alloc (.cells #[] 89))).alloc (.cells #[] 89);rw [World.size_alloc] at B4 Z4;replace B13 := B13.ext X4;have F4 := Ext.trans F13 X4;refine hK.out _ _ F4 ?_;clear hK K
    try simp only [zP]
    refine wpL.cl (i := 8) rfl (fun K hK => ?_);refine step_append_wordsE (w0 := W2) rfl _ _ _ rfl Tryz.underlying26 F4 _ rfl B4 Z4 rfl (hx.ext F4) HW1.out ?_;intro A8 cA8 u8 n8 J8;replace B13 := B13.ext J8;replace B4 := B4.ext J8;have G8 := Ext.trans F4 J8;refine hK.out _ _ G8 ?_
    try simp only [List.getElem_toArray, List.getElem_cons_succ, List.getElem_cons_zero]
    clear hK K
    try simp only [zP]
    refine wpL.tB [19,20,21] 9 21 ?v_j hQ ?y_j G8 ?_
    case y_j => intro w' hSw;go_simp;try rfl
    try simp only [zP]
    refine wpL.cl (i := 17) rfl (fun K hK => ?_);refine step_append_wordsE (w0 := W2) rfl _ _ _ rfl Tryz.underlying26 G8 _ rfl B13 Z13 rfl (hy.ext G8) HW2.out ?_;intro A17 cA17 u17 n17 J17;replace B13 := B13.ext J17;replace B4 := B4.ext J17;replace n8 := n8.ext J17;have G17 := Ext.trans G8 J17;refine hK.out _ _ G17 ?_
    try simp only [List.getElem_toArray, List.getElem_cons_succ, List.getElem_cons_zero]
    clear hK K
    try simp only [zP]
    refine wpL.tB [19,20,21] 18 30 ?v_k hQ ?y_k G17 ?_
    case y_k => intro w' hSw;go_simp;try rfl
    try simp only [zP]
    refine wpL.tB [20,21] 19 31 ?v_l hQ ?y_l G17 ?_
    case y_l => intro w' hSw;go_simp;try rfl
    try simp only [zP]
    refine wpL.cl (i := 20) rfl (fun K hK => ?_);go_simp;have B20 := Box.new (u17) 30 #[.bool r.s, .slice A8 nx cA8, .bool r.t, .slice A17 ny cA17];have X20 := (Ext.refl (u17)).alloc (.cells #[.bool r.s, .slice A8 nx cA8, .bool r.t, .slice A17 ny cA17] 30);replace B13 := B13.ext X20;replace B4 := B4.ext X20;replace n8 := n8.ext X20;replace n17 := n17.ext X20;have F20 := Ext.trans G17 X20;refine hK.out _ _ F20 ?_;clear hK K
    try simp only [zP]
    refine wpL.tl (i := 21) rfl (fun K hK => ?_);refine step_append_raw rfl _ _ rfl rfl rfl (hrow.ext F20) n8 n17 B20 hlen.out (extr.trans F20).size ?_;intro v6 W6 hrow6 hgr hob;refine hK.out _ _ ?_
    try simp only [List.getElem_toArray, List.getElem_cons_succ, List.getElem_cons_zero]
    clear hK K
    try simp only [zP]
    refine wpL.tl (i := 22) rfl (fun K hK => ?_);go_simp;refine hK.out _ _ ?_;clear hK K
    try simp only [zP]
    refine wpL.done (by kernel_rfl) ?_ _;clear hQ
    go_wp2_with fail
    go_roundw
    case rel =>
     refine ⟨k + 1, by omega, by go_num, Below.grown (extr.trans F20) hgr (extr.trans F20).size (fun k hk => (hrow.block k hk).1), ?_⟩;rw [HT.out];exact hrow6
    case measure => simp [intOf]; omega
  ·have hkn : k = n := by omega
   subst hkn;rw [List.take_of_length_le (Nat.le_of_eq HL.out)] at hrow;obtain ⟨A9, c9, rfl, hp⟩ := hrow.rawP;rw [HL.out] at hp ⊢;have hI : (k : Int) <= (k : Int) := Int.le_refl _
   go_wp2_with fail
   go_ret
   exact ⟨A9, c9, rfl, hp, extr⟩
end
def fewB4 (ts ls : List (List RawR)) : Bool := decide (ts.length <= 4) && fewL (ts ++ ls)
section
variable {w w' : World} {v : Value} {r : RawR} {rs : List RawR} {ts us : List (List RawR)} {A : Option Addr} {n c b o base : Nat} {cs ds : List Value}
theorem RawP.own (h : RawP w A n c rs) (hv : NSB w v) (k : w.grownBy w' v.ownBlock) : RawP w' A n c rs := by
 refine ⟨h.len, h.cap, h.top, fun hq => ?_⟩;obtain ⟨b, off, h1, h2⟩ := h.at_ hq;refine ⟨b, off, h1, fun i hi => ?_⟩;obtain ⟨A', n', c', B', m', d', e0, e1, e2, e3, r1, r2⟩ := h2 i hi
 have hne : v.ownBlock ≠ some b := by
  intro hb;obtain ⟨cur, e, fz, hg, hn⟩ := hv b hb;rw [cell_of_row w b _ _ _ _ hg] at e0;obtain ⟨A, n, c, h3⟩ := hn _ (Array.mem_toList_iff.2 (Array.mem_of_getElem? e0))
  cases h3
 have hc : ∀ o u, w.cell? ⟨b, o, Option.none⟩ = some u -> w'.cell? ⟨b, o, Option.none⟩ = some u := fun o u hu => by
  have hlt := cell_lt hu;rw [World.cell?_of_block (k.block b hlt (fun e => hne e.symm)), hu]
 exact ⟨A', n', c', B', m', d', hc _ _ e0, hc _ _ e1, hc _ _ e2, hc _ _ e3, ⟨r1.len, r1.rd.own hv.nwb k, r1.cap, r1.top⟩, ⟨r2.len, r2.rd.own hv.nwb k, r2.cap, r2.top⟩⟩
inductive WCells (w : World) : List (List RawR) -> List Value -> Prop
 | nil : WCells w [] []
 | cons {rs : List RawR} {ts : List (List RawR)} {A : Option Addr} {n c : Nat} {cs : List Value} : RawP w A n c rs -> WCells w ts cs -> WCells w (rs :: ts) (.slice A n c :: cs)
theorem WCells.own (h : WCells w ts cs) (hv : NSB w v) (k : w.grownBy w' v.ownBlock) : WCells w' ts cs := by
 induction h with
 | nil => exact .nil
 | cons h _ ih => exact .cons (h.own hv k) ih
theorem WCells.ext (h : WCells w ts cs) (e : Ext w w') : WCells w' ts cs := by
 induction h with
 | nil => exact .nil
 | cons h _ ih => exact .cons (h.ext e) ih
theorem WCells.append (h : WCells w ts cs) (k : WCells w us ds) : WCells w (ts ++ us) (cs ++ ds) := by
 induction h with
 | nil => exact k
 | cons h _ ih => exact .cons h ih
theorem WCells.len (h : WCells w ts cs) : cs.length = ts.length := by
 induction h with
 | nil => rfl
 | cons h _ ih => rw [List.length_cons, List.length_cons, ih]
theorem WCells.nsl (h : WCells w ts cs) : NSL cs := by
 induction h with
 | nil => intro u hu; cases hu
 | cons h _ ih =>
  intro u hu
  rcases List.mem_cons.1 hu with rfl | hu
  ·exact ⟨_, _, _, rfl⟩
  ·exact ih u hu
theorem WCells.get (h : WCells w ts cs) : ∀ i (hi : i < ts.length), ∃ A n c, cs[i]? = some (.slice A n c) /\ RawP w A n c ts[i] := by
 induction h with
 | nil => intro i hi; cases hi
 | cons h _ ih =>
  intro i hi
  cases i with
  | zero => exact ⟨_, _, _, rfl, h⟩
  | succ i =>
   obtain ⟨A, n, c, h1, h2⟩ := ih i (by simpa using hi);exact ⟨A, n, c, by simpa using h1, by simpa using h2⟩
theorem RawT.list {b o : Nat} : ∀ (ts : List (List RawR)) (o : Nat), (∀ i (h : i < ts.length), ∃ A' n' c', w.cell? ⟨b, o + i, Option.none⟩ = some (.slice A' n' c') /\ RawP w A' n' c' ts[i]) -> ∃ cs, WCells w ts cs /\ ∀ j u, cs[j]? = some u -> w.cell? ⟨b, o + j, Option.none⟩ = some u
 | [], o, _ => ⟨[], .nil, fun j u hj => by simp at hj⟩
 | rs :: ts, o, h => by
  obtain ⟨A', n', c', h1, h2⟩ := h 0 (by simp)
  obtain ⟨cs, h3, h4⟩ := RawT.list (b := b) (o := o) ts (o + 1) (fun i hi => by
   obtain ⟨A, n, c, k1, k2⟩ := h (i + 1) (by simp; omega);exact ⟨A, n, c, by rw [<- k1]; congr 2; omega, by simpa using k2⟩)
  refine ⟨.slice A' n' c' :: cs, .cons (by simpa using h2) h3, fun j u hj => ?_⟩
  cases j with
  | zero => simp only [List.getElem?_cons_zero, Option.some.injEq] at hj; subst hj; exact h1
  | succ j =>
   rw [List.getElem?_cons_succ] at hj;rw [show o + (j + 1) = o + 1 + j by omega];exact h4 j u hj
structure RowW (w : World) (base : Nat) (v : Value) (ts : List (List RawR)) : Prop where
 own : ∃ cs, w.ownsRow base 23 1 v ts.length cs /\ WCells w ts cs
 nsb : NSB w v
theorem RowW.ext (h : RowW w base v ts) (e : Ext w w') : RowW w' base v ts := by
 obtain ⟨cs, h1, h2⟩ := h.own;exact ⟨⟨cs, owns_ext h1 e, h2.ext e⟩, h.nsb.ext e⟩
theorem RowW.block (h : RowW w base v ts) : ∀ k, v.ownBlock = some k -> base <= k /\ k < w.heap.size := by
 intro k hk;obtain ⟨cs, h1, _⟩ := h.own;refine ⟨owns_block h1 k hk, ?_⟩;obtain ⟨cur, e', fz, h2, _⟩ := h.nsb k hk
 rcases Nat.lt_or_ge k w.heap.size with j | j
 ·exact j
 ·rw [Array.getElem?_eq_none j] at h2; cases h2
theorem RowW.empty {g : Nat} (hb : Box w g 23 #[]) (hg : base <= g) : RowW w base (.slice (some ⟨g, 0, Option.none⟩) 0 0) [] :=
 ⟨⟨[], ⟨rfl, Or.inr ⟨g, 0, #[], rfl, hg, hb, Nat.le_refl _, Nat.zero_le _, rfl, rfl⟩⟩, .nil⟩, fun g' hg' => by
  injection hg' with hg'
  subst hg';exact ⟨_, _, _, hb, fun u hu => by cases hu⟩⟩
theorem RowW.rawT (h : RowW w base v ts) : ∃ A n c, v = .slice A n c /\ RawT w A n c ts := by
 obtain ⟨cs, h1, h2⟩ := h.own
 rcases h1.2 with ⟨rfl, h0⟩ | ⟨g, cap, cur, rfl, hbg, hg, hnc, hcm, hcs, htk⟩
 ·have hz : ts = [] := List.length_eq_zero_iff.1 h0
  subst hz;exact ⟨_, _, _, rfl, RawT.none _⟩
 ·refine ⟨_, _, _, rfl, rfl, hnc, hcm, fun _ => ⟨g, 0, rfl, fun i hi => ?_⟩⟩
  obtain ⟨A, n, c, e0, e1⟩ := h2.get i hi;refine ⟨A, n, c, ?_, e1⟩;rw [Nat.zero_add, cell_of_row w g _ _ _ _ hg];rw [<- htk] at e0;rw [List.getElem?_take] at e0
  split at e0
  ·simpa using e0
  ·cases e0
theorem Tryz.infoSr : (Tryz.prog.info? 23).map (fun i => (i.zero, i.size, i.bytes)) = some (some (.slice Option.none 0 0), 1, 24) := by kernel_rfl
theorem run_append_raws {ty : TypeId} (h : RowW w base v ts) (hp : RawT w A n c us) (hl : ts.length <= 1000) (hn : n <= 1000) (hbase : base <= w.heap.size) :
  ∃ v' w', (Builtin.append_ #[22, 22] ty #[v, .slice A n c]).run Tryz.prog w = .ok v' w' /\ RowW w' base v' (ts ++ us) /\ w.grownBy w' v.ownBlock := by
 obtain ⟨i0, hi, hz0, hz1, hz2⟩ := info_partsB Tryz.infoSr;obtain ⟨cs, h1, h2⟩ := h.own
 rcases Nat.eq_zero_or_pos n with h0 | h0
 ·subst h0
  have hus : us = [] := List.eq_nil_of_length_eq_zero hp.len;subst hus;refine ⟨v, w, ?_, by rw [List.append_nil]; exact h, World.grownBy.refl w _⟩
  rcases h1.2 with ⟨rfl, h0⟩ | ⟨g, cap, cur, rfl, hbg, hg, hnc, hcm, hcs, htake⟩
  ·cases A with
   | none => simp [Builtin.append_, run_underlying Tryz.underlying22, sizeOf, typeInfo, hi, Builtin.lenOf, Builtin.firstCells]
   | some ad => simp [Builtin.append_, run_underlying Tryz.underlying22, sizeOf, typeInfo, hi, Builtin.lenOf, Builtin.firstCells, loadCells, loadCellsFrom]
  ·cases A with
   | none => simp [Builtin.append_, run_underlying Tryz.underlying22, sizeOf, typeInfo, hi, Builtin.lenOf, Builtin.firstCells, storeCells, hnc]
   | some ad => simp [Builtin.append_, run_underlying Tryz.underlying22, sizeOf, typeInfo, hi, Builtin.lenOf, Builtin.firstCells, loadCells, loadCellsFrom, storeCells, hnc]
 ·have hne : us ≠ [] := fun e => by have := hp.len; rw [e] at this; simp at this; omega
  obtain ⟨b, off, rfl, hr⟩ := hp.at_ hne;obtain ⟨ds, k1, k2'⟩ := RawT.list (b := b) (o := off) us off hr;have k2 : ∀ j u, ds[j]? = some u -> w.cell? ((⟨b, off, Option.none⟩ : Addr).add j) = some u := fun j u hj => by rw [addr_addI]; exact k2' j u hj
  have hdl : ds.length = n * 1 := by rw [k1.len, hp.len, Nat.mul_one]
  rw [<- hz1] at h1
  obtain ⟨v', w', hr, j1, j2, j3, j4⟩ := run_append_sl (P := Tryz.prog) (ty := ty) (c := c) Tryz.underlying22 hi hz0 hz2 (by rw [hz1]; rfl) (by omega) (by
   intro u hu;simp [Value.cells] at hu;subst hu;exact ⟨_, _, _, rfl⟩) h1 h.nsb (m := n) (by rw [hz1]; exact hdl) (fun j u hj => k2 j u hj) (fun u hu => by obtain ⟨A, n, c, rfl⟩ := k1.nsl u hu; rfl) k1.nsl h0 (by unfold maxLen; omega) (by omega) hbase
  rw [hz1] at j1;refine ⟨v', w', hr, ⟨⟨cs ++ ds, ?_, (h2.own h.nsb j2).append (k1.own h.nsb j2)⟩, j4⟩, j2⟩;rw [List.length_append, hp.len];exact j1
theorem wpList_append_raws {w0 : World} {ops : Array Oper} {rest : List Oper} {o : Oper} {a : Act} {Q : Exit -> Act -> World -> Prop} (hgd : o.guard = Option.none) (x y : Operand)
  (ho : o.op = .call { callee := .builtin .append, args := #[x, y], argTypes := #[22, 22] })
  (hx : a.eval x = v) (hy : a.eval y = .slice A n c)
  (h : RowW w base v ts) (hp : RawT w A n c us) (hl : ts.length <= 1000) (hn : n <= 1000) (hbase : base <= w.heap.size) (he : Ext w0 w) (hb0 : w0.heap.size <= base)
  (hK : ∀ v' w', RowW w' base v' (ts ++ us) -> w.grownBy w' v.ownBlock -> Ext w0 w' -> wpList Tryz.prog ops Q rest (a.put o.dst v') w') :
  wpList Tryz.prog ops Q (o :: rest) a w := by
 refine wpList_plain hgd fun K hKK => ?_
 obtain ⟨v', w', hr, h2, h3⟩ := run_append_raws (ty := o.type) h hp hl hn hbase;have h4 : Ext w0 w' := Below.grown he h3 he.size (fun k hk => Nat.le_trans hb0 (h.block k hk).1);unfold Oper.wp execOp;simp only [ho, resolve, invoke, builtin, Sem.run_bind, Sem.run_pure, Result.andThen_ok, List.map_toArray, List.map_cons, List.map_nil, hx, hy, hr];exact hKK _ _ (hK v' w' h2 h3 h4)
end
section
variable {w w' : World} {base n c g : Nat} {v v0 : Value} {A : Option Addr} {ts us : List (List RawR)}
theorem RowW.ownN (h : RowW w base v ts) (hv : NSB w v0) (k : w.grownBy w' v0.ownBlock) (hne : ∀ g, v.ownBlock = some g -> v0.ownBlock ≠ some g) : RowW w' base v ts := by
 obtain ⟨cs, h1, h2⟩ := h.own;refine ⟨⟨cs, owns_far h1 k hne, h2.own hv k⟩, ?_⟩;intro g hg;obtain ⟨cur, e, fz, q1, q2⟩ := h.nsb g hg;exact ⟨cur, e, fz, (k.block g (owns_lt h1 g hg) (fun e => hne g hg e.symm)).trans q1, q2⟩
theorem RowW.boxne (h : RowW w base v ts) {bs : Array Value} {T : TypeId} (hb : Box w g T bs) (hT : 23 ≠ T) : v.ownBlock ≠ some g := by
 obtain ⟨cs, h1, _⟩ := h.own;exact owns_box h1 hb hT
theorem RowW.nil (w : World) (base : Nat) : RowW w base (.slice none 0 0) [] := ⟨⟨[], owns_nil _ _ _ _, .nil⟩, fun g hg => by cases hg⟩
theorem RowW.shape (h : RowW w base v ts) : ∃ A n c, v = .slice A n c := by
 obtain ⟨A, n, c, e, _⟩ := h.rawT;exact ⟨A, n, c, e⟩
theorem step_append_raws {ops : Array Oper} {o : Oper} {a : Act} {K : Act -> World -> Prop} {Q : Exit -> Act -> World -> Prop} {E : Prop} (hgd : o.guard = none) (x y : Operand)
  (hop : o.op = .call { callee := .builtin .append, args := #[x, y], argTypes := #[22, 22] })
  (hx : a.eval x = v) (hy : a.eval y = .slice A n c)
  (h : RowW w base v ts) (hp : RawT w A n c us) (hl : ts.length <= 1000) (hn : n <= 1000) (hbase : base <= w.heap.size)
  (hK : ∀ v' w', RowW w' base v' (ts ++ us) -> w.grownBy w' v.ownBlock -> K (a.put o.dst v') w') :
  if Region.wanted o (yielded ops a.tmps) = true then Oper.wp Tryz.prog o a w K Q else E := by
 have hw : Region.wanted o (yielded ops a.tmps) = true := by simp [Region.wanted, hgd]
 rw [if_pos hw];obtain ⟨v', w', hr, h2, h3⟩ := run_append_raws (ty := o.type) h hp hl hn hbase;unfold Oper.wp execOp;simp only [hop, resolve, invoke, builtin, Sem.run_bind, Sem.run_pure, Result.andThen_ok, List.map_toArray, List.map_cons, List.map_nil, hx, hy, hr];exact hK v' w' h2 h3
end
theorem rats_ne_case : 23 ≠ 25 := by decide
theorem nsw4 {A1 A2 A3 A4 : Option Addr} {n1 c1 n2 c2 n3 c3 n4 c4 : Nat} : NSW #[.slice A1 n1 c1, .slice A2 n2 c2, .slice A3 n3 c3, .slice A4 n4 c4] := by
 intro u hu;simp at hu
 rcases hu with rfl | rfl | rfl | rfl
 ·exact ⟨_, _, _, rfl⟩
 ·exact ⟨_, _, _, rfl⟩
 ·exact ⟨_, _, _, rfl⟩
 ·exact ⟨_, _, _, rfl⟩
section
variable {W0 w wr w' : World} {g i n c n1 c1 n2 c2 n3 c3 n4 c4 base : Nat} {v v' : Value} {A A1 A2 A3 A4 : Option Addr} {rs r1 r2 r3 : List RawR} {us us' : List (List RawR)}
theorem RawP.putS (h : RawP w A n c rs) (hb : Box w g 25 #[.slice A1 n1 c1, .slice A2 n2 c2, .slice A3 n3 c3, .slice A4 n4 c4]) (i : Nat) (u : Value) : RawP (w.setCell ⟨g, i, none⟩ u) A n c rs :=
 h.own (v := .slice (some ⟨g, 0, none⟩) 2 2) (NSB.box hb nsw4) (grownC w ⟨g, i, none⟩ u)
structure OwnS (W0 wr : World) (g : Nat) (v : Value) (A1 : Option Addr) (n1 c1 : Nat) (A2 : Option Addr) (n2 c2 : Nat) (A3 : Option Addr) (n3 c3 : Nat) (r1 r2 r3 : List RawR) (us : List (List RawR)) : Prop where
 ext : Ext W0 wr
 b3 : Box wr g 25 #[v, .slice A1 n1 c1, .slice A2 n2 c2, .slice A3 n3 c3]
 row : RowW wr W0.heap.size v us
 p1 : RawP wr A1 n1 c1 r1
 p2 : RawP wr A2 n2 c2 r2
 p3 : RawP wr A3 n3 c3 r3
 lo : W0.heap.size <= g
theorem OwnS.start (E : Ext W0 w) (lo : W0.heap.size <= g) (hb : Box w g 25 #[.slice none 0 0, .slice none 0 0, .slice none 0 0, .slice none 0 0]) (k1 : RawP w A1 n1 c1 r1) (k2 : RawP w A2 n2 c2 r2) (k3 : RawP w A3 n3 c3 r3) :
  OwnS W0 ((((w.setCell ⟨g, 0, none⟩ (.slice none 0 0)).setCell ⟨g, 1, none⟩ (.slice A1 n1 c1)).setCell ⟨g, 2, none⟩ (.slice A2 n2 c2)).setCell ⟨g, 3, none⟩ (.slice A3 n3 c3)) g (.slice none 0 0) A1 n1 c1 A2 n2 c2 A3 n3 c3 r1 r2 r3 [] := by
 have h0 := hb.set 0 (.slice none 0 0);have h1 := h0.set 1 (.slice A1 n1 c1);have h2 := h1.set 2 (.slice A2 n2 c2);have h3 := h2.set 3 (.slice A3 n3 c3);simp at h0 h1 h2 h3;refine ⟨(((E.setCell (p := ⟨g, 0, none⟩) lo _).setCell (p := ⟨g, 1, none⟩) lo _).setCell (p := ⟨g, 2, none⟩) lo _).setCell (p := ⟨g, 3, none⟩) lo _, h3, RowW.nil _ _, ?_, ?_, ?_, lo⟩
 ·exact (((k1.putS hb 0 _).putS h0 1 _).putS h1 2 _).putS h2 3 _
 ·exact (((k2.putS hb 0 _).putS h0 1 _).putS h1 2 _).putS h2 3 _
 ·exact (((k3.putS hb 0 _).putS h0 1 _).putS h1 2 _).putS h2 3 _
theorem OwnS.next (h : OwnS W0 wr g v A1 n1 c1 A2 n2 c2 A3 n3 c3 r1 r2 r3 us) (e : Ext wr w') : OwnS W0 w' g v A1 n1 c1 A2 n2 c2 A3 n3 c3 r1 r2 r3 us :=
 ⟨h.ext.trans e, h.b3.ext e, h.row.ext e, h.p1.ext e, h.p2.ext e, h.p3.ext e, h.lo⟩
theorem OwnS.mid (h : OwnS W0 wr g v A1 n1 c1 A2 n2 c2 A3 n3 c3 r1 r2 r3 us) (k : wr.grownBy w' v.ownBlock) : Box w' g 25 #[v, .slice A1 n1 c1, .slice A2 n2 c2, .slice A3 n3 c3] :=
 h.b3.own k (h.row.boxne h.b3 rats_ne_case)
theorem OwnS.add (h : OwnS W0 wr g v A1 n1 c1 A2 n2 c2 A3 n3 c3 r1 r2 r3 us) (k : wr.grownBy w' v.ownBlock) (h' : RowW w' W0.heap.size v' us') :
  OwnS W0 (w'.setCell ⟨g, 0, none⟩ v') g v' A1 n1 c1 A2 n2 c2 A3 n3 c3 r1 r2 r3 us' := by
 have hm := h.mid k;have hlt := h.row.block;have e1 : Ext W0 w' := Below.grown h.ext k h.ext.size (fun g hg => (hlt g hg).1);obtain ⟨A, n, c, hv⟩ := h.row.shape;have hs : NSW #[v, .slice A1 n1 c1, .slice A2 n2 c2, .slice A3 n3 c3] := by rw [hv]; exact nsw4
 have hn : NSB w' (.slice (some ⟨g, 0, none⟩) 2 2) := NSB.box hm hs;have kc : w'.grownBy (w'.setCell ⟨g, 0, none⟩ v') (Value.slice (some ⟨g, 0, none⟩) 2 2).ownBlock := grownC w' ⟨g, 0, none⟩ v';refine ⟨e1.setCell (p := ⟨g, 0, none⟩) h.lo _, ?_, ?_, ?_, ?_, ?_, h.lo⟩
 ·have := hm.set 0 v'
  simpa using this
 ·exact h'.ownN hn kc (fun g hg e => h'.boxne hm rats_ne_case (hg.trans e.symm))
 ·exact (h.p1.own h.row.nsb k).own hn kc
 ·exact (h.p2.own h.row.nsb k).own hn kc
 ·exact (h.p3.own h.row.nsb k).own hn kc
theorem OwnS.ret (E : Ext w wr) (lo : w.heap.size <= g) (hb : Box wr g 25 #[.slice none 0 0, .slice none 0 0, .slice none 0 0, .slice none 0 0]) (row : RowW wr base (.slice A n c) us) (p1 : RawP wr A1 n1 c1 r1) (p2 : RawP wr A2 n2 c2 r2) (p3 : RawP wr A3 n3 c3 r3) :
  Ext w ((((wr.setCell ⟨g, 0, none⟩ (.slice A n c)).setCell ⟨g, 1, none⟩ (.slice A1 n1 c1)).setCell ⟨g, 2, none⟩ (.slice A2 n2 c2)).setCell ⟨g, 3, none⟩ (.slice A3 n3 c3)) /\
  RawT ((((wr.setCell ⟨g, 0, none⟩ (.slice A n c)).setCell ⟨g, 1, none⟩ (.slice A1 n1 c1)).setCell ⟨g, 2, none⟩ (.slice A2 n2 c2)).setCell ⟨g, 3, none⟩ (.slice A3 n3 c3)) A n c us /\
  RawP ((((wr.setCell ⟨g, 0, none⟩ (.slice A n c)).setCell ⟨g, 1, none⟩ (.slice A1 n1 c1)).setCell ⟨g, 2, none⟩ (.slice A2 n2 c2)).setCell ⟨g, 3, none⟩ (.slice A3 n3 c3)) A1 n1 c1 r1 /\
  RawP ((((wr.setCell ⟨g, 0, none⟩ (.slice A n c)).setCell ⟨g, 1, none⟩ (.slice A1 n1 c1)).setCell ⟨g, 2, none⟩ (.slice A2 n2 c2)).setCell ⟨g, 3, none⟩ (.slice A3 n3 c3)) A2 n2 c2 r2 /\
  RawP ((((wr.setCell ⟨g, 0, none⟩ (.slice A n c)).setCell ⟨g, 1, none⟩ (.slice A1 n1 c1)).setCell ⟨g, 2, none⟩ (.slice A2 n2 c2)).setCell ⟨g, 3, none⟩ (.slice A3 n3 c3)) A3 n3 c3 r3 /\
  Box ((((wr.setCell ⟨g, 0, none⟩ (.slice A n c)).setCell ⟨g, 1, none⟩ (.slice A1 n1 c1)).setCell ⟨g, 2, none⟩ (.slice A2 n2 c2)).setCell ⟨g, 3, none⟩ (.slice A3 n3 c3)) g 25 #[.slice A n c, .slice A1 n1 c1, .slice A2 n2 c2, .slice A3 n3 c3] := by
 have h0 := hb.set 0 (.slice A n c);have h1 := h0.set 1 (.slice A1 n1 c1);have h2 := h1.set 2 (.slice A2 n2 c2);have h3 := h2.set 3 (.slice A3 n3 c3);simp at h0 h1 h2 h3;have r0 := row.ownN (v0 := .slice (some ⟨g, 0, none⟩) 2 2) (NSB.box hb nsw4) (grownC wr ⟨g, 0, none⟩ (.slice A n c)) (fun k hk e => row.boxne hb rats_ne_case (hk.trans e.symm));have r1 := r0.ownN (v0 := .slice (some ⟨g, 0, none⟩) 2 2) (NSB.box h0 nsw4) (grownC _ ⟨g, 1, none⟩ (.slice A1 n1 c1)) (fun k hk e => r0.boxne h0 rats_ne_case (hk.trans e.symm));have r2 := r1.ownN (v0 := .slice (some ⟨g, 0, none⟩) 2 2) (NSB.box h1 nsw4) (grownC _ ⟨g, 2, none⟩ (.slice A2 n2 c2)) (fun k hk e => r1.boxne h1 rats_ne_case (hk.trans e.symm));have r3 := r2.ownN (v0 := .slice (some ⟨g, 0, none⟩) 2 2) (NSB.box h2 nsw4) (grownC _ ⟨g, 3, none⟩ (.slice A3 n3 c3)) (fun k hk e => r2.boxne h2 rats_ne_case (hk.trans e.symm));obtain ⟨_, _, _, e, ht⟩ := r3.rawT
 injection e with e1 e2 e3
 subst e1 e2 e3;refine ⟨(((E.setCell (p := ⟨g, 0, none⟩) lo _).setCell (p := ⟨g, 1, none⟩) lo _).setCell (p := ⟨g, 2, none⟩) lo _).setCell (p := ⟨g, 3, none⟩) lo _, ht, ?_, ?_, ?_, h3⟩
 ·exact (((p1.putS hb 0 _).putS h0 1 _).putS h1 2 _).putS h2 3 _
 ·exact (((p2.putS hb 0 _).putS h0 1 _).putS h1 2 _).putS h2 3 _
 ·exact (((p3.putS hb 0 _).putS h0 1 _).putS h1 2 _).putS h2 3 _
end
section
variable {w : World} {A A1 A2 A3 : Option Addr} {n c n1 c1 n2 c2 n3 c3 : Nat} {ts : List (List RawR)} {rs r1 r2 r3 : List RawR}
def SzL (rs : List RawR) : Prop := rs.length * 64 <= 140737488355328 /\ ∀ r ∈ rs, r.xs.length * 4 <= 140737488355328 /\ r.ys.length * 4 <= 140737488355328
theorem SzL.few {l : List RawR} (h : l.length <= 16 /\ l.all (fun r => r.le 4) = true) : SzL l := by
 refine ⟨by omega, fun r hr => ?_⟩;have := List.all_eq_true.1 h.2 r hr;unfold RawR.le at this;simp only [Bool.and_eq_true, decide_eq_true_eq] at this;exact ⟨by omega, by omega⟩
theorem law_copyS (h : RawP w A n c rs) (hs : SzL rs) : Calls Tryz.prog 48 #[.slice A n c] w (fun e w' => ∃ A' c', e = .returned (.slice A' n c') /\ RawP w' A' n c' rs /\ Ext w w') :=
 law_copyL h (by rw [<- h.len]; exact hs.1) hs.2
set_option maxRecDepth 100000 in
theorem law_own (h : RawT w A n c ts) (h1 : RawP w A1 n1 c1 r1) (h2 : RawP w A2 n2 c2 r2) (h3 : RawP w A3 n3 c3 r3) (hn : n <= 100) (s0 : ∀ l ∈ ts, SzL l) (s1 : SzL r1) (s2 : SzL r2) (s3 : SzL r3) :
  Calls Tryz.prog 13 #[.agg #[.slice A n c, .slice A1 n1 c1, .slice A2 n2 c2, .slice A3 n3 c3]] w (fun e w' => ∃ A' c' A1' c1' A2' c2' A3' c3', e = .returned (.agg #[.slice A' n c', .slice A1' n1 c1', .slice A2' n2 c2', .slice A3' n3 c3']) /\ RawT w' A' n c' ts /\ RawP w' A1' n1 c1' r1 /\ RawP w' A2' n2 c2' r2 /\ RawP w' A3' n3 c3' r3 /\ Ext w w') := by
 have HL := Lib.hid h.len;have HS0 := Lib.hid s0;have HS1 := Lib.hid s1;have HS2 := Lib.hid s2;have HS3 := Lib.hid s3;clear s0 s1 s2 s3
 go_enter Tryz.func13, Tryz.ntmps13
 go_upto_region 2 with (fail)
 obtain ⟨W0, hW0, ext0, bx, b2, hz0⟩ := box2 w 25 25 #[.slice A n c, .slice A1 n1 c1, .slice A2 n2 c2, .slice A3 n3 c3] #[Value.slice Option.none 0 0, Value.slice Option.none 0 0, Value.slice Option.none 0 0, Value.slice Option.none 0 0];rw [<- hW0];clear hW0 hz0;replace h := h.ext ext0;replace h1 := h1.ext ext0;replace h2 := h2.ext ext0;replace h3 := h3.ext ext0;have ES0 := Ext.refl W0;refine wp_region_held_drew (S := Ext W0) (by kernel_rfl) ES0.drew (fun ES => ?_);clear ES0;refine Late.start1 (x := ⟨13, 4, 25, #[Value.slice Option.none 0 0, Value.slice Option.none 0 0, Value.slice Option.none 0 0, Value.slice Option.none 0 0]⟩) (n := 14) ⟨_, rfl, rfl, rfl, fun a w => by go_simp⟩ (fun _ _ _ _ _ => ⟨fun h => h, fun h => h⟩) ES rfl (fun hAl hQ => ?_);refine Late.t 0 7 ?v_0 hQ ?y_0 ?_
 case y_0 => intro w' hSw;go_simp;try rfl
 try simp only [zP]
 refine Late.t 1 8 ?v_1 hQ ?y_1 ?_
 case y_1 => intro w' hSw;go_simp;try rfl
 try simp only [zP]
 refine Late.t 4 11 ?v_2 hQ ?y_2 ?_
 case y_2 => intro w' hSw;go_simp;try rfl
 try simp only [zP]
 refine Late.t 5 12 ?v_3 hQ ?y_3 ?_
 case y_3 => intro w' hSw;go_simp;try rfl
 try simp only [zP]
 refine Late.t 8 15 ?v_4 hQ ?y_4 ?_
 case y_4 => intro w' hSw;go_simp;try rfl
 try simp only [zP]
 refine Late.t 9 16 ?v_5 hQ ?y_5 ?_
 case y_5 => intro w' hSw;go_simp;try rfl
 try simp only [zP]
 refine Late.t 2 9 ?v_6 hQ ?y_6 ?_
 case y_6 => intro w' hSw;have k00 := (bx.ext hSw).c4;go_simp;try rfl
 try simp only [zP]
 refine Late.t 6 13 ?v_7 hQ ?y_7 ?_
 case y_7 => intro w' hSw;have k00 := (bx.ext hSw).c4;go_simp;try rfl
 try simp only [zP]
 refine Late.t 10 17 ?v_8 hQ ?y_8 ?_
 case y_8 => intro w' hSw;have k00 := (bx.ext hSw).c4;go_simp;try rfl
 try simp only [zP]
 refine Late.cl (i := 3) rfl hAl hQ (fun w3 e3 E3 K hK => ?_);go_simp
 (go_at_call 48; refine (law_copyS (h1.ext E3) HS1.out).mono ?_; rintro e wk1 ⟨A4, c4, rfl, k1, hx3⟩)
 refine hK.out _ _ hx3 ?_;clear hK K
 try simp only [zP]
 refine Late.cl (i := 7) rfl hAl hQ (fun w7 e7 E7 K hK => ?_);go_simp
 (go_at_call 48; refine (law_copyS (h2.ext E7) HS2.out).mono ?_; rintro e wk2 ⟨A5, c5, rfl, k2, hx7⟩; replace k1 := k1.ext (Ext.trans e7 hx7))
 refine hK.out _ _ hx7 ?_;clear hK K
 try simp only [zP]
 refine Late.cl (i := 11) rfl hAl hQ (fun w11 e11 E11 K hK => ?_);go_simp
 (go_at_call 48; refine (law_copyS (h3.ext E11) HS3.out).mono ?_; rintro e wk3 ⟨A6, c6, rfl, k3, hx11⟩; replace k1 := k1.ext (Ext.trans e11 hx11); replace k2 := k2.ext (Ext.trans e11 hx11))
 refine hK.out _ _ hx11 ?_;clear hK K
 try simp only [zP]
 refine Late.t 12 19 ?v_9 hQ ?y_9 ?_
 case y_9 => intro w' hSw;go_simp;try rfl
 try simp only [zP]
 refine Late.finish1 (hAl _ (by simp)) (by kernel_rfl) (fun wz g5 ez Ez lg5 xb1 => ?_);clear hAl hQ ES;have p0 := xb1.cell 0 (Value.slice Option.none 0 0) rfl;have p1 := xb1.cell 1 (Value.slice Option.none 0 0) rfl;have p2 := xb1.cell 2 (Value.slice Option.none 0 0) rfl;have p3 := xb1.cell 3 (Value.slice Option.none 0 0) rfl;have f0 := xb1.frozen 0;have f1 := xb1.frozen 1;have f2 := xb1.frozen 2;have f3 := xb1.frozen 3
 try simp only [zP]
 refine wpAnyH_ready (rs := [14]) (by kernel_rfl) (by simp) (AllReadyH.cons rfl (fun K hK => ?_) AllReadyH.nil);go_simp;refine hK.out _ _ ((((Ez.setCell (p := ⟨g5, 0, Option.none⟩) lg5 _).setCell (p := ⟨g5, 1, Option.none⟩) lg5 _).setCell (p := ⟨g5, 2, Option.none⟩) lg5 _).setCell (p := ⟨g5, 3, Option.none⟩) lg5 _) (fun _ => ?_);clear hK K
 try simp only [zP]
 refine any_world (fun U => OwnS W0 U g5 (.slice Option.none 0 0) A4 n1 c4 A5 n2 c5 A6 n3 c6 r1 r2 r3 []) (OwnS.start Ez lg5 xb1 (k1.ext ez) (k2.ext ez) (k3.ext ez)) ?_;clear p0 p1 p2 p3 f0 f1 f2 f3 xb1 k1 k2 k3 Ez ez lg5;rintro U S0;refine wpAnyH_done (by kernel_rfl) ?_ _;clear h1 h2 h3;have x0 := (bx.ext S0.ext).cell 0 (.slice A n c) rfl
 go_wp2_with fail
 go_loopw [23] (fun i wr => ∃ (k : Nat) (v : Value), k <= n /\ i = .int .i64 (k : Int) /\ OwnS W0 wr g5 v A4 n1 c4 A5 n2 c5 A6 n3 c6 r1 r2 r3 (ts.take k)) (fun i _ => n - (intOf i).toNat)
 case atStart => exact ⟨0, _, Nat.zero_le _, rfl, S0⟩
 case round =>
  clear S0 x0;obtain ⟨k, v, hk, rfl, S⟩ := hrel
  by_cases hlt : k < n
  ·have hI : (k : Int) < (n : Int) := by omega
   have hkl : k < ts.length := by rw [HL.out]; exact hlt
   obtain ⟨p, off, rfl, hat⟩ := h.at_ (fun e => by rw [e] at hkl; exact absurd hkl (Nat.not_lt_zero _));obtain ⟨Aq, nq, cq, e0, hq⟩ := hat k hkl;replace e0 := S.ext.cellv e0;replace hq := hq.ext S.ext;have HT := Lib.hid (show ts.take (k + 1) = ts.take k ++ [ts[k]] from List.take_succ_eq_append_getElem hkl);have HSQ := Lib.hid (HS0.out _ (List.getElem_mem hkl));have HL1 := Lib.hid (show (ts.take k).length <= 1000 by rw [List.length_take]; omega);generalize ts[k] = r at *;obtain ⟨Av, nv, cv, rfl⟩ := S.row.shape
   go_upto_region 6 with (fail)
   refine wpL.st 6 (fun hQ ES => ?_);refine wpL.tB [1,6] 0 27 ?v_a hQ ?y_a ES ?_
   case y_a => intro w' hSw;go_simp;try rfl
   try simp only [zP]
   refine wpL.tB [6] 1 28 ?v_b hQ ?y_b ES ?_
   case y_b => intro w' hSw;have k00 := (S.b3.ext hSw).cell 0 _ rfl;have k01 := (S.b3.ext hSw).cell 1 _ rfl;have k02 := (S.b3.ext hSw).cell 2 _ rfl;have k03 := (S.b3.ext hSw).cell 3 _ rfl;go_simp;try rfl
   try simp only [zP]
   refine wpL.tB [4,5,6] 2 29 ?v_c hQ ?y_c ES ?_
   case y_c => intro w' hSw;go_simp;try rfl
   try simp only [zP]
   refine wpL.tB [4,5,6] 3 30 ?v_d hQ ?y_d ES ?_
   case y_d => intro w' hSw;go_simp;try rfl
   try simp only [zP]
   refine wpL.cl (i := 4) rfl (fun K hK => ?_);go_simp
   (go_at_call 48; refine (law_copyS (hq.ext ES) HSQ.out).mono ?_; rintro e wa ⟨A7, c7, rfl, h7, hx0⟩; have E4 := Ext.trans ES hx0)
   refine hK.out _ _ E4 ?_;clear hK K
   try simp only [zP]
   refine wpL.cl (i := 5) rfl (fun K hK => ?_);go_simp;obtain ⟨wb, hwb, exb, bb, hzb⟩ := box1 wa 23 #[.slice A7 nq c7];rw [<- hwb];have E5 := E4.trans exb;refine hK.out _ _ E5 ?_;clear hK K hwb hzb
   try simp only [zP]
   have SB := S.next E5;refine wpL.tl (i := 6) rfl (fun K hK => ?_);refine step_append_raws rfl _ _ rfl rfl rfl SB.row (RawT.one bb (h7.ext exb)) HL1.out (by omega) SB.ext.size ?_;intro v6 w6 q1 q2;refine hK.out _ _ ?_
   try simp only [List.getElem_toArray, List.getElem_cons_succ, List.getElem_cons_zero]
   clear hK K
   try simp only [zP]
   have m3 := SB.mid q2;obtain ⟨A8, n8, c8, rfl⟩ := q1.shape;refine wpL.tl (i := 7) rfl (fun K hK => ?_);go_simp;refine hK.out _ _ ?_;clear hK K
   try simp only [zP]
   have z0 := m3.cell 0 _ rfl;have f0 := m3.frozen 0;refine wpL.tl (i := 8) rfl (fun K hK => ?_);go_simp;refine hK.out _ _ ?_;clear hK K
   try simp only [zP]
   refine wpL.done (by kernel_rfl) ?_ _;clear hQ;have S' := SB.add q2 q1;clear SB S z0 f0 m3 q1 q2 E4 E5 exb bb hx0 ES h7 hq
   go_wp2_with fail
   go_roundw
   case rel => exact ⟨k + 1, _, by omega, by go_num, by rw [HT.out]; exact S'⟩
   case measure => simp [intOf]; omega
  ·have hkn : k = n := by omega
   subst hkn;rw [List.take_of_length_le (Nat.le_of_eq HL.out)] at S;have hI : (k : Int) <= (k : Int) := Int.le_refl _;obtain ⟨Ar, nr, cr, rfl, hir⟩ := S.row.rawT;have hnr : nr = k := by rw [<- hir.len, HL.out]
   have HNR := Lib.hid hnr;clear hnr;have y0 := S.b3.cell 0 (.slice Ar nr cr) rfl;have y1 := S.b3.cell 1 (.slice A4 n1 c4) rfl;have y2 := S.b3.cell 2 (.slice A5 n2 c5) rfl;have y3 := S.b3.cell 3 (.slice A6 n3 c6) rfl;replace b2 := b2.ext S.ext;have z0 := b2.cell 0 (Value.slice Option.none 0 0) rfl;have z1 := b2.cell 1 (Value.slice Option.none 0 0) rfl;have z2 := b2.cell 2 (Value.slice Option.none 0 0) rfl;have z3 := b2.cell 3 (Value.slice Option.none 0 0) rfl;have f0 := b2.frozen 0;have f1 := b2.frozen 1;have f2 := b2.frozen 2;have f3 := b2.frozen 3;have S2 := OwnS.ret (ext0.trans S.ext) (show w.heap.size <= w.heap.size + 1 by omega) b2 S.row S.p1 S.p2 S.p3;obtain ⟨E9, t0, t1, t2, t3, hm⟩ := S2;have m0 := hm.cell 0 (.slice Ar nr cr) rfl;have m1 := hm.cell 1 (.slice A4 n1 c4) rfl;have m2 := hm.cell 2 (.slice A5 n2 c5) rfl;have m3 := hm.cell 3 (.slice A6 n3 c6) rfl
   go_wp2_with fail
   have hpost := HNR.out;subst hpost;exact bodyPost_ret (v := .agg #[.slice Ar nr cr, .slice A4 n1 c4, .slice A5 n2 c5, .slice A6 n3 c6]) (by simp [results, Tryz.results13, go_sem, m0, m1, m2, m3]) rfl ⟨_, _, _, _, _, _, _, _, rfl, t0, t1, t2, t3, E9⟩
end
end
end Go.Proofs.YtijdljfnmdoffaaGreatDoor
