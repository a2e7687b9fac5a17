/- Walks and laws, a part. -/
import Derived.Test.YtpeddoaknfjbbaaGreatDoorMd10
import Derived.Test.YtpeddoaknfjbbaaGreatDoorMd9
import Derived.Test.YtpeddoaknfjbbaaGreatDoorMd8
import Derived.Test.YtpeddoaknfjbbaaGreatDoorMd5
import Derived.Test.YtpeddoaknfjbbaaGreatDoorMd4
import Derived.Test.YtpeddoaknfjbbaaGreatDoorMd6
set_option linter.unusedSimpArgs false
set_option linter.unusedVariables false
set_option maxHeartbeats 64000000
namespace Go.Proofs.YtpeddoaknfjbbaaGreatDoor
open Go.RowKit
attribute [local go_sem ↓] Go.wp_at_zero Go.wp_at_succ
theorem remF_len : ∀ (f : Nat) (us bs : List Nat) (fac p : Nat), remOK f us bs fac p = true -> (remF f us bs fac p).length < bs.length
 | 0, us, bs, fac, p, h => by unfold remOK at h; unfold remF; exact of_decide_eq_true h
 | f + 1, us, bs, fac, p, h => by
  unfold remOK at h;unfold remF
  by_cases e : bs.length <= us.length
  ·rw [if_pos e] at h ⊢
   rw [Bool.and_eq_true] at h;exact remF_len f _ bs fac p h.2
  ·rw [if_neg e]; omega
structure ComJ (w0 wr : World) (p f ga gb ka kb Na Nb : Nat) (la lb R : List Nat) : Prop where
 ha : URow wr ga la
 hb : URow wr gb lb
 ne : ga ≠ gb
 kA : ka <= la.length
 kB : kb <= lb.length
 lA : la.length <= Na
 lB : lb.length <= Nb
 na : Na <= 1000
 nb : Nb <= 1000
 ap : ∀ x ∈ la, x < p
 bp : ∀ x ∈ lb, x < p
 ok : comOK f (la.take ka) (lb.take kb) p = true
 res : comF f (la.take ka) (lb.take kb) p = R
 ext : Ext w0 wr
 ga0 : w0.heap.size <= ga
 gb0 : w0.heap.size <= gb
set_option maxRecDepth 100000 in
theorem p_commonRes {w0 w : World} {ga gb na nb Na Nb p : Nat} {la lb R : List Nat} (h0 : ComJ w0 w p 8 ga gb na nb Na Nb la lb R) (hp0 : 2 <= p) (hp : p < 2147483648) (hR0 : R ≠ []) :
  Calls Tryz.prog 150 #[.slice (some ⟨ga, 0, none⟩) na Na, .slice (some ⟨gb, 0, none⟩) nb Nb, .int .u64 (p : Int)] w (RetU (mulN R (facN R p) p) R.length w0) := by
 have HP := Lib.hid (show 2 <= p /\ p < 2147483648 from ⟨hp0, hp⟩);have HR0 := Lib.hid hR0;clear hp0 hp hR0
 go_enter Tryz.func150, Tryz.ntmps150
 go_wp2_with fail
 go_loopw [0, 1] (fun a b wr => ∃ (f ga gb ka kb Na Nb : Nat) (la lb : List Nat), a = .slice (some ⟨ga, 0, none⟩) ka Na /\ b = .slice (some ⟨gb, 0, none⟩) kb Nb /\ ComJ w0 wr p f ga gb ka kb Na Nb la lb R) (fun _ b _ => lenV b)
 case atStart => exact ⟨8, ga, gb, na, nb, Na, Nb, la, lb, rfl, rfl, h0⟩
 case round =>
  clear h0;obtain ⟨f, ga, gb, ka, kb, Na, Nb, la, lb, rfl, rfl, hC⟩ := hrel;have H := Lib.hid hC;clear hC
  by_cases hlt : 0 < kb
  ·have hI : (0 : Int) < (kb : Int) := by omega
   have hne : lb.take kb ≠ [] := by
    intro e;have := congrArg List.length e;rw [List.length_take, List.length_nil] at this;have := H.out.kB;omega
   obtain ⟨f, rfl⟩ : ∃ g, f = g + 1 := by
    cases f with
    | zero =>
     have h1 := H.out.ok;unfold comOK at h1;exact absurd (of_decide_eq_true h1) hne
    | succ g => exact ⟨g, rfl⟩
   obtain ⟨Q, hQ⟩ : ∃ Q, remF 8 (la.take ka) (lb.take kb) (facN (lb.take kb) p) p = Q := ⟨_, rfl⟩
   have HST := Lib.hid (show remOK 8 (la.take ka) (lb.take kb) (facN (lb.take kb) p) p = true /\ comOK f (lb.take kb) Q p = true /\ comF f (lb.take kb) Q p = R by
    have h1 := H.out.ok;have h2 := H.out.res;unfold comOK at h1;unfold comF at h2;rw [if_neg hne] at h1 h2;rw [Bool.and_eq_true, hQ] at h1;rw [hQ] at h2;exact ⟨h1.1, h1.2, h2⟩)
   have HQL := Lib.hid (show Q.length < kb by
    have h1 := remF_len _ _ _ _ _ HST.out.1;rw [hQ, List.length_take] at h1;omega)
   have HQ := Lib.hid hQ;clear hQ hne
   go_wp2_with fail
   refine (p_remainder H.out.ha H.out.hb H.out.ne H.out.kA H.out.kB hlt H.out.lA H.out.na (Nat.le_trans H.out.kB (Nat.le_trans H.out.lB H.out.nb)) HP.out.1 HP.out.2 H.out.ap H.out.bp rfl HST.out.1 HQ.out H.out.ext H.out.ga0 H.out.gb0).mono ?_;rintro e V ⟨la', rfl, ha', hl', ht', hp', hb', he'⟩
   have HN := Lib.hid (show ComJ w0 V p f gb ga kb Q.length Nb Na lb la' R from
    ⟨hb', ha', Ne.symm H.out.ne, H.out.kB, by have := congrArg List.length ht'; rw [List.length_take] at this; omega, H.out.lB, by rw [hl']; exact H.out.lA, H.out.nb, H.out.na, H.out.bp, hp', by rw [ht']; exact HST.out.2.1, by rw [ht']; exact HST.out.2.2, he', H.out.gb0, H.out.ga0⟩)
   clear ha' hl' ht' hp' hb' he'
   go_wp2_with fail
   go_roundw
   case rel => exact ⟨f, gb, ga, kb, Q.length, Nb, Na, lb, la', rfl, rfl, HN.out⟩
   case measure => simp [lenV]; exact HQL.out
  ·have hk0 : kb = 0 := by omega
   subst hk0
   have hres : la.take ka = R := by
    have h1 := H.out.res;rw [List.take_zero] at h1
    cases f with
    | zero => exact h1
    | succ g => unfold comF at h1; rw [if_pos rfl] at h1; exact h1
   have hkl : ka = R.length := by rw [<- hres, List.length_take]; have := H.out.kA; omega
   obtain ⟨j, hj⟩ : ∃ j, ka = j + 1 := ⟨ka - 1, by have := List.length_pos_iff.2 HR0.out; omega⟩;have hjl : j < la.length := by have := H.out.kA; omega
   have HLA := Lib.hid (show R.getLastD 0 = la[j] by rw [<- hres, hj]; exact getLastD_take hjl);have HX := Lib.hid (show la[j] < 4294967296 from Nat.lt_trans (H.out.ap _ (List.getElem_mem hjl)) (by have := HP.out; omega));have HF := Lib.hid (show powM la[j] (p - 2) p = facN R p by unfold facN; rw [HLA.out]);have HFL := Lib.hid (show facN R p < 4294967296 from powM_lt (by have := HP.out; omega) (by have := HP.out; omega));have HRS := Lib.hid hres;have HKL := Lib.hid hkl;clear hres hkl;subst hj;have hI : ¬ (0 : Int) < (0 : Int) := by omega
   go_wp2_with fail
   refine (p_last64 H.out.ha hjl (by have := H.out; have := H.out.lA; have := H.out.na; omega)).mono ?_;rintro e V ⟨rfl, rfl⟩
   go_wp2_with fail
   refine (p_inverse HX.out HP.out.1 (by have := HP.out.2; omega)).mono ?_;rintro e V2 ⟨rfl, rfl⟩;rw [HF.out]
   go_wp2_with fail
   refine (p_multiply H.out.ha (by have := H.out.kA; exact this) (by have := H.out.lA; have := H.out.na; omega) (by have := HP.out; omega) HP.out.2 HFL.out (fun x hx => Nat.lt_trans (H.out.ap x hx) HP.out.2)).mono ?_;rintro e V3 ⟨g, hg, rfl, hr, hx⟩;rw [HRS.out] at hr ⊢
   go_wp2_with fail
   go_ret
   exact ⟨g, Nat.le_trans H.out.ext.size hg, by rw [HKL.out]; rfl, hr, H.out.ext.trans hx⟩
def leastI (r p : Nat) : Int := if p / 2 < r then (r : Int) - (p : Int) else (r : Int)
theorem p_least {r p : Nat} {w : World} (hr : r < p) (hp : p < 2147483648) : Calls Tryz.prog 173 #[.int .u64 (r : Int), .int .u64 (p : Int)] w (RetNI (leastI r p) 2 w) := by
 obtain ⟨u, hu⟩ : ∃ u, p / 2 = u := ⟨_, rfl⟩;have htd : (p : Int).tdiv 2 = (u : Int) := by rw [<- hu]; rfl
 have hul : u <= p := by omega
 have huw : IntKind.u64.wrap (u : Int) = (u : Int) := wrap_u64_nat (by omega);have hrw : IntKind.i64.wrap (r : Int) = (r : Int) := IntWalk.i64_in _ (by omega);have hpw : IntKind.i64.wrap (p : Int) = (p : Int) := IntWalk.i64_in _ (by omega);have hsw : IntKind.i64.wrap ((r : Int) - (p : Int)) = (r : Int) - (p : Int) := IntWalk.i64_in _ (by omega);have HL := Lib.hid (show leastI r p = if u < r then (r : Int) - (p : Int) else (r : Int) by unfold leastI; rw [hu]);have HB := Lib.hid (show r < p /\ p < 2147483648 from ⟨hr, hp⟩);clear hu hr hp hul
 go_enter Tryz.func173, Tryz.ntmps173
 go_upto_region 1 with (fail)
 obtain ⟨W, hW, extW, bz, hz⟩ := box1 w 25 #[Value.bool false, Value.slice none 0 0];rw [<- hW];clear hW
 by_cases hlt : u < r
 ·have hI : (u : Int) < (r : Int) := by omega
  go_wp2_with fail
  refine (p_FromInt ((r : Int) - (p : Int)) (by have := HB.out; omega) (by have := HB.out; omega)).mono ?_;rintro e V ⟨s1, A1, n1, c1, rfl, h1, hxt⟩;have z0 := (bz.ext hxt).cell 0 _ rfl;have z1 := (bz.ext hxt).cell 1 _ rfl;have f0 := (bz.ext hxt).frozen 0;have f1 := (bz.ext hxt).frozen 1
  go_wp2_with fail
  obtain ⟨b1, b2, b3, b4⟩ := fin_dual (s := s1) (A := A1) (n := n1) (c := c1) (bz.ext hxt);have r0 := b1.cell 0 (.bool s1) rfl;have r1 := b1.cell 1 (.slice A1 n1 c1) rfl;unfold set2 at r0 r1;refine bodyPost_ret (v := .agg #[.bool s1, .slice A1 n1 c1]) (by simp [results, Tryz.results173, go_sem, r0, r1]) rfl ⟨s1, A1, n1, c1, rfl, ?_, b3 _ (extW.trans hxt) (by omega)⟩;exact (by rw [HL.out, if_pos hlt]; exact b2 _ _ _ _ _ _ h1)
 ·have hI : (r : Int) <= (u : Int) := by omega
  go_wp2_with fail
  refine (p_FromInt (r : Int) (by have := HB.out; omega) (by have := HB.out; omega)).mono ?_;rintro e V ⟨s1, A1, n1, c1, rfl, h1, hxt⟩;have z0 := (bz.ext hxt).cell 0 _ rfl;have z1 := (bz.ext hxt).cell 1 _ rfl;have f0 := (bz.ext hxt).frozen 0;have f1 := (bz.ext hxt).frozen 1
  go_wp2_with fail
  obtain ⟨b1, b2, b3, b4⟩ := fin_dual (s := s1) (A := A1) (n := n1) (c := c1) (bz.ext hxt);have r0 := b1.cell 0 (.bool s1) rfl;have r1 := b1.cell 1 (.slice A1 n1 c1) rfl;unfold set2 at r0 r1;refine bodyPost_ret (v := .agg #[.bool s1, .slice A1 n1 c1]) (by simp [results, Tryz.results173, go_sem, r0, r1]) rfl ⟨s1, A1, n1, c1, rfl, ?_, b3 _ (extW.trans hxt) (by omega)⟩;exact (by rw [HL.out, if_neg hlt]; exact b2 _ _ _ _ _ _ h1)
def difN (c p : Nat) (z : Int) (fac : Nat) : Nat := (c + p - (z % (p : Int)).toNat) * fac % p
def incZ (cs : List Nat) (p : Nat) (zs : List Int) (M : Int) (fac k : Nat) : List Int := (List.range zs.length).map fun i => if i < k /\ difN (cs.getD i 0) p (zs.getD i 0) fac ≠ 0 then zs.getD i 0 + M * leastI (difN (cs.getD i 0) p (zs.getD i 0) fac) p else zs.getD i 0
def incS (cs : List Nat) (p : Nat) (zs : List Int) (fac k : Nat) : Bool := (List.range k).all fun i => decide (difN (cs.getD i 0) p (zs.getD i 0) fac = 0)
def facM (M : Int) (p : Nat) : Nat := powM (M % (p : Int)).toNat (p - 2) p
theorem incZ_len (cs : List Nat) (p : Nat) (zs : List Int) (M : Int) (fac k : Nat) : (incZ cs p zs M fac k).length = zs.length := by unfold incZ; simp
theorem incZ_at (cs : List Nat) (p : Nat) (zs : List Int) (M : Int) (fac k i : Nat) (h : i < (incZ cs p zs M fac k).length) : (incZ cs p zs M fac k)[i] = if i < k /\ difN (cs.getD i 0) p (zs.getD i 0) fac ≠ 0 then zs.getD i 0 + M * leastI (difN (cs.getD i 0) p (zs.getD i 0) fac) p else zs.getD i 0 := by simp [incZ]
theorem incZ_zero (cs : List Nat) (p : Nat) (zs : List Int) (M : Int) (fac : Nat) : incZ cs p zs M fac 0 = zs := by
 refine List.ext_getElem (incZ_len ..) (fun j h1 h2 => ?_);rw [incZ_at, if_neg (by omega)];simp [h2]
theorem incZ_here (cs : List Nat) (p : Nat) (zs : List Int) (M : Int) (fac k : Nat) (h : k < (incZ cs p zs M fac k).length) : (incZ cs p zs M fac k)[k] = zs.getD k 0 := by
 rw [incZ_at, if_neg (by omega)]
theorem incZ_same {cs : List Nat} {p : Nat} {zs : List Int} {M : Int} {fac k : Nat} (h0 : difN (cs.getD k 0) p (zs.getD k 0) fac = 0) : incZ cs p zs M fac (k + 1) = incZ cs p zs M fac k := by
 refine List.ext_getElem (by rw [incZ_len, incZ_len]) (fun j h1 h2 => ?_);rw [incZ_at, incZ_at]
 by_cases e : j = k
 ·subst e
  rw [if_neg (by rw [h0]; omega), if_neg (by omega)]
 ·by_cases h3 : j < k /\ difN (cs.getD j 0) p (zs.getD j 0) fac ≠ 0
  ·rw [if_pos h3, if_pos ⟨by omega, h3.2⟩]
  ·rw [if_neg h3, if_neg (fun h => h3 ⟨by omega, h.2⟩)]
theorem incZ_step {cs : List Nat} {p : Nat} {zs : List Int} {M : Int} {fac k : Nat} (h : k < zs.length) (h0 : difN (cs.getD k 0) p (zs.getD k 0) fac ≠ 0) : (incZ cs p zs M fac k).set k (zs.getD k 0 + M * leastI (difN (cs.getD k 0) p (zs.getD k 0) fac) p) = incZ cs p zs M fac (k + 1) := by
 refine List.ext_getElem (by rw [List.length_set, incZ_len, incZ_len]) (fun j h1 h2 => ?_);rw [List.getElem_set]
 by_cases e : k = j
 ·subst e
  rw [if_pos rfl, incZ_at, if_pos ⟨by omega, h0⟩]
 ·rw [if_neg e, incZ_at, incZ_at]
  by_cases h3 : j < k /\ difN (cs.getD j 0) p (zs.getD j 0) fac ≠ 0
  ·rw [if_pos h3, if_pos ⟨by omega, h3.2⟩]
  ·rw [if_neg h3, if_neg (fun h => h3 ⟨by omega, h.2⟩)]
theorem incZ_last {cs : List Nat} {p : Nat} {zs : List Int} {M : Int} {fac k n : Nat} (hk : k < n) (hn : n <= zs.length) (h0 : difN (cs.getD k 0) p (zs.getD k 0) fac ≠ 0) : zs.getD k 0 + M * leastI (difN (cs.getD k 0) p (zs.getD k 0) fac) p ∈ incZ cs p zs M fac n := by
 refine List.mem_map.2 ⟨k, List.mem_range.2 (by omega), ?_⟩;rw [if_pos ⟨hk, h0⟩]
theorem incS_step (cs : List Nat) (p : Nat) (zs : List Int) (fac k : Nat) : incS cs p zs fac (k + 1) = (incS cs p zs fac k && decide (difN (cs.getD k 0) p (zs.getD k 0) fac = 0)) := by
 unfold incS;rw [List.range_succ, List.all_append];simp
structure Img (w0 w : World) (gm g n : Nat) (zs : List Int) (L : Nat) (M : Int) (K : Nat) : Prop where
 ext : Ext w0 w
 gm0 : w0.heap.size <= gm
 g0 : w0.heap.size <= g
 ne : gm ≠ g
 row : IRow w g zs L
 len : zs.length = n
 box : ∃ s A k c, Box w gm 131 #[.slice (some ⟨g, 0, none⟩) n n, .bool s, .slice A k c] /\ NI w M K s A k c
section
variable {w0 w w' : World} {gm g n L K : Nat} {zs : List Int} {M : Int}
theorem Img.next (h : Img w0 w gm g n zs L M K) (e : Ext w w') : Img w0 w' gm g n zs L M K := by
 obtain ⟨s, A, k, c, h1, h2⟩ := h.box;exact ⟨h.ext.trans e, h.gm0, h.g0, h.ne, h.row.ext e, h.len, s, A, k, c, h1.ext e, h2.ext e⟩
end
set_option maxRecDepth 100000 in
theorem p_includeB {w0 w : World} {gm g n L K gc N p : Nat} {zs : List Int} {M : Int} {lc : List Nat} (hI : Img w0 w gm g n zs L M K) (hU : URow w gc lc) (_hg1 : gc ≠ gm) (hg2 : gc ≠ g) (hn0 : 0 < n) (hn : n <= 1000) (hl : n <= lc.length) (hp0 : 2 <= p) (hp : p < 2147483648) (hc : ∀ x ∈ lc, x < p) (hL : L <= 40) (hK : K <= 40) (hB : ∀ z ∈ incZ lc p zs M (facM M p) n, z.natAbs < 4294967296 ^ L) :
  Calls Tryz.prog 152 #[.pointer (some ⟨gm, 0, none⟩), .slice (some ⟨gc, 0, none⟩) n N, .int .u64 (p : Int)] w fun e w' => e = .returned (.bool (incS lc p zs (facM M p) n)) /\ Img w0 w' gm g n (incZ lc p zs M (facM M p) n) L (M * (p : Int)) (K + 2) := by
 have HP := Lib.hid (show 2 <= p /\ p < 2147483648 from ⟨hp0, hp⟩);have HC := Lib.hid hc;have hpn : p ≠ 0 := by omega
 have hnn : ¬ n = 0 := by omega
 have hpw : IntKind.i64.wrap (p : Int) = (p : Int) := IntWalk.i64_in _ (by omega);obtain ⟨fac, hfac⟩ : ∃ fac, facM M p = fac := ⟨_, rfl⟩;have hfl : fac < 4294967296 := by rw [<- hfac]; exact powM_lt (by omega) (by omega)
 have HFL := Lib.hid hfl;rw [hfac] at hB ⊢;have HF := Lib.hid hfac;have HB := Lib.hid hB;clear hp0 hp hc hB hfac hfl
 go_enter Tryz.func152, Tryz.ntmps152
 obtain ⟨s5, A5, n5, c5, b5, h5⟩ := hI.box;have q0 := b5.cell 0 _ rfl;have q1 := b5.cell 1 _ rfl;have q2 := b5.cell 2 _ rfl
 go_wp2_with fail
 have HRM := p_residue h5 (p := p) (by have := HP.out; omega) HP.out.2 (by omega);obtain ⟨rm, hrm⟩ : ∃ r, (M % (p : Int)).toNat = r := ⟨_, rfl⟩;have hrl : rm < 4294967296 := by have := Int.emod_lt_of_pos M (show (0 : Int) < (p : Int) by have := HP.out; omega); have := HP.out; omega
 have HRL := Lib.hid hrl;have HRF := Lib.hid (show powM rm (p - 2) p = fac by rw [<- HF.out, <- hrm]; rfl);rw [hrm] at HRM;refine HRM.mono ?_;clear HRM hrl hrm;rintro e V1 ⟨rfl, hx1⟩;replace hI := hI.next hx1;replace hU := hU.ext hx1;clear b5 h5 q0 q1 q2 hx1
 go_wp2_with fail
 refine (p_inverse HRL.out HP.out.1 (by have := HP.out.2; omega)).mono ?_;rintro e V2 ⟨rfl, rfl⟩;rw [HRF.out];clear HRL HRF
 go_wp2_with fail
 go_loopw [7, 53] (fun sm i wr => ∃ k : Nat, k <= n /\ i = .int .i64 (k : Int) /\ sm = .bool (incS lc p zs fac k) /\ Img w0 wr gm g n (incZ lc p zs M fac k) L M K /\ URow wr gc lc) (fun _ i _ => n - (intOf i).toNat)
 case atStart => exact ⟨0, Nat.zero_le _, rfl, rfl, by rw [incZ_zero]; exact hI, hU⟩
 case round =>
  clear hI hU;obtain ⟨k, hk, rfl, rfl, hI, hU⟩ := hrel;obtain ⟨s6, A6, n6, c6, b6, h6⟩ := hI.box
  by_cases hlt : k < n
  ·have hkI : (k : Int) < (n : Int) := by omega
   have hkc : k < lc.length := by omega
   have e0 := hU.cell hkc;have hkz : k < (incZ lc p zs M fac k).length := by rw [hI.len]; exact hlt
   have hkz2 : k < zs.length := by rw [incZ_len] at hkz; exact hkz
   obtain ⟨s, A, m, d, z0, z1, hz⟩ := hI.row.get hkz;rw [incZ_here] at hz;obtain ⟨c0, hc0⟩ : ∃ c, lc[k] = c := ⟨_, rfl⟩;have hcp : c0 < p := by rw [<- hc0]; exact HC.out _ (List.getElem_mem hkc)
   rw [hc0] at e0;have hcg : lc.getD k 0 = c0 := by rw [List.getD_eq_getElem?_getD, List.getElem?_eq_getElem hkc]; exact hc0
   obtain ⟨y, hy⟩ : ∃ y, zs.getD k 0 = y := ⟨_, rfl⟩;rw [hy] at hz;obtain ⟨r, hr⟩ : ∃ r, (y % (p : Int)).toNat = r := ⟨_, rfl⟩;have hrp : r < p := by have := Int.emod_lt_of_pos y (show (0 : Int) < (p : Int) by have := HP.out; omega); have := HP.out; omega
   obtain ⟨sm, hsm⟩ : ∃ s, c0 + p = s := ⟨_, rfl⟩;have hsI : (c0 : Int) + (p : Int) = (sm : Int) := by omega
   have hsw : IntKind.u64.wrap (sm : Int) = (sm : Int) := wrap_u64_nat (by have := HP.out; omega);obtain ⟨x, hx⟩ : ∃ x, sm - r = x := ⟨_, rfl⟩;have hxI : (sm : Int) - (r : Int) = (x : Int) := by omega
   have hxw : IntKind.u64.wrap (x : Int) = (x : Int) := wrap_u64_nat (by have := HP.out; omega);obtain ⟨u, hu⟩ : ∃ u, x * fac = u := ⟨_, rfl⟩;have hwu := wrap_mul31 (by have := HP.out; omega) HFL.out hu;obtain ⟨df, hdf⟩ : ∃ d, u % p = d := ⟨_, rfl⟩;have htu : (u : Int).tmod (p : Int) = (df : Int) := by rw [<- hdf]; rfl
   have hdp : df < p := by rw [<- hdf]; exact Nat.mod_lt _ (by have := HP.out; omega)
   have hdw : IntKind.u64.wrap (df : Int) = (df : Int) := wrap_u64_nat (by have := HP.out; omega);have HD := Lib.hid (show difN (lc.getD k 0) p (zs.getD k 0) fac = df /\ df < p from ⟨by unfold difN; rw [hcg, hy, hr, hsm, hx, hu, hdf], hdp⟩);have HY := Lib.hid hy;have HRM := p_residue hz (p := p) (by have := HP.out; omega) HP.out.2 (by omega);rw [hr] at HRM;have HRM := Lib.hid HRM;clear hc0 hcp hcg hy hr hrp hsm hx hu hdf hdp;have j0 := b6.cell 0 _ rfl;have j1 := b6.cell 1 _ rfl;have j2 := b6.cell 2 _ rfl
   go_wp2_with fail
   refine HRM.out.mono ?_;rintro e V3 ⟨rfl, hx3⟩;clear j0 j1 j2 HRM e0;replace hI := hI.next hx3;replace hU := hU.ext hx3;replace b6 := b6.ext hx3;replace h6 := h6.ext hx3;replace hz := hz.ext hx3;replace z0 := hx3.cellv z0;replace z1 := hx3.cellv z1;clear hx3;have HIS := incS_step lc p zs fac k;rw [HD.out.1] at HIS
   by_cases hd0 : df = 0
   ·subst hd0
    have HZS := Lib.hid (incZ_same (cs := lc) (p := p) (zs := zs) (M := M) (fac := fac) (k := k) HD.out.1);rw [show decide ((0 : Nat) = 0) = true from rfl, Bool.and_true] at HIS;have HIS := Lib.hid HIS
    go_wp2_with fail
    go_roundw
    case rel => exact ⟨k + 1, by omega, by go_num, by rw [HIS.out], by rw [HZS.out]; exact hI, hU⟩
    case measure => simp [intOf]; omega
   ·have hdI : ¬ (df : Int) = 0 := by omega
    rw [show decide (df = 0) = false from decide_eq_false hd0, Bool.and_false] at HIS;have HIS := Lib.hid HIS
    have HST := Lib.hid (show (incZ lc p zs M fac k).set k (y + M * leastI df p) = incZ lc p zs M fac (k + 1) by
     have h1 := incZ_step (cs := lc) (p := p) (M := M) (fac := fac) hkz2 (by rw [HD.out.1]; exact hd0);rw [HD.out.1, HY.out] at h1;exact h1)
    have HLB := Lib.hid (show (y + M * leastI df p).natAbs < 4294967296 ^ L by
     have h1 := incZ_last (cs := lc) (p := p) (zs := zs) (M := M) (fac := fac) hlt (by rw [incZ_len] at hkz; have := hI.len; rw [incZ_len] at this; omega) (by rw [HD.out.1]; exact hd0);rw [HD.out.1, HY.out] at h1;exact HB.out _ h1)
    go_upto_region 13 with (fail)
    refine wpL.st 22 (fun hQ ES => ?_);refine wpL.tB [1,2,3,21,22] 0 77 ?v_0 hQ ?y_0 ES ?_
    case y_0 => intro w' hSw;have l0 := hSw.cellv z0;have l1 := hSw.cellv z1;go_simp;try rfl
    try simp only [zP]
    refine wpL.tB [2,3,21,22] 1 78 ?v_1 hQ ?y_1 ES ?_
    case y_1 => intro w' hSw;have l0 := hSw.cellv z0;have l1 := hSw.cellv z1;go_simp;try rfl
    try simp only [zP]
    refine wpL.tB [3,21,22] 2 79 ?v_2 hQ ?y_2 ES ?_
    case y_2 => intro w' hSw;have l0 := hSw.cellv z0;have l1 := hSw.cellv z1;go_simp;try rfl
    try simp only [zP]
    refine wpL.tB [21,22] 3 80 ?v_3 hQ ?y_3 ES ?_
    case y_3 => intro w' hSw;have j0 := (b6.ext hSw).cell 0 _ rfl;have j1 := (b6.ext hSw).cell 1 _ rfl;have j2 := (b6.ext hSw).cell 2 _ rfl;have l0 := hSw.cellv z0;have l1 := hSw.cellv z1;go_simp;try rfl
    try simp only [zP]
    refine wpL.tB [21,22] 4 81 ?v_4 hQ ?y_4 ES ?_
    case y_4 => intro w' hSw;have l0 := hSw.cellv z0;have l1 := hSw.cellv z1;go_simp;try rfl
    try simp only [zP]
    refine wpL.tB [6,7,8,10,11,20,22] 5 82 ?v_5 hQ ?y_5 ES ?_
    case y_5 => intro w' hSw;have l0 := hSw.cellv z0;have l1 := hSw.cellv z1;go_simp;try rfl
    try simp only [zP]
    refine wpL.tB [7,8,10,11,20,22] 6 83 ?v_6 hQ ?y_6 ES ?_
    case y_6 => intro w' hSw;have l0 := hSw.cellv z0;have l1 := hSw.cellv z1;go_simp;try rfl
    try simp only [zP]
    refine wpL.tB [8,10,11,20,22] 7 84 ?v_7 hQ ?y_7 ES ?_
    case y_7 => intro w' hSw;have l0 := hSw.cellv z0;have l1 := hSw.cellv z1;go_simp;try rfl
    try simp only [zP]
    refine wpL.tB [10,11,20,22] 8 85 ?v_8 hQ ?y_8 ES ?_
    case y_8 => intro w' hSw;have j0 := (b6.ext hSw).cell 0 _ rfl;have j1 := (b6.ext hSw).cell 1 _ rfl;have j2 := (b6.ext hSw).cell 2 _ rfl;have l0 := hSw.cellv z0;have l1 := hSw.cellv z1;go_simp;try rfl
    try simp only [zP]
    refine wpL.tB [10,11,20,22] 9 86 ?v_9 hQ ?y_9 ES ?_
    case y_9 => intro w' hSw;have l0 := hSw.cellv z0;have l1 := hSw.cellv z1;go_simp;try rfl
    try simp only [zP]
    refine wpL.tB [11,20,22] 10 87 ?v_a hQ ?y_a ES ?_
    case y_a => intro w' hSw;have l0 := hSw.cellv z0;have l1 := hSw.cellv z1;go_simp;try rfl
    try simp only [zP]
    refine wpL.tB [20,22] 11 88 ?v_b hQ ?y_b ES ?_
    case y_b => intro w' hSw;have j0 := (b6.ext hSw).cell 0 _ rfl;have j1 := (b6.ext hSw).cell 1 _ rfl;have j2 := (b6.ext hSw).cell 2 _ rfl;have l0 := hSw.cellv z0;have l1 := hSw.cellv z1;go_simp;try rfl
    try simp only [zP]
    refine wpL.tB [13,14,15,19,20,22] 12 89 ?v_c hQ ?y_c ES ?_
    case y_c => intro w' hSw;have l0 := hSw.cellv z0;have l1 := hSw.cellv z1;go_simp;try rfl
    try simp only [zP]
    refine wpL.tB [14,15,19,20,22] 13 90 ?v_d hQ ?y_d ES ?_
    case y_d => intro w' hSw;have l0 := hSw.cellv z0;have l1 := hSw.cellv z1;go_simp;try rfl
    try simp only [zP]
    refine wpL.tB [15,19,20,22] 14 91 ?v_e hQ ?y_e ES ?_
    case y_e => intro w' hSw;have l0 := hSw.cellv z0;have l1 := hSw.cellv z1;go_simp;try rfl
    try simp only [zP]
    refine wpL.tB [19,20,22] 15 92 ?v_f hQ ?y_f ES ?_
    case y_f => intro w' hSw;have j0 := (b6.ext hSw).cell 0 _ rfl;have j1 := (b6.ext hSw).cell 1 _ rfl;have j2 := (b6.ext hSw).cell 2 _ rfl;have l0 := hSw.cellv z0;have l1 := hSw.cellv z1;go_simp;try rfl
    try simp only [zP]
    refine wpL.tB [18,19,20,22] 16 93 ?v_g hQ ?y_g ES ?_
    case y_g => intro w' hSw;have l0 := hSw.cellv z0;have l1 := hSw.cellv z1;go_simp;try rfl
    try simp only [zP]
    refine wpL.tB [18,19,20,22] 17 94 ?v_h hQ ?y_h ES ?_
    case y_h => intro w' hSw;have l0 := hSw.cellv z0;have l1 := hSw.cellv z1;go_simp;try rfl
    try simp only [zP]
    refine wpL.cl (i := 18) rfl (fun K hK => ?_);go_simp
    (go_at_call 173; refine (p_least HD.out.2 HP.out.2).mono ?_; rintro e wa ⟨s1, A1, n1, c1, rfl, h1, hx0⟩; have E1 := Ext.trans ES hx0)
    refine hK.out _ _ E1 ?_;clear hK K
    try simp only [zP]
    refine wpL.cl (i := 19) rfl (fun K hK => ?_);go_simp
    (go_at_call 64; refine (p_Mul (h6.ext E1) h1 (by omega) (by omega) (by omega)).mono ?_; rintro e wb ⟨s2, A2, n2, c2, rfl, h2, hx1⟩; have E2 := Ext.trans E1 hx1)
    refine hK.out _ _ E2 ?_;clear hK K
    try simp only [zP]
    refine wpL.cl (i := 20) rfl (fun K hK => ?_);go_simp
    (go_at_call 101; refine (p_Add (hz.ext E2) h2 (by omega) (by omega)).mono ?_; rintro e wc ⟨s3, A3, n3, c3, rfl, h3, hx2⟩; have E3 := Ext.trans E2 hx2)
    refine hK.out _ _ E3 ?_;clear hK K
    try simp only [zP]
    refine wpL.tB [22] 21 98 ?v_i hQ ?y_i E3 ?_
    case y_i => intro w' hSw;go_simp;try rfl
    try simp only [zP]
    have hRk := hI.row.ext E3;obtain ⟨sw, Aw, nw, cw, y0, y1, _⟩ := hRk.get hkz;have f0 := hRk.frozen (k * 2);have f1 := hRk.frozen (k * 2 + 1);refine wpL.tl (i := 22) rfl (fun K hK => ?_);go_simp;refine hK.out _ _ ?_;clear hK K
    try simp only [zP]
    refine wpL.done (by kernel_rfl) ?_ _;clear hQ;have PP := hRk.put hkz (h3.tight' HLB.out);rw [HST.out] at PP;have b7 := PP.2.2.2 _ _ _ hI.ne (b6.ext E3);have h7 := PP.2.1 _ _ _ _ _ _ (h6.ext E3);have hU7 := PP.2.2.2 _ _ _ hg2 (hU.ext E3);have hx7 := PP.2.2.1 _ (hI.ext.trans E3) hI.g0;have hr7 := PP.1;have HI7 := Lib.hid (show Img w0 _ gm g n (incZ lc p zs M fac (k + 1)) L M K from ⟨hx7, hI.gm0, hI.g0, hI.ne, hr7, by rw [incZ_len]; have := hI.len; rw [incZ_len] at this; exact this, s6, A6, n6, c6, b7, h7⟩);clear PP b7 h7 hx7 hr7
    go_wp2_with fail
    go_roundw
    case rel => exact ⟨k + 1, by omega, by go_num, by rw [HIS.out], HI7.out, hU7⟩
    case measure => simp [intOf]; omega
  ·have hkn : k = n := by omega
   subst hkn;have hkI : (k : Int) <= (k : Int) := Int.le_refl _
   go_upto_region 15 with (fail)
   refine wpL.st 11 (fun hQ ES => ?_);refine wpL.tB [9,10,11] 0 100 ?v_j hQ ?y_j ES ?_
   case y_j => intro w' hSw;go_simp;try rfl
   try simp only [zP]
   refine wpL.tB [2,3,4,8,11] 1 101 ?v_k hQ ?y_k ES ?_
   case y_k => intro w' hSw;go_simp;try rfl
   try simp only [zP]
   refine wpL.tB [3,4,8,11] 2 102 ?v_l hQ ?y_l ES ?_
   case y_l => intro w' hSw;go_simp;try rfl
   try simp only [zP]
   refine wpL.tB [4,8,11] 3 103 ?v_m hQ ?y_m ES ?_
   case y_m => intro w' hSw;go_simp;try rfl
   try simp only [zP]
   refine wpL.tB [8,11] 4 104 ?v_n hQ ?y_n ES ?_
   case y_n => intro w' hSw;have j0 := (b6.ext hSw).cell 0 _ rfl;have j1 := (b6.ext hSw).cell 1 _ rfl;have j2 := (b6.ext hSw).cell 2 _ rfl;go_simp;try rfl
   try simp only [zP]
   refine wpL.tB [6,7,8,11] 5 105 ?v_o hQ ?y_o ES ?_
   case y_o => intro w' hSw;go_simp;try rfl
   try simp only [zP]
   refine wpL.tB [7,8,11] 6 106 ?v_p hQ ?y_p ES ?_
   case y_p => intro w' hSw;go_simp;try rfl
   try simp only [zP]
   refine wpL.cl (i := 7) rfl (fun K hK => ?_);go_simp
   (go_at_call 66; refine (p_FromInt (p : Int) (by omega) (by have := HP.out; omega)).mono ?_; rintro e wa ⟨s1, A1, n1, c1, rfl, h1, hx0⟩; have E1 := Ext.trans ES hx0)
   refine hK.out _ _ E1 ?_;clear hK K
   try simp only [zP]
   refine wpL.cl (i := 8) rfl (fun K hK => ?_);go_simp
   (go_at_call 64; refine (p_Mul (h6.ext E1) h1 (by omega) (by omega) (by omega)).mono ?_; rintro e wb ⟨s2, A2, n2, c2, rfl, h2, hx1⟩; have E2 := Ext.trans E1 hx1)
   refine hK.out _ _ E2 ?_;clear hK K
   try simp only [zP]
   refine wpL.tB [10,11] 9 109 ?v_q hQ ?y_q E2 ?_
   case y_q => intro w' hSw;go_simp;try rfl
   try simp only [zP]
   refine wpL.tB [11] 10 110 ?v_r hQ ?y_r E2 ?_
   case y_r => intro w' hSw;go_simp;try rfl
   try simp only [zP]
   have b7 := b6.ext E2;have y1 := b7.cell 1 _ rfl;have y2 := b7.cell 2 _ rfl;have f1 := b7.frozen 1;have f2 := b7.frozen 2;refine wpL.tl (i := 11) rfl (fun K hK => ?_);go_simp;refine hK.out _ _ ?_;clear hK K
   try simp only [zP]
   refine wpL.done (by kernel_rfl) ?_ _;clear hQ;have F := ((FinRow.refl (l := [.slice (some ⟨g, 0, none⟩) k k, .bool s6, .slice A6 n6 c6]) b7 (by intro u hu k e; simp at hu; rcases hu with rfl | rfl | rfl <;> cases e)).step 1 (v := .bool s2) (by intro k h; cases h)).step 2 (v := .slice A2 n2 c2) (by intro k h; cases h);obtain ⟨cs, hb1, hc1⟩ := hI.row;have HI7 := Lib.hid (show Img w0 _ gm g k (incZ lc p zs M fac k) L (M * (p : Int)) (K + 2) from ⟨F.ext _ (hI.ext.trans E2) hI.gm0, hI.gm0, hI.g0, hI.ne, ⟨cs, F.far _ _ _ (Ne.symm hI.ne) (hb1.ext E2), (hc1.ext E2).ni F.ni⟩, hI.len, s2, A2, n2, c2, F.box, F.ni _ _ _ _ _ _ h2⟩);clear F
   go_wp2_with fail
   go_ret
   exact ⟨rfl, HI7.out⟩
set_option maxRecDepth 100000 in
theorem p_includeA {w0 w : World} {gm n L K gc N p : Nat} {zs : List Int} {M : Int} {lc : List Nat} (hE : Ext w0 w) (hg0 : w0.heap.size <= gm) (hb : Box w gm 131 #[.slice none 0 0, .bool false, .slice none 0 0]) (hzs : zs = List.replicate n 0) (hM : M = 1) (hK2 : K = 2) (hU : URow w gc lc) (hg1 : gc ≠ gm) (hn0 : 0 < n) (hn : n <= 1000) (hl : n <= lc.length) (hp0 : 2 <= p) (hp : p < 2147483648) (hc : ∀ x ∈ lc, x < p) (hL : L <= 40) (hB : ∀ z ∈ incZ lc p zs M (facM M p) n, z.natAbs < 4294967296 ^ L) :
  Calls Tryz.prog 152 #[.pointer (some ⟨gm, 0, none⟩), .slice (some ⟨gc, 0, none⟩) n N, .int .u64 (p : Int)] w fun e w' => ∃ g, e = .returned (.bool (incS lc p zs (facM M p) n)) /\ Img w0 w' gm g n (incZ lc p zs M (facM M p) n) L (M * (p : Int)) (K + 2) := by
 have hK : K <= 40 := by omega
 have hmk := mk_ints n (by omega);have HP := Lib.hid (show 2 <= p /\ p < 2147483648 from ⟨hp0, hp⟩);have HC := Lib.hid hc;have hpn : p ≠ 0 := by omega
 have hnn : ¬ n = 0 := by omega
 have hpw : IntKind.i64.wrap (p : Int) = (p : Int) := IntWalk.i64_in _ (by omega);obtain ⟨fac, hfac⟩ : ∃ fac, facM M p = fac := ⟨_, rfl⟩;have hfl : fac < 4294967296 := by rw [<- hfac]; exact powM_lt (by omega) (by omega)
 have HFL := Lib.hid hfl;rw [hfac] at hB ⊢;have HF := Lib.hid hfac;have HB := Lib.hid hB;have hgl := hU.lt;have hml := hb.lt;clear hp0 hp hc hB hfac hfl
 go_enter Tryz.func152, Tryz.ntmps152
 have q0 := hb.cell 0 _ rfl;have q1 := hb.cell 1 _ rfl;have q2 := hb.cell 2 _ rfl
 go_upto_region 2 with (fail)
 go_cut [] (fun V => ∃ g, gc ≠ g /\ Img w0 V gm g n zs L M K /\ URow V gc lc)
 case first =>
  clear q0 q1 q2;refine wpL.st 7 (fun hQ ES => ?_);refine wpL.tB [6,7] 0 28 ?v_0 hQ ?y_0 ES ?_
  case y_0 => intro w' hSw;go_simp;try rfl
  try simp only [zP]
  refine wpL.tB [2,3,5,7] 1 29 ?v_1 hQ ?y_1 ES ?_
  case y_1 => intro w' hSw;go_simp;try rfl
  try simp only [zP]
  refine wpL.tB [3,5,7] 2 30 ?v_2 hQ ?y_2 ES ?_
  case y_2 => intro w' hSw;go_simp;try rfl
  try simp only [zP]
  refine wpL.two (i := 3) (j := 4) rfl rfl (by kernel_rfl) (fun K1 hK1 => ?_) (fun K1 hK1 => ?_)
  ·go_simp
   have hmk1 := hmk w.drew;go_simp;have E1 := ES.alloc (.cells (zeroI n).toArray 25);refine hK1.out _ _ (Or.inr E1) ?_;clear hK1 K1
   try simp only [zP]
   obtain ⟨gn, hgn0⟩ : ∃ g, w.heap.size = g := ⟨_, rfl⟩;have hgn : w.heap.size <= gn := by omega
   have hrow : IRow (w.alloc (.cells (zeroI n).toArray 25)).drew w.heap.size (List.replicate n 0) L := IRow.new w.drew n L;rw [<- hzs] at hrow;rw [hgn0] at hrow ⊢;clear hmk1;refine at_wpLx (fun V => Ext w V /\ IRow V gn zs L) ⟨E1, hrow⟩ ?_;clear E1 hrow;rintro V ⟨E1, hrow⟩;refine wpL.cl (i := 4) rfl (fun K hK => ?_);go_simp
   (go_at_call 66; refine (p_FromInt 1 (by omega) (by omega)).mono ?_; rintro e wa ⟨s1, A1, n1, c1, rfl, h1, hx0⟩; have E2 := Ext.trans E1 hx0)
   refine hK.out _ _ E2 ?_;clear hK K
   try simp only [zP]
   replace hrow := hrow.ext hx0;refine wpL.tB [7] 5 33 ?v_3 hQ ?y_3 E2 ?_
   case y_3 => intro w' hSw;go_simp;try rfl
   try simp only [zP]
   refine wpL.tB [7] 6 34 ?v_4 hQ ?y_4 E2 ?_
   case y_4 => intro w' hSw;go_simp;try rfl
   try simp only [zP]
   have b7 := hb.ext E2;have y0 := b7.cell 0 _ rfl;have y1 := b7.cell 1 _ rfl;have y2 := b7.cell 2 _ rfl;have f0 := b7.frozen 0;have f1 := b7.frozen 1;have f2 := b7.frozen 2;refine wpL.tl (i := 7) rfl (fun K hK => ?_);go_simp;refine hK.out _ _ ?_;clear hK K
   try simp only [zP]
   refine wpL.done (by kernel_rfl) ?_ _;clear hQ;have F := (((FinRow.refl (l := [.slice none 0 0, .bool false, .slice none 0 0]) b7 (by intro u hu k e; simp at hu; rcases hu with rfl | rfl | rfl <;> cases e)).step 0 (v := .slice (some ⟨gn, 0, none⟩) n n) (by intro k h; cases h)).step 1 (v := .bool s1) (by intro k h; cases h)).step 2 (v := .slice A1 n1 c1) (by intro k h; cases h);obtain ⟨cs, hb1, hc1⟩ := hrow;have HI7 := Lib.hid (show Img w0 _ gm gn n zs L M K from ⟨F.ext _ (hE.trans E2) hg0, hg0, Nat.le_trans hE.size hgn, by omega, ⟨cs, F.far _ _ _ (by omega) hb1, hc1.ni F.ni⟩, by rw [hzs, List.length_replicate], s1, A1, n1, c1, F.box, by rw [hM, hK2]; exact F.ni _ _ _ _ _ _ h1⟩);have HU7 := Lib.hid (F.far _ _ _ hg1 (hU.ext E2));clear F
   go_wp2_with fail
   go_meet
   exact ⟨gn, by omega, HI7.out, HU7.out⟩
  ·go_simp
   (go_at_call 66; refine (p_FromInt 1 (by omega) (by omega)).mono ?_; rintro e wa ⟨s1, A1, n1, c1, rfl, h1, hx0⟩; have E2 := Ext.trans ES hx0)
   refine hK1.out _ _ (Or.inr E2) ?_;clear hK1 K1
   try simp only [zP]
   refine wpL.cl (i := 3) rfl (fun K1 hK1 => ?_);have hmk1 := hmk wa;go_simp;have E3 := E2.alloc (.cells (zeroI n).toArray 25);refine hK1.out _ _ E3 ?_;clear hK1 K1
   try simp only [zP]
   obtain ⟨gn, hgn0⟩ : ∃ g, wa.heap.size = g := ⟨_, rfl⟩;have hgn : w.heap.size <= gn := by rw [<- hgn0]; exact E2.size
   have hrow := IRow.new wa n L;have h1' := h1.ext ((Ext.refl wa).alloc (.cells (zeroI n).toArray 25));rw [<- hzs] at hrow;rw [hgn0] at hrow ⊢;clear hgn0 hmk1 h1 E2 hx0;refine at_wpLx (fun V => Ext w V /\ IRow V gn zs L /\ NI V 1 2 s1 A1 n1 c1) ⟨E3, hrow, h1'⟩ ?_;clear E3 hrow h1';rintro V ⟨E2, hrow, h1⟩;refine wpL.tB [7] 5 33 ?v_5 hQ ?y_5 E2 ?_
   case y_5 => intro w' hSw;go_simp;try rfl
   try simp only [zP]
   refine wpL.tB [7] 6 34 ?v_6 hQ ?y_6 E2 ?_
   case y_6 => intro w' hSw;go_simp;try rfl
   try simp only [zP]
   have b7 := hb.ext E2;have y0 := b7.cell 0 _ rfl;have y1 := b7.cell 1 _ rfl;have y2 := b7.cell 2 _ rfl;have f0 := b7.frozen 0;have f1 := b7.frozen 1;have f2 := b7.frozen 2;refine wpL.tl (i := 7) rfl (fun K hK => ?_);go_simp;refine hK.out _ _ ?_;clear hK K
   try simp only [zP]
   refine wpL.done (by kernel_rfl) ?_ _;clear hQ;have F := (((FinRow.refl (l := [.slice none 0 0, .bool false, .slice none 0 0]) b7 (by intro u hu k e; simp at hu; rcases hu with rfl | rfl | rfl <;> cases e)).step 0 (v := .slice (some ⟨gn, 0, none⟩) n n) (by intro k h; cases h)).step 1 (v := .bool s1) (by intro k h; cases h)).step 2 (v := .slice A1 n1 c1) (by intro k h; cases h);obtain ⟨cs, hb1, hc1⟩ := hrow;have HI7 := Lib.hid (show Img w0 _ gm gn n zs L M K from ⟨F.ext _ (hE.trans E2) hg0, hg0, Nat.le_trans hE.size hgn, by omega, ⟨cs, F.far _ _ _ (by omega) hb1, hc1.ni F.ni⟩, by rw [hzs, List.length_replicate], s1, A1, n1, c1, F.box, by rw [hM, hK2]; exact F.ni _ _ _ _ _ _ h1⟩);have HU7 := Lib.hid (F.far _ _ _ hg1 (hU.ext E2));clear F
   go_wp2_with fail
   go_meet
   exact ⟨gn, by omega, HI7.out, HU7.out⟩
 case rest =>
  clear hb hU hmk q0 q1 q2 hgl hml hzs hM hK2 hE hg0;obtain ⟨g, hg2, hI, hU⟩ := hcut;obtain ⟨s5, A5, n5, c5, b5, h5⟩ := hI.box;have q0 := b5.cell 0 _ rfl;have q1 := b5.cell 1 _ rfl;have q2 := b5.cell 2 _ rfl
  go_wp2_with fail
  have HRM := p_residue h5 (p := p) (by have := HP.out; omega) HP.out.2 (by omega);obtain ⟨rm, hrm⟩ : ∃ r, (M % (p : Int)).toNat = r := ⟨_, rfl⟩;have hrl : rm < 4294967296 := by have := Int.emod_lt_of_pos M (show (0 : Int) < (p : Int) by have := HP.out; omega); have := HP.out; omega
  have HRL := Lib.hid hrl;have HRF := Lib.hid (show powM rm (p - 2) p = fac by rw [<- HF.out, <- hrm]; rfl);rw [hrm] at HRM;refine HRM.mono ?_;clear HRM hrl hrm;rintro e V1 ⟨rfl, hx1⟩;replace hI := hI.next hx1;replace hU := hU.ext hx1;clear b5 h5 q0 q1 q2 hx1
  go_wp2_with fail
  refine (p_inverse HRL.out HP.out.1 (by have := HP.out.2; omega)).mono ?_;rintro e V2 ⟨rfl, rfl⟩;rw [HRF.out];clear HRL HRF
  go_wp2_with fail
  go_loopw [7, 53] (fun sm i wr => ∃ k : Nat, k <= n /\ i = .int .i64 (k : Int) /\ sm = .bool (incS lc p zs fac k) /\ Img w0 wr gm g n (incZ lc p zs M fac k) L M K /\ URow wr gc lc) (fun _ i _ => n - (intOf i).toNat)
  case atStart => exact ⟨0, Nat.zero_le _, rfl, rfl, by rw [incZ_zero]; exact hI, hU⟩
  case round =>
   clear hI hU;obtain ⟨k, hk, rfl, rfl, hI, hU⟩ := hrel;obtain ⟨s6, A6, n6, c6, b6, h6⟩ := hI.box
   by_cases hlt : k < n
   ·have hkI : (k : Int) < (n : Int) := by omega
    have hkc : k < lc.length := by omega
    have e0 := hU.cell hkc;have hkz : k < (incZ lc p zs M fac k).length := by rw [hI.len]; exact hlt
    have hkz2 : k < zs.length := by rw [incZ_len] at hkz; exact hkz
    obtain ⟨s, A, m, d, z0, z1, hz⟩ := hI.row.get hkz;rw [incZ_here] at hz;obtain ⟨c0, hc0⟩ : ∃ c, lc[k] = c := ⟨_, rfl⟩;have hcp : c0 < p := by rw [<- hc0]; exact HC.out _ (List.getElem_mem hkc)
    rw [hc0] at e0;have hcg : lc.getD k 0 = c0 := by rw [List.getD_eq_getElem?_getD, List.getElem?_eq_getElem hkc]; exact hc0
    obtain ⟨y, hy⟩ : ∃ y, zs.getD k 0 = y := ⟨_, rfl⟩;rw [hy] at hz;obtain ⟨r, hr⟩ : ∃ r, (y % (p : Int)).toNat = r := ⟨_, rfl⟩;have hrp : r < p := by have := Int.emod_lt_of_pos y (show (0 : Int) < (p : Int) by have := HP.out; omega); have := HP.out; omega
    obtain ⟨sm, hsm⟩ : ∃ s, c0 + p = s := ⟨_, rfl⟩;have hsI : (c0 : Int) + (p : Int) = (sm : Int) := by omega
    have hsw : IntKind.u64.wrap (sm : Int) = (sm : Int) := wrap_u64_nat (by have := HP.out; omega);obtain ⟨x, hx⟩ : ∃ x, sm - r = x := ⟨_, rfl⟩;have hxI : (sm : Int) - (r : Int) = (x : Int) := by omega
    have hxw : IntKind.u64.wrap (x : Int) = (x : Int) := wrap_u64_nat (by have := HP.out; omega);obtain ⟨u, hu⟩ : ∃ u, x * fac = u := ⟨_, rfl⟩;have hwu := wrap_mul31 (by have := HP.out; omega) HFL.out hu;obtain ⟨df, hdf⟩ : ∃ d, u % p = d := ⟨_, rfl⟩;have htu : (u : Int).tmod (p : Int) = (df : Int) := by rw [<- hdf]; rfl
    have hdp : df < p := by rw [<- hdf]; exact Nat.mod_lt _ (by have := HP.out; omega)
    have hdw : IntKind.u64.wrap (df : Int) = (df : Int) := wrap_u64_nat (by have := HP.out; omega);have HD := Lib.hid (show difN (lc.getD k 0) p (zs.getD k 0) fac = df /\ df < p from ⟨by unfold difN; rw [hcg, hy, hr, hsm, hx, hu, hdf], hdp⟩);have HY := Lib.hid hy;have HRM := p_residue hz (p := p) (by have := HP.out; omega) HP.out.2 (by omega);rw [hr] at HRM;have HRM := Lib.hid HRM;clear hc0 hcp hcg hy hr hrp hsm hx hu hdf hdp;have j0 := b6.cell 0 _ rfl;have j1 := b6.cell 1 _ rfl;have j2 := b6.cell 2 _ rfl
    go_wp2_with fail
    refine HRM.out.mono ?_;rintro e V3 ⟨rfl, hx3⟩;clear j0 j1 j2 HRM e0;replace hI := hI.next hx3;replace hU := hU.ext hx3;replace b6 := b6.ext hx3;replace h6 := h6.ext hx3;replace hz := hz.ext hx3;replace z0 := hx3.cellv z0;replace z1 := hx3.cellv z1;clear hx3;have HIS := incS_step lc p zs fac k;rw [HD.out.1] at HIS
    by_cases hd0 : df = 0
    ·subst hd0
     have HZS := Lib.hid (incZ_same (cs := lc) (p := p) (zs := zs) (M := M) (fac := fac) (k := k) HD.out.1);rw [show decide ((0 : Nat) = 0) = true from rfl, Bool.and_true] at HIS;have HIS := Lib.hid HIS
     go_wp2_with fail
     go_roundw
     case rel => exact ⟨k + 1, by omega, by go_num, by rw [HIS.out], by rw [HZS.out]; exact hI, hU⟩
     case measure => simp [intOf]; omega
    ·have hdI : ¬ (df : Int) = 0 := by omega
     rw [show decide (df = 0) = false from decide_eq_false hd0, Bool.and_false] at HIS;have HIS := Lib.hid HIS
     have HST := Lib.hid (show (incZ lc p zs M fac k).set k (y + M * leastI df p) = incZ lc p zs M fac (k + 1) by
      have h1 := incZ_step (cs := lc) (p := p) (M := M) (fac := fac) hkz2 (by rw [HD.out.1]; exact hd0);rw [HD.out.1, HY.out] at h1;exact h1)
     have HLB := Lib.hid (show (y + M * leastI df p).natAbs < 4294967296 ^ L by
      have h1 := incZ_last (cs := lc) (p := p) (zs := zs) (M := M) (fac := fac) hlt (by rw [incZ_len] at hkz; have := hI.len; rw [incZ_len] at this; omega) (by rw [HD.out.1]; exact hd0);rw [HD.out.1, HY.out] at h1;exact HB.out _ h1)
     go_upto_region 13 with (fail)
     refine wpL.st 22 (fun hQ ES => ?_);refine wpL.tB [1,2,3,21,22] 0 77 ?v_7 hQ ?y_7 ES ?_
     case y_7 => intro w' hSw;have l0 := hSw.cellv z0;have l1 := hSw.cellv z1;go_simp;try rfl
     try simp only [zP]
     refine wpL.tB [2,3,21,22] 1 78 ?v_8 hQ ?y_8 ES ?_
     case y_8 => intro w' hSw;have l0 := hSw.cellv z0;have l1 := hSw.cellv z1;go_simp;try rfl
     try simp only [zP]
     refine wpL.tB [3,21,22] 2 79 ?v_9 hQ ?y_9 ES ?_
     case y_9 => intro w' hSw;have l0 := hSw.cellv z0;have l1 := hSw.cellv z1;go_simp;try rfl
     try simp only [zP]
     refine wpL.tB [21,22] 3 80 ?v_a hQ ?y_a ES ?_
     case y_a => intro w' hSw;have j0 := (b6.ext hSw).cell 0 _ rfl;have j1 := (b6.ext hSw).cell 1 _ rfl;have j2 := (b6.ext hSw).cell 2 _ rfl;have l0 := hSw.cellv z0;have l1 := hSw.cellv z1;go_simp;try rfl
     try simp only [zP]
     refine wpL.tB [21,22] 4 81 ?v_b hQ ?y_b ES ?_
     case y_b => intro w' hSw;have l0 := hSw.cellv z0;have l1 := hSw.cellv z1;go_simp;try rfl
     try simp only [zP]
     refine wpL.tB [6,7,8,10,11,20,22] 5 82 ?v_c hQ ?y_c ES ?_
     case y_c => intro w' hSw;have l0 := hSw.cellv z0;have l1 := hSw.cellv z1;go_simp;try rfl
     try simp only [zP]
     refine wpL.tB [7,8,10,11,20,22] 6 83 ?v_d hQ ?y_d ES ?_
     case y_d => intro w' hSw;have l0 := hSw.cellv z0;have l1 := hSw.cellv z1;go_simp;try rfl
     try simp only [zP]
     refine wpL.tB [8,10,11,20,22] 7 84 ?v_e hQ ?y_e ES ?_
     case y_e => intro w' hSw;have l0 := hSw.cellv z0;have l1 := hSw.cellv z1;go_simp;try rfl
     try simp only [zP]
     refine wpL.tB [10,11,20,22] 8 85 ?v_f hQ ?y_f ES ?_
     case y_f => intro w' hSw;have j0 := (b6.ext hSw).cell 0 _ rfl;have j1 := (b6.ext hSw).cell 1 _ rfl;have j2 := (b6.ext hSw).cell 2 _ rfl;have l0 := hSw.cellv z0;have l1 := hSw.cellv z1;go_simp;try rfl
     try simp only [zP]
     refine wpL.tB [10,11,20,22] 9 86 ?v_g hQ ?y_g ES ?_
     case y_g => intro w' hSw;have l0 := hSw.cellv z0;have l1 := hSw.cellv z1;go_simp;try rfl
     try simp only [zP]
     refine wpL.tB [11,20,22] 10 87 ?v_h hQ ?y_h ES ?_
     case y_h => intro w' hSw;have l0 := hSw.cellv z0;have l1 := hSw.cellv z1;go_simp;try rfl
     try simp only [zP]
     refine wpL.tB [20,22] 11 88 ?v_i hQ ?y_i ES ?_
     case y_i => intro w' hSw;have j0 := (b6.ext hSw).cell 0 _ rfl;have j1 := (b6.ext hSw).cell 1 _ rfl;have j2 := (b6.ext hSw).cell 2 _ rfl;have l0 := hSw.cellv z0;have l1 := hSw.cellv z1;go_simp;try rfl
     try simp only [zP]
     refine wpL.tB [13,14,15,19,20,22] 12 89 ?v_j hQ ?y_j ES ?_
     case y_j => intro w' hSw;have l0 := hSw.cellv z0;have l1 := hSw.cellv z1;go_simp;try rfl
     try simp only [zP]
     refine wpL.tB [14,15,19,20,22] 13 90 ?v_k hQ ?y_k ES ?_
     case y_k => intro w' hSw;have l0 := hSw.cellv z0;have l1 := hSw.cellv z1;go_simp;try rfl
     try simp only [zP]
     refine wpL.tB [15,19,20,22] 14 91 ?v_l hQ ?y_l ES ?_
     case y_l => intro w' hSw;have l0 := hSw.cellv z0;have l1 := hSw.cellv z1;go_simp;try rfl
     try simp only [zP]
     refine wpL.tB [19,20,22] 15 92 ?v_m hQ ?y_m ES ?_
     case y_m => intro w' hSw;have j0 := (b6.ext hSw).cell 0 _ rfl;have j1 := (b6.ext hSw).cell 1 _ rfl;have j2 := (b6.ext hSw).cell 2 _ rfl;have l0 := hSw.cellv z0;have l1 := hSw.cellv z1;go_simp;try rfl
     try simp only [zP]
     refine wpL.tB [18,19,20,22] 16 93 ?v_n hQ ?y_n ES ?_
     case y_n => intro w' hSw;have l0 := hSw.cellv z0;have l1 := hSw.cellv z1;go_simp;try rfl
     try simp only [zP]
     refine wpL.tB [18,19,20,22] 17 94 ?v_o hQ ?y_o ES ?_
     case y_o => intro w' hSw;have l0 := hSw.cellv z0;have l1 := hSw.cellv z1;go_simp;try rfl
     try simp only [zP]
     refine wpL.cl (i := 18) rfl (fun K hK => ?_);go_simp
     (go_at_call 173; refine (p_least HD.out.2 HP.out.2).mono ?_; rintro e wa ⟨s1, A1, n1, c1, rfl, h1, hx0⟩; have E1 := Ext.trans ES hx0)
     refine hK.out _ _ E1 ?_;clear hK K
     try simp only [zP]
     refine wpL.cl (i := 19) rfl (fun K hK => ?_);go_simp
     (go_at_call 64; refine (p_Mul (h6.ext E1) h1 (by omega) (by omega) (by omega)).mono ?_; rintro e wb ⟨s2, A2, n2, c2, rfl, h2, hx1⟩; have E2 := Ext.trans E1 hx1)
     refine hK.out _ _ E2 ?_;clear hK K
     try simp only [zP]
     refine wpL.cl (i := 20) rfl (fun K hK => ?_);go_simp
     (go_at_call 101; refine (p_Add (hz.ext E2) h2 (by omega) (by omega)).mono ?_; rintro e wc ⟨s3, A3, n3, c3, rfl, h3, hx2⟩; have E3 := Ext.trans E2 hx2)
     refine hK.out _ _ E3 ?_;clear hK K
     try simp only [zP]
     refine wpL.tB [22] 21 98 ?v_p hQ ?y_p E3 ?_
     case y_p => intro w' hSw;go_simp;try rfl
     try simp only [zP]
     have hRk := hI.row.ext E3;obtain ⟨sw, Aw, nw, cw, y0, y1, _⟩ := hRk.get hkz;have f0 := hRk.frozen (k * 2);have f1 := hRk.frozen (k * 2 + 1);refine wpL.tl (i := 22) rfl (fun K hK => ?_);go_simp;refine hK.out _ _ ?_;clear hK K
     try simp only [zP]
     refine wpL.done (by kernel_rfl) ?_ _;clear hQ;have PP := hRk.put hkz (h3.tight' HLB.out);rw [HST.out] at PP;have b7 := PP.2.2.2 _ _ _ hI.ne (b6.ext E3);have h7 := PP.2.1 _ _ _ _ _ _ (h6.ext E3);have hU7 := PP.2.2.2 _ _ _ hg2 (hU.ext E3);have hx7 := PP.2.2.1 _ (hI.ext.trans E3) hI.g0;have hr7 := PP.1;have HI7 := Lib.hid (show Img w0 _ gm g n (incZ lc p zs M fac (k + 1)) L M K from ⟨hx7, hI.gm0, hI.g0, hI.ne, hr7, by rw [incZ_len]; have := hI.len; rw [incZ_len] at this; exact this, s6, A6, n6, c6, b7, h7⟩);clear PP b7 h7 hx7 hr7
     go_wp2_with fail
     go_roundw
     case rel => exact ⟨k + 1, by omega, by go_num, by rw [HIS.out], HI7.out, hU7⟩
     case measure => simp [intOf]; omega
   ·have hkn : k = n := by omega
    subst hkn;have hkI : (k : Int) <= (k : Int) := Int.le_refl _
    go_upto_region 15 with (fail)
    refine wpL.st 11 (fun hQ ES => ?_);refine wpL.tB [9,10,11] 0 100 ?v_q hQ ?y_q ES ?_
    case y_q => intro w' hSw;go_simp;try rfl
    try simp only [zP]
    refine wpL.tB [2,3,4,8,11] 1 101 ?v_r hQ ?y_r ES ?_
    case y_r => intro w' hSw;go_simp;try rfl
    try simp only [zP]
    refine wpL.tB [3,4,8,11] 2 102 ?v_s hQ ?y_s ES ?_
    case y_s => intro w' hSw;go_simp;try rfl
    try simp only [zP]
    refine wpL.tB [4,8,11] 3 103 ?v_t hQ ?y_t ES ?_
    case y_t => intro w' hSw;go_simp;try rfl
    try simp only [zP]
    refine wpL.tB [8,11] 4 104 ?v_u hQ ?y_u ES ?_
    case y_u => intro w' hSw;have j0 := (b6.ext hSw).cell 0 _ rfl;have j1 := (b6.ext hSw).cell 1 _ rfl;have j2 := (b6.ext hSw).cell 2 _ rfl;go_simp;try rfl
    try simp only [zP]
    refine wpL.tB [6,7,8,11] 5 105 ?v_v hQ ?y_v ES ?_
    case y_v => intro w' hSw;go_simp;try rfl
    try simp only [zP]
    refine wpL.tB [7,8,11] 6 106 ?v_w hQ ?y_w ES ?_
    case y_w => intro w' hSw;go_simp;try rfl
    try simp only [zP]
    refine wpL.cl (i := 7) rfl (fun K hK => ?_);go_simp
    (go_at_call 66; refine (p_FromInt (p : Int) (by omega) (by have := HP.out; omega)).mono ?_; rintro e wa ⟨s1, A1, n1, c1, rfl, h1, hx0⟩; have E1 := Ext.trans ES hx0)
    refine hK.out _ _ E1 ?_;clear hK K
    try simp only [zP]
    refine wpL.cl (i := 8) rfl (fun K hK => ?_);go_simp
    (go_at_call 64; refine (p_Mul (h6.ext E1) h1 (by omega) (by omega) (by omega)).mono ?_; rintro e wb ⟨s2, A2, n2, c2, rfl, h2, hx1⟩; have E2 := Ext.trans E1 hx1)
    refine hK.out _ _ E2 ?_;clear hK K
    try simp only [zP]
    refine wpL.tB [10,11] 9 109 ?v_x hQ ?y_x E2 ?_
    case y_x => intro w' hSw;go_simp;try rfl
    try simp only [zP]
    refine wpL.tB [11] 10 110 ?v_y hQ ?y_y E2 ?_
    case y_y => intro w' hSw;go_simp;try rfl
    try simp only [zP]
    have b7 := b6.ext E2;have y1 := b7.cell 1 _ rfl;have y2 := b7.cell 2 _ rfl;have f1 := b7.frozen 1;have f2 := b7.frozen 2;refine wpL.tl (i := 11) rfl (fun K hK => ?_);go_simp;refine hK.out _ _ ?_;clear hK K
    try simp only [zP]
    refine wpL.done (by kernel_rfl) ?_ _;clear hQ;have F := ((FinRow.refl (l := [.slice (some ⟨g, 0, none⟩) k k, .bool s6, .slice A6 n6 c6]) b7 (by intro u hu k e; simp at hu; rcases hu with rfl | rfl | rfl <;> cases e)).step 1 (v := .bool s2) (by intro k h; cases h)).step 2 (v := .slice A2 n2 c2) (by intro k h; cases h);obtain ⟨cs, hb1, hc1⟩ := hI.row;have HI7 := Lib.hid (show Img w0 _ gm g k (incZ lc p zs M fac k) L (M * (p : Int)) (K + 2) from ⟨F.ext _ (hI.ext.trans E2) hI.gm0, hI.gm0, hI.g0, hI.ne, ⟨cs, F.far _ _ _ (Ne.symm hI.ne) (hb1.ext E2), (hc1.ext E2).ni F.ni⟩, hI.len, s2, A2, n2, c2, F.box, F.ni _ _ _ _ _ _ h2⟩);clear F
    go_wp2_with fail
    go_ret
    exact ⟨g, rfl, HI7.out⟩
section
variable {w w' : World} {A B : Option Addr} {n c m d L M : Nat} {xs ys : List Int}
set_option maxRecDepth 100000 in
theorem p_divides {S C o N : Nat} {lead : Int} {os : List Int} (h' : IPol w B m d ys M) (h : IPol w A n c xs L) (hn0 : 0 < n) (hm0 : 0 < m) (hn : n <= 400) (hm : m <= 400) (hL : L <= S) (hM : M < 64) (ho : o + 1 = m) (hN : N = n - o) (hos : os = ys.take o) (hlead : lead = ys.getLastD 0) (hl0 : lead ≠ 0) (hD : DivB xs os lead N S C) (hS : S <= 1000) (hC : C <= 1000) (hC1 : 1 <= C) (hT : Tab w) (hZ : trimI ((divS xs os lead N N).1.take (n - N)) = []) :
  Calls Tryz.prog 154 #[.slice B m d, .slice A n c] w fun e w' => e = .returned (.bool true) /\ Ext w w' := by
 have HZ := Lib.hid hZ;have HC := p_divideP h h' hn0 hm0 hn hm hL hM ho hN hos hlead hl0 hD hS hC hC1 hT;rw [hZ] at HC;have HC := Lib.hid HC;clear hZ hL hM ho hN hos hlead hl0 hD hS hC hC1 hn hm hn0 hm0 HZ
 go_enter Tryz.func154, Tryz.ntmps154
 go_wp2_with fail
 refine HC.out.mono ?_;rintro e V4 ⟨A3, n3, c3, B3, m3, d3, s4, D4, k4, l4, rfl, hq, hr, hsc, ext4⟩;have hm3 : m3 = 0 := by have := hr.len; simp at this; omega
 subst hm3;clear hr hq hsc HC
 go_upto_region 2 with (fail)
 obtain ⟨V5, hV5, ext2, b13, hz2⟩ := box1 V4 25 #[.bool s4, .slice D4 k4 l4];rw [<- hV5];clear hV5 hz2 b13;have ext := ext4.trans ext2;clear ext4 ext2
 go_wp2_with fail
 go_ret
 exact ⟨rfl, ext⟩
end
def divC (xs os : List Int) (lead : Int) (N S C : Nat) : Bool :=
 ((List.range N).all fun k => (List.range (N - 1 - k + os.length + 1)).all fun a => (List.range (os.length + 1)).all fun b => (midD (divS xs os lead N k).1 (lead / comD (divS xs os lead N k).1 lead (N - 1 - k) os.length) (topD (divS xs os lead N k).1 (N - 1 - k) os.length / comD (divS xs os lead N k).1 lead (N - 1 - k) os.length) os (N - 1 - k) a b).all fun z => decide (z.natAbs < 4294967296 ^ S)) && ((List.range (N + 1)).all fun k => decide ((divS xs os lead N k).2.1.natAbs < 4294967296 ^ C))
theorem divC_ok {xs os : List Int} {lead : Int} {N S C : Nat} (h : divC xs os lead N S C = true) : DivB xs os lead N S C := by
 unfold divC at h;rw [Bool.and_eq_true, List.all_eq_true, List.all_eq_true] at h;refine ⟨fun k hk a b ha hb z hz => ?_, fun k hk => ?_⟩
 ·have h1 := h.1 k (List.mem_range.2 hk)
  rw [List.all_eq_true] at h1;have h2 := h1 a (List.mem_range.2 (by omega));rw [List.all_eq_true] at h2;have h3 := h2 b (List.mem_range.2 (by omega));rw [List.all_eq_true] at h3;exact of_decide_eq_true (h3 z hz)
 ·exact of_decide_eq_true (h.2 k (List.mem_range.2 (by omega)))
def exA : List Int := [0, 1, -2, 1]
def exB : List Int := [1, -4, 3]
def exD : List Int := [-1, 1]
def exP : Nat := 2147483647
def exR : Nat := 2147483629
def exCom (p : Nat) : List Nat := comF 8 (cutN (resL exA p)) (cutN (resL exB p)) p
theorem exCom_ok1 : comOK 8 (cutN (resL exA exP)) (cutN (resL exB exP)) exP = true := by decide +kernel
theorem exCom_ok2 : comOK 8 (cutN (resL exA exR)) (cutN (resL exB exR)) exR = true := by decide +kernel
theorem exCom_1 : (exCom exP).length = 2 /\ mulN (exCom exP) (facN (exCom exP) exP) exP = [exP - 1, 1] := by decide +kernel
theorem exCom_2 : (exCom exR).length = 2 /\ mulN (exCom exR) (facN (exCom exR) exR) exR = [exR - 1, 1] := by decide +kernel
theorem exInc_1 : incZ (mulN [exP - 1, 1] 1 exP) exP [0, 0] 1 (facM 1 exP) 2 = exD /\ incS (mulN [exP - 1, 1] 1 exP) exP [0, 0] (facM 1 exP) 2 = false := by decide +kernel
theorem exInc_2 : incZ (mulN [exR - 1, 1] 1 exR) exR exD (exP : Int) (facM (exP : Int) exR) 2 = exD /\ incS (mulN [exR - 1, 1] 1 exR) exR exD (facM (exP : Int) exR) 2 = true := by decide +kernel
theorem exDiv_1 : divC exA [-1] 1 3 1 1 = true /\ trimI ((divS exA [-1] 1 3 3).1.take 1) = [] := by decide +kernel
theorem exDiv_2 : divC exB [-1] 1 2 1 1 = true /\ trimI ((divS exB [-1] 1 2 2).1.take 1) = [] := by decide +kernel
theorem exD_prim : primI exD = exD := by decide +kernel
theorem ex_below1 : belowF 1 (2147483648 - 1) = exP /\ primeB exP = true := by decide +kernel
theorem ex_below2 : belowF 20 (exP - 1) = exR /\ primeB exR = true := by decide +kernel
theorem ex_down1 : ∀ m, m <= 2147483648 - 1 -> 2147483648 - 1 < m + 1 -> DownOK m := by
 intro m h1 h2;have : m = 2147483647 := by omega
 subst this;exact ⟨by decide, by decide, by decide +kernel⟩
def downC (a f : Nat) : Bool := (List.range f).all fun j => decide (0 < oddF 64 (a - j - 1))
theorem ex_odd2 : downC (exP - 1) 20 = true := by decide +kernel
theorem ex_down2 : ∀ m, m <= exP - 1 -> exP - 1 < m + 20 -> DownOK m := by
 intro m h1 h2;have h := ex_odd2;unfold downC at h;rw [List.all_eq_true] at h;have h3 := of_decide_eq_true (h (exP - 1 - m) (List.mem_range.2 (by omega)));rw [show exP - 1 - (exP - 1 - m) - 1 = m - 1 by omega] at h3;unfold exP at h1 h2;exact ⟨by omega, by omega, h3⟩
theorem ex_downP : DownOK exP := ⟨by decide, by decide, by decide +kernel⟩
theorem ex_downR : DownOK exR := ⟨by decide, by decide, by decide +kernel⟩
set_option maxRecDepth 100000 in
theorem p_commonD_ex {w : World} {A B : Option Addr} {c d : Nat} (hA0 : IPol w A 4 c exA 1) (hB0 : IPol w B 3 d exB 1) (hT : Tab w) : Calls Tryz.prog 128 #[.slice A 4 c, .slice B 3 d] w (RetIPol exD 1 w) := by
 go_enter Tryz.func128, Tryz.ntmps128
 go_wp2_with fail
 refine (p_lastN hA0 (by omega) (by omega)).mono ?_;rintro e V1 ⟨s1, A1, n1, c1, rfl, h1, x1⟩
 go_wp2_with fail
 refine (p_lastN (hB0.ext x1) (by omega) (by omega)).mono ?_;rintro e V2 ⟨s2, A2, n2, c2, rfl, h2, x2⟩
 go_wp2_with fail
 refine (p_GCD (h1.ext x2) h2 (by omega) (by omega) (hT.ext (x1.trans x2))).mono ?_;rintro e V3 ⟨s3, A3, n3, c3, rfl, h5, x3⟩;rw [show ((Nat.gcd (exA.getLastD 0).natAbs (exB.getLastD 0).natAbs : Nat) : Int) = 1 by decide +kernel] at h5;have extE := (x1.trans x2).trans x3;clear x1 x2 x3 h1 h2
 go_upto_region 6 with (fail)
 obtain ⟨W5, hW5, ext2, b5, hz2⟩ := box1 V3 25 #[.bool s3, .slice A3 n3 c3];rw [<- hW5];clear hW5 hz2;replace h5 := h5.ext ext2;replace extE := extE.trans ext2;clear ext2;generalize V3.heap.size = g5 at b5 ⊢
 go_upto_region 7 with (fail)
 obtain ⟨W6, hW6, ext6, b6, hz6⟩ := box1 W5 131 #[.slice none 0 0, .bool false, .slice none 0 0];rw [<- hW6];clear hW6 hz6;obtain ⟨g6, hg60⟩ : ∃ g, W5.heap.size = g := ⟨_, rfl⟩;have hg6 : W5.heap.size <= g6 := by omega
 rw [hg60] at b6 ⊢;clear hg60;have HPB : Calls Tryz.prog 148 #[.int .u64 2147483648] W6 fun v w' => v = .returned (.int .u64 ((exP : Nat) : Int)) /\ w' = W6 := p_primeBelow (n := 2147483648) (f := 1) (P := exP) (by omega) (by omega) ex_below1.1 ex_below1.2 ex_down1 ex_downP
 go_wp2_with fail
 refine HPB.mono ?_;clear HPB;rintro e V ⟨rfl, rfl⟩
 go_wp2_with fail
 go_loopw [7] (fun pv wr => Ext W5 wr /\ ((pv = .int .u64 (exP : Int) /\ Box wr g6 131 #[.slice none 0 0, .bool false, .slice none 0 0]) \/ (pv = .int .u64 (exR : Int) /\ ∃ g, Img W5 wr g6 g 2 exD 1 (exP : Int) 4))) (fun pv _ => (intOf pv).toNat)
 case atStart => exact ⟨ext6, .inl ⟨rfl, b6⟩⟩
 case round =>
  clear b6 ext6;obtain ⟨ext, hcase⟩ := hrel;have hA := hA0.ext extE;have hB := hB0.ext extE;have hT5 := hT.ext extE;clear hA0 hB0 hT
  rcases hcase with ⟨rfl, b6⟩ | ⟨rfl, g, hI⟩
  ·skip
   have q0 := (b5.ext ext).cell 0 _ rfl;have q1 := (b5.ext ext).cell 1 _ rfl;have HRM := p_residue (h5.ext ext) (p := exP) (by decide) (by decide) (by omega);obtain ⟨f1, hf1⟩ : ∃ f, ((1 : Int) % ((exP : Nat) : Int)).toNat = f := ⟨_, rfl⟩;have HF1 := Lib.hid (show f1 = 1 by rw [<- hf1]; decide +kernel);rw [hf1] at HRM;have hf0 : ¬ (f1 : Int) = 0 := by have := HF1.out; omega
   clear hf1;have HRM := Lib.hid HRM
   go_wp2_with fail
   refine HRM.out.mono ?_;clear HRM q0 q1;rintro e V0 ⟨rfl, hx0⟩;replace ext := ext.trans hx0;replace b6 := b6.ext hx0;clear hx0
   go_wp2_with fail
   refine (p_residues (p := exP) (hA.ext ext) (by omega) (by decide) (by decide) (by omega)).mono ?_;rintro e V1 ⟨ga, hga, rfl, ua, x1⟩
   go_wp2_with fail
   refine (p_residues (p := exP) (hB.ext (ext.trans x1)) (by omega) (by decide) (by decide) (by omega)).mono ?_;rintro e V2 ⟨gb, hgb, rfl, ub, x2⟩;have hal := ua.lt;have hsz := x1.size
   have h0 : ComJ V0 V2 exP 8 ga gb (cutN (resL exA exP)).length (cutN (resL exB exP)).length (resL exA exP).length (resL exB exP).length (resL exA exP) (resL exB exP) (exCom exP) :=
    ⟨ua.ext x2, ub, by omega, cutN_len _, cutN_len _, Nat.le_refl _, Nat.le_refl _, by unfold resL; rw [List.length_map]; decide, by unfold resL; rw [List.length_map]; decide, resL_lt (by decide), resL_lt (by decide), by rw [cutN_take, cutN_take]; exact exCom_ok1, by rw [cutN_take, cutN_take]; rfl, x1.trans x2, hga, by omega⟩
   have HCR := p_commonRes h0 (by decide) (by decide) (by intro e; have := exCom_1.1; rw [e] at this; cases this);rw [exCom_1.1, exCom_1.2] at HCR;have HCR := Lib.hid HCR;clear h0 ua ub x1 x2 hal hsz hga hgb
   go_wp2_with fail
   refine HCR.out.mono ?_;clear HCR;rintro e V3 ⟨gc, hgc, rfl, uc, hx2⟩
   go_wp2_with fail
   refine (p_multiply (p := exP) (f := f1) uc (Nat.le_refl 2) (by omega) (by decide) (by decide) (by have := HF1.out; omega) (by decide)).mono ?_;rintro e V4 ⟨gq, hgq, rfl, hr, hx3⟩;rw [HF1.out] at hr ⊢;clear uc;obtain ⟨lc, hlc⟩ : ∃ l, mulN [exP - 1, 1] 1 exP = l := ⟨_, rfl⟩
   have HLC := Lib.hid (show lc.length = 2 /\ (∀ x ∈ lc, x < exP) /\ incZ lc exP [0, 0] 1 (facM 1 exP) 2 = exD /\ incS lc exP [0, 0] (facM 1 exP) 2 = false by
    rw [<- hlc];exact ⟨rfl, mulN_lt (by decide), exInc_1.1, exInc_1.2⟩)
   replace hr : URow V4 gq lc := by rw [<- hlc]; exact hr
   have hll : (mulN (List.take 2 [exP - 1, 1]) 1 exP).length = 2 := rfl;rw [hll];clear hll hlc;have hgz := hx2.size;have hbl := b6.lt;have hml := b6.lt;have hqn : gq ≠ g6 := by omega
   have HIN := p_includeA (w0 := W5) (gm := g6) (n := 2) (L := 1) (K := 2) (p := exP) (zs := [0, 0]) (M := 1) (lc := lc) (ext.trans (hx2.trans hx3)) hg6 (b6.ext (hx2.trans hx3)) rfl rfl rfl hr hqn (N := 2) (by omega) (by omega) (by rw [HLC.out.1]; exact Nat.le_refl 2) (by decide) (by decide) HLC.out.2.1 (by omega) (by rw [HLC.out.2.2.1]; decide);rw [HLC.out.2.2.1, HLC.out.2.2.2] at HIN;have HIN := Lib.hid HIN;replace ext := ext.trans (hx2.trans hx3);clear hr hgc hgq hgz hbl hml
   go_wp2_with fail
   refine HIN.out.mono ?_;clear HIN HLC;rintro e V6 ⟨g, rfl, hI⟩;rw [Int.one_mul] at hI;have HPB := p_primeBelow (n := exP) (f := 20) (P := exR) (w := V6) (by decide) (by decide) ex_below2.1 ex_below2.2 ex_down2 ex_downR;have HPB := Lib.hid HPB
   go_wp2_with fail
   refine HPB.out.mono ?_;rintro e V ⟨rfl, rfl⟩
   go_wp2_with fail
   go_roundw
   case rel => exact ⟨hI.ext, .inr ⟨rfl, g, hI⟩⟩
   case measure => decide
  ·skip
   have q0 := (b5.ext ext).cell 0 _ rfl;have q1 := (b5.ext ext).cell 1 _ rfl;have HRM := p_residue (h5.ext ext) (p := exR) (by decide) (by decide) (by omega);obtain ⟨f1, hf1⟩ : ∃ f, ((1 : Int) % ((exR : Nat) : Int)).toNat = f := ⟨_, rfl⟩;have HF1 := Lib.hid (show f1 = 1 by rw [<- hf1]; decide +kernel);rw [hf1] at HRM;have hf0 : ¬ (f1 : Int) = 0 := by have := HF1.out; omega
   clear hf1;have HRM := Lib.hid HRM
   go_wp2_with fail
   refine HRM.out.mono ?_;clear HRM q0 q1;rintro e V0 ⟨rfl, hx0⟩;replace ext := ext.trans hx0;replace hI := hI.next hx0;clear hx0
   go_wp2_with fail
   refine (p_residues (p := exR) (hA.ext ext) (by omega) (by decide) (by decide) (by omega)).mono ?_;rintro e V1 ⟨ga, hga, rfl, ua, x1⟩
   go_wp2_with fail
   refine (p_residues (p := exR) (hB.ext (ext.trans x1)) (by omega) (by decide) (by decide) (by omega)).mono ?_;rintro e V2 ⟨gb, hgb, rfl, ub, x2⟩;have hal := ua.lt;have hsz := x1.size
   have h0 : ComJ V0 V2 exR 8 ga gb (cutN (resL exA exR)).length (cutN (resL exB exR)).length (resL exA exR).length (resL exB exR).length (resL exA exR) (resL exB exR) (exCom exR) :=
    ⟨ua.ext x2, ub, by omega, cutN_len _, cutN_len _, Nat.le_refl _, Nat.le_refl _, by unfold resL; rw [List.length_map]; decide, by unfold resL; rw [List.length_map]; decide, resL_lt (by decide), resL_lt (by decide), by rw [cutN_take, cutN_take]; exact exCom_ok2, by rw [cutN_take, cutN_take]; rfl, x1.trans x2, hga, by omega⟩
   have HCR := p_commonRes h0 (by decide) (by decide) (by intro e; have := exCom_2.1; rw [e] at this; cases this);rw [exCom_2.1, exCom_2.2] at HCR;have HCR := Lib.hid HCR;clear h0 ua ub x1 x2 hal hsz hga hgb
   go_wp2_with fail
   refine HCR.out.mono ?_;clear HCR;rintro e V3 ⟨gc, hgc, rfl, uc, hx2⟩
   go_wp2_with fail
   refine (p_multiply (p := exR) (f := f1) uc (Nat.le_refl 2) (by omega) (by decide) (by decide) (by have := HF1.out; omega) (by decide)).mono ?_;rintro e V4 ⟨gq, hgq, rfl, hr, hx3⟩;rw [HF1.out] at hr ⊢;clear uc;obtain ⟨lc, hlc⟩ : ∃ l, mulN [exR - 1, 1] 1 exR = l := ⟨_, rfl⟩
   have HLC := Lib.hid (show lc.length = 2 /\ (∀ x ∈ lc, x < exR) /\ incZ lc exR exD (exP : Int) (facM (exP : Int) exR) 2 = exD /\ incS lc exR exD (facM (exP : Int) exR) 2 = true by
    rw [<- hlc];exact ⟨rfl, mulN_lt (by decide), exInc_2.1, exInc_2.2⟩)
   replace hr : URow V4 gq lc := by rw [<- hlc]; exact hr
   have hll : (mulN (List.take 2 [exR - 1, 1]) 1 exR).length = 2 := rfl;rw [hll];clear hll hlc;have hgz := hx2.size;have hbl := hI.row.lt;obtain ⟨_, _, _, _, b6, _⟩ := hI.box; have hml := b6.lt;have hqn : gq ≠ g6 := by omega
   have hqg : gq ≠ g := by omega
   have HIN := p_includeB (w0 := W5) (gm := g6) (g := g) (n := 2) (L := 1) (K := 4) (p := exR) (zs := exD) (M := (exP : Int)) (lc := lc) (hI.next (hx2.trans hx3)) hr hqn hqg (N := 2) (by omega) (by omega) (by rw [HLC.out.1]; exact Nat.le_refl 2) (by decide) (by decide) HLC.out.2.1 (by omega) (by omega) (by rw [HLC.out.2.2.1]; decide);rw [HLC.out.2.2.1, HLC.out.2.2.2] at HIN;have HIN := Lib.hid HIN;replace ext := ext.trans (hx2.trans hx3);clear hr hgc hgq hgz hbl hml
   go_wp2_with fail
   refine HIN.out.mono ?_;clear HIN HLC;rintro e V6 ⟨rfl, hI⟩;obtain ⟨s7, A7, n7, c7, b7, _⟩ := hI.box;have y0 := b7.cell 0 _ rfl;have extV := hI.ext;have hpl := hI.row.pol (n := 2) rfl (by decide)
   go_wp2_with fail
   have HPR := p_primitive hpl (by omega) (by omega) (by omega) (by decide) (hT5.ext extV);rw [exD_prim] at HPR;refine HPR.mono ?_;clear HPR y0 hpl;rintro e V7 ⟨A8, n8, c8, rfl, h8, x8⟩;have hn8 : n8 = 2 := h8.len.symm;subst hn8
   go_wp2_with fail
   refine (p_divides (S := 1) (C := 1) (o := 1) (N := 3) (lead := 1) (os := [-1]) h8 (hA.ext (extV.trans x8)) (by omega) (by omega) (by omega) (by omega) (Nat.le_refl 1) (by omega) rfl rfl rfl rfl (by omega) (divC_ok exDiv_1.1) (by omega) (by omega) (by omega) (hT5.ext (extV.trans x8)) exDiv_1.2).mono ?_;rintro e V8 ⟨rfl, x9⟩
   go_wp2_with fail
   refine (p_divides (S := 1) (C := 1) (o := 1) (N := 2) (lead := 1) (os := [-1]) (h8.ext x9) (hB.ext ((extV.trans x8).trans x9)) (by omega) (by omega) (by omega) (by omega) (Nat.le_refl 1) (by omega) rfl rfl rfl rfl (by omega) (divC_ok exDiv_2.1) (by omega) (by omega) (by omega) (hT5.ext ((extV.trans x8).trans x9)) exDiv_2.2).mono ?_;rintro e V9 ⟨rfl, x10⟩
   go_wp2_with fail
   go_ret
   exact ⟨A8, 2, c8, rfl, h8.ext (x9.trans x10), extE.trans (((extV.trans x8).trans x9).trans x10)⟩
section
variable {w w' : World} {q x : Rat} {L M : Nat} {s t : Bool} {A B : Option Addr} {n c m d : Nat} {sx tx : Bool} {Ax Bx : Option Addr} {nx cx mx dx : Nat} {qs ps : List Rat}
set_option maxRecDepth 100000 in
theorem own_P (h : Pol w A n c qs L) (hn : n <= 10000) : Calls Tryz.prog 14 #[.slice A n c] w (RetPol qs L w) := by
 go_enter Tryz.func14, Tryz.ntmps14
 go_wp2_with (at_builtin; refine wpList_append_rats rfl _ _ rfl rfl rfl ((Ext.refl w).alloc _) (Nat.le_refl _) (Box.new w _ _) h hn ?_; intro A' c' w' h1 h2)
 go_ret
 exact ⟨A', n, c', rfl, h1, h2⟩
theorem q_zeroR : Calls Tryz.prog 76 #[] w (RetNR 0 2 w) := by
 go_enter Tryz.func76, Tryz.ntmps76
 go_upto_region 1 with (fail)
 obtain ⟨W, hW, extW, bz, hz⟩ := box1 w 27 #[Value.bool false, Value.slice none 0 0, Value.bool false, Value.slice none 0 0];rw [<- hW];clear hW
 go_wp2_with fail
 refine (q_FromIntR 0 (by omega) (by omega)).mono ?_;rintro e V ⟨s7, A7, n7, c7, t7, B7, m7, d7, rfl, h7, hxt⟩;have e0 : (((0 : Int) : Rat)) = 0 := rfl;rw [e0] at h7;have z0 := (bz.ext hxt).cell 0 _ rfl;have z1 := (bz.ext hxt).cell 1 _ rfl;have z2 := (bz.ext hxt).cell 2 _ rfl;have z3 := (bz.ext hxt).cell 3 _ rfl;have f0 := (bz.ext hxt).frozen 0;have f1 := (bz.ext hxt).frozen 1;have f2 := (bz.ext hxt).frozen 2;have f3 := (bz.ext hxt).frozen 3
 go_wp2_with fail
 obtain ⟨b1, b2, b3, b4⟩ := fin_quad (s := s7) (A := A7) (n := n7) (c := c7) (t := t7) (B := B7) (m := m7) (d := d7) (bz.ext hxt);have r0 := b1.cell 0 (.bool s7) rfl;have r1 := b1.cell 1 (.slice A7 n7 c7) rfl;have r2 := b1.cell 2 (.bool t7) rfl;have r3 := b1.cell 3 (.slice B7 m7 d7) rfl;unfold set4 at r0 r1 r2 r3;refine bodyPost_ret (v := .agg #[.bool s7, .slice A7 n7 c7, .bool t7, .slice B7 m7 d7]) (by simp [results, Tryz.results76, go_sem, r0, r1, r2, r3]) rfl ⟨s7, A7, n7, c7, t7, B7, m7, d7, rfl, ⟨?_, ?_⟩, b3 _ (extW.trans hxt) (by omega)⟩
 ·exact b2 _ _ _ _ _ _ h7.num
 ·exact b2 _ _ _ _ _ _ h7.den
theorem q_atP (h : Pol w A n c qs L) (k : Nat) (hk : k <= 100000) : Calls Tryz.prog 55 #[.slice A n c, .int .i64 (k : Int)] w (RetNR (atP qs k) (max L 2) w) := by
 have hl := h.len
 go_enter Tryz.func55, Tryz.ntmps55
 go_upto_region 1 with (fail)
 obtain ⟨W, hW, extW, bz, hz⟩ := box1 w 27 #[Value.bool false, Value.slice none 0 0, Value.bool false, Value.slice none 0 0];rw [<- hW];clear hW
 by_cases hlt : k < n
 ·have hj : k < qs.length := by rw [hl]; exact hlt
  have HV := Lib.hid (atP_lt hj);have hI : (k : Int) < (n : Int) := by omega
  obtain ⟨b, off, rfl, hr⟩ := h.at_ (fun e => by rw [e] at hj; exact absurd hj (Nat.not_lt_zero _));obtain ⟨sx, Ax, nx, cx, tx, Bx, mx, dx, e0, e1, e2, e3, hx⟩ := (hr.ext extW).at_ k hj;have e0' : W.cell? ⟨b, off + k * 4, none⟩ = some (.bool sx) := by rw [Nat.mul_comm]; exact e0
  have e1' : W.cell? ⟨b, off + k * 4 + 1, none⟩ = some (.slice Ax nx cx) := by rw [Nat.mul_comm]; exact e1
  have e2' : W.cell? ⟨b, off + k * 4 + 2, none⟩ = some (.bool tx) := by rw [Nat.mul_comm]; exact e2
  have e3' : W.cell? ⟨b, off + k * 4 + 3, none⟩ = some (.slice Bx mx dx) := by rw [Nat.mul_comm]; exact e3
  clear e0 e1 e2 e3;have hxt := Ext.refl W;have z0 := (bz.ext hxt).cell 0 _ rfl;have z1 := (bz.ext hxt).cell 1 _ rfl;have z2 := (bz.ext hxt).cell 2 _ rfl;have z3 := (bz.ext hxt).cell 3 _ rfl;have f0 := (bz.ext hxt).frozen 0;have f1 := (bz.ext hxt).frozen 1;have f2 := (bz.ext hxt).frozen 2;have f3 := (bz.ext hxt).frozen 3
  go_wp2_with fail
  rw [HV.out];obtain ⟨b1, b2, b3, b4⟩ := fin_quad (s := sx) (A := Ax) (n := nx) (c := cx) (t := tx) (B := Bx) (m := mx) (d := dx) (bz.ext hxt);have r0 := b1.cell 0 (.bool sx) rfl;have r1 := b1.cell 1 (.slice Ax nx cx) rfl;have r2 := b1.cell 2 (.bool tx) rfl;have r3 := b1.cell 3 (.slice Bx mx dx) rfl;unfold set4 at r0 r1 r2 r3;refine bodyPost_ret (v := .agg #[.bool sx, .slice Ax nx cx, .bool tx, .slice Bx mx dx]) (by simp [results, Tryz.results55, go_sem, r0, r1, r2, r3]) rfl ⟨sx, Ax, nx, cx, tx, Bx, mx, dx, rfl, ⟨?_, ?_⟩, b3 _ (extW.trans hxt) (by omega)⟩
  ·exact (b2 _ _ _ _ _ _ hx.num).le (by omega)
  ·exact (b2 _ _ _ _ _ _ hx.den).le (by omega)
 ·have hge : qs.length <= k := by rw [hl]; omega
  have HV := Lib.hid (atP_ge hge);have hI : (n : Int) <= (k : Int) := by omega
  go_wp2_with fail
  refine (q_zeroR).mono ?_;rintro e V ⟨s7, A7, n7, c7, t7, B7, m7, d7, rfl, h7, hxt⟩;have z0 := (bz.ext hxt).cell 0 _ rfl;have z1 := (bz.ext hxt).cell 1 _ rfl;have z2 := (bz.ext hxt).cell 2 _ rfl;have z3 := (bz.ext hxt).cell 3 _ rfl;have f0 := (bz.ext hxt).frozen 0;have f1 := (bz.ext hxt).frozen 1;have f2 := (bz.ext hxt).frozen 2;have f3 := (bz.ext hxt).frozen 3
  go_wp2_with fail
  rw [HV.out];obtain ⟨b1, b2, b3, b4⟩ := fin_quad (s := s7) (A := A7) (n := n7) (c := c7) (t := t7) (B := B7) (m := m7) (d := d7) (bz.ext hxt);have r0 := b1.cell 0 (.bool s7) rfl;have r1 := b1.cell 1 (.slice A7 n7 c7) rfl;have r2 := b1.cell 2 (.bool t7) rfl;have r3 := b1.cell 3 (.slice B7 m7 d7) rfl;unfold set4 at r0 r1 r2 r3;refine bodyPost_ret (v := .agg #[.bool s7, .slice A7 n7 c7, .bool t7, .slice B7 m7 d7]) (by simp [results, Tryz.results55, go_sem, r0, r1, r2, r3]) rfl ⟨s7, A7, n7, c7, t7, B7, m7, d7, rfl, ⟨?_, ?_⟩, b3 _ (extW.trans hxt) (by omega)⟩
  ·exact (b2 _ _ _ _ _ _ h7.num).le (by omega)
  ·exact (b2 _ _ _ _ _ _ h7.den).le (by omega)
theorem q_TrimP (h : Pol w A n c qs L) (hL : L <= 1000) (hn : n <= 10000) : Calls Tryz.prog 15 #[.slice A n c] w (RetPol (trimP qs) L w) := by
 go_enter Tryz.func15, Tryz.ntmps15
 go_wp2_with fail
 go_loopw [3] (fun i wr => ∃ k : Nat, k <= n /\ i = .int .i64 (k : Int) /\ Ext w wr /\ trimP (qs.take k) = trimP qs) (fun i _ => (intOf i).toNat)
 case atStart => exact ⟨n, Nat.le_refl _, rfl, Ext.refl _, by rw [List.take_of_length_le (Nat.le_of_eq h.len)]⟩
 case round =>
  obtain ⟨k, hk, rfl, ext, ht⟩ := hrel;have HT := Lib.hid ht;clear ht;have hkc : (k : Int) <= (c : Int) := by have := h.cap; omega
  rcases Nat.eq_zero_or_pos k with h0 | h0
  ·subst h0
   have ht := HT.out;rw [List.take_zero, trimP_nil] at ht
   cases A with
   | none =>
    go_wp2_with fail
    go_ret
    exact ⟨_, 0, 0, rfl, by rw [<- ht]; exact ⟨rfl, Nat.le_refl _, Nat.zero_le _, fun e => absurd rfl e⟩, ext.alloc _⟩
   | some ad =>
    go_wp2_with fail
    go_ret
    exact ⟨_, 0, 0, rfl, by rw [<- ht]; exact ⟨rfl, Nat.le_refl _, Nat.zero_le _, fun e => absurd rfl e⟩, ext.alloc _⟩
  ·obtain ⟨j, rfl⟩ : ∃ j, k = j + 1 := ⟨k - 1, by omega⟩
   have hj : j < qs.length := by rw [h.len]; omega
   have hjn : (j : Int) < (n : Int) := by omega
   obtain ⟨b, off, rfl, hr⟩ := h.at_ (fun e => by rw [e] at hj; exact absurd hj (Nat.not_lt_zero _));obtain ⟨sx, Ax, nx, cx, tx, Bx, mx, dx, e0, e1, e2, e3, hx⟩ := (hr.ext ext).at_ j hj;have e0' : wr.cell? ⟨b, off + j * 4, none⟩ = some (.bool sx) := by rw [Nat.mul_comm]; exact e0
   have e1' : wr.cell? ⟨b, off + j * 4 + 1, none⟩ = some (.slice Ax nx cx) := by rw [Nat.mul_comm]; exact e1
   have e2' : wr.cell? ⟨b, off + j * 4 + 2, none⟩ = some (.bool tx) := by rw [Nat.mul_comm]; exact e2
   have e3' : wr.cell? ⟨b, off + j * 4 + 3, none⟩ = some (.slice Bx mx dx) := by rw [Nat.mul_comm]; exact e3
   by_cases hq : qs[j] = 0
   ·have HS := Lib.hid (num_zero hq)
    have HQ := Lib.hid hq;clear hq
    go_wp2_with fail
    refine (q_SignR hx (by omega)).mono ?_;rintro e V ⟨rfl, hxt⟩;rw [HS.out]
    go_wp2_with fail
    go_roundw
    case rel => exact ⟨j, by omega, by go_num, ext.trans hxt, trimP_step hj HQ.out HT.out⟩
    case measure => simp [intOf]
   ·obtain ⟨S, hS, dS⟩ : ∃ S, (qs[j]).num.sign = S /\ (S == 0) = false := ⟨_, rfl, beq_eq_false_iff_ne.2 (num_nz hq)⟩
    have HS := Lib.hid hS;have HQ := Lib.hid hq;clear hS hq
    go_wp2_with fail
    refine (q_SignR hx (by omega)).mono ?_;rintro e V ⟨rfl, hxt⟩;rw [HS.out];have hp := (h.ext (ext.trans hxt)).take hk;have hx0 := ext.trans hxt;rw [<- trimP_stop hj HQ.out HT.out] at hp
    go_wp2_with (at_builtin; refine wpList_append_rats rfl _ _ rfl rfl rfl ((Ext.refl V).alloc _) (Nat.le_refl _) (Box.new V _ _) hp (by omega) ?_; intro A' c' w' h1 h2)
    go_ret
    exact ⟨A', j + 1, c', rfl, h1, hx0.trans h2⟩
theorem q_DegreeP (h : Pol w A n c qs L) (hL : L <= 1000) (hn : n <= 10000) : Calls Tryz.prog 17 #[.slice A n c] w fun e w' => e = .returned (.int .i64 (((trimP qs).length : Int) - 1)) /\ Ext w w' := by
 have hlen := trimP_len qs;have hl := h.len
 go_enter Tryz.func17, Tryz.ntmps17
 go_wp2_with fail
 refine (q_TrimP h hL hn).mono ?_;rintro e V ⟨A8, n8, c8, rfl, h8, hxt⟩;have h9 := h8.len
 go_wp2_with fail
 go_ret
 exact ⟨by rw [h9]; rfl, hxt⟩
end
section
variable {sy ty : Bool} {Ay By : Option Addr} {ny cy my dy : Nat} {w w' : World} {q x : Rat} {L M : Nat} {s t : Bool} {A B : Option Addr} {n c m d : Nat} {sx tx : Bool} {Ax Bx : Option Addr} {nx cx mx dx : Nat} {qs ps : List Rat}
theorem Row4.pol {base : Nat} {v : Value} (h : Row4 w base v qs L) : ∃ A n c, v = .slice A n c /\ Pol w A n c qs L := by
 by_cases hq : qs = []
 ·obtain ⟨cs, h1, h2⟩ := h.own
  rcases h1.2 with ⟨rfl, h0⟩ | ⟨g, cap, cur, rfl, _, _, h3, h4, _⟩
  ·exact ⟨_, _, _, rfl, by rw [hq]; exact Pol.none w L⟩
  ·exact ⟨_, _, _, rfl, rfl, h3, h4, fun e => absurd hq e⟩
 ·obtain ⟨cs, h1, h2⟩ := h.own
  rcases h1.2 with ⟨rfl, h0⟩ | ⟨g, cap, cur, rfl, _, _, h3, h4, _⟩
  ·exact absurd (List.length_eq_zero_iff.1 h0) hq
  ·exact ⟨_, _, _, rfl, rfl, h3, h4, fun _ => ⟨g, 0, rfl, RatsOwn.rd ⟨cs, h1, h2⟩⟩⟩
theorem at_wpLP {P : Program} {md : Region.Mode} {ops : Array Oper} {Q : Exit -> Act -> World -> Prop} {W0 : World} {z f : Nat} {L : Array Bool} {a : Act} {w : World} (C : World -> Prop) (h : C w) (k : ∀ V, C V -> wpL P md ops Q W0 z f L a V) : wpL P md ops Q W0 z f L a w := k w h
set_option maxRecDepth 100000 in
theorem q_AddPW (h : Pol w A n c qs L) (h' : Pol w B m d ps M) (hL2 : 2 <= L) (hM2 : 2 <= M) (hLM : L + M + 1 <= 1000) (hn : n <= 1000) (hm : m <= 1000) : Calls Tryz.prog 19 #[.slice A n c, .slice B m d] w (RetPol (trimP (sumP qs ps)) (L + M + 1) w) := by
 have HlP := Lib.hid h.len;have HlQ := Lib.hid h'.len;have hSl : (sumP qs ps).length = max n m := by rw [sumP_len, h.len, h'.len]
 go_enter Tryz.func19, Tryz.ntmps19
 go_wp2_with fail
 go_loopw [5, 6] (fun v i wr => ∃ k : Nat, k <= max n m /\ i = .int .i64 (k : Int) /\ Ext w wr /\ Row4 wr w.heap.size v ((sumP qs ps).take k) (L + M + 1)) (fun _ i _ => max n m - (intOf i).toNat)
 case atStart => exact ⟨0, Nat.zero_le _, rfl, Ext.refl _, Row4.nil _ _ _⟩
 case round =>
  obtain ⟨k, hk, rfl, ext, hrow⟩ := hrel
  by_cases hlt : k < n
  ·have hs : k < (sumP qs ps).length := by omega
   have hI : (k : Int) < (n : Int) := by omega
   have HT := Lib.hid (show (sumP qs ps).take (k + 1) = (sumP qs ps).take k ++ [(sumP qs ps)[k]] from List.take_succ_eq_append_getElem hs);have HV := Lib.hid (sumP_at qs ps k hs);have hlen : ((sumP qs ps).take k).length <= 1000 := by rw [List.length_take]; omega
   go_wp2_with fail
   refine (q_atP (h.ext ext) k (by omega)).mono ?_;rintro e V1 ⟨sx, Ax, nx, cx, tx, Bx, mx, dx, rfl, h1, hx1⟩
   go_wp2_with fail
   refine (q_atP (h'.ext (ext.trans hx1)) k (by omega)).mono ?_;rintro e V2 ⟨sy, Ay, ny, cy, ty, By, my, dy, rfl, h2, hx2⟩
   go_wp2_with fail
   refine (q_AddR (h1.ext hx2) h2 (by omega) (by omega)).mono ?_;rintro e W5 ⟨s7, A7, n7, c7, t7, B7, m7, d7, rfl, h7, hx3⟩;have ha5 := ((hx1.trans hx2).trans hx3).alloc (.cells #[.bool s7, .slice A7 n7 c7, .bool t7, .slice B7 m7 d7] 27);replace ext := ext.trans ha5;replace hrow := hrow.ext ha5;rw [<- HV.out] at h7;replace h7 : NR _ _ (L + M + 1) s7 A7 n7 c7 t7 B7 m7 d7 := (h7.ext ((Ext.refl W5).alloc (.cells #[.bool s7, .slice A7 n7 c7, .bool t7, .slice B7 m7 d7] 27))).le (by omega)
   go_wp2_with (at_builtin; refine wpList_append_rat rfl _ _ rfl rfl rfl hrow h7 (Box.new W5 _ _) hlen ext.size ?_; intro v6 W6 hrow6 hgr hob)
   go_roundw
   case rel => exact ⟨k + 1, by omega, by go_num, Below.grown ext hgr ext.size (fun k hk => (hrow.block k hk).1), by rw [HT.out]; exact hrow6⟩
   case measure => simp [intOf]; omega
  by_cases hlm : k < m
  ·have hs : k < (sumP qs ps).length := by omega
   have hI : (n : Int) <= (k : Int) := by omega
   have hI2 : (k : Int) < (m : Int) := by omega
   have HT := Lib.hid (show (sumP qs ps).take (k + 1) = (sumP qs ps).take k ++ [(sumP qs ps)[k]] from List.take_succ_eq_append_getElem hs);have HV := Lib.hid (sumP_at qs ps k hs);have hlen : ((sumP qs ps).take k).length <= 1000 := by rw [List.length_take]; omega
   go_wp2_with fail
   refine (q_atP (h.ext ext) k (by omega)).mono ?_;rintro e V1 ⟨sx, Ax, nx, cx, tx, Bx, mx, dx, rfl, h1, hx1⟩
   go_wp2_with fail
   refine (q_atP (h'.ext (ext.trans hx1)) k (by omega)).mono ?_;rintro e V2 ⟨sy, Ay, ny, cy, ty, By, my, dy, rfl, h2, hx2⟩
   go_wp2_with fail
   refine (q_AddR (h1.ext hx2) h2 (by omega) (by omega)).mono ?_;rintro e W5 ⟨s7, A7, n7, c7, t7, B7, m7, d7, rfl, h7, hx3⟩;have ha5 := ((hx1.trans hx2).trans hx3).alloc (.cells #[.bool s7, .slice A7 n7 c7, .bool t7, .slice B7 m7 d7] 27);replace ext := ext.trans ha5;replace hrow := hrow.ext ha5;rw [<- HV.out] at h7;replace h7 : NR _ _ (L + M + 1) s7 A7 n7 c7 t7 B7 m7 d7 := (h7.ext ((Ext.refl W5).alloc (.cells #[.bool s7, .slice A7 n7 c7, .bool t7, .slice B7 m7 d7] 27))).le (by omega)
   go_wp2_with (at_builtin; refine wpList_append_rat rfl _ _ rfl rfl rfl hrow h7 (Box.new W5 _ _) hlen ext.size ?_; intro v6 W6 hrow6 hgr hob)
   go_roundw
   case rel => exact ⟨k + 1, by omega, by go_num, Below.grown ext hgr ext.size (fun k hk => (hrow.block k hk).1), by rw [HT.out]; exact hrow6⟩
   case measure => simp [intOf]; omega
  ·have hkn : k = (sumP qs ps).length := by omega
   rw [hkn, List.take_of_length_le (Nat.le_refl _)] at hrow;have hI : (n : Int) <= (k : Int) := by omega
   have hI2 : (m : Int) <= (k : Int) := by omega
   obtain ⟨A7, n7, c7, rfl, hp⟩ := hrow.pol;have hl7 := hp.len;clear hrow
   go_wp2_with fail
   refine (q_TrimP hp (by omega) (by omega)).mono ?_;rintro e V ⟨A8, n8, c8, rfl, h8, hxt⟩
   go_wp2_with fail
   go_ret
   exact ⟨A8, n8, c8, rfl, h8, ext.trans hxt⟩
set_option maxRecDepth 100000 in
theorem q_ScalePW (h : Pol w A n c qs L) (h' : NR w x M sx Ax nx cx tx Bx mx dx) (hLM : L + M <= 1000) (hn : n <= 1000) : Calls Tryz.prog 23 #[.slice A n c, .agg #[.bool sx, .slice Ax nx cx, .bool tx, .slice Bx mx dx]] w (RetPol (trimP (scaleP qs x)) (L + M) w) := by
 have Hlen := Lib.hid h.len;have hSl : (scaleP qs x).length = n := (List.length_map _).trans h.len
 go_enter Tryz.func23, Tryz.ntmps23
 go_upto_region 1 with (fail)
 obtain ⟨W, hW, extW, bn, hz⟩ := box1 w 27 #[.bool sx, .slice Ax nx cx, .bool tx, .slice Bx mx dx];rw [<- hW];clear hW hz
 go_wp2_with fail
 go_loopw [5, 6] (fun v i wr => ∃ k : Nat, k <= n /\ i = .int .i64 (k : Int) /\ Ext W wr /\ Row4 wr W.heap.size v ((scaleP qs x).take k) (L + M)) (fun _ i _ => n - (intOf i).toNat)
 case atStart => exact ⟨0, Nat.zero_le _, rfl, Ext.refl _, Row4.nil _ _ _⟩
 case round =>
  obtain ⟨k, hk, rfl, extr, hrow⟩ := hrel
  by_cases hlt : k < n
  ·have hj : k < qs.length := by rw [Hlen.out]; exact hlt
   have hs : k < (scaleP qs x).length := by omega
   have hI : (k : Int) < (n : Int) := by omega
   have HT := Lib.hid (show (scaleP qs x).take (k + 1) = (scaleP qs x).take k ++ [qs[k] * x] by rw [List.take_succ_eq_append_getElem hs]; simp [scaleP]);have hlen : ((scaleP qs x).take k).length <= 1000 := by rw [List.length_take]; omega
   obtain ⟨b, off, rfl, hr⟩ := h.at_ (fun e => by rw [e] at hj; exact absurd hj (Nat.not_lt_zero _));have ext := extW.trans extr;obtain ⟨sy, Ay, ny, cy, ty, By, my, dy, e0, e1, e2, e3, hy⟩ := (hr.ext ext).at_ k hj;have e0' : wr.cell? ⟨b, off + k * 4, none⟩ = some (.bool sy) := by rw [Nat.mul_comm]; exact e0
   have e1' : wr.cell? ⟨b, off + k * 4 + 1, none⟩ = some (.slice Ay ny cy) := by rw [Nat.mul_comm]; exact e1
   have e2' : wr.cell? ⟨b, off + k * 4 + 2, none⟩ = some (.bool ty) := by rw [Nat.mul_comm]; exact e2
   have e3' : wr.cell? ⟨b, off + k * 4 + 3, none⟩ = some (.slice By my dy) := by rw [Nat.mul_comm]; exact e3
   clear e0 e1 e2 e3;replace bn := bn.ext extr;have hx := h'.ext ext
   go_upto_region 5 with (fail)
   refine wpL.st 8 (fun hQ ES => ?_);refine wpL.tB [8] 0 13 ?v_0 hQ ?y_0 ES ?_
   case y_0 => intro w' hSw;have j0 := (hSw.cellv e0');have j1 := (hSw.cellv e1');have j2 := (hSw.cellv e2');have j3 := (hSw.cellv e3');go_simp;try rfl
   try simp only [zP]
   refine wpL.tB [3,4,6,7,8] 1 14 ?v_1 hQ ?y_1 ES ?_
   case y_1 => intro w' hSw;have j0 := (hSw.cellv e0');have j1 := (hSw.cellv e1');have j2 := (hSw.cellv e2');have j3 := (hSw.cellv e3');go_simp;try rfl
   try simp only [zP]
   refine wpL.tB [3,4,6,7,8] 2 15 ?v_2 hQ ?y_2 ES ?_
   case y_2 => intro w' hSw;have j0 := (hSw.cellv e0');have j1 := (hSw.cellv e1');have j2 := (hSw.cellv e2');have j3 := (hSw.cellv e3');go_simp;try rfl
   try simp only [zP]
   refine wpL.tB [4,6,7,8] 3 16 ?v_3 hQ ?y_3 ES ?_
   case y_3 => intro w' hSw;have j0 := (hSw.cellv e0');have j1 := (hSw.cellv e1');have j2 := (hSw.cellv e2');have j3 := (hSw.cellv e3');go_simp;try rfl
   try simp only [zP]
   refine wpL.tB [6,7,8] 4 17 ?v_4 hQ ?y_4 ES ?_
   case y_4 => intro w' hSw;have j0 := (hSw.cellv e0');have j1 := (hSw.cellv e1');have j2 := (hSw.cellv e2');have j3 := (hSw.cellv e3');have k0 := (bn.ext hSw).c4;go_simp;try rfl
   try simp only [zP]
   refine wpL.tB [6,7,8] 5 18 ?v_5 hQ ?y_5 ES ?_
   case y_5 => intro w' hSw;have j0 := (hSw.cellv e0');have j1 := (hSw.cellv e1');have j2 := (hSw.cellv e2');have j3 := (hSw.cellv e3');have k0 := (bn.ext hSw).c4;go_simp;try rfl
   try simp only [zP]
   refine wpL.cl (i := 6) rfl (fun K hK => ?_);go_simp
   (go_at_call 60; refine (q_MulR (hy.ext ES) (hx.ext ES) (by omega) (by omega)).mono ?_; rintro e wk ⟨s7, A7, n7, c7, t7, B7, m7, d7, rfl, h7, hx7⟩; have E9 := Ext.trans ES hx7)
   refine hK.out _ _ E9 ?_;clear hK K
   try simp only [zP]
   refine wpL.cl (i := 7) rfl (fun K hK => ?_);have ha7 := (Ext.refl wk).alloc (.cells #[.bool s7, .slice A7 n7 c7, .bool t7, .slice B7 m7 d7] 27);have b7 := Box.new wk 27 #[.bool s7, .slice A7 n7 c7, .bool t7, .slice B7 m7 d7];go_simp;refine hK.out _ _ (E9.trans ha7) ?_;clear hK K
   try simp only [zP]
   replace h7 := h7.ext ha7;have E10 := E9.trans ha7;clear ha7 E9;have hrow' := hrow.ext E10;refine at_wpLP (fun V => Ext wr V /\ Row4 V W.heap.size u5 ((scaleP qs x).take k) (L + M) /\ NR V (qs[k] * x) (L + M) s7 A7 n7 c7 t7 B7 m7 d7 /\ Box V wk.heap.size 27 #[.bool s7, .slice A7 n7 c7, .bool t7, .slice B7 m7 d7]) ⟨E10, hrow', h7, b7⟩ ?_;clear E10 hrow' h7 b7;generalize wk.heap.size = g7;rintro V ⟨E10, hrow', h7, b7⟩;refine wpL.tl (i := 8) rfl (fun K hK => ?_);refine step_append_rat (by rfl) _ _ (by rfl) (by rfl) (by rfl) hrow' h7 b7 hlen (extr.trans E10).size ?_;intro v6 W6 hrow6 hgr hob;refine hK.out _ _ ?_;clear hK K
   try simp only [zP]
   refine wpL.tl (i := 9) rfl (fun K hK => ?_);go_simp;refine hK.out _ _ ?_;clear hK K
   try simp only [zP]
   refine wpL.done (by kernel_rfl) ?_ _;clear hQ
   go_wp2_with fail
   go_roundw
   case rel => exact ⟨k + 1, by omega, by go_num, Below.grown (extr.trans E10) hgr (extr.trans E10).size (fun k hk => (hrow'.block k hk).1), by rw [HT.out]; exact hrow6⟩
   case measure => simp [intOf]; omega
  ·have hkn : k = (scaleP qs x).length := by omega
   rw [hkn, List.take_of_length_le (Nat.le_refl _)] at hrow;have hI : (n : Int) <= (k : Int) := by omega
   obtain ⟨A7, n7, c7, rfl, hp⟩ := hrow.pol;have hl7 := hp.len;clear hrow
   go_wp2_with fail
   refine (q_TrimP hp (by omega) (by omega)).mono ?_;rintro e V ⟨A8, n8, c8, rfl, h8, hxt⟩
   go_wp2_with fail
   go_ret
   exact ⟨A8, n8, c8, rfl, h8, (extW.trans extr).trans hxt⟩
theorem q_SubPW (h : Pol w A n c qs L) (h' : Pol w B m d ps M) (hL2 : 2 <= L) (hLM : L + M + 3 <= 1000) (hn : n <= 1000) (hm : m <= 1000) : Calls Tryz.prog 21 #[.slice A n c, .slice B m d] w (RetPol (trimP (sumP qs (negP ps))) (L + M + 3) w) := by
 have hlm := trimP_len (negP ps);have hl := h'.len;have hln : (negP ps).length = ps.length := List.length_map _
 go_enter Tryz.func21, Tryz.ntmps21
 go_wp2_with fail
 refine (q_FromIntR (-1) (by omega) (by omega)).mono ?_;rintro e V ⟨s7, A7, n7, c7, t7, B7, m7, d7, rfl, h7, hx7⟩;have e0 : (((-1 : Int) : Rat)) = -1 := rfl;rw [e0] at h7
 go_wp2_with fail
 refine (q_ScalePW (h'.ext hx7) h7 (by omega) hm).mono ?_;rintro e V1 ⟨A7, n7, c7, rfl, h8, hxt⟩;rw [scaleP_neg] at h8;have hl7 := h8.len;have hx1 := hx7.trans hxt
 go_wp2_with fail
 refine (q_AddPW (h.ext hx1) h8 hL2 (by omega) (by omega) hn (by omega)).mono ?_;rintro e V2 ⟨A8, n8, c8, rfl, h9, hxt2⟩;rw [trimP_sum_r] at h9
 go_wp2_with fail
 go_ret
 exact ⟨A8, n8, c8, rfl, h9, hx1.trans hxt2⟩
theorem q_SubP (h : Pol w A n c qs L) (h' : Pol w B m d ps M) (hL2 : 2 <= L) (hL : L <= 350) (hM : M <= 350) (hn : n <= 1000) (hm : m <= 1000) : Calls Tryz.prog 21 #[.slice A n c, .slice B m d] w (RetPol (trimP (sumP qs (negP ps))) (L + M + 3) w) :=
 q_SubPW h h' hL2 (by omega) hn hm
theorem q_SameP (h : Pol w A n c qs L) (h' : Pol w B m d ps M) (hL2 : 2 <= L) (hL : L <= 350) (hM : M <= 350) (hn : n <= 1000) (hm : m <= 1000) : Calls Tryz.prog 91 #[.slice A n c, .slice B m d] w fun e w' => e = .returned (.bool (decide (trimP (sumP qs (negP ps)) = []))) /\ Ext w w' := by
 obtain ⟨b, hb⟩ : ∃ b, decide (trimP (sumP qs (negP ps)) = []) = b := ⟨_, rfl⟩;have HB := Lib.hid hb;rw [hb];clear hb
 go_enter Tryz.func91, Tryz.ntmps91
 go_wp2_with fail
 refine (q_SubP h h' hL2 hL hM hn hm).mono ?_;rintro e V ⟨A8, n8, c8, rfl, h9, hxt⟩;have hl := h9.len
 have hn8 : ((n8 : Int) == 0) = b := by
  rw [<- HB.out, <- hl]
  by_cases e : trimP (sumP qs (negP ps)) = []
  ·rw [e]; rfl
  ·rw [decide_eq_false e]
   exact beq_eq_false_iff_ne.2 (fun e2 => e (List.length_eq_zero_iff.1 (by omega)))
 go_wp2_with fail
 go_ret
 exact ⟨by rw [<- hn8]; rfl, hxt⟩
end
end Go.Proofs.YtpeddoaknfjbbaaGreatDoor
