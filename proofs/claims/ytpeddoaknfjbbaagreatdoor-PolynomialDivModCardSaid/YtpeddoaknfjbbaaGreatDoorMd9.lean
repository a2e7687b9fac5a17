/- Walks and laws, a part. -/
import Derived.Test.YtpeddoaknfjbbaaGreatDoorMd8
import Derived.Test.YtpeddoaknfjbbaaGreatDoorMd7
set_option linter.unusedSimpArgs false
set_option linter.unusedVariables false
set_option maxHeartbeats 64000000
namespace Go.Proofs.YtpeddoaknfjbbaaGreatDoor
section
open Go.RowKit
def midD (R : List Int) (f m : Int) (os : List Int) (i a b : Nat) : List Int := (List.range R.length).map fun j => (if j < a then cfI R j * f else cfI R j) - (if i <= j /\ j < i + b then cfI os (j - i) * m else 0)
section
variable (R : List Int) (f m : Int) (os : List Int) (i : Nat)
theorem midD_len (a b : Nat) : (midD R f m os i a b).length = R.length := by unfold midD; simp
theorem midD_at (a b j : Nat) (h : j < (midD R f m os i a b).length) : (midD R f m os i a b)[j] = (if j < a then cfI R j * f else cfI R j) - (if i <= j /\ j < i + b then cfI os (j - i) * m else 0) := by simp [midD]
theorem midD_zero : midD R f m os i 0 0 = R := by
 refine List.ext_getElem (midD_len ..) (fun j h1 h2 => ?_);rw [midD_at, if_neg (by omega), if_neg (by omega), cfI_lt h2, Int.sub_zero]
theorem midD_mul {a : Nat} (h : a < (midD R f m os i a 0).length) : (midD R f m os i a 0).set a ((midD R f m os i a 0)[a] * f) = midD R f m os i (a + 1) 0 := by
 refine List.ext_getElem (by rw [List.length_set, midD_len, midD_len]) (fun j h1 h2 => ?_);rw [List.getElem_set]
 by_cases e : a = j
 ·subst e
  rw [if_pos rfl, midD_at, midD_at, if_neg (Nat.lt_irrefl _), if_neg (by omega), if_pos (Nat.lt_succ_self _), Int.sub_zero, Int.sub_zero]
 ·rw [if_neg e, midD_at, midD_at, if_neg (c := i <= j /\ j < i + 0) (by omega)]
  by_cases h3 : j < a
  ·rw [if_pos h3, if_pos (by omega)]
  ·rw [if_neg h3, if_neg (by omega)]
theorem midD_sub {a b : Nat} (h : i + b < (midD R f m os i a b).length) : (midD R f m os i a b).set (i + b) ((midD R f m os i a b)[i + b] - cfI os b * m) = midD R f m os i a (b + 1) := by
 refine List.ext_getElem (by rw [List.length_set, midD_len, midD_len]) (fun j h1 h2 => ?_);rw [List.getElem_set]
 by_cases e : i + b = j
 ·subst e
  rw [if_pos rfl, midD_at, midD_at, if_neg (c := i <= i + b /\ i + b < i + b) (by omega), if_pos (c := i <= i + b /\ i + b < i + (b + 1)) (by omega), Int.sub_zero, show i + b - i = b by omega]
 ·rw [if_neg e, midD_at, midD_at]
  congr 1
  by_cases h3 : i <= j /\ j < i + b
  ·rw [if_pos h3, if_pos (by omega)]
  ·rw [if_neg h3, if_neg (by omega)]
end
def topD (R : List Int) (i o : Nat) : Int := cfI R (i + o)
def comD (R : List Int) (lead : Int) (i o : Nat) : Int := ((Nat.gcd (topD R i o).natAbs lead.natAbs : Nat) : Int)
def divS (xs os : List Int) (lead : Int) (N : Nat) : Nat -> List Int × Int × List Rat
 | 0 => (xs, 1, [])
 | k + 1 =>
  let R := (divS xs os lead N k).1
  let sc := (divS xs os lead N k).2.1
  let i := N - 1 - k
  let o := os.length
  (midD R (lead / comD R lead i o) (topD R i o / comD R lead i o) os i (i + o) o, sc * (lead / comD R lead i o), mkQ (topD R i o) (sc * lead) :: (divS xs os lead N k).2.2)
theorem comD_ne {R : List Int} {lead : Int} {i o : Nat} (h : lead ≠ 0) : comD R lead i o ≠ 0 := by
 unfold comD;have := Nat.gcd_pos_of_pos_right (topD R i o).natAbs (Int.natAbs_pos.2 h);omega
theorem comD_top {R : List Int} {lead : Int} {i o : Nat} : comD R lead i o ∣ topD R i o := by
 unfold comD;exact Int.ofNat_dvd_left.2 (Nat.gcd_dvd_left _ _)
theorem comD_lead {R : List Int} {lead : Int} {i o : Nat} : comD R lead i o ∣ lead := by
 unfold comD;exact Int.ofNat_dvd_left.2 (Nat.gcd_dvd_right _ _)
theorem divS_len (xs os : List Int) (lead : Int) (N : Nat) : ∀ k, (divS xs os lead N k).1.length = xs.length
 | 0 => rfl
 | k + 1 => by simp only [divS]; rw [midD_len]; exact divS_len xs os lead N k
theorem divS_qlen (xs os : List Int) (lead : Int) (N : Nat) : ∀ k, (divS xs os lead N k).2.2.length = k
 | 0 => rfl
 | k + 1 => by simp only [divS, List.length_cons]; rw [divS_qlen xs os lead N k]
theorem divS_nz {xs os : List Int} {lead : Int} {N : Nat} (h : lead ≠ 0) : ∀ k, (divS xs os lead N k).2.1 ≠ 0
 | 0 => by show (1 : Int) ≠ 0; decide
 | k + 1 => by
  simp only [divS];refine Int.mul_ne_zero (divS_nz h k) ?_;intro e;have h1 := Int.mul_ediv_cancel' (comD_lead (R := (divS xs os lead N k).1) (lead := lead) (i := N - 1 - k) (o := os.length));rw [e, Int.mul_zero] at h1;exact h h1.symm
structure DivB (xs os : List Int) (lead : Int) (N S C : Nat) : Prop where
 row : ∀ k, k < N -> ∀ a b, a <= N - 1 - k + os.length -> b <= os.length -> ∀ z ∈ midD (divS xs os lead N k).1 (lead / comD (divS xs os lead N k).1 lead (N - 1 - k) os.length) (topD (divS xs os lead N k).1 (N - 1 - k) os.length / comD (divS xs os lead N k).1 lead (N - 1 - k) os.length) os (N - 1 - k) a b, z.natAbs < 4294967296 ^ S
 scale : ∀ k, k <= N -> (divS xs os lead N k).2.1.natAbs < 4294967296 ^ C
inductive RCells (w : World) (L : Nat) : List (Option Rat) -> List Value -> Prop
 | nil : RCells w L [] []
 | cons {q : Option Rat} {l : List (Option Rat)} {s : Bool} {A : Option Addr} {n c : Nat} {t : Bool} {B : Option Addr} {m d : Nat} {cs : List Value} : (∀ r, q = some r -> NR w r L s A n c t B m d) -> RCells w L l cs -> RCells w L (q :: l) (.bool s :: .slice A n c :: .bool t :: .slice B m d :: cs)
def RRow (w : World) (g : Nat) (l : List (Option Rat)) (L : Nat) : Prop := ∃ cs : List Value, Box w g 27 cs.toArray /\ RCells w L l cs
section
variable {w w' : World} {q : Rat} {l : List (Option Rat)} {qs : List Rat} {L M b o g n c m d k : Nat} {s t : Bool} {A B : Option Addr} {cs : List Value}
theorem RCells.nr (h : RCells w L l cs) (hf : ∀ q s A n c t B m d, NR w q L s A n c t B m d -> NR w' q L s A n c t B m d) : RCells w' L l cs := by
 induction h with
 | nil => exact .nil
 | cons h _ ih => exact .cons (fun r e => hf _ _ _ _ _ _ _ _ _ (h r e)) ih
theorem RCells.ni (h : RCells w L l cs) (hf : ∀ z L s' A' n' c', NI w z L s' A' n' c' -> NI w' z L s' A' n' c') : RCells w' L l cs :=
 h.nr (fun _ _ _ _ _ _ _ _ _ k => ⟨hf _ _ _ _ _ _ k.num, hf _ _ _ _ _ _ k.den⟩)
theorem RCells.nwl (h : RCells w L l cs) : NWL cs := by
 induction h with
 | nil => intro u hu; cases hu
 | cons _ _ ih =>
  intro u hu;simp only [List.mem_cons] at hu
  rcases hu with rfl | rfl | rfl | rfl | hu
  ·intro k e; cases e
  ·intro k e; cases e
  ·intro k e; cases e
  ·intro k e; cases e
  ·exact ih u hu
theorem RCells.get (h : RCells w L l cs) : ∀ i (hi : i < l.length), ∃ s A n c t B m d, cs[4 * i]? = some (.bool s) /\ cs[4 * i + 1]? = some (.slice A n c) /\ cs[4 * i + 2]? = some (.bool t) /\ cs[4 * i + 3]? = some (.slice B m d) /\ ∀ r, l[i] = some r -> NR w r L s A n c t B m d := by
 induction h with
 | nil => intro i hi; simp at hi
 | @cons q l s A n c t B m d cs h _ ih =>
  intro i hi
  cases i with
  | zero => exact ⟨s, A, n, c, t, B, m, d, rfl, rfl, rfl, rfl, h⟩
  | succ i =>
   obtain ⟨s1, A1, n1, c1, t1, B1, m1, d1, k0, k1, k2, k3, k4⟩ := ih i (by simpa using hi);refine ⟨s1, A1, n1, c1, t1, B1, m1, d1, ?_, ?_, ?_, ?_, k4⟩
   ·rw [show 4 * (i + 1) = 4 * i + 1 + 1 + 1 + 1 by omega]; exact k0
   ·rw [show 4 * (i + 1) + 1 = 4 * i + 1 + 1 + 1 + 1 + 1 by omega]; exact k1
   ·rw [show 4 * (i + 1) + 2 = 4 * i + 2 + 1 + 1 + 1 + 1 by omega]; exact k2
   ·rw [show 4 * (i + 1) + 3 = 4 * i + 3 + 1 + 1 + 1 + 1 by omega]; exact k3
theorem RCells.set (h : RCells w L l cs) (hz : NR w q L s A n c t B m d) : ∀ k, k < l.length -> RCells w L (l.set k (some q)) ((((cs.set (k * 4) (.bool s)).set (k * 4 + 1) (.slice A n c)).set (k * 4 + 2) (.bool t)).set (k * 4 + 3) (.slice B m d)) := by
 induction h with
 | nil => intro k hk; simp at hk
 | @cons q0 l s0 A0 n0 c0 t0 B0 m0 d0 cs h0 h1 ih =>
  intro k hk
  cases k with
  | zero => exact .cons (fun r e => by injection e with e; subst e; exact hz) h1
  | succ k =>
   have := ih k (by simpa using hk);rw [show (k + 1) * 4 = k * 4 + 1 + 1 + 1 + 1 by omega];simp only [List.set_cons_succ];exact .cons h0 this
theorem RCells.zero (w : World) (L : Nat) : ∀ n, RCells w L (List.replicate n none) (zeroC n)
 | 0 => .nil
 | n + 1 => by rw [List.replicate_succ]; exact .cons (fun r e => by cases e) (RCells.zero w L n)
theorem RRow.ext (h : RRow w g l L) (e : Ext w w') : RRow w' g l L := by
 obtain ⟨cs, h1, h2⟩ := h;exact ⟨cs, h1.ext e, h2.ni (fun _ _ _ _ _ _ h => h.ext e)⟩
theorem RRow.kc (h : RRow w g l L) (k : Kc w w') : RRow w' g l L := by
 obtain ⟨cs, h1, h2⟩ := h;exact ⟨cs, h1.kc k, h2.ni (fun _ _ _ _ _ _ h => h.kc k)⟩
theorem RRow.far (h : RRow w g l L) (hb : ∀ T cs, Box w g T cs -> Box w' g T cs) (hn : ∀ z L s A n c, NI w z L s A n c -> NI w' z L s A n c) : RRow w' g l L := by
 obtain ⟨cs, h1, h2⟩ := h;exact ⟨cs, hb _ _ h1, h2.ni hn⟩
theorem RRow.frozen (h : RRow w g l L) (i : Nat) : w.frozen? ⟨g, i, none⟩ = false := by
 obtain ⟨cs, h1, _⟩ := h;exact h1.frozen i
theorem RRow.lt (h : RRow w g l L) : g < w.heap.size := by
 obtain ⟨cs, h1, _⟩ := h;exact h1.lt
theorem RRow.new (w : World) (n L : Nat) : RRow (w.alloc (.cells (zeroC n).toArray 27)) w.heap.size (List.replicate n none) L := ⟨zeroC n, Box.new w _ _, RCells.zero _ L n⟩
theorem RRow.get (h : RRow w g l L) (hk : k < l.length) : ∃ s A n c t B m d, w.cell? ⟨g, k * 4, none⟩ = some (.bool s) /\ w.cell? ⟨g, k * 4 + 1, none⟩ = some (.slice A n c) /\ w.cell? ⟨g, k * 4 + 2, none⟩ = some (.bool t) /\ w.cell? ⟨g, k * 4 + 3, none⟩ = some (.slice B m d) /\ ∀ r, l[k] = some r -> NR w r L s A n c t B m d := by
 obtain ⟨cs, h1, h2⟩ := h;obtain ⟨s, A, n, c, t, B, m, d, k0, k1, k2, k3, k4⟩ := h2.get k hk;rw [Nat.mul_comm] at k0 k1 k2 k3;exact ⟨s, A, n, c, t, B, m, d, h1.cell _ _ (by simpa using k0), h1.cell _ _ (by simpa using k1), h1.cell _ _ (by simpa using k2), h1.cell _ _ (by simpa using k3), k4⟩
theorem RRow.put (h : RRow w g l L) (hk : k < l.length) (hz : NR w q L s A n c t B m d) :
  RRow ((((w.setCell ⟨g, k * 4, none⟩ (.bool s)).setCell ⟨g, k * 4 + 1, none⟩ (.slice A n c)).setCell ⟨g, k * 4 + 2, none⟩ (.bool t)).setCell ⟨g, k * 4 + 3, none⟩ (.slice B m d)) g (l.set k (some q)) L /\
  (∀ z L s' A' n' c', NI w z L s' A' n' c' -> NI ((((w.setCell ⟨g, k * 4, none⟩ (.bool s)).setCell ⟨g, k * 4 + 1, none⟩ (.slice A n c)).setCell ⟨g, k * 4 + 2, none⟩ (.bool t)).setCell ⟨g, k * 4 + 3, none⟩ (.slice B m d)) z L s' A' n' c') /\
  (∀ W, Ext W w -> W.heap.size <= g -> Ext W ((((w.setCell ⟨g, k * 4, none⟩ (.bool s)).setCell ⟨g, k * 4 + 1, none⟩ (.slice A n c)).setCell ⟨g, k * 4 + 2, none⟩ (.bool t)).setCell ⟨g, k * 4 + 3, none⟩ (.slice B m d))) /\
  (∀ g' T' cs', g' ≠ g -> Box w g' T' cs' -> Box ((((w.setCell ⟨g, k * 4, none⟩ (.bool s)).setCell ⟨g, k * 4 + 1, none⟩ (.slice A n c)).setCell ⟨g, k * 4 + 2, none⟩ (.bool t)).setCell ⟨g, k * 4 + 3, none⟩ (.slice B m d)) g' T' cs') := by
 obtain ⟨cs, h1, h2⟩ := h;have F := ((((FinRow.refl h1 h2.nwl).step (k * 4) (v := .bool s) (by intro k h; cases h)).step (k * 4 + 1) (v := .slice A n c) (by intro k h; cases h)).step (k * 4 + 2) (v := .bool t) (by intro k h; cases h)).step (k * 4 + 3) (v := .slice B m d) (by intro k h; cases h);exact ⟨⟨_, F.box, (h2.set hz k hk).ni F.ni⟩, F.ni, F.ext, F.far⟩
theorem RRow.pol (h : RRow w g (qs.map some) L) (hn : qs.length = n) (hm : n <= maxLen) : Pol w (some ⟨g, 0, none⟩) n n qs L := by
 refine ⟨hn, Nat.le_refl _, hm, fun _ => ⟨g, 0, rfl, ⟨fun i hi => ?_⟩⟩⟩;obtain ⟨s, A, n, c, t, B, m, d, k0, k1, k2, k3, k4⟩ := h.get (k := i) (by simpa using hi);rw [Nat.mul_comm] at k0 k1 k2 k3;rw [Nat.zero_add];exact ⟨s, A, n, c, t, B, m, d, k0, k1, k2, k3, k4 _ (by simp)⟩
theorem fill_back {N k : Nat} (hk : k < N) {qs : List Rat} (q : Rat) : (List.replicate (N - k) (none : Option Rat) ++ qs.map some).set (N - 1 - k) (some q) = List.replicate (N - (k + 1)) none ++ (q :: qs).map some := by
 rw [show N - k = (N - (k + 1)) + 1 by omega, List.replicate_succ', List.append_assoc, List.set_append_right _ _ (by rw [List.length_replicate]; omega), List.length_replicate, show N - 1 - k - (N - (k + 1)) = 0 by omega]
 rfl
end
theorem at_worldIn {F : Fence} {n : Nat} {P : Program} {c : Code} {Q : Exit -> Act -> World -> Prop} {a : Act} {w : World} (C : World -> Prop) (h : C w) (k : ∀ W, C W -> Code.wpIn F n P c Q a W) : Code.wpIn F n P c Q a w := k w h
end
section
open Go.RowKit
attribute [local go_sem ↓] Go.wp_at_zero Go.wp_at_succ
def gcdI (zs : List Int) : Nat := zs.foldl (fun g z => Nat.gcd g z.natAbs) 0
theorem gcdI_snoc (zs : List Int) (z : Int) : gcdI (zs ++ [z]) = Nat.gcd (gcdI zs) z.natAbs := by unfold gcdI; rw [List.foldl_append]; rfl
theorem foldl_gcd (zs : List Int) : ∀ g, zs.foldl (fun g z => Nat.gcd g z.natAbs) g ∣ g /\ ∀ z ∈ zs, zs.foldl (fun g z => Nat.gcd g z.natAbs) g ∣ z.natAbs := by
 induction zs with
 | nil => intro g; exact ⟨Nat.dvd_refl _, fun z h => by cases h⟩
 | cons y zs ih =>
  intro g;obtain ⟨h1, h2⟩ := ih (Nat.gcd g y.natAbs);refine ⟨Nat.dvd_trans h1 (Nat.gcd_dvd_left _ _), fun z hz => ?_⟩
  rcases List.mem_cons.1 hz with rfl | hz
  ·exact Nat.dvd_trans h1 (Nat.gcd_dvd_right _ _)
  ·exact h2 z hz
theorem gcdI_dvd {zs : List Int} {z : Int} (h : z ∈ zs) : ((gcdI zs : Nat) : Int) ∣ z := Int.natAbs_dvd_natAbs.1 (by rw [Int.natAbs_natCast]; exact (foldl_gcd zs 0).2 z h)
theorem gcdI_ne {zs : List Int} {z : Int} (h : z ∈ zs) (hz : z ≠ 0) : ((gcdI zs : Nat) : Int) ≠ 0 := fun e => hz (by have := gcdI_dvd h; rw [e] at this; exact Int.zero_dvd.1 this)
def comI (zs : List Int) : Int := if zs.getLastD 0 < 0 then -((gcdI zs : Nat) : Int) else ((gcdI zs : Nat) : Int)
def primI (zs : List Int) : List Int := zs.map fun z => z / comI zs
theorem comI_dvd {zs : List Int} {z : Int} (h : z ∈ zs) : comI zs ∣ z := by
 unfold comI
 split
 ·exact Int.neg_dvd.2 (gcdI_dvd h)
 ·exact gcdI_dvd h
theorem comI_ne {zs : List Int} {z : Int} (h : z ∈ zs) (hz : z ≠ 0) : comI zs ≠ 0 := by
 have := gcdI_ne h hz;unfold comI
 split
 ·exact Int.neg_ne_zero.2 this
 ·exact this
section
variable {w w' : World} {z y : Int} {zs ys : List Int} {L M : Nat} {s t : Bool} {A B : Option Addr} {n c m d : Nat}
theorem p_lastI {j : Nat} (h : IPol w A (j + 1) c zs L) (hn : j <= 10000) (hj : j < zs.length) : Calls Tryz.prog 121 #[.slice A (j + 1) c] w (RetNI zs[j] L w) := by
 go_enter Tryz.func121, Tryz.ntmps121
 go_upto_region 1 with (fail)
 obtain ⟨W, hW, extW, bz, hz⟩ := box1 w 25 #[Value.bool false, Value.slice none 0 0];rw [<- hW];clear hW;obtain ⟨b, off, rfl, hr⟩ := h.at_ (fun e => by rw [e] at hj; exact absurd hj (Nat.not_lt_zero _));obtain ⟨sx, Ax, nx, cx, e0, e1, hx⟩ := (hr.ext extW).at_ j hj;have e0' : W.cell? ⟨b, off + j * 2, none⟩ = some (.bool sx) := by rw [Nat.mul_comm]; exact e0
 have e1' : W.cell? ⟨b, off + j * 2 + 1, none⟩ = some (.slice Ax nx cx) := by rw [Nat.mul_comm]; exact e1
 clear e0 e1;have hxt := Ext.refl W;have z0 := (bz.ext hxt).cell 0 _ rfl;have z1 := (bz.ext hxt).cell 1 _ rfl;have f0 := (bz.ext hxt).frozen 0;have f1 := (bz.ext hxt).frozen 1
 go_wp2_with fail
 obtain ⟨b1, b2, b3, b4⟩ := fin_dual (s := sx) (A := Ax) (n := nx) (c := cx) (bz.ext hxt);have r0 := b1.cell 0 (.bool sx) rfl;have r1 := b1.cell 1 (.slice Ax nx cx) rfl;unfold set2 at r0 r1;refine bodyPost_ret (v := .agg #[.bool sx, .slice Ax nx cx]) (by simp [results, Tryz.results121, go_sem, r0, r1]) rfl ⟨sx, Ax, nx, cx, rfl, ?_, b3 _ (extW.trans hxt) (by omega)⟩;exact b2 _ _ _ _ _ _ hx
theorem p_lastN (h : IPol w A n c zs L) (hn : n <= 10000) (h0 : 0 < n) : Calls Tryz.prog 121 #[.slice A n c] w (RetNI (zs.getLastD 0) L w) := by
 obtain ⟨j, rfl⟩ : ∃ j, n = j + 1 := ⟨n - 1, by omega⟩;have hj : j < zs.length := by rw [h.len]; omega
 have e : zs.getLastD 0 = zs[j] := by
  rw [List.getLastD_eq_getLast?, List.getLast?_eq_getElem?, h.len, show j + 1 - 1 = j by omega, List.getElem?_eq_getElem hj]; rfl
 rw [e];exact p_lastI h (by omega) hj
set_option maxRecDepth 100000 in
theorem p_primitive (h : IPol w A n c zs L) (hL : L <= 3000) (hn : n <= 500) (hn0 : 0 < n) (hl : zs.getLastD 0 ≠ 0) (hT : Tab w) : Calls Tryz.prog 80 #[.slice A n c] w (RetIPol (primI zs) L w) := by
 have hmk := mk_ints n (by omega);have Hlen := Lib.hid h.len;have hne : zs ≠ [] := fun e => by rw [e] at hl; exact hl rfl
 have HLast := Lib.hid (show ∀ (hj : n - 1 < zs.length), zs[n - 1] = zs.getLastD 0 from fun hj => by
  rw [List.getLastD_eq_getLast?, List.getLast?_eq_getElem?, h.len, List.getElem?_eq_getElem hj]; rfl)
 have HN := Lib.hid (show comI zs ≠ 0 from comI_ne (z := zs.getLastD 0) (by rw [List.getLastD_eq_getLast?, List.getLast?_eq_some_getLast hne]; exact List.getLast_mem hne) hl);obtain ⟨S, hS⟩ : ∃ S, zs.getLastD 0 = S := ⟨_, rfl⟩;clear hl hne
 go_enter Tryz.func80, Tryz.ntmps80
 go_wp2_with fail
 go_loopw [11] (fun i wr => ∃ (k : Nat) (s : Bool) (A' : Option Addr) (n' c' : Nat), k <= n /\ i = .int .i64 (k : Int) /\ Ext w wr /\ Box wr w.heap.size 25 #[.bool s, .slice A' n' c'] /\ NI wr ((gcdI (zs.take k) : Nat) : Int) L s A' n' c') (fun i _ => n - (intOf i).toNat)
 case atStart => exact ⟨0, false, none, 0, 0, Nat.zero_le _, rfl, (Ext.refl w).alloc _, Box.new w _ _, NI.nil _ _⟩
 case round =>
  obtain ⟨k, sg, Ag, ng, cg, hk, rfl, ext, b3, hd⟩ := hrel
  by_cases hlt : k < n
  ·have hj : k < zs.length := by rw [Hlen.out]; exact hlt
   have hI : (k : Int) < (n : Int) := by omega
   obtain ⟨b, off, rfl, hr⟩ := h.at_ (fun e => by rw [e] at hj; exact absurd hj (Nat.not_lt_zero _));obtain ⟨sx, Ax, nx, cx, e0, e1, hx⟩ := (hr.ext ext).at_ k hj;have e0' : wr.cell? ⟨b, off + k * 2, none⟩ = some (.bool sx) := by rw [Nat.mul_comm]; exact e0
   have e1' : wr.cell? ⟨b, off + k * 2 + 1, none⟩ = some (.slice Ax nx cx) := by rw [Nat.mul_comm]; exact e1
   clear e0 e1;have HT := Lib.hid (show zs.take (k + 1) = zs.take k ++ [zs[k]] from List.take_succ_eq_append_getElem hj)
   go_upto_region 5 with (fail)
   obtain ⟨W5, hW5, ext5, b5, hz5⟩ := box1 wr 25 #[.bool sx, .slice Ax nx cx];rw [<- hW5];clear hW5 hz5 e0' e1';replace hx := hx.ext ext5;replace hd := hd.ext ext5;replace b3 := b3.ext ext5;replace ext := ext.trans ext5;clear ext5;have x0 := b5.cell 0 (.bool sx) rfl;have x1 := b5.cell 1 (.slice Ax nx cx) rfl;have y0 := b3.cell 0 (.bool sg) rfl;have y1 := b3.cell 1 (.slice Ag ng cg) rfl
   go_wp2_with fail
   refine (p_GCD hd hx (by omega) (by omega) (hT.ext ext)).mono ?_;rintro e V ⟨s2, A2, n2, c2, rfl, h2, hxv⟩;clear x0 x1 y0 y1;have z0 := (b3.ext hxv).cell 0 _ rfl;have z1 := (b3.ext hxv).cell 1 _ rfl;have f0 := (b3.ext hxv).frozen 0;have f1 := (b3.ext hxv).frozen 1
   go_wp2_with fail
   obtain ⟨q1, q2, q3, q4⟩ := fin_dual (s := s2) (A := A2) (n := n2) (c := c2) (b3.ext hxv);unfold set2 at q1 q2 q3 q4;have extk := q3 _ (ext.trans hxv) (Nat.le_refl _);have hdk := q2 _ _ _ _ _ _ h2;rw [Int.natAbs_natCast, <- gcdI_snoc, <- HT.out, Nat.max_self] at hdk
   go_roundw
   case rel => exact ⟨k + 1, s2, A2, n2, c2, by omega, by go_num, extk, q1, hdk⟩
   case measure => simp [intOf]; omega
  ·have hkn : k = n := by omega
   subst hkn;rw [List.take_of_length_le (Nat.le_of_eq Hlen.out)] at hd;have hI : (k : Int) <= (k : Int) := Int.le_refl _;have x0 := b3.cell 0 (.bool sg) rfl;have hn' : (0 : Int) < (k : Int) := by omega
   go_wp2_with fail
   refine (p_lastN (h.ext ext) (by omega) hn0).mono ?_;rintro e W8 ⟨s8, A8, n8, c8, rfl, h8, hx8⟩;rw [hS] at h8;have HC := Lib.hid (show comI zs = if S < 0 then -((gcdI zs : Nat) : Int) else ((gcdI zs : Nat) : Int) by unfold comI; rw [hS])
   go_wp2_with fail
   refine (p_Sign h8 (by omega)).mono ?_;rintro e W9 ⟨rfl, hx9⟩;have hx89 := hx8.trans hx9;replace b3 := b3.ext hx89;replace hd := hd.ext hx89;replace ext := ext.trans hx89;clear hx8 hx9 hx89 h8 x0 hS;have y0 := b3.cell 0 (.bool sg) rfl;have y1 := b3.cell 1 (.slice Ag ng cg) rfl
   by_cases hs : S < 0
   ·rw [Int.sign_eq_neg_one_of_neg hs]
    have hc := HC.out;rw [if_pos hs] at hc;have HC2 := Lib.hid hc;clear hc hs
    go_wp2_with fail
    refine (p_Neg hd (by omega)).mono ?_;rintro e V ⟨s2, A2, n2, c2, rfl, h2, hxv⟩;rw [<- HC2.out] at h2;clear y0 y1;have z0 := (b3.ext hxv).cell 0 _ rfl;have z1 := (b3.ext hxv).cell 1 _ rfl;have f0 := (b3.ext hxv).frozen 0;have f1 := (b3.ext hxv).frozen 1;obtain ⟨q1, q2, q3, q4⟩ := fin_dual (s := s2) (A := A2) (n := n2) (c := c2) (b3.ext hxv);unfold set2 at q1 q2 q3 q4
    go_upto_region 9 with (fail)
    refine at_world (fun V => Ext w V /\ Box V w.heap.size 25 #[.bool s2, .slice A2 n2 c2] /\ NI V (comI zs) L s2 A2 n2 c2) ⟨q3 _ (ext.trans hxv) (Nat.le_refl _), q1, q2 _ _ _ _ _ _ h2⟩ ?_;clear q1 q2 q3 q4 z0 z1 f0 f1 h2 hd b3 ext hxv;rintro Q ⟨ext, b3, hd⟩
    go_wp2_with fail
    obtain ⟨g7, hg7⟩ : ∃ g, Q.heap.size = g := ⟨_, rfl⟩;have hgr := ext.size;have hb3 := b3.lt;rw [hg7] at hgr hb3
    try rw [hg7]
    go_loopw [35] (fun i wr => ∃ (j : Nat), j <= k /\ i = .int .i64 (j : Int) /\ Ext w wr /\ Box wr w.heap.size 25 #[.bool s2, .slice A2 n2 c2] /\ NI wr (comI zs) L s2 A2 n2 c2 /\ IRow wr g7 ((primI zs).take j ++ List.replicate (k - j) 0) L) (fun i _ => k - (intOf i).toNat)
    case atStart =>
     have ha := (Ext.refl Q).alloc (.cells (zeroI k).toArray 25);exact ⟨0, Nat.zero_le _, rfl, ext.trans ha, b3.ext ha, hd.ext ha, by rw [List.take_zero, List.nil_append, Nat.sub_zero]; rw [<- hg7]; exact IRow.new Q k _⟩
    case round =>
     clear b3 hd ext;obtain ⟨j, hj, rfl, ext, b3, hd, hR⟩ := hrel
     by_cases hlt : j < k
     ·have hjq : j < zs.length := by rw [Hlen.out]; exact hlt
      have hI : (j : Int) < (k : Int) := by omega
      obtain ⟨b, off, rfl, hr⟩ := h.at_ (fun e => by rw [e] at hjq; exact absurd hjq (Nat.not_lt_zero _));obtain ⟨sx, Ax, nx, cx, e0, e1, hx⟩ := (hr.ext ext).at_ j hjq;have e0' : wr.cell? ⟨b, off + j * 2, none⟩ = some (.bool sx) := by rw [Nat.mul_comm]; exact e0
      have e1' : wr.cell? ⟨b, off + j * 2 + 1, none⟩ = some (.slice Ax nx cx) := by rw [Nat.mul_comm]; exact e1
      clear e0 e1;have hjn : j < (primI zs).length := by unfold primI; rw [List.length_map]; exact hjq
      have hpl : (primI zs).length = k := by unfold primI; rw [List.length_map]; exact Hlen.out
      have hkl : j < ((primI zs).take j ++ List.replicate (k - j) 0).length := by rw [List.length_append, List.length_take, List.length_replicate, hpl]; omega
      have HS := Lib.hid (set_fill hjn hpl);have HV := Lib.hid (show (primI zs)[j] = zs[j] / comI zs by simp [primI]);have HD := Lib.hid (show comI zs ≠ 0 /\ comI zs ∣ zs[j] from ⟨HN.out, comI_dvd (List.getElem_mem hjq)⟩)
      go_upto_region 13 with (fail)
      obtain ⟨W9, hW9, ext9, b9, hz9⟩ := box1 wr 25 #[.bool sx, .slice Ax nx cx];rw [<- hW9];clear hW9 hz9 e0' e1';replace hx := hx.ext ext9;replace hd := hd.ext ext9;replace hR := hR.ext ext9;replace b3 := b3.ext ext9;replace ext := ext.trans ext9;clear ext9;have x0 := b9.cell 0 (.bool sx) rfl;have x1 := b9.cell 1 (.slice Ax nx cx) rfl;have y0 := b3.cell 0 (.bool s2) rfl;have y1 := b3.cell 1 (.slice A2 n2 c2) rfl
      go_wp2_with fail
      refine (p_exact hx hd (by omega) (by omega) HD.out.1 HD.out.2).mono ?_;rintro e V ⟨s5, A5, n5, c5, rfl, h2, hxv⟩;clear x0 x1 y0 y1;rw [<- HV.out] at h2;have hRk := hR.ext hxv;obtain ⟨sz, Az, nz, cz, z0, z1, _⟩ := hRk.get hkl;have f0 := hRk.frozen (j * 2);have f1 := hRk.frozen (j * 2 + 1)
      go_wp2_with fail
      have PP := hRk.put hkl h2
      go_roundw
      case rel => exact ⟨j + 1, by omega, by go_num, PP.2.2.1 _ (ext.trans hxv) hgr, PP.2.2.2 _ _ _ (by omega) (b3.ext hxv), PP.2.1 _ _ _ _ _ _ (hd.ext hxv), by rw [<- HS.out]; exact PP.1⟩
      case measure => simp [intOf]; omega
     ·have hjk : j = k := by omega
      subst hjk;have hpl : (primI zs).length = j := by unfold primI; rw [List.length_map]; exact Hlen.out
      rw [List.take_of_length_le (Nat.le_of_eq hpl), Nat.sub_self, List.replicate_zero, List.append_nil] at hR;have hp := hR.pol hpl (by unfold maxLen; omega);have hI : (j : Int) <= (j : Int) := Int.le_refl _
      go_wp2_with fail
      go_ret
      exact ⟨_, _, _, rfl, hp, ext⟩
   ·have dS : decide (S.sign < 0) = false := decide_eq_false (by
     rcases Int.lt_trichotomy S 0 with h | h | h
     ·exact absurd h hs
     ·rw [h]; decide
     ·rw [Int.sign_eq_one_of_pos h]; decide)
    have dS2 : decide (S < 0) = false := decide_eq_false hs;have dS3 : 0 <= S := by omega
    have hc := HC.out;rw [if_neg hs] at hc;rw [<- hc] at hd;clear hc hs
    go_upto_region 9 with (fail)
    clear y0 y1;refine at_world (fun V => Ext w V /\ Box V w.heap.size 25 #[.bool sg, .slice Ag ng cg] /\ NI V (comI zs) L sg Ag ng cg) ⟨ext, b3, hd⟩ ?_;clear hd b3 ext;rintro Q ⟨ext, b3, hd⟩
    go_wp2_with fail
    obtain ⟨g7, hg7⟩ : ∃ g, Q.heap.size = g := ⟨_, rfl⟩;have hgr := ext.size;have hb3 := b3.lt;rw [hg7] at hgr hb3
    try rw [hg7]
    go_loopw [35] (fun i wr => ∃ (j : Nat), j <= k /\ i = .int .i64 (j : Int) /\ Ext w wr /\ Box wr w.heap.size 25 #[.bool sg, .slice Ag ng cg] /\ NI wr (comI zs) L sg Ag ng cg /\ IRow wr g7 ((primI zs).take j ++ List.replicate (k - j) 0) L) (fun i _ => k - (intOf i).toNat)
    case atStart =>
     have ha := (Ext.refl Q).alloc (.cells (zeroI k).toArray 25);exact ⟨0, Nat.zero_le _, rfl, ext.trans ha, b3.ext ha, hd.ext ha, by rw [List.take_zero, List.nil_append, Nat.sub_zero]; rw [<- hg7]; exact IRow.new Q k _⟩
    case round =>
     clear b3 hd ext;obtain ⟨j, hj, rfl, ext, b3, hd, hR⟩ := hrel
     by_cases hlt : j < k
     ·have hjq : j < zs.length := by rw [Hlen.out]; exact hlt
      have hI : (j : Int) < (k : Int) := by omega
      obtain ⟨b, off, rfl, hr⟩ := h.at_ (fun e => by rw [e] at hjq; exact absurd hjq (Nat.not_lt_zero _));obtain ⟨sx, Ax, nx, cx, e0, e1, hx⟩ := (hr.ext ext).at_ j hjq;have e0' : wr.cell? ⟨b, off + j * 2, none⟩ = some (.bool sx) := by rw [Nat.mul_comm]; exact e0
      have e1' : wr.cell? ⟨b, off + j * 2 + 1, none⟩ = some (.slice Ax nx cx) := by rw [Nat.mul_comm]; exact e1
      clear e0 e1;have hjn : j < (primI zs).length := by unfold primI; rw [List.length_map]; exact hjq
      have hpl : (primI zs).length = k := by unfold primI; rw [List.length_map]; exact Hlen.out
      have hkl : j < ((primI zs).take j ++ List.replicate (k - j) 0).length := by rw [List.length_append, List.length_take, List.length_replicate, hpl]; omega
      have HS := Lib.hid (set_fill hjn hpl);have HV := Lib.hid (show (primI zs)[j] = zs[j] / comI zs by simp [primI]);have HD := Lib.hid (show comI zs ≠ 0 /\ comI zs ∣ zs[j] from ⟨HN.out, comI_dvd (List.getElem_mem hjq)⟩)
      go_upto_region 13 with (fail)
      obtain ⟨W9, hW9, ext9, b9, hz9⟩ := box1 wr 25 #[.bool sx, .slice Ax nx cx];rw [<- hW9];clear hW9 hz9 e0' e1';replace hx := hx.ext ext9;replace hd := hd.ext ext9;replace hR := hR.ext ext9;replace b3 := b3.ext ext9;replace ext := ext.trans ext9;clear ext9;have x0 := b9.cell 0 (.bool sx) rfl;have x1 := b9.cell 1 (.slice Ax nx cx) rfl;have y0 := b3.cell 0 (.bool sg) rfl;have y1 := b3.cell 1 (.slice Ag ng cg) rfl
      go_wp2_with fail
      refine (p_exact hx hd (by omega) (by omega) HD.out.1 HD.out.2).mono ?_;rintro e V ⟨s2, A2, n2, c2, rfl, h2, hxv⟩;clear x0 x1 y0 y1;rw [<- HV.out] at h2;have hRk := hR.ext hxv;obtain ⟨sz, Az, nz, cz, z0, z1, _⟩ := hRk.get hkl;have f0 := hRk.frozen (j * 2);have f1 := hRk.frozen (j * 2 + 1)
      go_wp2_with fail
      have PP := hRk.put hkl h2
      go_roundw
      case rel => exact ⟨j + 1, by omega, by go_num, PP.2.2.1 _ (ext.trans hxv) hgr, PP.2.2.2 _ _ _ (by omega) (b3.ext hxv), PP.2.1 _ _ _ _ _ _ (hd.ext hxv), by rw [<- HS.out]; exact PP.1⟩
      case measure => simp [intOf]; omega
     ·have hjk : j = k := by omega
      subst hjk;have hpl : (primI zs).length = j := by unfold primI; rw [List.length_map]; exact Hlen.out
      rw [List.take_of_length_le (Nat.le_of_eq hpl), Nat.sub_self, List.replicate_zero, List.append_nil] at hR;have hp := hR.pol hpl (by unfold maxLen; omega);have hI : (j : Int) <= (j : Int) := Int.le_refl _
      go_wp2_with fail
      go_ret
      exact ⟨_, _, _, rfl, hp, ext⟩
end
end
section
open Go.RowKit
attribute [local go_sem] Oper.semAt_some
attribute [local go_sem ↓] Go.wp_at_zero Go.wp_at_succ
structure DivM (w W0 : World) (g4 gr gq g7 g8 gB N cr o d : Nat) (s7 : Bool) (A7 : Option Addr) (n7 c7 : Nat) (lead : Int) (M : Nat) (B : Option Addr) (S C Q nr : Nat) (l : List (Option Rat)) (R : List Int) (sc : Int) (W : World) : Prop where
 ko : KeepsOthers W0 W
 ext : Ext w W
 base : w.heap.size <= g4
 ord : g4 + 1 + 1 < gr /\ gr < gq /\ gq < g7 /\ gq < g8 /\ g7 ≠ g8 /\ g7 < gB /\ g8 < gB
 b4 : Box W g4 22 #[.slice (some ⟨gq, 0, none⟩) N N]
 rq : RRow W gq l Q
 b5 : Box W (g4 + 1) 46 #[.slice (some ⟨gr, 0, none⟩) nr cr]
 rr : JRow W gr R S
 b6 : ∃ s A n c, Box W (g4 + 1 + 1) 25 #[.bool s, .slice A n c] /\ NI W sc C s A n c
 b7 : Box W g7 25 #[.bool s7, .slice A7 n7 c7]
 n7 : NI W lead M s7 A7 n7 c7
 b8 : Box W g8 46 #[.slice B o d]
 bB : Box W gB 22 #[.slice (some ⟨gq, 0, none⟩) N N]
structure Left (W W' : World) (g : Nat) : Prop where
 ni : ∀ z L s A n c, NI W z L s A n c -> NI W' z L s A n c
 far : ∀ g' T cs, g' ≠ g -> Box W g' T cs -> Box W' g' T cs
 ko : KeepsOthers W W'
 ext : ∀ V, Ext V W -> V.heap.size <= g -> Ext V W'
section
variable {w W0 : World} {g4 gr gq g7 g8 gB N cr o d : Nat} {s7 : Bool} {A7 : Option Addr} {n7 c7 : Nat} {lead : Int} {M : Nat} {B : Option Addr} {S C Q : Nat} {nr : Nat} {l : List (Option Rat)} {R : List Int} {sc : Int} {W W' : World}
theorem DivM.next (h : DivM w W0 g4 gr gq g7 g8 gB N cr o d s7 A7 n7 c7 lead M B S C Q nr l R sc W) (e : Ext W W') : DivM w W0 g4 gr gq g7 g8 gB N cr o d s7 A7 n7 c7 lead M B S C Q nr l R sc W' := by
 obtain ⟨h1, h2, h3, h4, h5, h6, h7, h8, ⟨s, A, n, c, h9, h10⟩, h11, h12, h13, h14⟩ := h;exact ⟨h1.trans e.keeps, h2.trans e, h3, h4, h5.ext e, h6.ext e, h7.ext e, h8.ext e, ⟨s, A, n, c, h9.ext e, h10.ext e⟩, h11.ext e, h12.ext e, h13.ext e, h14.ext e⟩
theorem DivM.rest (h : DivM w W0 g4 gr gq g7 g8 gB N cr o d s7 A7 n7 c7 lead M B S C Q nr l R sc W) (nr' : Nat) : DivM w W0 g4 gr gq g7 g8 gB N cr o d s7 A7 n7 c7 lead M B S C Q nr' l R sc (W.setCell ⟨g4 + 1, 0, none⟩ (.slice (some ⟨gr, 0, none⟩) nr' cr)) /\ Left W (W.setCell ⟨g4 + 1, 0, none⟩ (.slice (some ⟨gr, 0, none⟩) nr' cr)) (g4 + 1) := by
 obtain ⟨h1, h2, h3, h4, h5, h6, h7, h8, ⟨s, A, n, c, h9, h10⟩, h11, h12, h13, h14⟩ := h;have F := (FinRow.refl (l := [.slice (some ⟨gr, 0, none⟩) nr cr]) h7 (by intro u hu k e; simp at hu; subst hu; cases e)).step 0 (v := .slice (some ⟨gr, 0, none⟩) nr' cr) (by intro k h; cases h);have hk := KeepsOthers.setCell W ⟨g4 + 1, 0, none⟩ (.slice (some ⟨gr, 0, none⟩) nr' cr);exact ⟨⟨h1.trans hk, F.ext _ h2 (by omega), h3, h4, F.far _ _ _ (by omega) h5, h6.far (fun _ _ k => F.far _ _ _ (by omega) k) F.ni, F.box, h8.far (fun _ _ k => F.far _ _ _ (by omega) k) F.ni, ⟨s, A, n, c, F.far _ _ _ (by omega) h9, F.ni _ _ _ _ _ _ h10⟩, F.far _ _ _ (by omega) h11, F.ni _ _ _ _ _ _ h12, F.far _ _ _ (by omega) h13, F.far _ _ _ (by omega) h14⟩, F.ni, F.far, hk, F.ext⟩
theorem DivM.scale (h : DivM w W0 g4 gr gq g7 g8 gB N cr o d s7 A7 n7 c7 lead M B S C Q nr l R sc W) {sc' : Int} {s : Bool} {A : Option Addr} {n c : Nat} (hz : NI W sc' C s A n c) : DivM w W0 g4 gr gq g7 g8 gB N cr o d s7 A7 n7 c7 lead M B S C Q nr l R sc' ((W.setCell ⟨g4 + 1 + 1, 0, none⟩ (.bool s)).setCell ⟨g4 + 1 + 1, 1, none⟩ (.slice A n c)) /\ Left W ((W.setCell ⟨g4 + 1 + 1, 0, none⟩ (.bool s)).setCell ⟨g4 + 1 + 1, 1, none⟩ (.slice A n c)) (g4 + 1 + 1) := by
 obtain ⟨h1, h2, h3, h4, h5, h6, h7, h8, ⟨s', A', n', c', h9, h10⟩, h11, h12, h13, h14⟩ := h;obtain ⟨q1, q2, q3, q4⟩ := fin_dual (s := s) (A := A) (n := n) (c := c) h9;unfold set2 at q1 q2 q3 q4;have hk := (KeepsOthers.setCell W ⟨g4 + 1 + 1, 0, none⟩ (.bool s)).trans (KeepsOthers.setCell _ ⟨g4 + 1 + 1, 1, none⟩ (.slice A n c));exact ⟨⟨h1.trans hk, q3 _ h2 (by omega), h3, h4, q4 _ _ _ (by omega) h5, h6.far (fun _ _ k => q4 _ _ _ (by omega) k) q2, q4 _ _ _ (by omega) h7, h8.far (fun _ _ k => q4 _ _ _ (by omega) k) q2, ⟨s, A, n, c, q1, q2 _ _ _ _ _ _ hz⟩, q4 _ _ _ (by omega) h11, q2 _ _ _ _ _ _ h12, q4 _ _ _ (by omega) h13, q4 _ _ _ (by omega) h14⟩, q2, q4, hk, q3⟩
theorem DivM.quot (h : DivM w W0 g4 gr gq g7 g8 gB N cr o d s7 A7 n7 c7 lead M B S C Q nr l R sc W) {i : Nat} (hi : i < l.length) {q : Rat} {s : Bool} {A : Option Addr} {n c : Nat} {t : Bool} {D : Option Addr} {m e : Nat} (hz : NR W q Q s A n c t D m e) : DivM w W0 g4 gr gq g7 g8 gB N cr o d s7 A7 n7 c7 lead M B S C Q nr (l.set i (some q)) R sc ((((W.setCell ⟨gq, i * 4, none⟩ (.bool s)).setCell ⟨gq, i * 4 + 1, none⟩ (.slice A n c)).setCell ⟨gq, i * 4 + 2, none⟩ (.bool t)).setCell ⟨gq, i * 4 + 3, none⟩ (.slice D m e)) /\ Left W ((((W.setCell ⟨gq, i * 4, none⟩ (.bool s)).setCell ⟨gq, i * 4 + 1, none⟩ (.slice A n c)).setCell ⟨gq, i * 4 + 2, none⟩ (.bool t)).setCell ⟨gq, i * 4 + 3, none⟩ (.slice D m e)) gq := by
 obtain ⟨h1, h2, h3, h4, h5, h6, h7, h8, ⟨s', A', n', c', h9, h10⟩, h11, h12, h13, h14⟩ := h;obtain ⟨q1, q2, q3, q4⟩ := h6.put hi hz;have hk := (((KeepsOthers.setCell W ⟨gq, i * 4, none⟩ (.bool s)).trans (KeepsOthers.setCell _ ⟨gq, i * 4 + 1, none⟩ (.slice A n c))).trans (KeepsOthers.setCell _ ⟨gq, i * 4 + 2, none⟩ (.bool t))).trans (KeepsOthers.setCell _ ⟨gq, i * 4 + 3, none⟩ (.slice D m e));exact ⟨⟨h1.trans hk, q3 _ h2 (by omega), h3, h4, q4 _ _ _ (by omega) h5, q1, q4 _ _ _ (by omega) h7, h8.far (fun _ _ k => q4 _ _ _ (by omega) k) q2, ⟨s', A', n', c', q4 _ _ _ (by omega) h9, q2 _ _ _ _ _ _ h10⟩, q4 _ _ _ (by omega) h11, q2 _ _ _ _ _ _ h12, q4 _ _ _ (by omega) h13, q4 _ _ _ (by omega) h14⟩, q2, q4, hk, q3⟩
theorem DivM.row (h : DivM w W0 g4 gr gq g7 g8 gB N cr o d s7 A7 n7 c7 lead M B S C Q nr l R sc W) {i : Nat} (hi : i < R.length) {z : Int} {s : Bool} {A : Option Addr} {n c : Nat} (hz : NI W z S s A n c) : DivM w W0 g4 gr gq g7 g8 gB N cr o d s7 A7 n7 c7 lead M B S C Q nr l (R.set i z) sc ((W.setCell ⟨gr, i * 2, none⟩ (.bool s)).setCell ⟨gr, i * 2 + 1, none⟩ (.slice A n c)) /\ Left W ((W.setCell ⟨gr, i * 2, none⟩ (.bool s)).setCell ⟨gr, i * 2 + 1, none⟩ (.slice A n c)) gr := by
 obtain ⟨h1, h2, h3, h4, h5, h6, h7, h8, ⟨s', A', n', c', h9, h10⟩, h11, h12, h13, h14⟩ := h;obtain ⟨q1, q2, q3, q4⟩ := h8.put hi hz;have hk := (KeepsOthers.setCell W ⟨gr, i * 2, none⟩ (.bool s)).trans (KeepsOthers.setCell _ ⟨gr, i * 2 + 1, none⟩ (.slice A n c));exact ⟨⟨h1.trans hk, q3 _ h2 (by omega), h3, h4, q4 _ _ _ (by omega) h5, h6.far (fun _ _ k => q4 _ _ _ (by omega) k) q2, q4 _ _ _ (by omega) h7, q1, ⟨s', A', n', c', q4 _ _ _ (by omega) h9, q2 _ _ _ _ _ _ h10⟩, q4 _ _ _ (by omega) h11, q2 _ _ _ _ _ _ h12, q4 _ _ _ (by omega) h13, q4 _ _ _ (by omega) h14⟩, q2, q4, hk, q3⟩
theorem DivM.kc (h : DivM w W0 g4 gr gq g7 g8 gB N cr o d s7 A7 n7 c7 lead M B S C Q nr l R sc W) {a : World} (k : Kc W W') (he : ∀ a, a.heap.size <= gB -> Ext a W -> Ext a W') (hko : KeepsOthers a W') : DivM w a g4 gr gq g7 g8 gB N cr o d s7 A7 n7 c7 lead M B S C Q nr l R sc W' := by
 obtain ⟨h1, h2, h3, h4, h5, h6, h7, h8, ⟨s, A, n, c, h9, h10⟩, h11, h12, h13, h14⟩ := h;exact ⟨hko, he _ (by omega) h2, h3, h4, h5.kc k, h6.kc k, h7.kc k, h8.kc k, ⟨s, A, n, c, h9.kc k, h10.kc k⟩, h11.kc k, h12.kc k, h13.kc k, h14.kc k⟩
theorem DivM.at_ (h : DivM w W0 g4 gr gq g7 g8 gB N cr o d s7 A7 n7 c7 lead M B S C Q nr l R sc W) : DivM w W g4 gr gq g7 g8 gB N cr o d s7 A7 n7 c7 lead M B S C Q nr l R sc W :=
 ⟨KeepsOthers.refl W, h.ext, h.base, h.ord, h.b4, h.rq, h.b5, h.rr, h.b6, h.b7, h.n7, h.b8, h.bB⟩
end
theorem DivM.rdy {w W0 : World} {g4 gr gq g7 g8 gB N cr o d : Nat} {s7 : Bool} {A7 : Option Addr} {n7 c7 : Nat} {lead : Int} {M : Nat} {B : Option Addr} {S C Q : Nat} {nr : Nat} {l : List (Option Rat)} {R : List Int} {sc : Int} {W : World} (h : DivM w W0 g4 gr gq g7 g8 gB N cr o d s7 A7 n7 c7 lead M B S C Q nr l R sc W) (hl : N <= l.length) : RdyR gB (some ⟨gq, 0, none⟩) N N W := by
 refine ⟨h.bB.cell 0 _ rfl, fun i hi => ?_⟩;obtain ⟨s, A, n, c, t, D, m, e, k0, k1, k2, k3, _⟩ := h.rq.get (k := i) (by omega);exact ⟨gq, 0, s, A, n, c, t, D, m, e, rfl, by rw [Nat.zero_add]; exact k0, by rw [Nat.zero_add]; exact k1, by rw [Nat.zero_add]; exact k2, by rw [Nat.zero_add]; exact k3⟩
theorem DivM.restpol {w W0 : World} {g4 gr gq g7 g8 gB N cr o d : Nat} {s7 : Bool} {A7 : Option Addr} {n7 c7 : Nat} {lead : Int} {M : Nat} {B : Option Addr} {S C Q : Nat} {nr : Nat} {l : List (Option Rat)} {R : List Int} {sc : Int} {W : World} (h : DivM w W0 g4 gr gq g7 g8 gB N cr o d s7 A7 n7 c7 lead M B S C Q nr l R sc W) (hn : nr <= R.length) (hc : nr <= cr) (hm : cr <= maxLen) : IPol W (some ⟨gr, 0, none⟩) nr cr (R.take nr) S := h.rr.pol hn hc hm
def DivA (N : Nat) (T : Array Value) (k : Nat) (a' : Act) : Prop :=
 ∃ (i : Nat) (v : Value), i + k + 1 = N /\ a' = { tmps := ((T.setIfInBounds 38 (.int .i64 (i : Int))).setIfInBounds 39 v).setIfInBounds 9 (.int .i64 (i : Int)), defers := [] }
theorem p_Sub {w : World} {z y : Int} {L M : Nat} {s t : Bool} {A B : Option Addr} {n c m d : Nat} (h : NI w z L s A n c) (k : NI w y M t B m d) (hL : L <= 50000) (hM : M <= 50000) : Calls Tryz.prog 123 #[.agg #[.bool s, .slice A n c], .agg #[.bool t, .slice B m d]] w (RetNI (z - y) (max L M + 1) w) := by
 obtain ⟨xs, hn, hx, hc, hcm, hi, hl⟩ := h.out;obtain ⟨ys, hm, hy, hd, hdm, hj, hk⟩ := k.out;refine (int_Sub hn hm hx hy hc hcm hd hdm (by omega) (by omega)).mono fun e w' hr => ?_
 rw [hi.eq, hj.eq] at hr;exact hr.ni (by omega)
section
variable {P : Program} {ops : Array Oper} {Q : Exit -> Act -> World -> Prop} {md : Region.Mode} {W0 : World} {z : Nat}
theorem at_wpLx {f : Nat} {L : Array Bool} {a : Act} {w : World} (C : World -> Prop) (h : C w) (k : ∀ V, C V -> wpL P md ops Q W0 z f L a V) : wpL P md ops Q W0 z f L a w := k w h
theorem wpL.two {f i j : Nat} {oi oj : Oper} {L : Array Bool} {a : Act} {w : World} (hi : ops[i]? = some oi) (hj : ops[j]? = some oj) (hr : Region.ready md ops L = [i, j])
  (h1 : ∀ K : Act -> World -> Prop, Shut (∀ a' w', ((L.setIfInBounds i true).getD z false = true \/ Ext W0 w') -> wpL P md ops Q W0 z f (L.setIfInBounds i true) a' w' -> K a' w') -> if Region.wanted oi (yielded ops a.tmps) = true then Oper.wp P oi a w K Q else K (a.put oi.dst undef) w)
  (h2 : ∀ K : Act -> World -> Prop, Shut (∀ a' w', ((L.setIfInBounds j true).getD z false = true \/ Ext W0 w') -> wpL P md ops Q W0 z f (L.setIfInBounds j true) a' w' -> K a' w') -> if Region.wanted oj (yielded ops a.tmps) = true then Oper.wp P oj a w K Q else K (a.put oj.dst undef) w) : wpL P md ops Q W0 z (f + 1) L a w := by
 refine ⟨(fun h0 => by rw [hr] at h0; cases h0), fun k hk => ?_⟩;rw [hr] at hk;simp only [List.mem_cons, List.not_mem_nil, or_false] at hk
 rcases hk with rfl | rfl
 ·exact wpOp_step hi fun K hK => h1 K (fun a' w' e hL => hK a' w' ⟨e, hL⟩)
 ·exact wpOp_step hj fun K hK => h2 K (fun a' w' e hL => hK a' w' ⟨e, hL⟩)
end
section
variable {w W0 : World} {g4 gr gq g7 g8 gB N cr o d : Nat} {s7 : Bool} {A7 : Option Addr} {n7 c7 : Nat} {lead : Int} {M : Nat} {B : Option Addr} {S C Q : Nat} {nr : Nat} {l : List (Option Rat)} {R : List Int} {sc : Int} {W W' : World}
theorem DivM.same (h : DivM w W0 g4 gr gq g7 g8 gB N cr o d s7 A7 n7 c7 lead M B S C Q nr l R sc W) : DivM w W0 g4 gr gq g7 g8 gB N cr o d s7 A7 n7 c7 lead M B S C Q nr l R sc (W.setCell ⟨g4, 0, none⟩ (.slice (some ⟨gq, 0, none⟩) N N)) /\ Left W (W.setCell ⟨g4, 0, none⟩ (.slice (some ⟨gq, 0, none⟩) N N)) g4 := by
 obtain ⟨h1, h2, h3, h4, h5, h6, h7, h8, ⟨s, A, n, c, h9, h10⟩, h11, h12, h13, h14⟩ := h;have F := (FinRow.refl (l := [.slice (some ⟨gq, 0, none⟩) N N]) h5 (by intro u hu k e; simp at hu; subst hu; cases e)).step 0 (v := .slice (some ⟨gq, 0, none⟩) N N) (by intro k h; cases h);have hk := KeepsOthers.setCell W ⟨g4, 0, none⟩ (.slice (some ⟨gq, 0, none⟩) N N);exact ⟨⟨h1.trans hk, F.ext _ h2 (by omega), h3, h4, F.box, h6.far (fun _ _ k => F.far _ _ _ (by omega) k) F.ni, F.far _ _ _ (by omega) h7, h8.far (fun _ _ k => F.far _ _ _ (by omega) k) F.ni, ⟨s, A, n, c, F.far _ _ _ (by omega) h9, F.ni _ _ _ _ _ _ h10⟩, F.far _ _ _ (by omega) h11, F.ni _ _ _ _ _ _ h12, F.far _ _ _ (by omega) h13, F.far _ _ _ (by omega) h14⟩, F.ni, F.far, hk, F.ext⟩
end
def RetDiv (q : List Rat) (zs : List Int) (sc : Int) (Q S C : Nat) (w : World) (e : Ending) (w' : World) : Prop :=
 ∃ A n c B m d s D k l, e = .returned (.tuple #[.slice A n c, .slice B m d, .agg #[.bool s, .slice D k l]]) /\ Pol w' A n c q Q /\ IPol w' B m d zs S /\ NI w' sc C s D k l /\ Ext w w'
section
variable {w w' : World} {z y : Int} {xs ys : List Int} {L M : Nat} {s t : Bool} {A B : Option Addr} {n c m d : Nat}
set_option maxRecDepth 100000 in
theorem p_divideP {S C o N : Nat} {lead : Int} {os : List Int} (h : IPol w A n c xs L) (h' : IPol w B m d ys M) (hn0 : 0 < n) (hm0 : 0 < m) (hn : n <= 400) (hm : m <= 400) (hL : L <= S) (hM : M < 64) (ho : o + 1 = m) (hN : N = n - o) (hos : os = ys.take o) (hlead : lead = ys.getLastD 0) (hl0 : lead ≠ 0) (hD : DivB xs os lead N S C) (hS : S <= 1000) (hC : C <= 1000) (hC1 : 1 <= C) (hT : Tab w) :
  Calls Tryz.prog 77 #[.slice A n c, .slice B m d] w (RetDiv (divS xs os lead N N).2.2 (trimI ((divS xs os lead N N).1.take (n - N))) (divS xs os lead N N).2.1 (S + C + M) S C w) := by
 have HL := Lib.hid hlead;have HO := Lib.hid hos;have hmk := mk_rats N (by omega);have hNi : max (0 : Int) ((n : Int) - (m : Int) + 1) = (N : Int) := by omega
 have hN1 : N <= n - o := by omega
 have hN2 : n - o <= N := by omega
 have ho1 : o < m := by omega
 have ho2 : m <= o + 1 := by omega
 have HN := Lib.hid hN;clear hlead hos hN ho;refine callsIn_wide.1 (callsIn_of_wp_marks (n := 0) Tryz.func77 rfl trivial (wpIn_wide.2 ?_) rfl);simp only [Tryz.ntmps77, List.size_toArray, List.length_cons, List.length_nil, Nat.reduceAdd, Nat.reduceSub, Array.replicate_succ, Array.replicate_zero, List.push_toArray, List.append_toArray, List.nil_append, List.cons_append]
 go_upto_region 1 with (fail)
 obtain ⟨W, hW, extW, b4, b5, b6, hz⟩ := box3 w 22 46 25 #[.slice none 0 0] #[.slice none 0 0] #[Value.bool false, Value.slice none 0 0];rw [<- hW];clear hW
 go_wp2_with fail
 refine (p_cloneI (h.ext extW) (by omega)).mono ?_;rintro e V1 ⟨Ar, cr, rfl, hcp, ext1⟩;have hxn : xs ≠ [] := fun e => by rw [e] at h; have := h.len; simp at this; omega
 obtain ⟨gr, rfl, hgr, hJ⟩ := hcp.row hxn;clear hxn
 go_wp2_with fail
 refine (p_FromInt 1 (by omega) (by omega)).mono ?_;rintro e V2 ⟨s1, A1, n1, c1, rfl, h1, ext2⟩;have ext12 := ext1.trans ext2;have z0 := (b5.ext ext12).cell 0 _ rfl;have f0 := (b5.ext ext12).frozen 0;have y0 := (b6.ext ext12).cell 0 _ rfl;have y1 := (b6.ext ext12).cell 1 _ rfl;have g0 := (b6.ext ext12).frozen 0;have g1 := (b6.ext ext12).frozen 1
 go_upto_region 2 with (fail)
 have F5 := (FinRow.refl (l := [.slice none 0 0]) (b5.ext ext12) (by intro u hu k e; simp at hu; subst hu; cases e)).step 0 (v := .slice (some ⟨gr, 0, none⟩) n cr) (by intro k h; cases h);have F6 := fin_dual (s := s1) (A := A1) (n := n1) (c := c1) (F5.far _ _ _ (by omega) (b6.ext ext12));refine at_world (fun V => Ext w V /\ Box V w.heap.size 22 #[.slice none 0 0] /\ Box V (w.heap.size + 1) 46 #[.slice (some ⟨gr, 0, none⟩) n cr] /\ Box V (w.heap.size + 1 + 1) 25 #[.bool s1, .slice A1 n1 c1] /\ JRow V gr xs S /\ NI V 1 2 s1 A1 n1 c1) ⟨F6.2.2.1 _ (F5.ext _ (extW.trans ext12) (by omega)) (by omega), F6.2.2.2 _ _ _ (by omega) (F5.far _ _ _ (by omega) (b4.ext ext12)), F6.2.2.2 _ _ _ (by omega) F5.box, F6.1, ((hJ.ext ext2).far (fun T cs k => F6.2.2.2 _ _ _ (by omega) (F5.far _ _ _ (by omega) k)) (fun _ _ _ _ _ _ k => F6.2.1 _ _ _ _ _ _ (F5.ni _ _ _ _ _ _ k))).le hL, F6.2.1 _ _ _ _ _ _ (F5.ni _ _ _ _ _ _ h1)⟩ ?_;have hcap := hcp.cap;have htop := hcp.top;have hgr1 : w.heap.size + 1 + 1 < gr := by omega
 clear F5 F6 z0 f0 y0 y1 g0 g1 b4 b5 b6 hcp h1 ext12 ext1 ext2 extW hz hJ hgr;obtain ⟨g4, hg4⟩ : ∃ g, w.heap.size = g := ⟨_, rfl⟩;rw [hg4] at hgr1 ⊢;rintro V3 ⟨ext, b4, b5, b6, hrow, h1⟩;have ha := (Ext.refl V3).alloc (.cells (zeroC N).toArray 27);have z0 := (b4.ext ha).cell 0 _ rfl;have f0 := (b4.ext ha).frozen 0
 go_upto_region 3 with (fail)
 have F4 := (FinRow.refl (l := [.slice none 0 0]) (b4.ext ha) (by intro u hu k e; simp at hu; subst hu; cases e)).step 0 (v := .slice (some ⟨V3.heap.size, 0, none⟩) N N) (by intro k h; cases h);have hrq : RRow (V3.alloc (.cells (zeroC N).toArray 27)) V3.heap.size (List.replicate N none) (S + C + M) := RRow.new V3 N _;have hgq : gr < V3.heap.size := hrow.lt;obtain ⟨gq, hgq'⟩ : ∃ g, V3.heap.size = g := ⟨_, rfl⟩;rw [hgq'] at hgq hrq F4 ⊢;refine at_world (fun V => Ext w V /\ Box V g4 22 #[.slice (some ⟨gq, 0, none⟩) N N] /\ Box V (g4 + 1) 46 #[.slice (some ⟨gr, 0, none⟩) n cr] /\ Box V (g4 + 1 + 1) 25 #[.bool s1, .slice A1 n1 c1] /\ JRow V gr xs S /\ RRow V gq (List.replicate N none) (S + C + M) /\ NI V 1 2 s1 A1 n1 c1) ⟨F4.ext _ (ext.trans ha) (by omega), F4.box, F4.far _ _ _ (by omega) (b5.ext ha), F4.far _ _ _ (by omega) (b6.ext ha), (hrow.ext ha).far (fun _ _ k => F4.far _ _ _ (by omega) k) F4.ni, hrq.far (fun _ _ k => F4.far _ _ _ (by omega) k) F4.ni, F4.ni _ _ _ _ _ _ (h1.ext ha)⟩ ?_;clear F4 hrq ha z0 f0 b4 b5 b6 hrow h1 ext hgq';rintro V4 ⟨ext, b4, b5, b6, hrow, hrq, h1⟩;have hmI : (m : Int) - 1 = (o : Int) := by omega
 have hoI : (o : Int) <= (m : Int) := by omega
 have hod : (o : Int) <= (d : Int) := by have := h'.cap; omega
 have hWo : IntKind.i64.wrap (o : Int) = (o : Int) := IntWalk.i64_in _ (by omega);have hqlt := hrq.lt;refine wp_mono ?_ calm_le;have ES0 := Ext.refl V4;refine wp_region_held_drew (S := Ext V4) (by kernel_rfl) ES0.drew (fun ES => ?_);clear ES0;refine Late.start2 (x := ⟨7, 7, 25, #[Value.bool false, Value.slice none 0 0]⟩) (y := ⟨8, 8, 46, #[Value.slice none 0 0]⟩) (n := 9) ⟨_, rfl, rfl, rfl, fun a w => by go_simp⟩ ⟨_, rfl, rfl, rfl, fun a w => by go_simp⟩ (fun _ _ _ _ _ => ⟨fun h => h, fun h => h⟩) ES rfl (fun hAl hQ => ?_);refine Late.t 0 29 ?v_0 hQ ?y_0 ?_
 case y_0 => intro w' hSw;go_simp;try rfl
 try simp only [zP]
 refine Late.t 2 31 ?v_1 hQ ?y_1 ?_
 case y_1 => intro w' hSw;go_simp;try rfl
 try simp only [zP]
 refine Late.t 3 32 ?v_2 hQ ?y_2 ?_
 case y_2 => intro w' hSw;go_simp;try rfl
 try simp only [zP]
 refine Late.t 4 33 ?v_3 hQ ?y_3 ?_
 case y_3 => intro w' hSw;go_simp;try rfl
 try simp only [zP]
 refine Late.t 5 34 ?v_4 hQ ?y_4 ?_
 case y_4 => intro w' hSw;go_simp;try rfl
 try simp only [zP]
 refine Late.t 6 35 ?v_5 hQ ?y_5 ?_
 case y_5 => intro w' hSw;go_simp;try rfl
 try simp only [zP]
 refine Late.cl (i := 1) rfl hAl hQ (fun w1 e1 E1 K hK => ?_);go_simp
 (go_at_call 121; refine (p_lastN (h'.ext (ext.trans E1)) (by omega) (by omega)).mono ?_; rintro e wk1 ⟨s7, A7, n7, c7, rfl, h7, hx1⟩)
 refine hK.out _ _ hx1 ?_;clear hK K
 try simp only [zP]
 refine Late.finish2 (hAl _ (by simp)) (hAl _ (by simp)) (by decide) (by decide) (by kernel_rfl) (by kernel_rfl) (by kernel_rfl) (fun wz g5 g6 ez Ez lg5 lg6 hne xb1 xb2 => ?_);clear hAl hQ ES;have p10 := xb1.cell 0 (Value.bool false) rfl;have p11 := xb1.cell 1 (Value.slice none 0 0) rfl;have f10 := xb1.frozen 0;have f11 := xb1.frozen 1;have e4 := fin_dual (s := s7) (A := A7) (n := n7) (c := c7) xb1
 try simp only [zP]
 refine wpAnyH_ready (rs := [9]) (by kernel_rfl) (by simp) (AllReadyH.cons rfl (fun K hK => ?_) AllReadyH.nil);go_simp;refine hK.out _ _ (e4.2.2.1 _ Ez lg5) (fun _ => ?_);clear hK K
 try simp only [zP]
 refine any_world (fun U => Ext V4 U /\ Box U g5 25 #[.bool s7, .slice A7 n7 c7] /\ Box U g6 46 #[.slice none 0 0] /\ NI U lead M s7 A7 n7 c7) ⟨e4.2.2.1 _ Ez lg5, e4.1, e4.2.2.2 _ _ _ (Ne.symm hne) xb2, e4.2.1 _ _ _ _ _ _ (by rw [HL.out]; exact h7.ext ez)⟩ ?_;clear e4 p10 p11 f10 f11 xb1 xb2 h7;rintro U ⟨EU, xb1, xb2, h7⟩;have p10 := xb2.cell 0 (Value.slice none 0 0) rfl;have f10 := xb2.frozen 0;have F8 := (FinRow.refl (l := [.slice none 0 0]) xb2 (by intro u hu k e; simp at hu; subst hu; cases e)).step 0 (v := .slice B o d) (by intro k h; cases h);refine wpAnyH_ready (rs := [10]) (by kernel_rfl) (by simp) (AllReadyH.cons rfl (fun K hK => ?_) AllReadyH.nil);go_simp;refine hK.out _ _ (F8.ext _ EU lg6) (fun _ => ?_);clear hK K
 try simp only [zP]
 refine any_world (fun U => Ext V4 U /\ Box U g5 25 #[.bool s7, .slice A7 n7 c7] /\ Box U g6 46 #[.slice B o d] /\ NI U lead M s7 A7 n7 c7) ⟨F8.ext _ EU lg6, F8.far _ _ _ hne xb1, F8.box, F8.ni _ _ _ _ _ _ h7⟩ ?_;clear F8 p10 f10 xb1 xb2 h7 EU;rintro U ⟨EU, b7, b8, h7⟩;refine wpAnyH_done (by kernel_rfl) ?_ _;refine calm_normal ?_;have hlt7 := b7.lt;have hlt8 := b8.lt;replace b4 := b4.ext EU;replace b5 := b5.ext EU;replace b6 := b6.ext EU;replace hrow := hrow.ext EU;replace hrq := hrq.ext EU;replace h1 := h1.ext EU;replace ext := ext.trans EU;clear EU;have z0 := b4.cell 0 _ rfl
 go_wp2_with fail
 refine (p_backR (some ⟨gq, 0, none⟩) N N _).mono ?_;rintro e V ⟨rfl, rfl⟩;obtain ⟨V5, hV5, ext5, bB, hz5⟩ := box1 U 22 #[.slice (some ⟨gq, 0, none⟩) N N];rw [<- hV5];obtain ⟨gB, hgB⟩ : ∃ g, U.heap.size = g := ⟨_, rfl⟩;rw [hgB] at bB hlt7 hlt8
 try rw [hgB]
 clear hV5 hz5 z0;have hinv : DivM w V5 g4 gr gq g5 g6 gB N cr o d s7 A7 n7 c7 lead M B S C (S + C + M) n (List.replicate N none) xs 1 V5 := ⟨KeepsOthers.refl _, ext.trans ext5, Nat.le_of_eq hg4, ⟨hgr1, hgq, by omega, by omega, hne, hlt7, hlt8⟩, b4.ext ext5, hrq.ext ext5, b5.ext ext5, hrow.ext ext5, ⟨s1, A1, n1, c1, b6.ext ext5, (h1.ext ext5).tight' (hD.scale 0 (Nat.zero_le _))⟩, b7.ext ext5, h7.ext ext5, b8.ext ext5, bB⟩;have hVB := bB.lt;have hw5 := hinv.ext.size;clear ext5 b4 b5 b6 hrow hrq h1 bB b7 b8 h7 ext hqlt
 go_wp2_with fail
 refine wp_back (N := N) (gf := 146) (lb := #[.pointer (some ⟨gB, 0, none⟩)]) rfl (enters_of Tryz.func146 (by kernel_rfl) rfl) (Rdy := RdyR gB (some ⟨gq, 0, none⟩) N N) (El := ElR (some ⟨gq, 0, none⟩) N) (fun l J W hJ hY h0 => back_R (by omega) hJ hY h0) (fun k W => DivM w W g4 gr gq g5 g6 gB N cr o d s7 A7 n7 c7 lead M B S C (S + C + M) (n - k) (List.replicate (N - k) none ++ (divS xs os lead N k).2.2.map some) (divS xs os lead N k).1 (divS xs os lead N k).2.1 W) (fun T k _ a' _ => DivA N T k a') (kc_own fun k W W' kc he h => h.kc kc (fun a ha => he a (by omega)) (KeepsOthers.refl _)) (fun _ _ _ => ownFrom_pure _ (fun _ => DivA N _ _ _)) (fun k W hI => hI.rdy (by rw [List.length_append, List.length_replicate, List.length_map, divS_qlen]; omega)) (fun k args W he => by obtain ⟨i, _, b, off, s, A', m, d, t, B', m', d', _, rfl, _⟩ := he; rfl) (by simpa [divS] using hinv) ?assign ?body ?done
 case assign =>
  intro l k args W hI hk he;obtain ⟨i, hik, b, off, s', A', m', d', t', B', m2, d2, -, rfl, -⟩ := he
  gi_wp2
  exact ⟨KeepsFrom.refl _ _, hI, ⟨i, .agg #[.bool s', .slice A' m' d', .bool t', .slice B' m2 d2], by omega, by simp only [List.setIfInBounds_toArray, List.set_cons_succ, List.set_cons_zero]⟩⟩
 case body =>
  rintro l k args a' W hk hI ⟨i, v, hik, rfl⟩;simp only [List.setIfInBounds_toArray, List.set_cons_succ, List.set_cons_zero];have hlo : os.length = o := by rw [HO.out, List.length_take, h'.len]; omega
  have hlR : (divS xs os lead N k).1.length = n := by rw [divS_len, h.len]
  have HS1 := Lib.hid (show divS xs os lead N (k + 1) = (midD (divS xs os lead N k).1 (lead / comD (divS xs os lead N k).1 lead i o) (topD (divS xs os lead N k).1 i o / comD (divS xs os lead N k).1 lead i o) os i (i + o) o, (divS xs os lead N k).2.1 * (lead / comD (divS xs os lead N k).1 lead i o), mkQ (topD (divS xs os lead N k).1 i o) ((divS xs os lead N k).2.1 * lead) :: (divS xs os lead N k).2.2) by
   have e : N - 1 - k = i := by omega
   simp only [divS, e, hlo])
  have HB := Lib.hid (show ∀ a b, a <= i + o -> b <= o -> ∀ z ∈ midD (divS xs os lead N k).1 (lead / comD (divS xs os lead N k).1 lead i o) (topD (divS xs os lead N k).1 i o / comD (divS xs os lead N k).1 lead i o) os i a b, z.natAbs < 4294967296 ^ S from fun a b ha hb => by
   have e : N - 1 - k = i := by omega
   have := hD.row k hk a b (by rw [e, hlo]; exact ha) (by rw [hlo]; exact hb);rw [e, hlo] at this;exact this)
  have HC := Lib.hid (hD.scale (k + 1) (by omega));have HNZ := Lib.hid (show (divS xs os lead N k).2.1 * lead ≠ 0 from Int.mul_ne_zero (divS_nz hl0 k) hl0);have HL1 := Lib.hid hlR;have HLO := Lib.hid hlo;clear hlo;rw [HS1.out] at HC;have HLq := Lib.hid (divS_qlen xs os lead N k)
  have HF := Lib.hid (show (List.replicate (N - k) (none : Option Rat) ++ (divS xs os lead N k).2.2.map some).set i (some (mkQ (topD (divS xs os lead N k).1 i o) ((divS xs os lead N k).2.1 * lead))) = List.replicate (N - (k + 1)) none ++ (divS xs os lead N (k + 1)).2.2.map some by
   rw [HS1.out, <- fill_back hk, show N - 1 - k = i by omega])
  have hiL : i < (List.replicate (N - k) (none : Option Rat) ++ (divS xs os lead N k).2.2.map some).length := by rw [List.length_append, List.length_replicate]; omega
  have HTop := Lib.hid (show topD (divS xs os lead N k).1 i o = cfI (divS xs os lead N k).1 (i + o) from rfl);have HZ := Lib.hid (comD_ne (R := (divS xs os lead N k).1) (i := i) (o := o) hl0);have HD1 := Lib.hid (comD_top (R := (divS xs os lead N k).1) (lead := lead) (i := i) (o := o));have HD2 := Lib.hid (comD_lead (R := (divS xs os lead N k).1) (lead := lead) (i := i) (o := o));have HCom := Lib.hid (show comD (divS xs os lead N k).1 lead i o = ((Nat.gcd (topD (divS xs os lead N k).1 i o).natAbs lead.natAbs : Nat) : Int) from rfl);generalize (List.replicate (N - k) (none : Option Rat) ++ (divS xs os lead N k).2.2.map some) = l0 at *;generalize (divS xs os lead N k).2.2 = qs0 at *;generalize (divS xs os lead N k).2.1 = sc at *;generalize comD (divS xs os lead N k).1 lead i o = com at *;generalize topD (divS xs os lead N k).1 i o = top at *;generalize (divS xs os lead N k).1 = R at *;obtain ⟨j, hj⟩ : ∃ j, i + o = j := ⟨_, rfl⟩;have hjn : j + k + 1 = n := by omega
  have HJ := Lib.hid hj;rw [hj] at HB HTop HS1;have hjk : j < n - k := by omega
  have hIk : (i : Int) + (o : Int) = (j : Int) := by omega
  have hWk : IntKind.i64.wrap (j : Int) = (j : Int) := IntWalk.i64_in _ (by omega);have hjI : (j : Int) < ((n - k : Nat) : Int) := by omega
  have hiN : (i : Int) < (N : Int) := by omega
  have hbB := hI.bB;have hnk : n - k <= cr := by omega
  have hjc : (j : Int) <= (cr : Int) := by omega
  clear hj hjn;have hjR : j < R.length := by rw [HL1.out]; omega
  obtain ⟨s0, A0, n0, c0, e0, e1, htop⟩ := hI.rr.get hjR;have htv := cfI_lt hjR;rw [<- htv, <- HTop.out] at htop;clear htv;have ha := (Ext.refl W).alloc (.cells #[.bool s0, .slice A0 n0 c0] 25);have hIa := hI.next ha;have x0 := hI.b5.cell 0 _ rfl;have x1 := hI.b8.cell 0 _ rfl;have y0 := hIa.b5.cell 0 _ rfl;have y1 := hIa.b8.cell 0 _ rfl;have y2 := hIa.b5.frozen 0
  gi_wp2_with fail
  obtain ⟨hIb, lfb⟩ := hIa.rest j;have hb10 := Box.new W 25 #[.bool s0, .slice A0 n0 c0];have hlt4 := hI.b4.lt;have hlt5 := hI.b5.lt;have hltB := hI.bB.lt;have hord := hI.ord;obtain ⟨g10, hg10⟩ : ∃ g, W.heap.size = g := ⟨_, rfl⟩;rw [hg10] at hb10 hltB ⊢;refine at_worldIn (fun V => DivM w W g4 gr gq g5 g6 gB N cr o d s7 A7 n7 c7 lead M B S C (S + C + M) j l0 R sc V /\ Box V g10 25 #[.bool s0, .slice A0 n0 c0] /\ NI V top S s0 A0 n0 c0) ⟨hIb, lfb.far _ _ _ (by omega) hb10, lfb.ni _ _ _ _ _ _ (htop.ext ha)⟩ ?_;clear hIb lfb hb10 ha hIa x0 x1 y0 y1 y2 htop e0 e1 hI;rintro V ⟨hI, b10, htop⟩;obtain ⟨ss, As, ns, cs, b6, hsc⟩ := hI.b6;refine wpL.startIn 11 (by kernel_rfl) (by kernel_rfl) (fun ⟨_, _, h⟩ => h) (fun _ _ _ _ _ => ⟨fun h => h, fun h => h⟩) (fun hQ ES => ?_);refine wpL.tB [10,11] 0 54 ?v_6 hQ ?y_6 ES ?_
  case y_6 => intro w' hSw;have j0 := (hI.next hSw).b4.cell 0 _ rfl;have j1 := (b10.ext hSw).c2;have j3 := (b6.ext hSw).c2;have j5 := (hI.next hSw).b7.cell 0 _ rfl;have j6 := (hI.next hSw).b7.cell 1 _ rfl;go_simp;try rfl
  try simp only [zP]
  refine wpL.tB [10,11] 1 55 ?v_7 hQ ?y_7 ES ?_
  case y_7 => intro w' hSw;have j0 := (hI.next hSw).b4.cell 0 _ rfl;have j5 := (hI.next hSw).b7.cell 0 _ rfl;have j6 := (hI.next hSw).b7.cell 1 _ rfl;go_simp;try rfl
  try simp only [zP]
  refine wpL.tB [6,7,8,9,11] 2 56 ?v_8 hQ ?y_8 ES ?_
  case y_8 => intro w' hSw;have j0 := (hI.next hSw).b4.cell 0 _ rfl;have j1 := (b10.ext hSw).c2;have j3 := (b6.ext hSw).c2;have j5 := (hI.next hSw).b7.cell 0 _ rfl;have j6 := (hI.next hSw).b7.cell 1 _ rfl;go_simp;try rfl
  try simp only [zP]
  refine wpL.tB [5,6,7,8,9,11] 3 57 ?v_9 hQ ?y_9 ES ?_
  case y_9 => intro w' hSw;have j0 := (hI.next hSw).b4.cell 0 _ rfl;have j1 := (b10.ext hSw).c2;have j3 := (b6.ext hSw).c2;have j5 := (hI.next hSw).b7.cell 0 _ rfl;have j6 := (hI.next hSw).b7.cell 1 _ rfl;go_simp;try rfl
  try simp only [zP]
  refine wpL.tB [5,6,7,8,9,11] 4 58 ?v_a hQ ?y_a ES ?_
  case y_a => intro w' hSw;have j0 := (hI.next hSw).b4.cell 0 _ rfl;have j1 := (b10.ext hSw).c2;have j3 := (b6.ext hSw).c2;have j5 := (hI.next hSw).b7.cell 0 _ rfl;have j6 := (hI.next hSw).b7.cell 1 _ rfl;go_simp;try rfl
  try simp only [zP]
  refine wpL.cl (i := 5) rfl (fun K hK => ?_);go_simp
  (go_at_call 64; refine (p_Mul (hsc.ext ES) (hI.n7.ext ES) (by omega) (by omega) (by omega)).mono ?_; rintro e wa ⟨s5, A5, n5, c5, rfl, h5, hx0⟩; have E5 := Ext.trans ES hx0)
  refine hK.out _ _ E5 ?_;clear hK K
  try simp only [zP]
  refine wpL.cl (i := 6) rfl (fun K hK => ?_);go_simp
  (go_at_call 78; refine (p_Make_nz (htop.ext E5) h5 (by omega) (by omega) HNZ.out (hT.ext (hI.ext.trans E5))).mono ?_; rintro e wb ⟨s9, A9, n9, c9, t9, B9, m9, d9, rfl, h8, hx1⟩; have E6 := Ext.trans E5 hx1)
  refine hK.out _ _ E6 ?_;clear hK K
  try simp only [zP]
  refine wpL.tB [8,9,11] 7 53 ?v_b hQ ?y_b E6 ?_
  case y_b => intro w' hSw;have j0 := (hI.next hSw).b4.cell 0 _ rfl;have j5 := (hI.next hSw).b7.cell 0 _ rfl;have j6 := (hI.next hSw).b7.cell 1 _ rfl;go_simp;try rfl
  try simp only [zP]
  refine wpL.tB [11] 8 61 ?v_c hQ ?y_c E6 ?_
  case y_c => intro w' hSw;have j0 := (hI.next hSw).b4.cell 0 _ rfl;have j5 := (hI.next hSw).b7.cell 0 _ rfl;have j6 := (hI.next hSw).b7.cell 1 _ rfl;go_simp;try rfl
  try simp only [zP]
  refine wpL.takeT (i := 9) (d := some 62) (v := ?v_d) rfl rfl (by kernel_rfl) (by kernel_rfl) (by kernel_rfl) (by kernel_rfl) hQ (Or.inl ⟨by rfl, ?y_d⟩) (Or.inr E6) ?r_d
  case y_d => intro w' hSw;go_simp;try rfl
  try simp only [zP]
  refine wpL.tB [11] 10 63 ?v_e hQ ?y_e E6 ?_
  case y_e => intro w' hSw;have j0 := (hI.next hSw).b4.cell 0 _ rfl;have j5 := (hI.next hSw).b7.cell 0 _ rfl;have j6 := (hI.next hSw).b7.cell 1 _ rfl;go_simp;try rfl
  try simp only [zP]
  have hI6 := hI.next E6;obtain ⟨sw, Aw, nw, cw, tw, Bw, mw, dw, q0, q1, q2, q3, _⟩ := hI6.rq.get hiL;have f0 := hI6.rq.frozen (i * 4);have f1 := hI6.rq.frozen (i * 4 + 1);have f2 := hI6.rq.frozen (i * 4 + 2);have f3 := hI6.rq.frozen (i * 4 + 3);refine wpL.tl (i := 11) rfl (fun K hK => ?_);go_simp;refine hK.out _ _ ?_;clear hK K
  try simp only [zP]
  refine wpL.done (by kernel_rfl) ?_ _;clear hQ;have h8' := h8.le (show max S (C + M) <= S + C + M by omega);have PP := hI6.quot hiL h8';refine at_exit (fun V2 => DivM w W g4 gr gq g5 g6 gB N cr o d s7 A7 n7 c7 lead M B S C (S + C + M) j (l0.set i (some (mkQ top (sc * lead)))) R sc V2 /\ Box V2 g10 25 #[.bool s0, .slice A0 n0 c0] /\ NI V2 top S s0 A0 n0 c0) ⟨PP.1, PP.2.far _ _ _ (by omega) (b10.ext E6), PP.2.ni _ _ _ _ _ _ (htop.ext E6)⟩ ?_;clear PP h8 h8' hI6 q0 q1 q2 q3 f0 f1 f2 f3 hI b10 htop b6 hsc;rintro V ⟨hI, b10, htop⟩;rw [HF.out] at hI;generalize hl1 : (List.replicate (N - (k + 1)) (none : Option Rat) ++ (divS xs os lead N (k + 1)).2.2.map some) = l1 at *;have HL1b := Lib.hid hl1;clear hl1;have x0 := b10.cell 0 _ rfl;have x1 := b10.cell 1 _ rfl;have y0 := hI.b7.cell 0 _ rfl;have y1 := hI.b7.cell 1 _ rfl
  gi_wp2_with fail
  refine ⟨trivial, rfl, (CallsIn.inRound _ (callsIn_wide.2 (p_GCD htop hI.n7 (by omega) (by omega) (hT.ext hI.ext)))).mono ?_⟩;rintro e V1 ⟨s11, A11, n11, c11, rfl, hcom, hx1⟩;clear x0 x1 y0 y1;rw [<- HCom.out] at hcom;obtain ⟨g11, hg11⟩ : ∃ g, V1.heap.size = g := ⟨_, rfl⟩;have hlt10 := (b10.ext hx1).lt;obtain ⟨V2, hV2, ext2, b11, hz2⟩ := box1 V1 25 #[.bool s11, .slice A11 n11 c11];have hx12 := hx1.trans ext2;replace hI := hI.next hx12;replace b10 := b10.ext hx12;replace htop := htop.ext hx12;replace hcom := hcom.ext ext2;have y0 := hI.b7.cell 0 _ rfl;have y1 := hI.b7.cell 1 _ rfl;have x0 := b11.cell 0 _ rfl;have x1 := b11.cell 1 _ rfl;rw [hg11] at b11 hlt10 x0 x1;rw [hV2] at y0 y1 x0 x1
  try rw [hg11]
  gi_wp2_with fail
  rw [<- hV2];refine ⟨trivial, rfl, (CallsIn.inRound _ (callsIn_wide.2 (p_exact hI.n7 hcom (by omega) (by omega) HZ.out HD2.out))).mono ?_⟩;rintro e V1' ⟨s12, A12, n12, c12, rfl, hfac, hx3⟩;clear x0 x1 y0 y1 hV2 hz2 hg11 ext2 hx12;obtain ⟨g12, hg12⟩ : ∃ g, V1'.heap.size = g := ⟨_, rfl⟩;have hlt11 := (b11.ext hx3).lt;obtain ⟨V3', hV3', ext2, b12, hz2⟩ := box1 V1' 25 #[.bool s12, .slice A12 n12 c12];have hx12 := hx3.trans ext2;replace hI := hI.next hx12;replace b10 := b10.ext hx12;replace htop := htop.ext hx12;replace b11 := b11.ext hx12;replace hcom := hcom.ext hx12;replace hfac := hfac.ext ext2;obtain ⟨ss, As, ns, cs, b6, hsc⟩ := hI.b6;have y0 := b6.cell 0 _ rfl;have y1 := b6.cell 1 _ rfl;have x0 := b12.cell 0 _ rfl;have x1 := b12.cell 1 _ rfl;rw [hg12] at b12 hlt11 x0 x1;rw [hV3'] at y0 y1 x0 x1
  try rw [hg12]
  gi_wp2_with fail
  rw [<- hV3'];refine ⟨trivial, rfl, (CallsIn.inRound _ (callsIn_wide.2 (p_Mul hsc hfac (by omega) (by omega) (by omega)))).mono ?_⟩;rintro e V6 ⟨s13, A13, n13, c13, rfl, hs2, hx4⟩;clear x0 x1 y0 y1 hV3' hz2 hg12 ext2 hx12 hx3 hx1;replace hI := hI.next hx4;replace b10 := b10.ext hx4;replace htop := htop.ext hx4;replace b11 := b11.ext hx4;replace hcom := hcom.ext hx4;replace b12 := b12.ext hx4;replace hfac := hfac.ext hx4;obtain ⟨ss, As, ns, cs, b6, hsc⟩ := hI.b6;have z0 := b6.cell 0 _ rfl;have z1 := b6.cell 1 _ rfl;have f0 := b6.frozen 0;have f1 := b6.frozen 1;have PP := hI.scale (hs2.tight' HC.out);have y0 := PP.1.b5.cell 0 _ rfl
  gi_wp2_with fail
  obtain ⟨fac, hfe⟩ : ∃ fac, lead / com = fac := ⟨_, rfl⟩;rw [hfe] at hfac HB HS1 PP;refine at_worldIn (fun V => DivM w W g4 gr gq g5 g6 gB N cr o d s7 A7 n7 c7 lead M B S C (S + C + M) j l1 R (sc * fac) V /\ Box V g10 25 #[.bool s0, .slice A0 n0 c0] /\ NI V top S s0 A0 n0 c0 /\ Box V g11 25 #[.bool s11, .slice A11 n11 c11] /\ NI V com (max S M) s11 A11 n11 c11 /\ Box V g12 25 #[.bool s12, .slice A12 n12 c12] /\ NI V fac M s12 A12 n12 c12) ⟨PP.1, PP.2.far _ _ _ (by omega) b10, PP.2.ni _ _ _ _ _ _ htop, PP.2.far _ _ _ (by omega) b11, PP.2.ni _ _ _ _ _ _ hcom, PP.2.far _ _ _ (by omega) b12, PP.2.ni _ _ _ _ _ _ hfac⟩ ?_;clear PP z0 z1 f0 f1 y0 hI b10 htop b11 hcom b12 hfac b6 hsc hs2 hx4;rintro V ⟨hI, b10, htop, b11, hcom, b12, hfac⟩;obtain ⟨mult, hme⟩ : ∃ mult, top / com = mult := ⟨_, rfl⟩;rw [hme] at HB HS1;have HM := Lib.hid hme;clear hme;have hmz := midD_zero R fac mult os i;rw [<- hmz] at hI;clear hmz;have HLm := Lib.hid (fun a b => show (midD R fac mult os i a b).length = n by rw [midD_len]; exact HL1.out);have hjc2 : (j : Int) <= (cr : Int) := hjc
  gi_loopw [75] (fun v wr => ∃ p : Nat, p <= j /\ v = .int .i64 (p : Int) /\ (fun V => DivM w W g4 gr gq g5 g6 gB N cr o d s7 A7 n7 c7 lead M B S C (S + C + M) j l1 (midD R fac mult os i p 0) (sc * fac) V /\ Box V g10 25 #[.bool s0, .slice A0 n0 c0] /\ NI V top S s0 A0 n0 c0 /\ Box V g11 25 #[.bool s11, .slice A11 n11 c11] /\ NI V com (max S M) s11 A11 n11 c11 /\ Box V g12 25 #[.bool s12, .slice A12 n12 c12] /\ NI V fac M s12 A12 n12 c12) wr) (fun v _ => j - (intOf v).toNat)
  case atStart => exact ⟨0, Nat.zero_le _, rfl, hI, b10, htop, b11, hcom, b12, hfac⟩
  case round =>
   clear hI b10 htop b11 hcom b12 hfac;obtain ⟨p, hp, rfl, hI, b10, htop, b11, hcom, b12, hfac⟩ := hrel
   by_cases hlt : p < j
   ·have hpI : (p : Int) < (j : Int) := by omega
    have hpL : p < (midD R fac mult os i p 0).length := by rw [HLm.out]; omega
    have hpL2 : p < (midD R fac mult os i (p + 1) 0).length := by rw [HLm.out]; omega
    have HST := Lib.hid (midD_mul R fac mult os i hpL)
    have HSV := Lib.hid (show (midD R fac mult os i p 0)[p] * fac = (midD R fac mult os i (p + 1) 0)[p] by
     have := congrArg (fun l => l.getD p 0) HST.out
     simpa [hpL, hpL2] using this)
    have HBV := Lib.hid (HB.out (p + 1) 0 (by omega) (Nat.zero_le _) _ (List.getElem_mem hpL2));obtain ⟨sp, Ap, np, cp, z0, z1, hcp⟩ := hI.rr.get hpL;obtain ⟨g14, hg14⟩ : ∃ g, wr.heap.size = g := ⟨_, rfl⟩;have hlt12 := b12.lt;have hltB := hI.bB.lt;have hord := hI.ord;obtain ⟨V5, hV5, ext5, b14, hz5⟩ := box1 wr 25 #[.bool sp, .slice Ap np cp];rw [hg14] at b14 hlt12 hltB
    gi_wp2_with fail
    rw [<- hV5]
    try rw [hg14]
    clear hV5 hz5 z0 z1 hg14;replace hI := hI.next ext5;replace b10 := b10.ext ext5;replace htop := htop.ext ext5;replace b11 := b11.ext ext5;replace hcom := hcom.ext ext5;replace b12 := b12.ext ext5;replace hfac := hfac.ext ext5;replace hcp := hcp.ext ext5;clear ext5;refine wpL.startIn 6 (by kernel_rfl) (by kernel_rfl) (fun ⟨_, _, h⟩ => h) (fun _ _ _ _ _ => ⟨fun h => h, fun h => h⟩) (fun hQ ES => ?_);refine wpL.tB [5,6] 0 80 ?v_f hQ ?y_f ES ?_
    case y_f => intro w' hSw;have j0 := (hI.next hSw).b5.cell 0 _ rfl;have j1 := (b14.ext hSw).c2;have j3 := (b12.ext hSw).c2;go_simp;try rfl
    try simp only [zP]
    refine wpL.tB [5,6] 1 81 ?v_g hQ ?y_g ES ?_
    case y_g => intro w' hSw;have j0 := (hI.next hSw).b5.cell 0 _ rfl;go_simp;try rfl
    try simp only [zP]
    refine wpL.tB [4,6] 2 82 ?v_h hQ ?y_h ES ?_
    case y_h => intro w' hSw;have j0 := (hI.next hSw).b5.cell 0 _ rfl;have j1 := (b14.ext hSw).c2;have j3 := (b12.ext hSw).c2;go_simp;try rfl
    try simp only [zP]
    refine wpL.tB [4,6] 3 83 ?v_i hQ ?y_i ES ?_
    case y_i => intro w' hSw;have j0 := (hI.next hSw).b5.cell 0 _ rfl;have j1 := (b14.ext hSw).c2;have j3 := (b12.ext hSw).c2;go_simp;try rfl
    try simp only [zP]
    refine wpL.cl (i := 4) rfl (fun K hK => ?_);go_simp
    (go_at_call 64; refine (p_Mul (hcp.ext ES) (hfac.ext ES) (by omega) (by omega) (by omega)).mono ?_; rintro e wa ⟨s5, A5, n5, c5, rfl, h5, hx0⟩; have E5 := Ext.trans ES hx0)
    refine hK.out _ _ E5 ?_;clear hK K
    try simp only [zP]
    refine wpL.tB [6] 5 85 ?v_j hQ ?y_j E5 ?_
    case y_j => intro w' hSw;have j0 := (hI.next hSw).b5.cell 0 _ rfl;go_simp;try rfl
    try simp only [zP]
    have hI6 := hI.next E5;obtain ⟨sw, Aw, nw, cw, q0, q1, _⟩ := hI6.rr.get hpL;have f0 := hI6.rr.frozen (p * 2);have f1 := hI6.rr.frozen (p * 2 + 1);refine wpL.tl (i := 6) rfl (fun K hK => ?_);go_simp;refine hK.out _ _ ?_;clear hK K
    try simp only [zP]
    refine wpL.done (by kernel_rfl) ?_ _;clear hQ;rw [HSV.out] at h5;have PP := hI6.row hpL (h5.tight' HBV.out);rw [<- HSV.out, HST.out] at PP
    gi_wp2_with fail
    go_roundw
    case rel => exact ⟨p + 1, by omega, by go_num, PP.1, PP.2.far _ _ _ (by omega) (b10.ext E5), PP.2.ni _ _ _ _ _ _ (htop.ext E5), PP.2.far _ _ _ (by omega) (b11.ext E5), PP.2.ni _ _ _ _ _ _ (hcom.ext E5), PP.2.far _ _ _ (by omega) (b12.ext E5), PP.2.ni _ _ _ _ _ _ (hfac.ext E5)⟩
    case measure => simp [intOf]; omega
   ·have hpj : p = j := by omega
    subst hpj;have hpI : (p : Int) <= (p : Int) := Int.le_refl _;have x0 := b10.cell 0 _ rfl;have x1 := b10.cell 1 _ rfl;have y0 := b11.cell 0 _ rfl;have y1 := b11.cell 1 _ rfl
    gi_wp2_with fail
    refine ⟨trivial, rfl, (CallsIn.inRound _ (callsIn_wide.2 (p_exact htop hcom (by omega) (by omega) HZ.out HD1.out))).mono ?_⟩;rintro e V1 ⟨s15, A15, n15, c15, rfl, hmul, hx1⟩;clear x0 x1 y0 y1;rw [HM.out] at hmul;obtain ⟨g15, hg15⟩ : ∃ g, V1.heap.size = g := ⟨_, rfl⟩;have hltB := (hI.next hx1).bB.lt;have hord := hI.ord;obtain ⟨V2, hV2, ext2, b15, hz2⟩ := box1 V1 25 #[.bool s15, .slice A15 n15 c15];replace hI := hI.next (hx1.trans ext2);replace hmul := hmul.ext ext2;have y0 := hI.b8.cell 0 _ rfl;rw [hg15] at b15 hltB;rw [hV2] at y0
    try rw [hg15]
    gi_wp2_with fail
    rw [<- hV2];clear hV2 hz2 y0 ext2 hx1 hg15 b10 htop b11 hcom b12 hfac;have hosl := HLO.out
    gi_loopw [92] (fun v wr => ∃ q : Nat, q <= o /\ v = .int .i64 (q : Int) /\ (fun V => DivM w W g4 gr gq g5 g6 gB N cr o d s7 A7 n7 c7 lead M B S C (S + C + M) p l1 (midD R fac mult os i p q) (sc * fac) V /\ Box V g15 25 #[.bool s15, .slice A15 n15 c15] /\ NI V mult S s15 A15 n15 c15) wr) (fun v _ => o - (intOf v).toNat)
    case atStart => exact ⟨0, Nat.zero_le _, rfl, hI, b15, hmul⟩
    case round =>
     clear hI b15 hmul;obtain ⟨q, hq, rfl, hI, b15, hmul⟩ := hrel
     by_cases hlt2 : q < o
     ·have hqI : (q : Int) < (o : Int) := by omega
      obtain ⟨r, hr⟩ : ∃ r, r = i + q := ⟨_, rfl⟩;have hrI : (r : Int) < (p : Int) := by have := HJ.out; omega
      have hiq : (i : Int) + (q : Int) = (r : Int) := by omega
      have hWr : IntKind.i64.wrap (r : Int) = (r : Int) := IntWalk.i64_in _ (by omega);have hrL : r < (midD R fac mult os i p q).length := by rw [HLm.out]; have := HJ.out; omega
      have hrL2 : r < (midD R fac mult os i p (q + 1)).length := by rw [HLm.out]; have := HJ.out; omega
      have hqo : q < os.length := by omega
      have hqy : q < ys.length := by rw [h'.len]; omega
      have HST := Lib.hid (show (midD R fac mult os i p q).set r ((midD R fac mult os i p q)[r] - os[q] * mult) = midD R fac mult os i p (q + 1) by
       subst hr;rw [<- cfI_lt hqo];exact midD_sub R fac mult os i hrL)
      have HSV := Lib.hid (show (midD R fac mult os i p q)[r] - os[q] * mult = (midD R fac mult os i p (q + 1))[r] by
       have := congrArg (fun l => l.getD r 0) HST.out
       simpa [hrL, hrL2] using this)
      have HBV := Lib.hid (HB.out p (q + 1) (by have := HJ.out; omega) (by omega) _ (List.getElem_mem hrL2));have HOQ := Lib.hid (show os[q] = ys[q] by simp [HO.out]);obtain ⟨b, off, rfl, hyr⟩ := h'.at_ (fun e => by rw [e] at hqy; exact absurd hqy (Nat.not_lt_zero _));obtain ⟨sq, Aq, nq, cq, e0, e1, hoq⟩ := (hyr.ext hI.ext).at_ q hqy;rw [<- HOQ.out] at hoq;have k0 : wr.cell? ⟨b, off + q * 2, none⟩ = some (.bool sq) := by rw [Nat.mul_comm]; exact e0
      have k1 : wr.cell? ⟨b, off + q * 2 + 1, none⟩ = some (.slice Aq nq cq) := by rw [Nat.mul_comm]; exact e1
      obtain ⟨sc0, Ac0, nc0, cc0, z0, z1, hcr⟩ := hI.rr.get hrL;have HR := Lib.hid hr;clear hr e0 e1;obtain ⟨g17, hg17⟩ : ∃ g, wr.heap.size = g := ⟨_, rfl⟩;have hlt15 := b15.lt;have hltB := hI.bB.lt;obtain ⟨V5, hV5, ext5, b17, hz5⟩ := box1 wr 25 #[.bool sq, .slice Aq nq cq];rw [hg17] at b17 hlt15 hltB
      gi_wp2_with fail
      rw [<- hV5]
      try rw [hg17]
      clear hV5 hz5 k0 k1 hg17;replace hI := hI.next ext5;replace b15 := b15.ext ext5;replace hmul := hmul.ext ext5;replace hoq := hoq.ext ext5;replace hcr := hcr.ext ext5;replace z0 := ext5.cellv z0;replace z1 := ext5.cellv z1;clear ext5;refine wpL.startIn 15 (by kernel_rfl) (by kernel_rfl) (fun ⟨_, _, h⟩ => h) (fun _ _ _ _ _ => ⟨fun h => h, fun h => h⟩) (fun hQ ES => ?_);refine wpL.tB [14,15] 0 97 ?v_k hQ ?y_k ES ?_
      case y_k => intro w' hSw;have j0 := (hI.next hSw).b5.cell 0 _ rfl;have j1 := (b17.ext hSw).c2;have j3 := (b15.ext hSw).c2;have l0 := hSw.cellv z0;have l1 := hSw.cellv z1;go_simp;try rfl
      try simp only [zP]
      refine wpL.tB [3,14,15] 1 98 ?v_l hQ ?y_l ES ?_
      case y_l => intro w' hSw;have j0 := (hI.next hSw).b5.cell 0 _ rfl;have l0 := hSw.cellv z0;have l1 := hSw.cellv z1;go_simp;try rfl
      try simp only [zP]
      refine wpL.tB [3,14,15] 2 99 ?v_m hQ ?y_m ES ?_
      case y_m => intro w' hSw;have j0 := (hI.next hSw).b5.cell 0 _ rfl;have l0 := hSw.cellv z0;have l1 := hSw.cellv z1;go_simp;try rfl
      try simp only [zP]
      refine wpL.tB [14,15] 3 100 ?v_n hQ ?y_n ES ?_
      case y_n => intro w' hSw;have j0 := (hI.next hSw).b5.cell 0 _ rfl;have l0 := hSw.cellv z0;have l1 := hSw.cellv z1;go_simp;try rfl
      try simp only [zP]
      refine wpL.tB [8,9,13,15] 4 101 ?v_o hQ ?y_o ES ?_
      case y_o => intro w' hSw;have j0 := (hI.next hSw).b5.cell 0 _ rfl;have j1 := (b17.ext hSw).c2;have j3 := (b15.ext hSw).c2;have l0 := hSw.cellv z0;have l1 := hSw.cellv z1;go_simp;try rfl
      try simp only [zP]
      refine wpL.tB [7,8,9,13,15] 5 102 ?v_p hQ ?y_p ES ?_
      case y_p => intro w' hSw;have j0 := (hI.next hSw).b5.cell 0 _ rfl;have l0 := hSw.cellv z0;have l1 := hSw.cellv z1;go_simp;try rfl
      try simp only [zP]
      refine wpL.tB [7,8,9,13,15] 6 103 ?v_q hQ ?y_q ES ?_
      case y_q => intro w' hSw;have j0 := (hI.next hSw).b5.cell 0 _ rfl;have l0 := hSw.cellv z0;have l1 := hSw.cellv z1;go_simp;try rfl
      try simp only [zP]
      refine wpL.tB [8,9,13,15] 7 104 ?v_r hQ ?y_r ES ?_
      case y_r => intro w' hSw;have j0 := (hI.next hSw).b5.cell 0 _ rfl;have l0 := hSw.cellv z0;have l1 := hSw.cellv z1;go_simp;try rfl
      try simp only [zP]
      refine wpL.tB [9,13,15] 8 105 ?v_s hQ ?y_s ES ?_
      case y_s => intro w' hSw;have j0 := (hI.next hSw).b5.cell 0 _ rfl;have l0 := hSw.cellv z0;have l1 := hSw.cellv z1;go_simp;try rfl
      try simp only [zP]
      refine wpL.tB [13,15] 9 106 ?v_t hQ ?y_t ES ?_
      case y_t => intro w' hSw;have j0 := (hI.next hSw).b5.cell 0 _ rfl;have j1 := (b17.ext hSw).c2;have j3 := (b15.ext hSw).c2;have l0 := hSw.cellv z0;have l1 := hSw.cellv z1;go_simp;try rfl
      try simp only [zP]
      refine wpL.tB [12,13,15] 10 107 ?v_u hQ ?y_u ES ?_
      case y_u => intro w' hSw;have j0 := (hI.next hSw).b5.cell 0 _ rfl;have j1 := (b17.ext hSw).c2;have j3 := (b15.ext hSw).c2;have l0 := hSw.cellv z0;have l1 := hSw.cellv z1;go_simp;try rfl
      try simp only [zP]
      refine wpL.tB [12,13,15] 11 108 ?v_v hQ ?y_v ES ?_
      case y_v => intro w' hSw;have j0 := (hI.next hSw).b5.cell 0 _ rfl;have j1 := (b17.ext hSw).c2;have j3 := (b15.ext hSw).c2;have l0 := hSw.cellv z0;have l1 := hSw.cellv z1;go_simp;try rfl
      try simp only [zP]
      refine wpL.cl (i := 12) rfl (fun K hK => ?_);go_simp
      (go_at_call 64; refine (p_Mul (hoq.ext ES) (hmul.ext ES) (by omega) (by omega) (by omega)).mono ?_; rintro e wa ⟨s5, A5, n5, c5, rfl, h5, hx0⟩; have E5 := Ext.trans ES hx0)
      refine hK.out _ _ E5 ?_;clear hK K
      try simp only [zP]
      refine wpL.cl (i := 13) rfl (fun K hK => ?_);go_simp
      (go_at_call 123; refine (p_Sub (hcr.ext E5) h5 (by omega) (by omega)).mono ?_; rintro e wb ⟨s6, A6, n6, c6, rfl, h6, hx1⟩; have E6 := Ext.trans E5 hx1)
      refine hK.out _ _ E6 ?_;clear hK K
      try simp only [zP]
      refine wpL.tB [15] 14 111 ?v_w hQ ?y_w E6 ?_
      case y_w => intro w' hSw;have j0 := (hI.next hSw).b5.cell 0 _ rfl;have l0 := hSw.cellv z0;have l1 := hSw.cellv z1;go_simp;try rfl
      try simp only [zP]
      have hI6 := hI.next E6;obtain ⟨sw, Aw, nw, cw, q0, q1, _⟩ := hI6.rr.get hrL;have f0 := hI6.rr.frozen (r * 2);have f1 := hI6.rr.frozen (r * 2 + 1);refine wpL.tl (i := 15) rfl (fun K hK => ?_);go_simp;refine hK.out _ _ ?_;clear hK K
      try simp only [zP]
      refine wpL.done (by kernel_rfl) ?_ _;clear hQ;rw [HSV.out] at h6;have PP := hI6.row hrL (h6.tight' HBV.out);rw [<- HSV.out, HST.out] at PP
      gi_wp2_with fail
      go_roundw
      case rel => exact ⟨q + 1, by omega, by go_num, PP.1, PP.2.far _ _ _ (by omega) (b15.ext E6), PP.2.ni _ _ _ _ _ _ (hmul.ext E6)⟩
      case measure => simp [intOf]; omega
     ·have hqo : q = o := by omega
      subst hqo;have hqI : (q : Int) <= (q : Int) := Int.le_refl _
      gi_wp2_with fail
      have hnk2 : n - (k + 1) = p := by omega
      have e1 : (divS xs os lead N (k + 1)).1 = midD R fac mult os i p q := by rw [HS1.out]
      have e2 : (divS xs os lead N (k + 1)).2.1 = sc * fac := by rw [HS1.out]
      refine ⟨hI.ko.from _, ?_⟩;rw [HL1b.out, hnk2, e1, e2];exact hI.at_
 case done =>
  rintro D W hD hI hd;have hlR : (divS xs os lead N N).1.length = n := by rw [divS_len, h.len]
  have hql := divS_qlen xs os lead N N;rw [Nat.sub_self, List.replicate_zero, List.nil_append] at hI;have HZS := Lib.hid (show trimI ((divS xs os lead N N).1.take (n - N)) = trimI ((divS xs os lead N N).1.take (n - N)) from rfl);generalize hzs : trimI ((divS xs os lead N N).1.take (n - N)) = zs at *;generalize (divS xs os lead N N).2.1 = sc at *;generalize (divS xs os lead N N).2.2 = q at *;generalize (divS xs os lead N N).1 = R at *;obtain ⟨nr, hnr⟩ : ∃ nr, n - N = nr := ⟨_, rfl⟩;rw [hnr] at hI hzs;have hnr1 : nr <= n := by omega
  have hzl := trimI_len (R.take nr);have hzt := trimI_take (R.take nr);rw [hzs] at hzl hzt;have hrp := fun V (hI : DivM w W g4 gr gq g5 g6 gB N cr o d s7 A7 n7 c7 lead M B S C (S + C + M) nr (q.map some) R sc V) => hI.restpol (by omega) (by omega) htop
  generalize hl : q.map some = l at *;have hql2 : q.length = N := hql
  have hzz : R.take zs.length = zs := by
   have hm : min zs.length nr = zs.length := Nat.min_eq_left (Nat.le_trans hzl (by rw [List.length_take]; omega));rw [List.take_take, hm] at hzt;exact hzt
  have hzR : zs.length <= R.length := Nat.le_trans hzl (by rw [List.length_take]; omega);have HZL := Lib.hid hzs;have HZZ := Lib.hid hzz;have HQ := Lib.hid hl;have HTL := Lib.hid htop;have hnrR : nr <= R.length := by omega
  have hnrc : nr <= cr := by omega
  have hzc : zs.length <= cr := by rw [List.length_take] at hzl; omega
  clear hzz hzt hzs hl hrp
  go_wp2_with fail
  refine wp_mono ?_ calm_le;refine wpL.st 4 (fun hQ ES => ?_);refine wpL.tB [4] 0 113 ?v_x hQ ?y_x ES ?_
  case y_x => intro w' hSw;have j0 := (hI.next hSw).b4.cell 0 _ rfl;have j1 := (hI.next hSw).b5.cell 0 _ rfl;go_simp;try rfl
  try simp only [zP]
  refine wpL.tB [2,4] 1 114 ?v_y hQ ?y_y ES ?_
  case y_y => intro w' hSw;have j0 := (hI.next hSw).b4.cell 0 _ rfl;have j1 := (hI.next hSw).b5.cell 0 _ rfl;go_simp;try rfl
  try simp only [zP]
  have hI0 := hI;replace hI := hI.next ES;obtain ⟨ss, As, ns, cs, b6, hsc⟩ := hI.b6;refine wpL.two (i := 2) (j := 3) rfl rfl (by kernel_rfl) (fun K hK => ?_) (fun K hK => ?_)
  ·go_simp
   (go_at_call 109; refine (p_cutI_same (hI.restpol hnrR hnrc HTL.out) (by omega) (by omega)).mono ?_; rintro e wa ⟨rfl, hx0⟩; rw [HZL.out]; have E2 := Ext.trans ES hx0)
   refine hK.out _ _ (Or.inr E2) ?_;clear hK K
   try simp only [zP]
   replace hI := hI.next hx0;replace b6 := b6.ext hx0;replace hsc := hsc.ext hx0;clear hx0;have p0 := hI.b4.cell 0 _ rfl;have f0 := hI.b4.frozen 0;refine wpL.two (i := 3) (j := 4) rfl rfl (by kernel_rfl) (fun K hK => ?_) (fun K hK => ?_)
   ·have k0 := b6.cell 0 _ rfl
    have k1 := b6.cell 1 _ rfl;go_simp;refine hK.out _ _ (Or.inr E2) ?_;clear hK K k0 k1
    try simp only [zP]
    refine wpL.tl (i := 4) rfl (fun K hK => ?_);go_simp;refine hK.out _ _ ?_;clear hK K;have PP := hI.same;refine at_wpLx (fun V => DivM w W g4 gr gq g5 g6 gB N cr o d s7 A7 n7 c7 lead M B S C (S + C + M) nr l R sc V /\ Box V (g4 + 1 + 1) 25 #[.bool ss, .slice As ns cs] /\ NI V sc C ss As ns cs) ⟨PP.1, PP.2.far _ _ _ (by omega) b6, PP.2.ni _ _ _ _ _ _ hsc⟩ ?_;clear PP p0 f0 hI b6 hsc;rintro V1 ⟨hI, b6, hsc⟩;have p0 := hI.b5.cell 0 _ rfl;have f0 := hI.b5.frozen 0
    try simp only [zP]
    refine wpL.tl (i := 5) rfl (fun K hK => ?_);go_simp;refine hK.out _ _ ?_;clear hK K;have PP := hI.rest zs.length;refine at_wpLx (fun V => DivM w W g4 gr gq g5 g6 gB N cr o d s7 A7 n7 c7 lead M B S C (S + C + M) zs.length l R sc V /\ Box V (g4 + 1 + 1) 25 #[.bool ss, .slice As ns cs] /\ NI V sc C ss As ns cs) ⟨PP.1, PP.2.far _ _ _ (by omega) b6, PP.2.ni _ _ _ _ _ _ hsc⟩ ?_;clear PP p0 f0 hI b6 hsc;rintro V2 ⟨hI, b6, hsc⟩
    try simp only [zP]
    have k0 := b6.cell 0 _ rfl;have k1 := b6.cell 1 _ rfl;have f0 := b6.frozen 0;have f1 := b6.frozen 1;refine wpL.tl (i := 6) rfl (fun K hK => ?_);go_simp;refine hK.out _ _ ?_;clear hK K;have PP := hI.scale hsc
    try simp only [zP]
    refine wpL.done (by kernel_rfl) ?_ _;refine calm_normal ?_;refine at_exit (fun V => DivM w W g4 gr gq g5 g6 gB N cr o d s7 A7 n7 c7 lead M B S C (S + C + M) zs.length l R sc V) PP.1 ?_;clear PP k0 k1 f0 f1 hI b6 hsc;rintro V3 hI
    go_wp2_with fail
    have hd2 := hI.ko.same D _ hd rfl;have hkc := Kc.putObj (w := V3) (.deferred none) hd2 rfl;obtain ⟨s8, A8, n8, c8, b6, hsc⟩ := hI.b6;have r0 := (hI.b4.kc hkc).cell 0 _ rfl;have r1 := (hI.b5.kc hkc).cell 0 _ rfl;have r2 := (b6.kc hkc).cell 0 _ rfl;have r3 := (b6.kc hkc).cell 1 _ rfl;refine ⟨by simp, .inl ⟨_, _, rfl, run_takeDeferred hd2, ?_⟩⟩;refine ⟨.tuple #[.slice (some ⟨gq, 0, none⟩) N N, .slice (some ⟨gr, 0, none⟩) zs.length cr, .agg #[.bool s8, .slice A8 n8 c8]], by simp [results, Tryz.results77, go_sem, r0, r1, r2, r3], _, _, _, _, _, _, s8, A8, n8, c8, rfl, ?_, ?_, hsc.kc hkc, ?_⟩
    ·have := hI.rq
     rw [<- HQ.out] at this;exact (this.pol hql2 (by unfold maxLen; omega)).kc hkc
    ·have := hI.restpol hzR hzc HTL.out
     rw [HZZ.out] at this;exact this.kc hkc
    ·exact hI.ext.own (B := w.heap.size) (grownBy_putObj' _ _ _) (fun r e => by cases e; exact ⟨Nat.le_trans hw5 hD, _, hd2, rfl⟩) (Nat.le_refl _)
   ·go_simp
    refine hK.out _ _ (Or.inl (by kernel_rfl)) ?_;clear hK K;have PP := hI.same;refine at_wpLx (fun V => DivM w W g4 gr gq g5 g6 gB N cr o d s7 A7 n7 c7 lead M B S C (S + C + M) nr l R sc V /\ Box V (g4 + 1 + 1) 25 #[.bool ss, .slice As ns cs] /\ NI V sc C ss As ns cs) ⟨PP.1, PP.2.far _ _ _ (by omega) b6, PP.2.ni _ _ _ _ _ _ hsc⟩ ?_;clear PP p0 f0 hI b6 hsc;rintro V1 ⟨hI, b6, hsc⟩;have p0 := hI.b5.cell 0 _ rfl;have f0 := hI.b5.frozen 0
    try simp only [zP]
    refine wpL.two (i := 3) (j := 5) rfl rfl (by kernel_rfl) (fun K hK => ?_) (fun K hK => ?_)
    ·have k0 := b6.cell 0 _ rfl
     have k1 := b6.cell 1 _ rfl;go_simp;refine hK.out _ _ (Or.inl (by kernel_rfl)) ?_;clear hK K k0 k1
     try simp only [zP]
     refine wpL.tl (i := 5) rfl (fun K hK => ?_);go_simp;refine hK.out _ _ ?_;clear hK K;have PP := hI.rest zs.length;refine at_wpLx (fun V => DivM w W g4 gr gq g5 g6 gB N cr o d s7 A7 n7 c7 lead M B S C (S + C + M) zs.length l R sc V /\ Box V (g4 + 1 + 1) 25 #[.bool ss, .slice As ns cs] /\ NI V sc C ss As ns cs) ⟨PP.1, PP.2.far _ _ _ (by omega) b6, PP.2.ni _ _ _ _ _ _ hsc⟩ ?_;clear PP p0 f0 hI b6 hsc;rintro V2 ⟨hI, b6, hsc⟩
     try simp only [zP]
     have k0 := b6.cell 0 _ rfl;have k1 := b6.cell 1 _ rfl;have f0 := b6.frozen 0;have f1 := b6.frozen 1;refine wpL.tl (i := 6) rfl (fun K hK => ?_);go_simp;refine hK.out _ _ ?_;clear hK K;have PP := hI.scale hsc
     try simp only [zP]
     refine wpL.done (by kernel_rfl) ?_ _;refine calm_normal ?_;refine at_exit (fun V => DivM w W g4 gr gq g5 g6 gB N cr o d s7 A7 n7 c7 lead M B S C (S + C + M) zs.length l R sc V) PP.1 ?_;clear PP k0 k1 f0 f1 hI b6 hsc;rintro V3 hI
     go_wp2_with fail
     have hd2 := hI.ko.same D _ hd rfl;have hkc := Kc.putObj (w := V3) (.deferred none) hd2 rfl;obtain ⟨s8, A8, n8, c8, b6, hsc⟩ := hI.b6;have r0 := (hI.b4.kc hkc).cell 0 _ rfl;have r1 := (hI.b5.kc hkc).cell 0 _ rfl;have r2 := (b6.kc hkc).cell 0 _ rfl;have r3 := (b6.kc hkc).cell 1 _ rfl;refine ⟨by simp, .inl ⟨_, _, rfl, run_takeDeferred hd2, ?_⟩⟩;refine ⟨.tuple #[.slice (some ⟨gq, 0, none⟩) N N, .slice (some ⟨gr, 0, none⟩) zs.length cr, .agg #[.bool s8, .slice A8 n8 c8]], by simp [results, Tryz.results77, go_sem, r0, r1, r2, r3], _, _, _, _, _, _, s8, A8, n8, c8, rfl, ?_, ?_, hsc.kc hkc, ?_⟩
     ·have := hI.rq
      rw [<- HQ.out] at this;exact (this.pol hql2 (by unfold maxLen; omega)).kc hkc
     ·have := hI.restpol hzR hzc HTL.out
      rw [HZZ.out] at this;exact this.kc hkc
     ·exact hI.ext.own (B := w.heap.size) (grownBy_putObj' _ _ _) (fun r e => by cases e; exact ⟨Nat.le_trans hw5 hD, _, hd2, rfl⟩) (Nat.le_refl _)
    ·go_simp
     refine hK.out _ _ (Or.inl (by kernel_rfl)) ?_;clear hK K;have PP := hI.rest zs.length;refine at_wpLx (fun V => DivM w W g4 gr gq g5 g6 gB N cr o d s7 A7 n7 c7 lead M B S C (S + C + M) zs.length l R sc V /\ Box V (g4 + 1 + 1) 25 #[.bool ss, .slice As ns cs] /\ NI V sc C ss As ns cs) ⟨PP.1, PP.2.far _ _ _ (by omega) b6, PP.2.ni _ _ _ _ _ _ hsc⟩ ?_;clear PP p0 f0 hI b6 hsc;rintro V2 ⟨hI, b6, hsc⟩
     try simp only [zP]
     refine wpL.tl (i := 3) rfl (fun K hK => ?_);have k0 := b6.cell 0 _ rfl;have k1 := b6.cell 1 _ rfl;go_simp;refine hK.out _ _ ?_;clear hK K k0 k1
     try simp only [zP]
     have k0 := b6.cell 0 _ rfl;have k1 := b6.cell 1 _ rfl;have f0 := b6.frozen 0;have f1 := b6.frozen 1;refine wpL.tl (i := 6) rfl (fun K hK => ?_);go_simp;refine hK.out _ _ ?_;clear hK K;have PP := hI.scale hsc
     try simp only [zP]
     refine wpL.done (by kernel_rfl) ?_ _;refine calm_normal ?_;refine at_exit (fun V => DivM w W g4 gr gq g5 g6 gB N cr o d s7 A7 n7 c7 lead M B S C (S + C + M) zs.length l R sc V) PP.1 ?_;clear PP k0 k1 f0 f1 hI b6 hsc;rintro V3 hI
     go_wp2_with fail
     have hd2 := hI.ko.same D _ hd rfl;have hkc := Kc.putObj (w := V3) (.deferred none) hd2 rfl;obtain ⟨s8, A8, n8, c8, b6, hsc⟩ := hI.b6;have r0 := (hI.b4.kc hkc).cell 0 _ rfl;have r1 := (hI.b5.kc hkc).cell 0 _ rfl;have r2 := (b6.kc hkc).cell 0 _ rfl;have r3 := (b6.kc hkc).cell 1 _ rfl;refine ⟨by simp, .inl ⟨_, _, rfl, run_takeDeferred hd2, ?_⟩⟩;refine ⟨.tuple #[.slice (some ⟨gq, 0, none⟩) N N, .slice (some ⟨gr, 0, none⟩) zs.length cr, .agg #[.bool s8, .slice A8 n8 c8]], by simp [results, Tryz.results77, go_sem, r0, r1, r2, r3], _, _, _, _, _, _, s8, A8, n8, c8, rfl, ?_, ?_, hsc.kc hkc, ?_⟩
     ·have := hI.rq
      rw [<- HQ.out] at this;exact (this.pol hql2 (by unfold maxLen; omega)).kc hkc
     ·have := hI.restpol hzR hzc HTL.out
      rw [HZZ.out] at this;exact this.kc hkc
     ·exact hI.ext.own (B := w.heap.size) (grownBy_putObj' _ _ _) (fun r e => by cases e; exact ⟨Nat.le_trans hw5 hD, _, hd2, rfl⟩) (Nat.le_refl _)
  ·have k0 := b6.cell 0 _ rfl
   have k1 := b6.cell 1 _ rfl;go_simp;refine hK.out _ _ (Or.inr ES) ?_;clear hK K k0 k1
   try simp only [zP]
   refine wpL.cl (i := 2) rfl (fun K hK => ?_);go_simp
   (go_at_call 109; refine (p_cutI_same (hI.restpol hnrR hnrc HTL.out) (by omega) (by omega)).mono ?_; rintro e wa ⟨rfl, hx0⟩; rw [HZL.out]; have E2 := Ext.trans ES hx0)
   refine hK.out _ _ E2 ?_;clear hK K
   try simp only [zP]
   replace hI := hI.next hx0;replace b6 := b6.ext hx0;replace hsc := hsc.ext hx0;clear hx0;have p0 := hI.b4.cell 0 _ rfl;have f0 := hI.b4.frozen 0;refine wpL.tl (i := 4) rfl (fun K hK => ?_);go_simp;refine hK.out _ _ ?_;clear hK K;have PP := hI.same;refine at_wpLx (fun V => DivM w W g4 gr gq g5 g6 gB N cr o d s7 A7 n7 c7 lead M B S C (S + C + M) nr l R sc V /\ Box V (g4 + 1 + 1) 25 #[.bool ss, .slice As ns cs] /\ NI V sc C ss As ns cs) ⟨PP.1, PP.2.far _ _ _ (by omega) b6, PP.2.ni _ _ _ _ _ _ hsc⟩ ?_;clear PP p0 f0 hI b6 hsc;rintro V1 ⟨hI, b6, hsc⟩;have p0 := hI.b5.cell 0 _ rfl;have f0 := hI.b5.frozen 0
   try simp only [zP]
   refine wpL.tl (i := 5) rfl (fun K hK => ?_);go_simp;refine hK.out _ _ ?_;clear hK K;have PP := hI.rest zs.length;refine at_wpLx (fun V => DivM w W g4 gr gq g5 g6 gB N cr o d s7 A7 n7 c7 lead M B S C (S + C + M) zs.length l R sc V /\ Box V (g4 + 1 + 1) 25 #[.bool ss, .slice As ns cs] /\ NI V sc C ss As ns cs) ⟨PP.1, PP.2.far _ _ _ (by omega) b6, PP.2.ni _ _ _ _ _ _ hsc⟩ ?_;clear PP p0 f0 hI b6 hsc;rintro V2 ⟨hI, b6, hsc⟩
   try simp only [zP]
   have k0 := b6.cell 0 _ rfl;have k1 := b6.cell 1 _ rfl;have f0 := b6.frozen 0;have f1 := b6.frozen 1;refine wpL.tl (i := 6) rfl (fun K hK => ?_);go_simp;refine hK.out _ _ ?_;clear hK K;have PP := hI.scale hsc
   try simp only [zP]
   refine wpL.done (by kernel_rfl) ?_ _;refine calm_normal ?_;refine at_exit (fun V => DivM w W g4 gr gq g5 g6 gB N cr o d s7 A7 n7 c7 lead M B S C (S + C + M) zs.length l R sc V) PP.1 ?_;clear PP k0 k1 f0 f1 hI b6 hsc;rintro V3 hI
   go_wp2_with fail
   have hd2 := hI.ko.same D _ hd rfl;have hkc := Kc.putObj (w := V3) (.deferred none) hd2 rfl;obtain ⟨s8, A8, n8, c8, b6, hsc⟩ := hI.b6;have r0 := (hI.b4.kc hkc).cell 0 _ rfl;have r1 := (hI.b5.kc hkc).cell 0 _ rfl;have r2 := (b6.kc hkc).cell 0 _ rfl;have r3 := (b6.kc hkc).cell 1 _ rfl;refine ⟨by simp, .inl ⟨_, _, rfl, run_takeDeferred hd2, ?_⟩⟩;refine ⟨.tuple #[.slice (some ⟨gq, 0, none⟩) N N, .slice (some ⟨gr, 0, none⟩) zs.length cr, .agg #[.bool s8, .slice A8 n8 c8]], by simp [results, Tryz.results77, go_sem, r0, r1, r2, r3], _, _, _, _, _, _, s8, A8, n8, c8, rfl, ?_, ?_, hsc.kc hkc, ?_⟩
   ·have := hI.rq
    rw [<- HQ.out] at this;exact (this.pol hql2 (by unfold maxLen; omega)).kc hkc
   ·have := hI.restpol hzR hzc HTL.out
    rw [HZZ.out] at this;exact this.kc hkc
   ·exact hI.ext.own (B := w.heap.size) (grownBy_putObj' _ _ _) (fun r e => by cases e; exact ⟨Nat.le_trans hw5 hD, _, hd2, rfl⟩) (Nat.le_refl _)
end
end
end Go.Proofs.YtpeddoaknfjbbaaGreatDoor
