/- Walks and laws, part 18. -/
import Derived.Test.YtmjmcinnbmjpdaaDoorMg12
import Derived.Test.YtmjmcinnbmjpdaaDoorMg14
import Derived.Test.YtmjmcinnbmjpdaaDoorMg17
import Derived.BigQuiet
namespace Go.Proofs.YtmjmcinnbmjpdaaDoor
open Go.RowKit
theorem LInv.part2 {D N L K i n : Nat} {R Q : List Nat} (h : LInv D N L K (i + 1) R Q) (hL : i + n + 1 ≤ L) (hD : D < 4294967296 ^ n) :
    val (R.drop (i + n + 1)) = 0 ∧ val ((R.drop i).take (n + 1)) = val (R.drop i) ∧ val ((R.drop i).take (n + 1)) < 4294967296 * D := by
  have hr := h.rl
  have e1 := val_drop_succ R i (by omega)
  have hx := h.rw.get (k := i) (by omega)
  have hlt := h.lt
  have h1 : val (R.drop i) < 4294967296 * D := by omega
  have e2 := val_split (R.drop i) (n + 1) (by rw [List.length_drop]; omega)
  rw [List.drop_drop, ← Nat.add_assoc, Nat.pow_succ] at e2
  have h0 : val (R.drop (i + n + 1)) = 0 := by
    rcases Nat.eq_zero_or_pos (val (R.drop (i + n + 1))) with h0 | h0
    · exact h0
    · have : 4294967296 ^ (n + 1) * 1 ≤ 4294967296 ^ (n + 1) * val (R.drop (i + n + 1)) := Nat.mul_le_mul_left _ h0
      rw [Nat.pow_succ] at this
      omega
  rw [h0, Nat.mul_zero] at e2
  exact ⟨h0, by omega, by omega⟩
theorem LInv.step2 {D N L K i n w : Nat} {R Q ps : List Nat} (h : LInv D N L K (i + 1) R Q) (hi : i < K) (hL : i + n + 1 ≤ L) (hD : D < 4294967296 ^ n) (hps : ps.length = n + 1) (hpw : W32 ps) (hw : w < 4294967296)
    (hlt : val ps < D) (he : val ps + w * D = val ((R.drop i).take (n + 1))) : LInv D N L K i (R.take i ++ ps ++ R.drop (i + n + 1)) (Q.set i w) := by
  obtain ⟨h0, h1, _⟩ := h.part2 hL hD
  have hr := h.rl
  have hq := h.ql
  have htl : (R.take i).length = i := by rw [List.length_take]; omega
  have hd : val ((R.take i ++ ps ++ R.drop (i + n + 1)).drop i) = val ps := by
    rw [List.append_assoc, List.drop_append_of_le_length (by omega), List.drop_of_length_le (by omega), List.nil_append, val_append, h0, Nat.mul_zero, Nat.add_zero]
  refine ⟨?_, ((h.rw.take _).append hpw).append (h.rw.drop _), by simpa using hq, h.qw.set _ hw, by rw [hd]; exact hlt, ?_⟩
  · simp only [List.length_append, htl, hps, List.length_drop, hr]; omega
  · have e := h.eq
    have eR := val_split R i (by omega)
    have e2 : val (R.take i ++ ps ++ R.drop (i + n + 1)) = val (R.take i) + 4294967296 ^ i * val ps := by
      rw [val_append, h0, Nat.mul_zero, Nat.add_zero, val_append, htl]
    have e3 : val ((Q.set i w).drop i) = w + 4294967296 * val (Q.drop (i + 1)) := by
      rw [val_drop_succ _ i (by simp; omega), drop_set_succ]
      simp
    rw [e2, e3, ← e, eR, ← h1, ← he, Nat.pow_succ]
    generalize 4294967296 ^ i = p
    generalize val (Q.drop (i + 1)) = t
    rw [Nat.mul_add p w, Nat.add_mul, Nat.mul_add p (val ps), ← Nat.mul_assoc p w D, ← Nat.mul_assoc p 4294967296 t]
    omega
theorem LInv.start2 {a b s la lb : Nat} {R : List Nat} (hR : R.length = la + 1) (hRw : W32 R) (hv : val R = a * 2 ^ s) (hab : lb ≤ la) (h1 : 0 < lb) (ha : a < 4294967296 ^ la) (hb : 4294967296 ^ (lb - 1) ≤ b) :
    LInv (b * 2 ^ s) (a * 2 ^ s) (la + 1) la (la - lb + 1) R (List.replicate la 0) := by
  have h := LInv.start (Q := List.replicate (la - lb + 1) 0) hR hRw rfl hv hab h1 ha hb
  refine ⟨hR, hRw, by simp, W32.replicate _, h.lt, ?_⟩
  rw [List.drop_replicate, val_replicate, hv]
  simp
theorem Own.apart {w : World} {lo g : Nat} {A : Option Addr} {ns : List Nat} (h : Own w lo A ns) (hg : g < lo) : Apart A ns g := by
  intro hn a ha
  rcases h.2 with h0 | ⟨g', hA, hl, _⟩
  · exact absurd h0 hn
  · rw [hA] at ha
    injection ha with ha
    subst ha
    show g' ≠ g
    omega
/-- a list with zeros behind it, up to a length. -/
def padL (ns : List Nat) (k : Nat) : List Nat := ns ++ List.replicate (k - ns.length) 0
theorem padL_len {ns : List Nat} {k : Nat} (h : ns.length ≤ k) : (padL ns k).length = k := by simp [padL]; omega
theorem padL_val (ns : List Nat) (k : Nat) : val (padL ns k) = val ns := by rw [padL, val_append, val_replicate, Nat.mul_zero, Nat.add_zero]
theorem padL_w32 {ns : List Nat} (h : W32 ns) (k : Nat) : W32 (padL ns k) := h.append (W32.replicate _)
theorem pad_step {zs P : List Nat} {k v : Nat} (hz : k < zs.length) (hp : k < P.length) (h : zs.take k = P.take k) (hv : P[k] = v) : (zs.set k v).take (k + 1) = P.take (k + 1) := by
  rw [take_succ' (xs := zs.set k v) (k := k) (by simpa using hz), take_succ' (xs := P) (k := k) hp, take_set_self, h, hv]
  simp
theorem padL_in {ns : List Nat} {k i : Nat} (h : i < ns.length) (hp : i < (padL ns k).length) : (padL ns k)[i] = ns[i] := by
  simp only [padL]
  rw [List.getElem_append_left h]
theorem padL_out {ns : List Nat} {k i : Nat} (h : ¬ i < ns.length) (hp : i < (padL ns k).length) : (padL ns k)[i] = 0 := by
  simp only [padL]
  rw [List.getElem_append_right (by omega)]
  simp
/-- quotient and rest, wherever they lie. -/
def RetQ (x y : Nat) (w : World) (e : Ending) (w' : World) : Prop :=
  ∃ A c qs A' c' rs, e = .returned (.tuple #[.slice A (List.length qs) c, .slice A' (List.length rs) c']) ∧ Rd w' A qs ∧ Rd w' A' rs ∧ qs.length ≤ c ∧ c ≤ maxLen ∧ rs.length ≤ c' ∧ c' ≤ maxLen ∧ val qs = x / y ∧ val rs = x % y ∧ Nrm qs ∧ Nrm rs ∧ Ext w w'
section
variable {A B : Option Addr} {c d n m : Nat} {xs ys : List Nat} {w : World} {s t : Bool}
set_option maxRecDepth 100000 in
set_option maxHeartbeats 16000000 in
theorem ref_divideL (hn : xs.length = n) (hm : ys.length = m) (hx : Rd w A xs) (hy : Rd w B ys) (hnx : Nrm xs) (hny : Nrm ys) (hge : val ys ≤ val xs) (h2 : 2 ≤ m) (h3 : 2 < n) (h1 : n ≤ 9000) :
    Calls Tryd.prog 29 #[.slice A n c, .slice B m d] w (RetQ (val xs) (val ys) w) := by
  have hmn : m ≤ n := by have := len_le hx.1 hny hge; omega
  have hl0 : ys[m - 1]'(by omega) ≠ 0 := by
    subst hm
    exact hny.last (by omega)
  have hY := hy.1.get (k := m - 1) (by omega)
  obtain ⟨s1, s2, s3, s4⟩ := shift_top hY hl0
  have hnorm : ∀ zs, W32 zs → Nrm zs → val zs = val ys * 2 ^ (32 - Lib.bitLen (ys[m - 1]'(by omega))) → zs.length = m ∧ val zs < 4294967296 ^ m ∧ ∀ h : m - 1 < zs.length, 2147483648 ≤ zs[m - 1] := fun zs a b e => div_norm hy.1 hm (by omega) s1 s2 a b e
  have hbn : bitsN ys = 32 * (m - 1) + Lib.bitLen (ys[m - 1]'(by omega)) := by
    subst hm
    unfold bitsN
    rw [dif_pos (by omega)]
  have hlen : ∀ W : World, Rd W B ys → Calls Tryd.prog 51 #[.slice B m d] W fun e w' => e = .returned (.int .i64 (bitsN ys : Nat)) ∧ W = w' := fun W hyW => ref_length hm hyW (by omega)
  have hS : 32 * (m : Int) - ((bitsN ys : Nat) : Int) = ((32 - Lib.bitLen (ys[m - 1]'(by omega)) : Nat) : Int) := by rw [hbn]; omega
  have hbl : bitsN ys ≤ 32 * m := by rw [hbn]; omega
  clear s1 s2 hbn
  generalize ys[m - 1]'(by omega) = Y at *
  have hS32 : 32 - Lib.bitLen Y < 32 := by omega
  generalize 32 - Lib.bitLen Y = S at *
  generalize bitsN ys = BN at *
  obtain ⟨CM, hCM, dCM⟩ : ∃ CM, cmpL xs ys = CM ∧ decide (CM < 0) = false := ⟨_, rfl, by
    rw [cmpL_nrm hx.1 hy.1 hnx hny]
    rcases Nat.lt_or_ge (val ys) (val xs) with h | h
    · rw [cmpI_of_gt h]; rfl
    · rw [cmpI_of_eq (by omega)]; rfl⟩
  have Hlen := Lib.hid hlen
  have Hnorm := Lib.hid hnorm
  have HS := Lib.hid hS
  have Hn := Lib.hid hn
  have Hm := Lib.hid hm
  have HCM := Lib.hid hCM
  have Hb := Lib.hid (show 4294967296 ^ (m - 1) ≤ val ys by
    have := hny.ge (by rintro rfl; simp at hm; omega)
    rwa [hm] at this)
  have Ha := Lib.hid (show val xs < 4294967296 ^ n by have := val_lt hx.1; rwa [hn] at this)
  clear hnorm s3 s4 hl0 hn hm hCM hlen hS hge
  have hmk : ∀ W : World, (Instr.makeSlice 22 (.int .i64 (n : Int)) (.int .i64 (n : Int))).run Tryd.prog W = .ok (.slice (some ⟨W.heap.size, 0, none⟩) n n) (W.alloc (.cells (madeCells #[.int .u32 0] n) 43)) := fun W => mk_words 22 Tryd.underlying22 n (by omega) W
  have hcmp := fun W (h1 : Rd W A xs) (h2 : Rd W B ys) => ref_compare A B c d xs ys W h1 h2 (by have := Hn.out; unfold maxLen; omega) (by have := Hm.out; unfold maxLen; omega)
  rw [Hn.out, Hm.out, HCM.out] at hcmp
  have Hcmp := Lib.hid hcmp
  clear hcmp
  go_enter Tryd.func29, Tryd.ntmps29
  go_wp2_with fail
  refine (Hcmp.out _ hx hy).mono ?_
  rintro e w1 ⟨rfl, hext1⟩
  replace hx := hx.ext hext1
  replace hy := hy.ext hext1
  clear Hcmp
  go_wp2_with fail
  refine (Hlen.out _ hy).mono ?_
  rintro e w0 ⟨rfl, rfl⟩
  clear Hlen
  go_wp2_with fail
  rw [HS.out]
  refine (ref_shifted Hn.out hx hS32 (by omega)).mono ?_
  rintro e w2 ⟨Ax, cx, R0, rfl, hox, hcx, hmx, ⟨hRv, hRl⟩, hext2⟩
  rw [hRl]
  rw [hRl] at hcx
  obtain ⟨g1, rfl, hg1, hRb⟩ : ∃ g, Ax = some ⟨g, 0, none⟩ ∧ w1.heap.size ≤ g ∧ BlkN w2 g R0 := by
    rcases hox.2 with h | h
    · subst h; simp at hRl
    · exact h
  have hRw := hox.1
  clear hox
  go_wp2_with fail
  try rw [HS.out]
  refine (ref_shifted Hm.out (hy.ext hext2) hS32 (by omega)).mono ?_
  rintro e w3 ⟨A2, c2, ds0, rfl, ho2, hc2, hm2, ⟨hv2, hl2⟩, hext3⟩
  rw [hl2]
  rw [hl2] at hc2
  go_wp2_with fail
  refine (ref_trimN hl2 ho2.rd hc2 hm2).mono ?_
  rintro e w0 ⟨rfl, rfl⟩
  have hot : Own w3 w2.heap.size A2 (trimL ds0) := by rw [trimL_take]; exact ho2.take _
  rw [← val_trimL] at hv2
  obtain ⟨hdl, hdu, hdt⟩ := Hnorm.out (trimL ds0) hot.1 (Nrm.trimL _) hv2
  have hdn := Nrm.trimL ds0
  rw [hdl]
  clear Hnorm ho2 hl2 hdt
  generalize trimL ds0 = ds at *
  have hg12 : g1 < w2.heap.size := hRb.lt
  have hap := hot.apart hg12
  have hR3 := hRb.ext hext3
  have hd3 := hot.rd
  have hL0 := LInv.start2 (a := val xs) (b := val ys) (s := S) (la := n) (lb := m) hRl hRw hRv hmn (by omega) Ha.out Hb.out
  rw [← hv2] at hL0
  have HL0 := Lib.hid hL0
  have Hv2 := Lib.hid hv2
  have Hdl := Lib.hid hdl
  have Hdu := Lib.hid hdu
  clear hL0 hRv hRl hRw hRb hv2 hdl hdu hot
  have hg23 := hext3.size
  have hap3 := hd3.apart (Nat.le_refl _)
  have hQb := BlkN.new w3 n
  have hR4 := hR3.ext ((Ext.refl w3).alloc (.cells (madeCells #[.int .u32 0] n) 43))
  have hd4 := hd3.ext ((Ext.refl w3).alloc (.cells (madeCells #[.int .u32 0] n) 43))
  have hgw : w.heap.size ≤ g1 := Nat.le_trans hext1.size hg1
  have hg13 : g1 < w3.heap.size := by omega
  have ext4 := (hext1.trans (hext2.trans hext3)).alloc (.cells (madeCells #[.int .u32 0] n) 43)
  clear hR3 hd3 hext1 hext2 hext3 hg1
  go_wp2_with fail
  go_loopw [14] (fun i wr => ∃ (k : Nat) (R Q : List Nat), k ≤ n - m + 1 ∧ i = .int .i64 ((k : Int) - 1) ∧ LInv (val ds) (val xs * 2 ^ S) (n + 1) n k R Q ∧ BlkN wr g1 R ∧ BlkN wr w3.heap.size Q ∧ Rd wr A2 ds ∧ Ext w wr) (fun i _ => (intOf i + 1).toNat)
  case atStart => exact ⟨n - m + 1, R0, _, Nat.le_refl _, congrArg (Value.int .i64) (by omega), HL0.out, hR4, hQb, hd4, ext4⟩
  case round =>
    clear hR4 hQb hd4 ext4
    obtain ⟨k, R, Q, hk, rfl, hinv, hRb, hQb, hdr, hext⟩ := hrel
    have hrl := hinv.rl
    have hql := hinv.ql
    rcases k with _ | j
    · rw [show (((0 : Nat) : Int) - 1) = -1 from rfl]
      have Hinv := Lib.hid hinv
      have Hrl := Lib.hid hrl
      have Hql := Lib.hid hql
      clear hinv hrl hql
      go_wp2_with fail
      refine (ref_trimN Hql.out (hQb.rd0 Hinv.out.qw) (Nat.le_refl _) (by unfold maxLen; omega)).mono ?_
      rintro e w4 ⟨rfl, rfl⟩
      go_wp2_with fail
      refine (ref_trimN Hrl.out (hRb.rd0 Hinv.out.rw) hcx hmx).mono ?_
      rintro e w4 ⟨rfl, rfl⟩
      have hrl2 := trimL_len R
      rw [Hrl.out] at hrl2
      have hrt : Rd wr (some ⟨g1, 0, none⟩) (trimL R) := by rw [trimL_take]; exact (hRb.rd0 Hinv.out.rw).take _
      have hqt : Rd wr (some ⟨w3.heap.size, 0, none⟩) (trimL Q) := by rw [trimL_take]; exact (hQb.rd0 Hinv.out.qw).take _
      go_wp2_with fail
      refine (ref_back (b := S) rfl hrt hS32 (by omega)).mono ?_
      rintro e w5 ⟨A5, c5, rs, rfl, ho5, hc5, hm5, ⟨hv5, hn5, hl5⟩, hext5⟩
      have Hv5 := Lib.hid hv5
      clear hv5
      go_wp2_with fail
      go_ret2
      have hi := Hinv.out
      rw [Hv2.out] at hi
      obtain ⟨d1, d2⟩ := hi.done
      have hql2 := trimL_len Q
      rw [Hql.out] at hql2
      exact ⟨_, _, trimL Q, A5, c5, rs, rfl, hqt.ext hext5, ho5.rd, hql2, by unfold maxLen; omega, hc5, hm5, by rw [val_trimL]; exact d1, by rw [Hv5.out, val_trimL]; exact d2, Nrm.trimL _, hn5, hext.trans hext5⟩
    · rw [show (((j + 1 : Nat) : Int) - 1) = (j : Int) by omega]
      have hj1 : j + m + 1 ≤ n + 1 := by omega
      have hj2 : j < n := by omega
      obtain ⟨p0, p1, p2⟩ := hinv.part2 hj1 Hdu.out
      have hpd : Rd wr (some ⟨g1, j, none⟩) ((R.drop j).take (m + 1)) := hRb.rd hinv.rw (by omega)
      have hpl : ((R.drop j).take (m + 1)).length = m + 1 := by rw [List.length_take, List.length_drop]; omega
      have hpw : W32 ((R.drop j).take (m + 1)) := (hinv.rw.drop _).take _
      have hRs : R = R.take j ++ (R.drop j).take (m + 1) ++ R.drop (j + m + 1) := by
        rw [List.append_assoc, show j + m + 1 = j + (m + 1) by omega, ← List.drop_drop, List.take_append_drop, List.take_append_drop]
      have htl : (R.take j).length = j := by rw [List.length_take]; omega
      have hst : ∀ (ps : List Nat) (u : Nat), ps.length = m + 1 → W32 ps → u < 4294967296 → val ps < val ds → val ps + u * val ds = val ((R.drop j).take (m + 1)) → LInv (val ds) (val xs * 2 ^ S) (n + 1) n j (R.take j ++ ps ++ R.drop (j + m + 1)) (Q.set j u) := fun ps u a1 a2 a3 a4 a5 => hinv.step2 hj2 hj1 Hdu.out a1 a2 a3 a4 a5
      rw [hRs] at hRb
      have Hst := Lib.hid hst
      have Hqw := Lib.hid hinv.qw
      clear hst hinv hRs p0 p1 hrl
      generalize R.take j = pre at *
      generalize (R.drop j).take (m + 1) = part at *
      generalize R.drop (j + m + 1) = post at *
      have Htl := Lib.hid htl
      have Hpl := Lib.hid hpl
      have Hql := Lib.hid hql
      have Hp2 := Lib.hid p2
      have hcc1 : m + 1 ≤ cx - j := by omega
      have hcc2 : cx - j ≤ maxLen := by omega
      have hjc : j + m + 1 ≤ cx := by omega
      clear htl hpl p2 hql
      go_wp2_with fail
      rw [show j + m + 1 - j = m + 1 by omega]
      refine (ref_digit Hpl.out Hdl.out (by omega) hpd hdr hdn Hp2.out hcc1 hcc2 (by omega)).mono ?_
      rintro e w4 ⟨q, A5, c5, us, rfl, ho5, hc5, hm5, hq32, huv, hun, hq1, hq2, hxt4⟩
      have Huv := Lib.hid huv
      have Hq1 := Lib.hid hq1
      have Hq2 := Lib.hid hq2
      have hgw4 := hxt4.size
      have hgr : w3.heap.size < wr.heap.size := hQb.lt
      clear huv hq1 hq2
      have hcq := (hQb.ext hxt4).cell (i := j) (by rw [Hql.out]; exact hj2)
      have hfq := (hQb.ext hxt4).frozen j
      go_upto_region 18 with fail
      have hne31 : g1 ≠ w3.heap.size := by omega
      refine at_world (fun V => BlkN V g1 (pre ++ part ++ post) ∧ BlkN V w3.heap.size (Q.set j q) ∧ Rd V A2 ds ∧ Rd V A5 us ∧ Ext w V ∧ w3.heap.size < V.heap.size) ⟨(hRb.ext hxt4).mod ((Mod.refl w4 w3.heap.size).setCell j _) hne31, (hQb.ext hxt4).set j rfl, (hdr.ext hxt4).mod ((Mod.refl w4 w3.heap.size).setCell j _) hap3, ho5.rd.mod ((Mod.refl w4 w3.heap.size).setCell j _) (ho5.apart hgr), (hext.trans hxt4).setCell (by show w.heap.size ≤ w3.heap.size; omega) _, by simp [World.setCell]; omega⟩ ?_
      clear hRb hQb hdr ho5 hext hxt4 hgw4 hgr hcq hfq hpd
      rintro V ⟨hRb, hQb, hdr, hus, hext, hgV⟩
      have hpt : Rd V (some ⟨g1, j, none⟩) (trimL part) := by rw [trimL_take]; exact (hRb.mid hpw Htl.out).take _
      have hptl : (trimL part).length ≤ m + 1 := by have := trimL_len part; rw [Hpl.out] at this; exact this
      have hul : us.length ≤ (trimL part).length := len_le hpt.1 hun (by rw [Huv.out, val_trimL]; exact Hq1.out)
      go_wp2_with fail
      refine (ref_trimN Hpl.out (hRb.mid hpw Htl.out) hcc1 hcc2).mono ?_
      rintro e w5 ⟨rfl, rfl⟩
      go_wp2_with fail
      refine (ref_minus rfl rfl hpt hus hul (by rw [val_trimL, Huv.out]; exact Hq1.out) (by omega)).mono ?_
      rintro e w6 ⟨A6, c6, dd, rfl, ho6, hc6, hm6, ⟨hv6, hn6, hl6⟩, hxt6⟩
      have hfin : val dd < val ds ∧ val dd + q * val ds = val part := by
        have a1 := Hq1.out
        have a2 := Hq2.out
        rw [val_trimL, Huv.out] at hv6
        rw [Nat.add_mul, Nat.one_mul] at a2
        omega
      have Hfin := Lib.hid hfin
      have hdl6 : dd.length ≤ m + 1 := by omega
      replace hRb := hRb.ext hxt6
      replace hQb := hQb.ext hxt6
      replace hdr := hdr.ext hxt6
      replace hext := hext.trans hxt6
      have hapd := ho6.apart (show g1 < V.heap.size by omega)
      have hdd := ho6.rd
      clear hfin hv6 hl6 hul hpt hptl hus ho6 hxt6 hn6
      go_wp2_with fail
      go_loopw [19] (fun i wk => ∃ (kk : Nat) (zs : List Nat), kk ≤ m + 1 ∧ i = .int .i64 (kk : Int) ∧ zs.length = m + 1 ∧ W32 zs ∧ zs.take kk = (padL dd (m + 1)).take kk ∧ BlkN wk g1 (pre ++ zs ++ post) ∧ Mod w6 wk g1) (fun i _ => m + 1 - (intOf i).toNat)
      case atStart => exact ⟨0, part, by omega, rfl, Hpl.out, hpw, rfl, hRb, Mod.refl _ _⟩
      case round =>
        obtain ⟨kk, zs, hkk, rfl, hzl, hzw, htk, hblk, hmod⟩ := hrel
        have Htk := Lib.hid htk
        clear htk
        by_cases hlt : kk < m + 1
        · obtain ⟨b2, o2, he, hb2, hcz⟩ := (hblk.mid hzw Htl.out).at_ (i := kk) (by omega)
          injection he with he
          injection he with he1 he2
          subst he1; subst he2
          have hfz := hblk.frozen (j + kk)
          by_cases hkd : kk < dd.length
          · go_upto_region 23 with (fail)
            refine at_world (fun W => BlkN W g1 (pre ++ zs.set kk 0 ++ post) ∧ Mod w6 W g1) ⟨hblk.setMid Htl.out (by omega) rfl, hmod.setCell _ _⟩ ?_
            clear hcz hfz hblk hmod
            rintro W ⟨hbW, hmW⟩
            obtain ⟨b3, o3, rfl, hb3, hcd⟩ := (hdd.mod hmW hapd).at_ hkd
            obtain ⟨b2, o2, he, hb2', hcz⟩ := (hbW.mid (hzw.set kk (by omega)) Htl.out).at_ (i := kk) (by simp; omega)
            injection he with he
            injection he with he1 he2
            subst he1; subst he2
            have hfz := hbW.frozen (j + kk)
            have hdk := hdd.1.get hkd
            have hkdi : (kk : Int) < (dd.length : Int) := by omega
            have Hpad := Lib.hid (pad_step (zs := zs) (P := padL dd (m + 1)) (k := kk) (v := dd[kk]) (by omega) (by rw [padL_len hdl6]; omega) Htk.out (padL_in hkd _))
            go_wp2
            go_roundw
            case rel =>
              have hset := hbW.setMid (v := ((dd[kk] : Nat) : Int)) (n := dd[kk]) Htl.out (i := kk) (by simp; omega) rfl
              rw [List.set_set] at hset
              exact ⟨kk + 1, zs.set kk dd[kk], by omega, by go_num, by simp [hzl], hzw.set _ hdk, Hpad.out, hset, hmW.setCell _ _⟩
            case measure => simp [intOf]; omega
          · have hkdi : ¬ (kk : Int) < (dd.length : Int) := by omega
            have Hpad := Lib.hid (pad_step (zs := zs) (P := padL dd (m + 1)) (k := kk) (v := 0) (by omega) (by rw [padL_len hdl6]; omega) Htk.out (padL_out hkd _))
            go_wp2
            go_roundw
            case rel => exact ⟨kk + 1, zs.set kk 0, by omega, by go_num, by simp [hzl], hzw.set _ (by omega), Hpad.out, hblk.setMid Htl.out (by omega) rfl, hmod.setCell _ _⟩
            case measure => simp [intOf]; omega
        · have hkk' : kk = m + 1 := by omega
          have hfull : zs = padL dd (m + 1) := by
            have := Htk.out
            rwa [List.take_of_length_le (by omega), List.take_of_length_le (by rw [padL_len hdl6]; omega)] at this
          have hvz : val zs = val dd := by rw [hfull, padL_val]
          have Hinv2 := Lib.hid (Hst.out zs q hzl hzw hq32 (by rw [hvz]; exact Hfin.out.1) (by rw [hvz]; exact Hfin.out.2))
          have hlti : ¬ (kk : Int) < (m : Int) + 1 := by omega
          clear hfull hvz hkk'
          go_wp2_with fail
          go_roundw
          case rel => exact ⟨j, _, _, by omega, rfl, Hinv2.out, hblk, hQb.mod hmod (by omega), hdr.mod hmod hap, hmod.ext hext hgw⟩
          case measure => simp [intOf]
end
end Go.Proofs.YtmjmcinnbmjpdaaDoor
namespace Go.Proofs.YtmjmcinnbmjpdaaDoor
open Go.RowKit
theorem trim_last {xs : List Nat} (h : 0 < xs.length) : (trimL xs).length = xs.length ↔ xs[xs.length - 1]'(by omega) ≠ 0 := by
  have hk : xs.length - 1 < xs.length := by omega
  have ht : xs.take (xs.length - 1 + 1) = xs := List.take_of_length_le (by omega)
  constructor
  · intro he h0
    have := trimL_zero xs (xs.length - 1) hk h0
    rw [ht] at this
    have hl := trimL_len (xs.take (xs.length - 1))
    rw [← this, List.length_take] at hl
    omega
  · intro h0
    have := trimL_pos xs (xs.length - 1) hk h0
    rw [ht] at this
    rw [this]
def validB (s : Bool) (xs : List Nat) : Bool := decide ((trimL xs).length = xs.length) && (!s || decide (0 < xs.length))
section
variable {A B : Option Addr} {c d n m : Nat} {xs ys : List Nat} {w : World} {s t : Bool}
end
end Go.Proofs.YtmjmcinnbmjpdaaDoor
