/- Walks and laws, part 14. -/
import Derived.Test.YtmjmcinnbmjpdaaDoorMt9
import Derived.Test.YtmjmcinnbmjpdaaDoorMt11
import Derived.Test.YtmjmcinnbmjpdaaDoorMt13
namespace Go.Proofs.YtmjmcinnbmjpdaaDoor
open Go.RowKit
theorem multiply_162 : MultiplyOK 162 := fun _ _ _ _ n m _ _ _ hn hm hx hy h hs => by
  by_cases h64 : min n m < 64
  · exact int_multiply_s hn hm hx hy h64 (by omega)
  · rcases hs with hs | ⟨rfl, hpx, hpy, hc, hcm, hd, hdm⟩
    · exact absurd hs h64
    · exact int_multiply_k hn hm hx hy (by omega) (by omega) hpx hpy hc hcm hd hdm
end Go.Proofs.YtmjmcinnbmjpdaaDoor
namespace Go.Proofs.YtmjmcinnbmjpdaaDoor
open Go.RowKit
attribute [local go_sem ↓] Go.wp_at_zero Go.wp_at_succ
theorem conv_row {w : World} {base N : Nat} {text : Value} {D : List UInt8} (h : w.ownsRow base 5 1 text N (D.map Bd)) (h0 : 0 < N) :
    ∃ g cap, text = .slice (some ⟨g, 0, none⟩) N cap ∧ (convert 63 9 (.slice (some ⟨g, 0, none⟩) N cap)).run Tryd.prog w = .ok (.string ⟨D.toArray⟩) w := by
  have hl : D.length = N := by simpa using h.1
  rcases h.2 with ⟨_, h1⟩ | ⟨g, cap, cur, rfl, _, hh, _, _, _, ht⟩
  · omega
  · refine ⟨g, cap, rfl, ?_⟩
    subst hl
    refine run_convert_bytes_back (P := Tryd.prog) w 63 9 5 ⟨g, 0, none⟩ cap D Tryd.underlying63 Tryd.underlying5 Tryd.underlying9 (fun j hj => ?_)
    rw [Lib.add_plain, cell_of_row w g (0 + j) cur _ (0, 0) hh, Nat.zero_add, ← Array.getElem?_toList]
    have := congrArg (fun l => l[j]?) ht
    simp only [Nat.mul_one, List.getElem?_take, hj, if_true, List.getElem?_map, List.getElem?_eq_getElem hj, Option.map_some] at this
    exact this
theorem pow_288 : 4294967296 ^ 20 ≤ 10 ^ 288 := by decide +kernel
section
variable {A : Option Addr} {c n : Nat} {xs : List Nat} {w : World}
set_option maxHeartbeats 4000000 in
theorem decimal_2 (hn : xs.length = n) (hx : Rd w A xs) (h2 : n ≤ 2) (htab : TabP w) :
    Calls Tryd.prog 34 #[.slice A n c] w fun e w' => ∃ s : ByteArray, e = .returned (.string s) ∧ s.data.toList = Lib.decDigits (val xs) ∧ Ext w w' := by
  have t1 : decide ((n : Int) ≤ 2) = true := decide_eq_true (by omega)
  have hlt : val xs < 18446744073709551616 := val_lt_two hx.1 (by omega)
  go_enter Tryd.func34, Tryd.ntmps34
  go_wp2_with fail
  refine (int_toUint hn hx h2).mono ?_
  rintro e w1 ⟨rfl, rfl⟩
  go_wp2_with fail
  refine (fmt_uint' (val xs) hlt htab).mono ?_
  rintro e w2 ⟨rfl, hxt⟩
  go_wp2
  go_ret
  exact ⟨_, rfl, rfl, hxt⟩
theorem Tryd.infoM : (Tryd.prog.info? 48).map (fun i => (i.zero, i.size, i.bytes)) = some (some (.slice none 0 0), 1, 24) := by kernel_rfl
def sliceLen : Value → Nat | .slice _ n _ => n | _ => 0
theorem cmp_le {qs xs : List Nat} (hq : W32 qs) (hx : W32 xs) (nq : Nrm qs) (nx : Nrm xs) (h : val qs ≤ val xs) : ∃ r : Int, cmpL qs xs = r ∧ decide (r ≤ 0) = true := by
  refine ⟨_, rfl, ?_⟩
  rw [cmpL_nrm hq hx nq nx]
  rcases Nat.lt_or_ge (val qs) (val xs) with h1 | h1
  · rw [cmpI_of_lt h1]; rfl
  · rw [cmpI_of_eq (by omega)]; rfl
theorem cmp_gt {qs xs : List Nat} (hq : W32 qs) (hx : W32 xs) (nq : Nrm qs) (nx : Nrm xs) (h : val xs < val qs) : ∃ r : Int, cmpL qs xs = r ∧ decide (r ≤ 0) = false := by
  refine ⟨_, rfl, ?_⟩
  rw [cmpL_nrm hq hx nq nx, cmpI_of_gt h]; rfl
theorem pow_144 : 10 ^ 144 < 4294967296 ^ 15 := by decide +kernel
theorem pow_144' : 10 ^ 144 * 10 ^ 144 = 10 ^ 288 := by decide +kernel
theorem len_144 {ps : List Nat} (hn : Nrm ps) (h : val ps = 10 ^ 144) : ps.length ≤ 15 := by
  refine Decidable.byContradiction fun hc => ?_
  have h1 := hn.ge (by rintro rfl; simp at hc)
  rw [h] at h1
  have h2 : 4294967296 ^ 15 ≤ 4294967296 ^ (ps.length - 1) := Nat.pow_le_pow_right (by omega) (by omega)
  have h3 := pow_144
  generalize 4294967296 ^ (ps.length - 1) = a at *
  generalize 4294967296 ^ 15 = b at *
  generalize 10 ^ 144 = d at *
  omega
theorem int_compareN {A B : Option Addr} {c d n m : Nat} {xs ys : List Nat} {w : World} {r : Int} (hn : xs.length = n) (hm : ys.length = m) (hx : Rd w A xs) (hy : Rd w B ys) (h1 : n ≤ 1000) (h2 : m ≤ 1000) (hr : cmpL xs ys = r) :
    Calls Tryd.prog 43 #[.slice A n c, .slice B m d] w fun e w' => e = .returned (.int .i64 r) ∧ Ext w w' := by
  subst hn
  subst hm
  subst hr
  exact int_compare _ _ _ _ _ _ _ hx hy (by unfold maxLen; omega) (by unfold maxLen; omega)
theorem new_news (w : World) (v : Value) (t : TypeId) : ∀ j u, ([v] : List Value)[j]? = some u → (w.alloc (.cells #[v] t)).cell? ((⟨w.heap.size, 0, none⟩ : Addr).add j) = some u := by
  intro j u hu
  rcases j with _ | j
  · simp at hu
    subst hu
    exact new_cell w #[v] t 0
  · simp at hu
theorem row_one {w : World} {base : Nat} {v x : Value} (h : w.ownsRow base 48 1 v (0 + 1) ([] ++ [x])) : ∃ b q, base ≤ b ∧ v = .slice (some ⟨b, 0, none⟩) 1 q ∧ w.cell? ⟨b, 0, none⟩ = some x := by
  rcases h.2 with ⟨_, h0⟩ | ⟨g, cap, cur, hv, hb, hh, _, _, _, ht⟩
  · omega
  · refine ⟨g, cap, hb, hv, ?_⟩
    rw [cell_of_row w g 0 cur _ (0, 0) hh, ← Array.getElem?_toList]
    have := congrArg (fun l => l[0]?) ht
    simpa [List.getElem?_take] using this
theorem oneTen (w : World) : Rd (w.alloc (.cells #[.int .u32 10] 43)) (some ⟨w.heap.size, 0, none⟩) [10] := (BlkN.lit w [10] _ rfl).rd0 (W32.one (by omega))
set_option maxHeartbeats 4000000 in
theorem decimal_long (hn : xs.length = n) (hx : Rd w A xs) (hc : n ≤ c) (hcm : c ≤ maxLen) (h20 : n ≤ 20) (h2 : 2 < n) (hnx : Nrm xs) :
    Calls Tryd.prog 34 #[.slice A n c] w fun e w' => ∃ s : ByteArray, e = .returned (.string s) ∧ s.data.toList = Lib.decDigits (val xs) ∧ Ext w w' := by
  have t1 : decide ((n : Int) ≤ 2) = false := decide_eq_false (by omega)
  have Hn := Lib.hid hn
  clear hn
  go_enter Tryd.func34, Tryd.ntmps34
  go_wp2_with fail
  refine (int_power (k := 144) multiply_162 (by rfl) (oneTen w) (by omega) (by omega) (by omega)).mono ?_
  rintro e w1 ⟨A1, c1, ps, rfl, hr1, hc1, hm1, ⟨hv1, hn1, hl1⟩, hxt⟩
  have hps : val ps = 10 ^ 144 := hv1
  have hpl := len_144 hn1 hps
  have hp0 : 0 < ps.length := by
    rcases Nat.eq_zero_or_pos ps.length with h | h
    · rw [List.length_eq_zero_iff.1 h] at hps
      have h4 : 0 < 10 ^ 144 := Nat.pow_pos (by omega)
      rw [← hps] at h4
      simp [val] at h4
    · exact h
  have hxb : val xs < 10 ^ 288 := by
    have h5 := val_lt hx.1
    have h6 : 4294967296 ^ xs.length ≤ 4294967296 ^ 20 := Nat.pow_le_pow_right (by omega) (by have := Hn.out; omega)
    exact Nat.lt_of_lt_of_le h5 (Nat.le_trans h6 pow_288)
  rw [← pow_144'] at hxb
  obtain ⟨T, hT⟩ : ∃ T : Nat, T = 10 ^ 144 := ⟨_, rfl⟩
  rw [← hT] at hps hxb
  have hv0 : val xs ≠ 0 := fun h => by
    have h1 := hnx.zero.1 h
    rw [h1] at Hn
    have := Hn.out
    simp at this
    omega
  have Hv0 := Lib.hid hv0
  clear hv0
  have HT := Lib.hid hT
  have Hxb := Lib.hid hxb
  clear hv1 hl1 hT hxb
  have hex : Ext w w1 := by first | exact hxt | exact ((Ext.refl w).alloc _).trans hxt
  go_wp2
  go_loopw [3, 4] (fun z p V => ∃ (k : Nat) (A2 : Option Addr) (c2 : Nat) (qs : List Nat), p = .slice A2 (List.length qs) c2 ∧ Rd V A2 qs ∧ Nrm qs ∧ qs.length ≤ c2 ∧ c2 ≤ maxLen ∧ qs.length ≤ 200 ∧ Ext w V ∧ ((k = 0 ∧ z = .slice none 0 0 ∧ val qs = T ∧ qs.length ≤ 15 ∧ 0 < qs.length) ∨ (k = 1 ∧ ∃ b q B m d ys, z = .slice (some ⟨b, 0, none⟩) 1 q ∧ V.cell? ⟨b, 0, none⟩ = some (.slice B m d) ∧ List.length ys = m ∧ Rd V B ys ∧ m ≤ d ∧ d ≤ maxLen ∧ Nrm ys ∧ val ys = T ∧ 0 < m ∧ m ≤ 100 ∧ val qs = T * T ∧ T ≤ val xs))) (fun z _ _ => 1 - sliceLen z)
  case atStart => exact ⟨0, A1, c1, ps, rfl, hr1, hn1, hc1, hm1, by omega, hex, .inl ⟨rfl, rfl, hps, hpl, hp0⟩⟩
  case round =>
    clear hr1 hn1 hc1 hm1 hps hpl hp0 hex hxt
    obtain ⟨k, A2, c2, qs, rfl, hr, hnq, hcq, hmq, hlq, hext, hk⟩ := hrel
    rcases hk with ⟨rfl, rfl, hval, hl15, hl0⟩ | ⟨rfl, b, q, B, m, d, ys, rfl, hcell, hym, hry, hmd, hdm, hny, hvy, hm0, hm100, hval, hTx⟩
    · by_cases hle : T ≤ val xs
      · obtain ⟨r, hr1, hr2⟩ := cmp_le hr.1 hx.1 hnq hnx (by omega)
        have HR := Lib.hid hr1
        clear hr1
        go_wp2_with (first | (at_builtin; refine wpList_append_own _ rfl _ _ 82 rfl w2.heap.size 48 i0 (.slice none 0 0) 1 24 Tryd.underlying82 hi hz0 hz1 hz2 rfl (by decide) _ 0 [] rfl (owns_nil _ _ _ _) ⟨w2.heap.size, 0, none⟩ 1 1 [.slice A2 qs.length c2] rfl rfl (new_news w2 _ _) (by simp [Value.oneCell']) (by unfold maxLen; omega) (by omega) (by simp) ?_; intro v' w3 hown' hgr _; obtain ⟨b, q, hbq, rfl, hcl⟩ := row_one hown'; have e3 : Ext w2 w3 := Below.grown ((Ext.refl w2).alloc _) hgr (by simp) (fun k hk => nomatch (show (none : Option Nat) = some k from hk)); have e23 := (hext.trans hx2).trans e3; have hr3 := hr.ext (hx2.trans e3); clear hown' hgr) | (go_at_call 61; refine (int_multiply_s rfl rfl hr3 hr3 (by omega) (by omega)).mono ?_; rintro e w4 ⟨A4, c4, zs, rfl, ho4, hc4, hm4, ⟨hv4, hn4, hl4⟩, hx4⟩) | (go_at_call 43; refine (int_compareN rfl Hn.out hr (hx.ext hext) (by omega) (by omega) HR.out).mono ?_; rintro e w2 ⟨rfl, hx2⟩; obtain ⟨i0, hi, hz0, hz1, hz2⟩ := info_partsB Tryd.infoM))
        refine ⟨⟨1, A4, c4, zs, rfl, ho4.rd, hn4, hc4, hm4, by omega, e23.trans hx4, .inr ⟨rfl, b, q, A2, qs.length, c2, qs, rfl, hx4.cellv hcl, rfl, hr3.ext hx4, hcq, hmq, hnq, hval, hl0, by omega, by rw [hv4, hval], hle⟩⟩, ?_⟩
        simp [sliceLen]
      · obtain ⟨r, hr1, hr2⟩ := cmp_gt hr.1 hx.1 hnq hnx (by omega)
        have HR := Lib.hid hr1
        clear hr1
        go_wp2_with (first | (go_at_call 43; refine (int_compareN rfl Hn.out hr (hx.ext hext) (by omega) (by omega) HR.out).mono ?_; rintro e w2 ⟨rfl, hx2⟩) | (go_at_call 63; refine (digits_0 (Ext.refl w2) (owns_nil w2 w2.heap.size 5 1) (by omega) Hn.out (hx.ext (hext.trans hx2)) (by omega)).mono ?_; rintro e w3 ⟨text, D, rfl, ho3, hD, hx3⟩; have ho4 : w3.ownsRow w2.heap.size 5 1 text 144 (D.map Bd) := ho3; obtain ⟨g, cap, rfl, hcv⟩ := conv_row ho4 (by omega); have HD := Lib.hid hD; clear ho3 ho4 hD) | (go_at_call 62; refine (Tryd.strings_TrimLeft_one _ 48 (by decide) _).mono ?_; rintro e w4 ⟨rfl, rfl⟩))
        go_ret
        refine ⟨_, rfl, ?_, (hext.trans hx2).trans hx3⟩
        show Lib.trimLeftB D 48 = _
        rw [HD.out, trim_pd (k := 144) (by rw [← HT.out]; omega)]
        unfold fd
        rw [if_neg Hv0.out]
    · obtain ⟨r, hr1, hr2⟩ := cmp_gt hr.1 hx.1 hnq hnx (by rw [hval]; exact Hxb.out)
      have HR := Lib.hid hr1
      clear hr1
      go_wp2_with (first | (go_at_call 43; refine (int_compareN rfl Hn.out hr (hx.ext hext) (by omega) (by omega) HR.out).mono ?_; rintro e w2 ⟨rfl, hx2⟩) | (go_at_call 63; refine (digits_1 HT.out Hn.out (hx.ext (hext.trans hx2)) hc hcm (by omega) hnx (hx2.cellv hcell) hym (hry.ext hx2) hmd hdm hny (by omega) hm0 hvy).mono ?_; rintro e w3 ⟨text, D, rfl, ho3, hD, hx3⟩; have ho4 : w3.ownsRow w2.heap.size 5 1 text 288 (D.map Bd) := ho3; obtain ⟨g, cap, rfl, hcv⟩ := conv_row ho4 (by omega); have HD := Lib.hid hD; clear ho3 ho4 hD) | (go_at_call 62; refine (Tryd.strings_TrimLeft_one _ 48 (by decide) _).mono ?_; rintro e w4 ⟨rfl, rfl⟩))
      go_ret
      refine ⟨_, rfl, ?_, (hext.trans hx2).trans hx3⟩
      show Lib.trimLeftB D 48 = _
      rw [HD.out, trim_pd (k := 288) (by rw [← pow_144', ← HT.out]; exact Hxb.out)]
      unfold fd
      rw [if_neg Hv0.out]
end
end Go.Proofs.YtmjmcinnbmjpdaaDoor
namespace Go.Proofs.YtmjmcinnbmjpdaaDoor
open Go.RowKit
attribute [local go_sem ↓] Go.wp_at_zero Go.wp_at_succ
theorem TabP.ext {w w' : World} (h : TabP w) (e : Ext w w') : TabP w' := by
  unfold TabP Lib.TabIs World.var? at *
  cases hg : Tryd.prog.globalNamed "internal/strconv.uint64pow10" with
  | none => simp [hg] at h
  | some g =>
    simp only [hg, Option.bind_some] at h ⊢
    have hlt : g < w.heap.size := by
      rcases Nat.lt_or_ge g w.heap.size with h' | h'
      · exact h'
      · rw [Array.getElem?_eq_none h'] at h; simp at h
    have hb : Below w.heap.size w w' := e
    rw [hb.block g hlt]
    exact h
section
variable {A : Option Addr} {c n : Nat} {xs : List Nat} {w : World} {s : Bool}
theorem int_decimalDigits (hn : xs.length = n) (hx : Rd w A xs) (hc : n ≤ c) (hcm : c ≤ maxLen) (h20 : n ≤ 20) (hnx : Nrm xs) (htab : TabP w) :
    Calls Tryd.prog 34 #[.slice A n c] w fun e w' => ∃ s : ByteArray, e = .returned (.string s) ∧ s.data.toList = Lib.decDigits (val xs) ∧ Ext w w' := by
  by_cases h2 : n ≤ 2
  · exact decimal_2 hn hx h2 htab
  · exact decimal_long hn hx hc hcm h20 (by omega) hnx
set_option maxHeartbeats 2000000 in
theorem int_Format (hn : xs.length = n) (hx : Rd w A xs) (hc : n ≤ c) (hcm : c ≤ maxLen) (h20 : n ≤ 20) (htab : TabP w) :
    Calls Tryd.prog 15 #[.agg #[.bool s, .slice A n c]] w fun e w' => ∃ str : ByteArray, e = .returned (.string str) ∧ str.data.toList = Lib.itoa (ival s xs) ∧ Ext w w' := by
  have Hn := Lib.hid hn
  clear hn
  have lx := trimL_len xs
  have hxt : Rd w A (trimL xs) := by rw [trimL_take]; exact hx.take _
  go_enter Tryd.func15, Tryd.ntmps15
  go_upto_region 1 with (fail)
  obtain ⟨W, hW, extW, bx, hz⟩ := box1 w 24 #[.bool s, .slice A n c]
  rw [← hW]
  clear hW
  have x0 := bx.cell 0 (.bool s) rfl
  have x1 := bx.cell 1 (.slice A n c) rfl
  go_wp2_with fail
  refine (int_trimN Hn.out (hx.ext extW) hc hcm).mono ?_
  rintro e w1 ⟨rfl, rfl⟩
  have hz1 := itoa_fd (ival s xs)
  by_cases h0 : trimL xs = []
  · have hl0 : (trimL xs).length = 0 := by rw [h0]; rfl
    have hv : ival s xs = 0 := by
      have : val xs = 0 := by rw [← val_trimL, h0]; rfl
      unfold ival; rw [this]; cases s <;> rfl
    rw [if_pos hv] at hz1
    have Hz1 := Lib.hid hz1
    clear hz1
    rw [hl0]
    go_wp2_with fail
    go_ret
    exact ⟨_, rfl, Hz1.out.symm, extW⟩
  · have hl0 : 0 < (trimL xs).length := List.length_pos_iff.2 h0
    have hvp : val (trimL xs) ≠ 0 := fun h => h0 ((Nrm.trimL xs).zero.1 h)
    have hv : val xs ≠ 0 := by rw [← val_trimL]; exact hvp
    have hfd : fd (val xs) = Lib.decDigits (val (trimL xs)) := by rw [val_trimL]; unfold fd; rw [if_neg hv]
    have hne : ((( trimL xs).length : Int) == 0) = false := by rw [beq_eq_false_iff_ne]; omega
    have hl20 : (trimL xs).length ≤ 20 := by have := Hn.out; omega
    have hlc : (trimL xs).length ≤ c := by have := Hn.out; omega
    have Hz1 := Lib.hid hz1
    have Hfd := Lib.hid hfd
    clear hz1 hfd
    generalize hL : (trimL xs).length = L at *
    cases s
    · go_wp2_with (go_at_call 34; refine (int_decimalDigits hL (hxt.ext extW) hlc hcm hl20 (Nrm.trimL xs) (htab.ext extW)).mono ?_; rintro e w2 ⟨str, rfl, hs, hx2⟩; have hsz : str.size ≤ 1000 := (by rw [Lib.size_eq, hs, ← Hfd.out]; have := fd_len_words hx.1; have := Hn.out; omega); have y0 := (bx.ext hx2).cell 0 _ rfl; have Hs := Lib.hid hs; clear hs)
      go_ret
      refine ⟨_, rfl, ?_, extW.trans hx2⟩
      have hpos : 0 < ival false xs := by unfold ival; simp; omega
      rw [Hs.out, Hz1.out, if_neg (by omega), if_neg (by omega), ← Hfd.out]
      congr 1
    · go_wp2_with (go_at_call 34; refine (int_decimalDigits hL (hxt.ext extW) hlc hcm hl20 (Nrm.trimL xs) (htab.ext extW)).mono ?_; rintro e w2 ⟨str, rfl, hs, hx2⟩; have hsz : str.size ≤ 1000 := (by rw [Lib.size_eq, hs, ← Hfd.out]; have := fd_len_words hx.1; have := Hn.out; omega); have y0 := (bx.ext hx2).cell 0 _ rfl; have Hs := Lib.hid hs; clear hs)
      go_ret
      refine ⟨_, rfl, ?_, extW.trans hx2⟩
      have hneg : ival true xs < 0 := by unfold ival; simp; omega
      have habs : (ival true xs).natAbs = val xs := by unfold ival; simp
      rw [append_toList, Hs.out, Hz1.out, if_neg (by omega), if_pos hneg, habs, Hfd.out]
      rfl
end
end Go.Proofs.YtmjmcinnbmjpdaaDoor
namespace Go.Proofs.YtmjmcinnbmjpdaaDoor
open Go.RowKit
attribute [local go_sem ↓] Go.wp_at_zero Go.wp_at_succ
/-- an integer and an error's number. -/
def RetIE (z : Int) (len : Nat) (err : Int) (w : World) (e : Ending) (w' : World) : Prop :=
  ∃ b A c ys, e = .returned (.tuple #[.agg #[.bool b, .slice A (List.length ys) c], .int .i64 err]) ∧ Rd w' A ys ∧ ys.length ≤ c ∧ c ≤ maxLen ∧ IsInt z b ys ∧ ys.length ≤ len ∧ Ext w w'
theorem neg_pow_even (x : Int) (k : Nat) (h : k % 2 = 0) : (-x) ^ k = x ^ k := by
  obtain ⟨j, rfl⟩ : ∃ j, k = 2 * j := ⟨k / 2, by omega⟩
  rw [Int.pow_mul, Int.pow_mul]
  congr 1
  rw [Int.pow_succ, Int.pow_succ, Int.pow_succ, Int.pow_succ, Int.pow_zero, Int.pow_zero, Int.one_mul, Int.one_mul, Int.neg_mul_neg]
theorem neg_pow_odd (x : Int) (k : Nat) (h : k % 2 = 1) : (-x) ^ k = -(x ^ k) := by
  obtain ⟨j, rfl⟩ : ∃ j, k = j + 1 := ⟨k - 1, by omega⟩
  rw [Int.pow_succ, Int.pow_succ, neg_pow_even x j (by omega), Int.mul_neg]
theorem ival_pow {s b : Bool} {xs zs : List Nat} {k : Nat} (h : val zs = val xs ^ k) (hb : b = (s && decide (k % 2 = 1))) : ival b zs = (ival s xs) ^ k := by
  subst hb
  unfold ival
  rw [h, Int.natCast_pow]
  cases s with
  | false => simp
  | true =>
    by_cases hk : k % 2 = 1
    · simp [hk, neg_pow_odd _ _ hk]
    · simp [hk, neg_pow_even _ _ (show k % 2 = 0 by omega)]
section
variable {A B : Option Addr} {c d n m L : Nat} {xs ys : List Nat} {w : World} {s t : Bool}
set_option maxHeartbeats 1000000 in
theorem int_Pow_f {k : Nat} (hM : MultiplyOK L) (hn : xs.length = n) (hx : Rd w A xs) (hc : n ≤ c) (hcm : c ≤ maxLen) (hk : k ≤ 4096) (hL : k * n + 2 ≤ L) (hL2 : n < 64) :
    Calls Tryd.prog 19 #[.agg #[.bool false, .slice A n c], .int .i64 (k : Int)] w (RetIE ((ival false xs) ^ k) (max 1 (k * xs.length)) 0 w) := by
  have Hn := Lib.hid hn
  have HM := Lib.hid hM
  have HL := Lib.hid hL
  clear hn hM hL
  have lx := trimL_len xs
  have hxt : Rd w A (trimL xs) := by rw [trimL_take]; exact hx.take _
  have t0 : decide ((k : Int) < 0) = false := decide_eq_false (by omega)
  have t1 : decide ((4096 : Int) < (k : Int)) = false := decide_eq_false (by omega)
  go_enter Tryd.func19, Tryd.ntmps19
  go_upto_region 1 with (fail)
  obtain ⟨W, hW, extW, bx, bz, hz⟩ := box2 w 24 24 #[.bool false, .slice A n c] #[.bool false, .slice none 0 0]
  rw [← hW]
  clear hW
  have x0 := bx.cell 0 (.bool false) rfl
  have x1 := bx.cell 1 (.slice A n c) rfl
  go_wp2_with fail
  refine (int_trimN Hn.out (hx.ext extW) hc hcm).mono ?_
  rintro e w1 ⟨rfl, rfl⟩
  go_wp2_with fail
  refine (int_power HM.out rfl (hxt.ext extW) hk (by have := HL.out; have h := Nat.mul_le_mul_left k (show (trimL xs).length ≤ n by have := Hn.out; omega); omega) (by have := Hn.out; omega)).mono ?_
  rintro e w2 ⟨A2, c2, zs, rfl, hr2, hc2, hm2, ⟨hv2, hn2, hl2⟩, hext2⟩
  have Hv2 := Lib.hid hv2
  clear hv2
  go_wp2_with fail
  refine (int_signed rfl hr2 hc2 hm2 hn2).mono ?_
  rintro e w3 ⟨b3, A3, c3, rs, rfl, hr3, hc3, hm3, hi3, hl3, hext3⟩
  have ext3 := hext2.trans hext3
  have bz3 := bz.ext ext3
  have z0 := bz3.cell 0 (.bool false) rfl
  have z1 := bz3.cell 1 (.slice none 0 0) rfl
  have f0 := bz3.frozen 0
  have f1 := bz3.frozen 1
  go_wp2_with fail
  obtain ⟨r1, r2, r3, r4⟩ := fin_pair (b := b3) (n := rs.length) (c := c3) (extW.trans ext3) (by omega) bz3 hr3
  refine bodyPost_ret (v := .tuple #[.agg #[.bool b3, .slice A3 rs.length c3], .int .i64 0]) (by simp [results, Tryd.results19, go_sem, r3, r4]) rfl ⟨b3, A3, c3, rs, rfl, r1, hc3, hm3, ?_, ?_, r2⟩
  · have hv := Hv2.out
    rw [val_trimL] at hv
    rw [ival_pow (s := false) hv (by simp)] at hi3
    exact hi3
  · have h := Nat.mul_le_mul_left k lx
    omega

set_option maxHeartbeats 1000000 in
theorem int_Pow_e {k : Nat} (hM : MultiplyOK L) (hn : xs.length = n) (hx : Rd w A xs) (hc : n ≤ c) (hcm : c ≤ maxLen) (hk : k ≤ 4096) (hL : k * n + 2 ≤ L) (hL2 : n < 64) (he : k % 2 = 0) :
    Calls Tryd.prog 19 #[.agg #[.bool true, .slice A n c], .int .i64 (k : Int)] w (RetIE ((ival true xs) ^ k) (max 1 (k * xs.length)) 0 w) := by
  have Hn := Lib.hid hn
  have HM := Lib.hid hM
  have HL := Lib.hid hL
  clear hn hM hL
  have lx := trimL_len xs
  have hxt : Rd w A (trimL xs) := by rw [trimL_take]; exact hx.take _
  have t0 : decide ((k : Int) < 0) = false := decide_eq_false (by omega)
  have t1 : decide ((4096 : Int) < (k : Int)) = false := decide_eq_false (by omega)
  have t2 : (((k : Int) % 2) == 1) = false := by rw [beq_eq_false_iff_ne]; omega
  go_enter Tryd.func19, Tryd.ntmps19
  go_upto_region 1 with (fail)
  obtain ⟨W, hW, extW, bx, bz, hz⟩ := box2 w 24 24 #[.bool true, .slice A n c] #[.bool false, .slice none 0 0]
  rw [← hW]
  clear hW
  have x0 := bx.cell 0 (.bool true) rfl
  have x1 := bx.cell 1 (.slice A n c) rfl
  go_wp2_with fail
  refine (int_trimN Hn.out (hx.ext extW) hc hcm).mono ?_
  rintro e w1 ⟨rfl, rfl⟩
  go_wp2_with fail
  refine (int_power HM.out rfl (hxt.ext extW) hk (by have := HL.out; have h := Nat.mul_le_mul_left k (show (trimL xs).length ≤ n by have := Hn.out; omega); omega) (by have := Hn.out; omega)).mono ?_
  rintro e w2 ⟨A2, c2, zs, rfl, hr2, hc2, hm2, ⟨hv2, hn2, hl2⟩, hext2⟩
  have Hv2 := Lib.hid hv2
  clear hv2
  go_wp2_with fail
  refine (int_signed rfl hr2 hc2 hm2 hn2).mono ?_
  rintro e w3 ⟨b3, A3, c3, rs, rfl, hr3, hc3, hm3, hi3, hl3, hext3⟩
  have ext3 := hext2.trans hext3
  have bz3 := bz.ext ext3
  have z0 := bz3.cell 0 (.bool false) rfl
  have z1 := bz3.cell 1 (.slice none 0 0) rfl
  have f0 := bz3.frozen 0
  have f1 := bz3.frozen 1
  go_wp2_with fail
  obtain ⟨r1, r2, r3, r4⟩ := fin_pair (b := b3) (n := rs.length) (c := c3) (extW.trans ext3) (by omega) bz3 hr3
  refine bodyPost_ret (v := .tuple #[.agg #[.bool b3, .slice A3 rs.length c3], .int .i64 0]) (by simp [results, Tryd.results19, go_sem, r3, r4]) rfl ⟨b3, A3, c3, rs, rfl, r1, hc3, hm3, ?_, ?_, r2⟩
  · have hv := Hv2.out
    rw [val_trimL] at hv
    rw [ival_pow (s := true) hv (by simp; omega)] at hi3
    exact hi3
  · have h := Nat.mul_le_mul_left k lx
    omega

set_option maxHeartbeats 1000000 in
theorem int_Pow_o {k : Nat} (hM : MultiplyOK L) (hn : xs.length = n) (hx : Rd w A xs) (hc : n ≤ c) (hcm : c ≤ maxLen) (hk : k ≤ 4096) (hL : k * n + 2 ≤ L) (hL2 : n < 64) (he : k % 2 = 1) :
    Calls Tryd.prog 19 #[.agg #[.bool true, .slice A n c], .int .i64 (k : Int)] w (RetIE ((ival true xs) ^ k) (max 1 (k * xs.length)) 0 w) := by
  have Hn := Lib.hid hn
  have HM := Lib.hid hM
  have HL := Lib.hid hL
  clear hn hM hL
  have lx := trimL_len xs
  have hxt : Rd w A (trimL xs) := by rw [trimL_take]; exact hx.take _
  have t0 : decide ((k : Int) < 0) = false := decide_eq_false (by omega)
  have t1 : decide ((4096 : Int) < (k : Int)) = false := decide_eq_false (by omega)
  have t2 : (((k : Int) % 2) == 1) = true := by rw [beq_iff_eq]; omega
  go_enter Tryd.func19, Tryd.ntmps19
  go_upto_region 1 with (fail)
  obtain ⟨W, hW, extW, bx, bz, hz⟩ := box2 w 24 24 #[.bool true, .slice A n c] #[.bool false, .slice none 0 0]
  rw [← hW]
  clear hW
  have x0 := bx.cell 0 (.bool true) rfl
  have x1 := bx.cell 1 (.slice A n c) rfl
  go_wp2_with fail
  refine (int_trimN Hn.out (hx.ext extW) hc hcm).mono ?_
  rintro e w1 ⟨rfl, rfl⟩
  go_wp2_with fail
  refine (int_power HM.out rfl (hxt.ext extW) hk (by have := HL.out; have h := Nat.mul_le_mul_left k (show (trimL xs).length ≤ n by have := Hn.out; omega); omega) (by have := Hn.out; omega)).mono ?_
  rintro e w2 ⟨A2, c2, zs, rfl, hr2, hc2, hm2, ⟨hv2, hn2, hl2⟩, hext2⟩
  have Hv2 := Lib.hid hv2
  clear hv2
  go_wp2_with fail
  refine (int_signed rfl hr2 hc2 hm2 hn2).mono ?_
  rintro e w3 ⟨b3, A3, c3, rs, rfl, hr3, hc3, hm3, hi3, hl3, hext3⟩
  have ext3 := hext2.trans hext3
  have bz3 := bz.ext ext3
  have z0 := bz3.cell 0 (.bool false) rfl
  have z1 := bz3.cell 1 (.slice none 0 0) rfl
  have f0 := bz3.frozen 0
  have f1 := bz3.frozen 1
  go_wp2_with fail
  obtain ⟨r1, r2, r3, r4⟩ := fin_pair (b := b3) (n := rs.length) (c := c3) (extW.trans ext3) (by omega) bz3 hr3
  refine bodyPost_ret (v := .tuple #[.agg #[.bool b3, .slice A3 rs.length c3], .int .i64 0]) (by simp [results, Tryd.results19, go_sem, r3, r4]) rfl ⟨b3, A3, c3, rs, rfl, r1, hc3, hm3, ?_, ?_, r2⟩
  · have hv := Hv2.out
    rw [val_trimL] at hv
    rw [ival_pow (s := true) hv (by simp; omega)] at hi3
    exact hi3
  · have h := Nat.mul_le_mul_left k lx
    omega

theorem int_Pow {k : Nat} (hM : MultiplyOK L) (hn : xs.length = n) (hx : Rd w A xs) (hc : n ≤ c) (hcm : c ≤ maxLen) (hk : k ≤ 4096) (hL : k * n + 2 ≤ L) (hL2 : n < 64) : Calls Tryd.prog 19 #[.agg #[.bool s, .slice A n c], .int .i64 (k : Int)] w (RetIE ((ival s xs) ^ k) (max 1 (k * xs.length)) 0 w) := by
  cases s with
  | false => exact int_Pow_f hM hn hx hc hcm hk hL hL2
  | true =>
    by_cases h : k % 2 = 1
    · exact int_Pow_o hM hn hx hc hcm hk hL hL2 h
    · exact int_Pow_e hM hn hx hc hcm hk hL hL2 (by omega)
end
end Go.Proofs.YtmjmcinnbmjpdaaDoor
