/- Walks: the reference's Format. -/
import Derived.Test.YtmjmcinnbmjpdaaRa
import Derived.Laws.BytesArg
import Derived.Test.YtmjmcinnbmjpdaaNum6
import Derived.Test.YtmjmcinnbmjpdaaPo
import Derived.Test.YtmjmcinnbmjpdaaWp
namespace Go.Proofs.Ytmjmcinnbmjpdaa
open Go.RowKit
attribute [local go_sem ↓] Go.wp_at_zero Go.wp_at_succ
theorem conv_byte (w : World) (d : Nat) (v : Int) (hv : v = 48 + (d : Int)) : (convert 89 9 (.slice (some ⟨w.heap.size, 0, none⟩) 1 1)).run Try.prog (w.alloc (.cells #[.int .u8 v] 5)) = .ok (.string (strOfNums [v])) (w.alloc (.cells #[.int .u8 v] 5)) := by
  subst hv
  refine run_convert_bytes_arg _ 89 5 Try.underlying89 Try.underlying5 w.heap.size 0 1 1 [48 + (d : Int)] rfl (fun i hi => ?_) 9 Try.underlying9
  obtain rfl : i = 0 := by omega
  exact new_cell w _ _ 0
def strSize : Value → Nat | .string b => b.size | _ => 0
section
variable {A : Option Addr} {c n : Nat} {xs : List Nat} {w : World} {s : Bool}
set_option maxRecDepth 100000 in
set_option maxHeartbeats 2000000 in
theorem ref_Format (hn : xs.length = n) (hx : Rd w A xs) (hc : n ≤ c) (hcm : c ≤ maxLen) (h1 : n ≤ 10000) :
    Calls Try.prog 72 #[.agg #[.bool s, .slice A n c]] w fun e w' => ∃ str : ByteArray, e = .returned (.string str) ∧ str.data.toList = Lib.itoa (ival s xs) ∧ Ext w w' := by
  have Hn := Lib.hid hn
  clear hn
  go_enter Try.func72, Try.ntmps72
  go_upto_region 1 with (fail)
  obtain ⟨W, hW, extW, bx, hz⟩ := box1 w 24 #[.bool s, .slice A n c]
  rw [← hW]
  clear hW
  have x0 := bx.cell 0 (.bool s) rfl
  have x1 := bx.cell 1 (.slice A n c) rfl
  go_wp2_with fail
  refine (ref_Norm Hn.out (hx.ext extW) hc hcm (by omega)).mono ?_
  rintro e w1 ⟨b1, A1, c1, ps, rfl, hr1, hc1, hm1, hi1, hl1, hx1⟩
  have bx1 := bx.ext hx1
  clear x0 x1
  have x0 := bx1.cell 0 (.bool s) rfl
  have x1 := bx1.cell 1 (.slice A n c) rfl
  have f0 := bx1.frozen 0
  have f1 := bx1.frozen 1
  have hp := put_box (b := b1) (A := A1) (n := ps.length) (c := c1) bx1
  have hrp := hp.2.2.1 A1 ps hr1
  have hep := hp.2.2.2 _ (extW.trans hx1) (Nat.le_refl _)
  have hbp := hp.1
  clear hp
  go_upto_region 2 with (fail)
  refine at_world (fun Y => Ext w Y ∧ Box Y w.heap.size 24 #[.bool b1, .slice A1 ps.length c1] ∧ Rd Y A1 ps) ⟨hep, hbp, hrp⟩ ?_
  clear hep hbp hrp x0 x1 f0 f1 hr1 hx1 bx bx1
  rintro Y ⟨EY, bx, hr1⟩
  have x0 := bx.cell 0 (.bool b1) rfl
  have x1 := bx.cell 1 (.slice A1 ps.length c1) rfl
  have hpl : ps.length ≤ 10000 := by have := Hn.out; omega
  go_wp2
  go_loopw [3, 4] (fun st m wr => ∃ (acc : ByteArray) (A' : Option Addr) (c' : Nat) (ys : List Nat), st = .string acc ∧ m = .slice A' ys.length c' ∧ Rd wr A' ys ∧ Nrm ys ∧ ys.length ≤ c' ∧ c' ≤ maxLen ∧ ys.length ≤ ps.length ∧ fd (val ps) = fd (val ys) ++ acc.data.toList ∧ Ext Y wr) (fun st _ _ => (fd (val ps)).length - strSize st)
  case atStart => exact ⟨⟨#[]⟩, A1, c1, ps, rfl, rfl, hr1, hi1.nrm, hc1, hm1, Nat.le_refl _, by simp, Ext.refl _⟩
  case round =>
    obtain ⟨acc, A', c', ys, rfl, rfl, hr, hnr, hyc, hycm, hyl, hfd, hext⟩ := hrel
    have hacc : acc.size ≤ 100000 := by
      have h1 := congrArg List.length hfd
      rw [List.length_append, ← Lib.size_eq] at h1
      have h2 := fd_len_words hi1.w32
      omega
    have Hfd := Lib.hid hfd
    clear hfd
    by_cases h0 : ys = []
    · subst h0
      have hf := Hfd.out
      rw [show val [] = 0 by rfl, fd_zero, List.nil_append] at hf
      have bxr := bx.ext hext
      have y0 := bxr.cell 0 (.bool b1) rfl
      have y1 := bxr.cell 1 (.slice A1 ps.length c1) rfl
      have hz1 := itoa_fd (ival s xs)
      rw [← hi1.eq] at hz1
      have Hi := Lib.hid hi1
      by_cases hv0 : ps = []
      · subst hv0
        have ha : acc.data.toList = [] := by rw [← hf]; rfl
        have t1 : acc.toList.isEmpty = true := by rw [Lib.toList_data, ha]; rfl
        have hzz : ival b1 [] = 0 := by unfold ival; cases b1 <;> rfl
        rw [if_pos hzz] at hz1
        rw [hi1.eq] at hz1
        have Hz1 := Lib.hid hz1
        clear hz1 hf ha hi1 hzz
        go_wp2_with fail
        go_ret
        exact ⟨_, rfl, Hz1.out.symm, EY.trans hext⟩
      · have hvp : val ps ≠ 0 := fun h => hv0 (hi1.nrm.zero.1 h)
        have hfd : fd (val ps) = Lib.decDigits (val ps) := by unfold fd; rw [if_neg hvp]
        have ha : acc.data.toList ≠ [] := by
          rw [← hf, hfd]
          intro h
          have h1 := congrArg List.length h
          have h2 := Lib.decDigits_length (val ps)
          have h3 := Lib.nDigits_pos (val ps)
          rw [h2] at h1
          simp at h1
          omega
        have t1 : acc.toList.isEmpty = false := by
          rw [Lib.toList_data]
          cases hh : acc.data.toList with
          | nil => exact absurd hh ha
          | cons c t => rfl
        cases b1 with
        | true =>
          have hzz : ival true ps = -(val ps : Int) := rfl
          rw [hzz, if_neg (by omega), if_pos (by omega), show (-(val ps : Int)).natAbs = val ps by omega, hf, ← hzz, hi1.eq] at hz1
          have Hz1 := Lib.hid hz1
          clear hz1 hf ha hi1 hzz hfd hvp
          go_wp2_with fail
          go_ret
          exact ⟨_, rfl, by rw [append_toList, Hz1.out]; rfl, EY.trans hext⟩
        | false =>
          have hzz : ival false ps = (val ps : Int) := rfl
          rw [hzz, if_neg (by omega), if_neg (by omega), show ((val ps : Int)).natAbs = val ps by omega, hf, ← hzz, hi1.eq] at hz1
          have Hz1 := Lib.hid hz1
          clear hz1 hf ha hi1 hzz hfd hvp
          go_wp2_with fail
          go_ret
          exact ⟨_, rfl, Hz1.out.symm, EY.trans hext⟩
    · have hpos : 0 < ys.length := List.length_pos_iff.2 h0
      have hvp : 0 < val ys := by
        have : val ys ≠ 0 := fun h => h0 (hnr.zero.1 h)
        omega
      have Hnr := Lib.hid hnr
      clear hnr
      go_wp2_with fail
      refine (ref_by (v := 10) rfl hr (by omega) (by omega) (by omega)).mono ?_
      rintro e w2 ⟨A2, c2, zs, rfl, ho2, hc2, hm2, hv2, hn2, hl2, hx2⟩
      have Hv2 := Lib.hid hv2
      have Hn2 := Lib.hid hn2
      clear hv2 hn2
      have hd10 : val ys % 10 < 10 := Nat.mod_lt _ (by omega)
      have hfs := fd_step hvp
      generalize hdd : val ys % 10 = d at *
      have hcv := conv_byte w2 d (48 + (d : Int)) rfl
      have hsl : (strOfNums [48 + (d : Int)]).data.toList = [UInt8.ofNat (48 + d)] := by
        rw [strOfNums_data]
        simp only [List.map_cons, List.map_nil]
        congr 2
      have hss : (strOfNums [48 + (d : Int)]).size ≤ 1 := by rw [strOfNums_size]; simp
      have hs1 : 1 ≤ (strOfNums [48 + (d : Int)]).size := by rw [strOfNums_size]; simp
      generalize strOfNums [48 + (d : Int)] = st at *
      have hall : fd (val ps) = fd (val zs) ++ (st ++ acc).data.toList := by rw [Hfd.out, hfs, Hv2.out, append_toList, hsl, List.append_assoc]
      have hsz : (st ++ acc).size = st.size + acc.size := by rw [Lib.size_eq, append_toList, List.length_append, ← Lib.size_eq, ← Lib.size_eq]
      have hmeas : (fd (val ps)).length - (st ++ acc).size < (fd (val ps)).length - acc.size := by
        have h1 := congrArg List.length hall
        rw [List.length_append, ← Lib.size_eq, hsz] at h1
        rw [hsz]
        omega
      have Hall := Lib.hid hall
      have Hmeas := Lib.hid hmeas
      clear hdd hfs hsl hall hsz hmeas
      go_wp2_with fail
      go_roundw
      case rel => exact ⟨st ++ acc, A2, c2, zs, rfl, rfl, ho2.rd.ext ((Ext.refl w2).alloc _), Hn2.out, hc2, hm2, by omega, Hall.out, (hext.trans hx2).alloc _⟩
      case measure => exact Hmeas.out
end
end Go.Proofs.Ytmjmcinnbmjpdaa
