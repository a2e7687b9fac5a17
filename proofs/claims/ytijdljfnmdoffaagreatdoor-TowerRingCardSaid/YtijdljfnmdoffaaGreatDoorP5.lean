/- Walks and laws, a part. -/
import Derived.Test.YtijdljfnmdoffaaGreatDoorP4
import Derived.Test.YtijdljfnmdoffaaGreatDoorP1
set_option linter.unusedSimpArgs false
set_option linter.unusedVariables false
set_option maxHeartbeats 64000000
namespace Go.Proofs.YtijdljfnmdoffaaGreatDoor
section
open Go.RowKit
attribute [local go_sem ↓] Go.wp_at_zero Go.wp_at_succ
def AddProd (K : Nat) : Prop := ∀ (A B : Option Addr) (c d g off n cz m p : Nat) (pre zs0 xs ys : List Nat) (w : World), BlkN w g (pre ++ zs0) -> pre.length = off -> zs0.length = n -> W32 zs0 -> Rd w A xs -> xs.length = m -> Apart A xs g -> Rd w B ys -> ys.length = p -> Apart B ys g ->
  min m p <= K -> m <= 100000 -> p <= 100000 -> m + p <= n -> n <= 900000 -> val zs0 + val xs * val ys < 4294967296 ^ n -> m <= c -> c <= maxLen -> p <= d -> d <= maxLen -> n <= cz -> cz <= maxLen ->
  Calls Tryz.prog 145 #[.slice (some ⟨g, off, none⟩) n cz, .slice A m c, .slice B p d] w (Turned w g pre n [] fun zs => val zs = val zs0 + val xs * val ys)
theorem part_step {zs0 zs zt xs ys : List Nat} {k l n : Nat} (hn : zs.length = n) (hkl : k + l <= xs.length) (hk : k <= n) (hv : val zs = val zs0 + val (xs.take k) * val ys) (ht : val zt = val (zs.drop k) + val ((xs.drop k).take l) * val ys) (hf : val zs0 + val xs * val ys < 4294967296 ^ n) :
  val (zs.take k ++ zt) = val zs0 + val (xs.take (k + l)) * val ys := by
 have e1 : val (xs.take (k + l)) = val (xs.take k) + 4294967296 ^ k * val ((xs.drop k).take l) := by
  rw [List.take_add, val_append, List.length_take, Nat.min_eq_left (by omega)]
 have e2 : val (xs.take (k + l)) <= val xs := by
  have := val_split xs (k + l) hkl;omega
 have e3 := Nat.mul_le_mul_right (val ys) e2
 have h1 := kar_step (z := zs) (zt := zt) (k := k) (n := n) (cy := 0) (m := val ((xs.drop k).take l) * val ys) hn hk (by rw [Nat.mul_zero, Nat.add_zero]; exact ht) (by
  rw [hv, Nat.add_assoc, <- Nat.mul_assoc, <- Nat.add_mul, <- e1];omega)
 rw [h1, hv, Nat.add_assoc, <- Nat.mul_assoc, <- Nat.add_mul, <- e1]
theorem part_fits {zs0 zs xs ys : List Nat} {k l n : Nat} (hn : zs.length = n) (hkl : k + l <= xs.length) (hk : k <= n) (hv : val zs = val zs0 + val (xs.take k) * val ys) (hf : val zs0 + val xs * val ys < 4294967296 ^ n) :
  val (zs.drop k) + val ((xs.drop k).take l) * val ys < 4294967296 ^ (n - k) := by
 have e1 : val (xs.take (k + l)) = val (xs.take k) + 4294967296 ^ k * val ((xs.drop k).take l) := by
  rw [List.take_add, val_append, List.length_take, Nat.min_eq_left (by omega)]
 have e2 : val (xs.take (k + l)) <= val xs := by
  have := val_split xs (k + l) hkl;omega
 have e3 := Nat.mul_le_mul_right (val ys) e2;have e4 := val_split zs k (by omega);have e5 : (4294967296 : Nat) ^ n = 4294967296 ^ k * 4294967296 ^ (n - k) := by rw [<- Nat.pow_add]; congr 1; omega
 rw [e5] at hf;refine kar_lt2 (a := 0) (b := val (zs.take k)) (p := 4294967296 ^ k) (Nat.pow_pos (by omega)) ?_;have e6 : val (xs.take (k + l)) * val ys = val (xs.take k) * val ys + 4294967296 ^ k * (val ((xs.drop k).take l) * val ys) := by rw [e1, Nat.add_mul, Nat.mul_assoc]
 have e7 := Nat.mul_add (4294967296 ^ k) (val (zs.drop k)) (val ((xs.drop k).take l) * val ys);omega
section
variable {A B : Option Addr} {c d n m : Nat} {xs ys : List Nat} {w : World}
theorem addProd_s : AddProd 63 := by
 intro A B c d g off n cz m p pre zs0 xs ys w hb hoff hn hw hx hm hap hy hp hbp hk h1 h2 hl hn1 hf hc hcm hd hdm hcz hczm;exact int_addProduct_s (post := []) (by simpa using hb) hoff hn hw hx hm hap hy hp hbp (by omega) hl hf (by omega) hcz hczm
theorem mulLe_of {K : Nat} (h : AddProd K) (hK : K <= 100000) : MulLe K := by
 intro A B c d n m xs ys w hn hm hx hy hnK hmK hc hcm hd hdm;have hmk := mk_wordsA 105 Tryz.underlying105 n m (by omega);have hf : 0 + val xs * val ys < 4294967296 ^ (n + m) := by rw [Nat.zero_add, <- hn, <- hm]; exact prod_lt hx.1 hy.1
 have Hf := Lib.hid hf;have Hn := Lib.hid hn;have Hm := Lib.hid hm;clear hf hn hm
 go_enter Tryz.func113, Tryz.ntmps113
 go_wp2_with fail
 refine (h _ _ _ _ _ _ _ _ _ _ [] (List.replicate (n + m) 0) _ _ _ (by simpa using BlkN.new w (n + m)) rfl (by simp) (W32.replicate _) (hx.ext ((Ext.refl w).alloc _)) Hn.out (hx.apart (Nat.le_refl _)) (hy.ext ((Ext.refl w).alloc _)) Hm.out (hy.apart (Nat.le_refl _)) (by omega) (by omega) (by omega) (Nat.le_refl _) (by omega) (by rw [val_replicate]; exact Hf.out) hc hcm hd hdm (Nat.le_refl _) (by unfold maxLen; omega)).mono ?_;rintro e w2 ⟨zs, rfl, hzl, hzw, hzb, hzv, hmod⟩;have hext := hmod.ext ((Ext.refl w).alloc _) (Nat.le_refl _);simp only [List.nil_append, List.append_nil] at hzb;have Hzl := Lib.hid hzl;have Hzv := Lib.hid hzv;clear hzl hzv hmod
 go_wp2_with fail
 refine (int_trimN (xs := zs) Hzl.out (hzb.rd0 hzw) (Nat.le_refl _) (by unfold maxLen; omega)).mono ?_;rintro e w3 ⟨rfl, rfl⟩
 go_wp2_with fail
 go_ret
 have hlen := trimL_len zs;have hz := Hzl.out;have hn := Hn.out;have hm := Hm.out;refine ⟨_, _, trimL zs, rfl, ?_, by omega, by unfold maxLen; omega, ⟨by rw [val_trimL, Hzv.out, val_replicate, Nat.zero_add], Nrm.trimL _, by omega⟩, hext⟩;rw [trimL_take];exact (Own.of_blk hzb hzw (Nat.le_refl _)).take _
theorem addProd_eq {K g N cz off : Nat} {pre zs0 : List Nat} (hK : MulLe K) (hnK : (n + 1) / 2 + 1 <= K) (hblk0 : BlkN w g (pre ++ zs0)) (hoff : pre.length = off) (hN : zs0.length = N) (hw : W32 zs0) (hx : Rd w A xs) (hm : xs.length = n) (hap : Apart A xs g) (hy : Rd w B ys) (hp : ys.length = n) (hbp : Apart B ys g)
  (h2 : 64 <= n) (h100 : n <= 100000) (hl : n + n <= N) (hN2 : N <= 900000) (hf : val zs0 + val xs * val ys < 4294967296 ^ N) (hc : n <= c) (hcm : c <= maxLen) (hd : n <= d) (hdm : d <= maxLen) (hcz : N <= cz) (hczm : cz <= maxLen) :
  Calls Tryz.prog 145 #[.slice (some ⟨g, off, none⟩) N cz, .slice A n c, .slice B n d] w (Turned w g pre N [] fun zs => val zs = val zs0 + val xs * val ys) := by
 have ht1 : decide ((n : Int) < 64) = false := decide_eq_false (by omega);have HK := Lib.hid (int_addHalves_g hK hblk0 hoff hN hw hx hm hap hy hp hbp (by omega) hnK h100 hl hN2 hf hc hcm hd hdm hcz hczm);clear hm hp hN hf hblk0 hoff hnK
 go_enter Tryz.func145, Tryz.ntmps145
 go_wp2_with fail
 refine HK.out.mono ?_;rintro e u ⟨zs, rfl, h1, h2, h3, h4, h5⟩;have H1 := Lib.hid h1;have H4 := Lib.hid h4;clear h1 h4
 go_wp2_with fail
 go_end0
 exact ⟨zs, rfl, H1.out, h2, h3, H4.out, h5⟩
theorem addProd_gt {K g off n cz m p : Nat} {pre zs0 : List Nat} (hAP : AddProd K) (hK : 63 <= K) (hS : p = K + 1) (hblk0 : BlkN w g (pre ++ zs0)) (hoff : pre.length = off) (hn : zs0.length = n) (hw : W32 zs0) (hx : Rd w A xs) (hm : xs.length = m) (hap : Apart A xs g) (hy : Rd w B ys) (hp : ys.length = p) (hbp : Apart B ys g)
  (hmp : p < m) (h1 : m <= 100000) (h2 : p <= 100000) (hl : m + p <= n) (hn1 : n <= 900000) (hf : val zs0 + val xs * val ys < 4294967296 ^ n) (hc : m <= c) (hcm : c <= maxLen) (hd : p <= d) (hdm : d <= maxLen) (hcz : n <= cz) (hczm : cz <= maxLen) :
  Calls Tryz.prog 145 #[.slice (some ⟨g, off, none⟩) n cz, .slice A m c, .slice B p d] w (Turned w g pre n [] fun zs => val zs = val zs0 + val xs * val ys) := by
 have hM := mulLe_of hAP (by omega);have HS := Lib.hid hS;have hKs : K + 1 = p := hS.symm;have h64 : 64 <= p := by omega
 have hhK : (p + 1) / 2 + 1 <= K := by omega
 clear hS hKs;have Hczm := Lib.hid hczm;have Hcm := Lib.hid hcm;have Hdm := Lib.hid hdm;unfold maxLen at hczm hcm hdm;have Hoff := Lib.hid hoff;have Hn := Lib.hid hn;have Hm := Lib.hid hm;have Hp := Lib.hid hp;have hf' : val zs0 + val xs * val ys < 4294967296 ^ n := by exact hf
 have Hf := Lib.hid hf';have HhK := Lib.hid hhK;clear hoff hn hm hp hf hf' hhK;have ht1 : decide ((p : Int) < 64) = false := decide_eq_false (by omega);have ht2 : decide ((m : Int) < (p : Int)) = false := decide_eq_false (by omega);have ht3 : decide (m < p) = false := decide_eq_false (by omega);have ht4 : decide ((p : Int) < (m : Int)) = true := decide_eq_true (by omega)
 go_enter Tryz.func145, Tryz.ntmps145
 go_wp2_with fail
 go_loopw [8] (fun i wr => ∃ (k : Nat) (zs : List Nat), i = .int .i64 (k : Int) /\ k <= 200000 /\ zs.length = n /\ W32 zs /\ val zs = val zs0 + val (xs.take k) * val ys /\ BlkN wr g (pre ++ zs) /\ Mod w wr g) (fun i _ => m - (intOf i).toNat)
 case atStart => exact ⟨0, zs0, rfl, by omega, Hn.out, hw, by simp [val], hblk0, Mod.refl _ _⟩
 case round =>
  obtain ⟨k, zs, rfl, hk, hzl, hzw, hzv, hblk, hmod⟩ := hrel;have Hzl := Lib.hid hzl;have Hzv := Lib.hid hzv;clear hzl hzv
  by_cases hlt : k < m
  ·have hI : (k : Int) < (m : Int) := by omega
   obtain ⟨lb, lo, hA⟩ := hx.some (by have := Hm.out; omega);subst hA;have hkn : (k : Int) <= (n : Int) := by omega
   have hkc : ¬ cz = k := by omega
   have hkc2 : ¬ c = k := by omega
   obtain ⟨q, hq⟩ : ∃ q, q = k + p := ⟨_, rfl⟩;have hIq : (k : Int) + (p : Int) = (q : Int) := by omega
   have hWq : IntKind.i64.wrap (q : Int) = (q : Int) := IntWalk.i64_in _ (by omega);have hkL : (k : Int) <= (m : Int) := by omega
   have hLc : (m : Int) <= (c : Int) := by omega
   have hkq : (k : Int) <= (q : Int) := by omega
   have Hq := Lib.hid hq
   by_cases hle : q <= m
   ·have hmin : min (q : Int) (m : Int) = (q : Int) := by omega
    have hqc : (q : Int) <= (c : Int) := by omega
    have hkl : k + (p) <= xs.length := by have := Hm.out; omega
    have hb1 : BlkN wr g ((pre ++ zs.take k) ++ zs.drop k) := by rw [List.append_assoc, List.take_append_drop]; exact hblk
    have hrk := ((hx.mod hmod hap).drop k).take (p);have hfk := part_fits (k := k) (l := (p)) Hzl.out hkl (by omega) Hzv.out Hf.out;have hlk : ((xs.drop k).take (p)).length = p := by rw [List.length_take, List.length_drop, Hm.out]; omega
    have hlz : (zs.drop k).length = n - k := by rw [List.length_drop, Hzl.out]
    have hlp : (pre ++ zs.take k).length = off + k := by rw [List.length_append, Hoff.out, List.length_take, Hzl.out]; omega
    have hapk : Apart (some ⟨lb, lo + k, none⟩) ((xs.drop k).take (p)) g := fun hn a ha => by
     injection ha with ha
     subst ha;exact hap (by rintro h0; rw [h0] at hn; simp at hn) ⟨lb, lo, none⟩ rfl
    have hb2 := hb1.ext ((Ext.refl wr).drew);have hrk2 := hrk.ext ((Ext.refl wr).drew);have hsh := (hy.mod hmod hbp).ext ((Ext.refl wr).drew)
    have HC := Lib.hid (show Calls Tryz.prog 145 #[.slice (some ⟨g, off + k, none⟩) (n - k) (cz - k), .slice (some ⟨lb, lo + k, none⟩) (q - k) (c - k), .slice B p d] wr.drew (Turned wr.drew g (pre ++ zs.take k) (n - k) [] fun zt => val zt = val (zs.drop k) + val ((xs.drop k).take (p)) * val ys) by
     rw [show q - k = p by omega];exact addProd_eq (c := c - k) (d := d) hM HhK.out hb2 hlp hlz (hzw.drop k) hrk2 hlk hapk hsh Hp.out hbp h64 (by omega) (by omega) (by omega) hfk (by omega) (by unfold maxLen; omega) hd Hdm.out (by omega : n - k <= cz - k) (by unfold maxLen; omega))
    have Hkl := Lib.hid hkl;clear hq;clear hkl hb1 hrk hfk hlk hlz hlp hapk hb2 hrk2 hsh
    go_upto_region 13 with (fail)
    go_region_held3 (fun _ => True) (trivial)
     (first | (go_at_call 145; refine HC.out.mono ?_; rintro e w2 ⟨zt, rfl, hztl, hztw, hztb, hztv, hmod2⟩))
    go_wp2_with fail
    go_roundw
    case rel =>
     refine ⟨q, zs.take k ++ zt, by go_num, by omega, ?_, (hzw.take k).append hztw, ?_, by simpa [List.append_assoc] using hztb, (hmod.drew).trans hmod2⟩
     ·have := Hzl.out
      rw [List.length_append, List.length_take, hztl]; omega
     ·have hps := part_step Hzl.out Hkl.out (by omega) Hzv.out hztv Hf.out
      rw [Hq.out]; exact hps
    case measure => simp [intOf]; omega
   ·have hmin : min (q : Int) (m : Int) = (m : Int) := by omega
    have hkl : k + (m - k) <= xs.length := by have := Hm.out; omega
    have hb1 : BlkN wr g ((pre ++ zs.take k) ++ zs.drop k) := by rw [List.append_assoc, List.take_append_drop]; exact hblk
    have hrk := ((hx.mod hmod hap).drop k).take (m - k);have hfk := part_fits (k := k) (l := (m - k)) Hzl.out hkl (by omega) Hzv.out Hf.out;have hlk : ((xs.drop k).take (m - k)).length = m - k := by rw [List.length_take, List.length_drop, Hm.out]; omega
    have hlz : (zs.drop k).length = n - k := by rw [List.length_drop, Hzl.out]
    have hlp : (pre ++ zs.take k).length = off + k := by rw [List.length_append, Hoff.out, List.length_take, Hzl.out]; omega
    have hapk : Apart (some ⟨lb, lo + k, none⟩) ((xs.drop k).take (m - k)) g := fun hn a ha => by
     injection ha with ha
     subst ha;exact hap (by rintro h0; rw [h0] at hn; simp at hn) ⟨lb, lo, none⟩ rfl
    have hb2 := hb1.ext ((Ext.refl wr).drew);have hrk2 := hrk.ext ((Ext.refl wr).drew);have hsh := (hy.mod hmod hbp).ext ((Ext.refl wr).drew)
    have HC := Lib.hid (show Calls Tryz.prog 145 #[.slice (some ⟨g, off + k, none⟩) (n - k) (cz - k), .slice (some ⟨lb, lo + k, none⟩) (m - k) (c - k), .slice B p d] wr.drew (Turned wr.drew g (pre ++ zs.take k) (n - k) [] fun zt => val zt = val (zs.drop k) + val ((xs.drop k).take (m - k)) * val ys) by
     rw [show m - k = m - k by omega];exact hAP _ _ (c - k) d _ _ _ (cz - k) _ _ _ _ _ _ _ hb2 hlp hlz (hzw.drop k) hrk2 hlk hapk hsh Hp.out hbp (by have := HS.out; omega) (by omega) (by omega) (by omega) (by omega) hfk (by omega) (by unfold maxLen; omega) hd Hdm.out (by omega) (by unfold maxLen; omega))
    have Hkl := Lib.hid hkl;clear hq;clear hkl hb1 hrk hfk hlk hlz hlp hapk hb2 hrk2 hsh
    go_upto_region 13 with (fail)
    go_region_held3 (fun _ => True) (trivial)
     (first | (go_at_call 145; refine HC.out.mono ?_; rintro e w2 ⟨zt, rfl, hztl, hztw, hztb, hztv, hmod2⟩))
    go_wp2_with fail
    go_roundw
    case rel =>
     refine ⟨q, zs.take k ++ zt, by go_num, by omega, ?_, (hzw.take k).append hztw, ?_, by simpa [List.append_assoc] using hztb, (hmod.drew).trans hmod2⟩
     ·have := Hzl.out
      rw [List.length_append, List.length_take, hztl]; omega
     ·have hps := part_step Hzl.out Hkl.out (by omega) Hzv.out hztv Hf.out
      rw [show xs.take (k + (m - k)) = xs from List.take_of_length_le (by have := Hm.out; omega)] at hps; rw [show xs.take q = xs from List.take_of_length_le (by have := Hm.out; omega)]; exact hps
    case measure => simp [intOf]; omega
  ·have Hfin := Lib.hid (show val zs = val zs0 + val xs * val ys by rw [Hzv.out, List.take_of_length_le (by have := Hm.out; omega)])
   go_wp2
   go_end0
   exact ⟨zs, rfl, Hzl.out, hzw, by simpa using hblk, Hfin.out, hmod⟩
theorem addProd_lt {K g off n cz m p : Nat} {pre zs0 : List Nat} (hAP : AddProd K) (hK : 63 <= K) (hS : m = K + 1) (hblk0 : BlkN w g (pre ++ zs0)) (hoff : pre.length = off) (hn : zs0.length = n) (hw : W32 zs0) (hx : Rd w A xs) (hm : xs.length = m) (hap : Apart A xs g) (hy : Rd w B ys) (hp : ys.length = p) (hbp : Apart B ys g)
  (hmp : m < p) (h1 : m <= 100000) (h2 : p <= 100000) (hl : m + p <= n) (hn1 : n <= 900000) (hf : val zs0 + val xs * val ys < 4294967296 ^ n) (hc : m <= c) (hcm : c <= maxLen) (hd : p <= d) (hdm : d <= maxLen) (hcz : n <= cz) (hczm : cz <= maxLen) :
  Calls Tryz.prog 145 #[.slice (some ⟨g, off, none⟩) n cz, .slice A m c, .slice B p d] w (Turned w g pre n [] fun zs => val zs = val zs0 + val xs * val ys) := by
 have hM := mulLe_of hAP (by omega);have HS := Lib.hid hS;have hKs : K + 1 = m := hS.symm;have h64 : 64 <= m := by omega
 have hhK : (m + 1) / 2 + 1 <= K := by omega
 clear hS hKs;have Hczm := Lib.hid hczm;have Hcm := Lib.hid hcm;have Hdm := Lib.hid hdm;unfold maxLen at hczm hcm hdm;have Hoff := Lib.hid hoff;have Hn := Lib.hid hn;have Hm := Lib.hid hm;have Hp := Lib.hid hp;have hf' : val zs0 + val ys * val xs < 4294967296 ^ n := by rw [Nat.mul_comm]; exact hf
 have Hf := Lib.hid hf';have HhK := Lib.hid hhK;clear hoff hn hm hp hf hf' hhK;have ht1 : decide ((m : Int) < 64) = false := decide_eq_false (by omega);have ht2 : decide ((m : Int) < (p : Int)) = true := decide_eq_true (by omega);have ht3 : decide (m < p) = true := decide_eq_true (by omega);have ht4 : decide ((m : Int) < (p : Int)) = true := decide_eq_true (by omega)
 go_enter Tryz.func145, Tryz.ntmps145
 go_wp2_with fail
 go_loopw [8] (fun i wr => ∃ (k : Nat) (zs : List Nat), i = .int .i64 (k : Int) /\ k <= 200000 /\ zs.length = n /\ W32 zs /\ val zs = val zs0 + val (ys.take k) * val xs /\ BlkN wr g (pre ++ zs) /\ Mod w wr g) (fun i _ => p - (intOf i).toNat)
 case atStart => exact ⟨0, zs0, rfl, by omega, Hn.out, hw, by simp [val], hblk0, Mod.refl _ _⟩
 case round =>
  obtain ⟨k, zs, rfl, hk, hzl, hzw, hzv, hblk, hmod⟩ := hrel;have Hzl := Lib.hid hzl;have Hzv := Lib.hid hzv;clear hzl hzv
  by_cases hlt : k < p
  ·have hI : (k : Int) < (p : Int) := by omega
   obtain ⟨lb, lo, hA⟩ := hy.some (by have := Hp.out; omega);subst hA;have hkn : (k : Int) <= (n : Int) := by omega
   have hkc : ¬ cz = k := by omega
   have hkc2 : ¬ d = k := by omega
   obtain ⟨q, hq⟩ : ∃ q, q = k + m := ⟨_, rfl⟩;have hIq : (k : Int) + (m : Int) = (q : Int) := by omega
   have hWq : IntKind.i64.wrap (q : Int) = (q : Int) := IntWalk.i64_in _ (by omega);have hkL : (k : Int) <= (p : Int) := by omega
   have hLc : (p : Int) <= (d : Int) := by omega
   have hkq : (k : Int) <= (q : Int) := by omega
   have Hq := Lib.hid hq
   by_cases hle : q <= p
   ·have hmin : min (q : Int) (p : Int) = (q : Int) := by omega
    have hqc : (q : Int) <= (d : Int) := by omega
    have hkl : k + (m) <= ys.length := by have := Hp.out; omega
    have hb1 : BlkN wr g ((pre ++ zs.take k) ++ zs.drop k) := by rw [List.append_assoc, List.take_append_drop]; exact hblk
    have hrk := ((hy.mod hmod hbp).drop k).take (m);have hfk := part_fits (k := k) (l := (m)) Hzl.out hkl (by omega) Hzv.out Hf.out;have hlk : ((ys.drop k).take (m)).length = m := by rw [List.length_take, List.length_drop, Hp.out]; omega
    have hlz : (zs.drop k).length = n - k := by rw [List.length_drop, Hzl.out]
    have hlp : (pre ++ zs.take k).length = off + k := by rw [List.length_append, Hoff.out, List.length_take, Hzl.out]; omega
    have hapk : Apart (some ⟨lb, lo + k, none⟩) ((ys.drop k).take (m)) g := fun hn a ha => by
     injection ha with ha
     subst ha;exact hbp (by rintro h0; rw [h0] at hn; simp at hn) ⟨lb, lo, none⟩ rfl
    have hb2 := hb1.ext ((Ext.refl wr).drew);have hrk2 := hrk.ext ((Ext.refl wr).drew);have hsh := (hx.mod hmod hap).ext ((Ext.refl wr).drew)
    have HC := Lib.hid (show Calls Tryz.prog 145 #[.slice (some ⟨g, off + k, none⟩) (n - k) (cz - k), .slice (some ⟨lb, lo + k, none⟩) (q - k) (d - k), .slice A m c] wr.drew (Turned wr.drew g (pre ++ zs.take k) (n - k) [] fun zt => val zt = val (zs.drop k) + val ((ys.drop k).take (m)) * val xs) by
     rw [show q - k = m by omega];exact addProd_eq (c := d - k) (d := c) hM HhK.out hb2 hlp hlz (hzw.drop k) hrk2 hlk hapk hsh Hm.out hap h64 (by omega) (by omega) (by omega) hfk (by omega) (by unfold maxLen; omega) hc Hcm.out (by omega : n - k <= cz - k) (by unfold maxLen; omega))
    have Hkl := Lib.hid hkl;clear hq;clear hkl hb1 hrk hfk hlk hlz hlp hapk hb2 hrk2 hsh
    go_upto_region 13 with (fail)
    go_region_held3 (fun _ => True) (trivial)
     (first | (go_at_call 145; refine HC.out.mono ?_; rintro e w2 ⟨zt, rfl, hztl, hztw, hztb, hztv, hmod2⟩))
    go_wp2_with fail
    go_roundw
    case rel =>
     refine ⟨q, zs.take k ++ zt, by go_num, by omega, ?_, (hzw.take k).append hztw, ?_, by simpa [List.append_assoc] using hztb, (hmod.drew).trans hmod2⟩
     ·have := Hzl.out
      rw [List.length_append, List.length_take, hztl]; omega
     ·have hps := part_step Hzl.out Hkl.out (by omega) Hzv.out hztv Hf.out
      rw [Hq.out]; exact hps
    case measure => simp [intOf]; omega
   ·have hmin : min (q : Int) (p : Int) = (p : Int) := by omega
    have hkl : k + (p - k) <= ys.length := by have := Hp.out; omega
    have hb1 : BlkN wr g ((pre ++ zs.take k) ++ zs.drop k) := by rw [List.append_assoc, List.take_append_drop]; exact hblk
    have hrk := ((hy.mod hmod hbp).drop k).take (p - k);have hfk := part_fits (k := k) (l := (p - k)) Hzl.out hkl (by omega) Hzv.out Hf.out;have hlk : ((ys.drop k).take (p - k)).length = p - k := by rw [List.length_take, List.length_drop, Hp.out]; omega
    have hlz : (zs.drop k).length = n - k := by rw [List.length_drop, Hzl.out]
    have hlp : (pre ++ zs.take k).length = off + k := by rw [List.length_append, Hoff.out, List.length_take, Hzl.out]; omega
    have hapk : Apart (some ⟨lb, lo + k, none⟩) ((ys.drop k).take (p - k)) g := fun hn a ha => by
     injection ha with ha
     subst ha;exact hbp (by rintro h0; rw [h0] at hn; simp at hn) ⟨lb, lo, none⟩ rfl
    have hb2 := hb1.ext ((Ext.refl wr).drew);have hrk2 := hrk.ext ((Ext.refl wr).drew);have hsh := (hx.mod hmod hap).ext ((Ext.refl wr).drew)
    have HC := Lib.hid (show Calls Tryz.prog 145 #[.slice (some ⟨g, off + k, none⟩) (n - k) (cz - k), .slice (some ⟨lb, lo + k, none⟩) (p - k) (d - k), .slice A m c] wr.drew (Turned wr.drew g (pre ++ zs.take k) (n - k) [] fun zt => val zt = val (zs.drop k) + val ((ys.drop k).take (p - k)) * val xs) by
     rw [show p - k = p - k by omega];exact hAP _ _ (d - k) c _ _ _ (cz - k) _ _ _ _ _ _ _ hb2 hlp hlz (hzw.drop k) hrk2 hlk hapk hsh Hm.out hap (by have := HS.out; omega) (by omega) (by omega) (by omega) (by omega) hfk (by omega) (by unfold maxLen; omega) hc Hcm.out (by omega) (by unfold maxLen; omega))
    have Hkl := Lib.hid hkl;clear hq;clear hkl hb1 hrk hfk hlk hlz hlp hapk hb2 hrk2 hsh
    go_upto_region 13 with (fail)
    go_region_held3 (fun _ => True) (trivial)
     (first | (go_at_call 145; refine HC.out.mono ?_; rintro e w2 ⟨zt, rfl, hztl, hztw, hztb, hztv, hmod2⟩))
    go_wp2_with fail
    go_roundw
    case rel =>
     refine ⟨q, zs.take k ++ zt, by go_num, by omega, ?_, (hzw.take k).append hztw, ?_, by simpa [List.append_assoc] using hztb, (hmod.drew).trans hmod2⟩
     ·have := Hzl.out
      rw [List.length_append, List.length_take, hztl]; omega
     ·have hps := part_step Hzl.out Hkl.out (by omega) Hzv.out hztv Hf.out
      rw [show ys.take (k + (p - k)) = ys from List.take_of_length_le (by have := Hp.out; omega)] at hps; rw [show ys.take q = ys from List.take_of_length_le (by have := Hp.out; omega)]; exact hps
    case measure => simp [intOf]; omega
  ·have Hfin := Lib.hid (show val zs = val zs0 + val xs * val ys by rw [Hzv.out, List.take_of_length_le (by have := Hp.out; omega), Nat.mul_comm])
   go_wp2
   go_end0
   exact ⟨zs, rfl, Hzl.out, hzw, by simpa using hblk, Hfin.out, hmod⟩
theorem addProd_all : ∀ K, 63 <= K -> K <= 100000 -> AddProd K := by
 intro K
 induction K with
 | zero => intro h; omega
 | succ K ih =>
  intro h1 h2
  rcases Nat.lt_or_ge K 63 with hK | hK
  ·obtain rfl : K = 62 := by omega
   exact addProd_s
  ·have hI := ih hK (by omega)
   intro A B c d g off n cz m p pre zs0 xs ys w hb hoff hn hw hx hm hap hy hp hbp hk h3 h4 hl hn1 hf hc hcm hd hdm hcz hczm
   by_cases hmin : min m p <= K
   ·exact hI _ _ _ _ _ _ _ _ _ _ _ _ _ _ _ hb hoff hn hw hx hm hap hy hp hbp hmin h3 h4 hl hn1 hf hc hcm hd hdm hcz hczm
   ·rcases Nat.lt_trichotomy m p with hlt | heq | hgt
    ·exact addProd_lt hI hK (by omega) hb hoff hn hw hx hm hap hy hp hbp hlt h3 h4 hl hn1 hf hc hcm hd hdm hcz hczm
    ·subst heq
     exact addProd_eq (mulLe_of hI (by omega)) (by omega) hb hoff hn hw hx hm hap hy hp hbp (by omega) h3 hl hn1 hf hc hcm hd hdm hcz hczm
    ·exact addProd_gt hI hK (by omega) hb hoff hn hw hx hm hap hy hp hbp hgt h3 h4 hl hn1 hf hc hcm hd hdm hcz hczm
theorem mulLe_all : MulLe 100000 := mulLe_of (addProd_all 100000 (by omega) (by omega)) (by omega)
end
section
variable {A B : Option Addr} {c d n m : Nat} {xs ys : List Nat} {w : World} {s t : Bool}
theorem int_Mul_g (hn : xs.length = n) (hm : ys.length = m) (hx : Rd w A xs) (hy : Rd w B ys) (hc : n <= c) (hcm : c <= maxLen) (hd : m <= d) (hdm : d <= maxLen) (h1 : n <= 100000) (h2 : m <= 100000) :
  Calls Tryz.prog 70 #[.agg #[.bool s, .slice A n c], .agg #[.bool t, .slice B m d]] w (RetI (ival s xs * ival t ys) (xs.length + ys.length) w) := by
 have Hn := Lib.hid hn;have Hm := Lib.hid hm;clear hn hm;have lx := trimL_len xs;have ly := trimL_len ys;have hxt : Rd w A (trimL xs) := by rw [trimL_take]; exact hx.take _
 have hyt : Rd w B (trimL ys) := by rw [trimL_take]; exact hy.take _
 go_enter Tryz.func70, Tryz.ntmps70
 go_upto_region 1 with (fail)
 obtain ⟨W, hW, extW, bx, by_, bz, hz⟩ := box3 w 28 28 28 #[.bool s, .slice A n c] #[.bool t, .slice B m d] #[.bool false, .slice none 0 0];rw [<- hW];clear hW;have x0 := bx.cell 0 (.bool s) rfl;have x1 := bx.cell 1 (.slice A n c) rfl;have y0 := by_.cell 0 (.bool t) rfl;have y1 := by_.cell 1 (.slice B m d) rfl
 go_region_held3 (fun w' => w'.cell? ⟨w.heap.size, 0, none⟩ = some (.bool s) /\ w'.cell? ⟨w.heap.size, 1, none⟩ = some (.slice A n c) /\ w'.cell? ⟨w.heap.size + 1, 0, none⟩ = some (.bool t) /\ w'.cell? ⟨w.heap.size + 1, 1, none⟩ = some (.slice B m d)) (first | (go_split_ands; refine ⟨?_, ?_, ?_, ?_⟩ <;> first | (exact Ext.cellv (by assumption) (by assumption)) | (refine (cell_far2 (by omega)).trans ?_; assumption)) | go_keep)
  (first | (go_at_call_of 114 A; refine (int_trimN Hn.out (hx.ext (by first | exact extW | exact extW.drew | exact extW.drewN _ | exact (extW.drew).drew)) hc hcm).mono ?_; rintro e w1 ⟨rfl, rfl⟩) | (go_at_call_of 114 B; refine (int_trimN Hm.out (hy.ext (by first | exact extW | exact extW.drew | exact extW.drewN _ | exact (extW.drew).drew)) hd hdm).mono ?_; rintro e w1 ⟨rfl, rfl⟩) | (go_at_call 113; refine (mulLe_all _ _ _ _ _ _ _ _ _ rfl rfl (hxt.ext (by first | exact extW | exact extW.drew | exact extW.drewN _ | exact (extW.drew).drew)) (hyt.ext (by first | exact extW | exact extW.drew | exact extW.drewN _ | exact (extW.drew).drew)) (by have := Hn.out; have := Hm.out; omega) (by have := Hn.out; have := Hm.out; omega) (by have := Hn.out; have := Hm.out; omega) hcm (by have := Hn.out; have := Hm.out; omega) hdm).mono ?_; rintro e w2 ⟨A2, c2, zs, rfl, ho2, hc2, hm2, ⟨hv2, hn2, hl2⟩, hext2⟩; have Hv2 := Lib.hid hv2; clear hv2) | (go_at_call 112; refine (int_signed rfl ho2.rd hc2 hm2 hn2).mono ?_; rintro e w3 ⟨b3, A3, c3, rs, rfl, hr3, hc3, hm3, hi3, hl3, hext3⟩; have ext3 := ((Ext.refl W).drew.trans hext2).trans hext3; have bz3 := bz.ext ext3; have z0 := bz3.cell 0 (.bool false) rfl; have z1 := bz3.cell 1 (.slice none 0 0) rfl; have f0 := bz3.frozen 0; have f1 := bz3.frozen 1))
 go_wp2_with fail
 obtain ⟨r1, r2, r3, r4⟩ := fin_pair (b := b3) (n := rs.length) (c := c3) (extW.trans ext3) (by omega) bz3 hr3;exact bodyPost_ret (v := .agg #[.bool b3, .slice A3 rs.length c3]) (by simp [results, Tryz.results70, go_sem, r3, r4]) rfl ⟨b3, A3, c3, rs, rfl, r1, hc3, hm3, by rw [ival_mul Hv2.out, ival_trim, ival_trim] at hi3; exact hi3, by omega, r2⟩
end
section
variable {w : World} {z y : Int} {L M : Nat} {s t : Bool} {A B : Option Addr} {n c m d : Nat}
theorem p_MulG (h : NI w z L s A n c) (k : NI w y M t B m d) (hL : L <= 50000) (hM : M <= 50000) : Calls Tryz.prog 70 #[.agg #[.bool s, .slice A n c], .agg #[.bool t, .slice B m d]] w (RetNI (z * y) (L + M) w) := by
 obtain ⟨xs, hn, hx, hc, hcm, hi, hl⟩ := h.out;obtain ⟨ys, hm, hy, hd, hdm, hj, hk⟩ := k.out;refine (int_Mul_g hn hm hx hy hc hcm hd hdm (by omega) (by omega)).mono fun e w' hr => ?_
 rw [hi.eq, hj.eq] at hr;exact hr.ni (by omega)
end
section
variable {w w' : World} {z y : Int} {q p : Rat} {L M : Nat} {s t s' t' : Bool} {A B A' B' : Option Addr} {n c m d n' c' m' d' : Nat}
theorem rat_add_one {q p : Rat} (h1 : (q.den : Int) = 1) (h2 : (p.den : Int) = 1) : ((q.num + p.num : Int) : Rat) = q + p := by
 have e1 : q.den = 1 := by omega
 have e2 : p.den = 1 := by omega
 rw [Rat.add_def', e1, e2];simp [Rat.mkRat_one]
theorem NR.pos (h : NR w q L s A n c t B m d) : 1 <= L := by
 have h1 := h.den.zero;have h2 := h.den.size;have h3 := q.den_nz;omega
set_option maxRecDepth 100000 in
theorem p_AddG (h : NR w q L s A n c t B m d) (k : NR w p M s' A' n' c' t' B' m' d') (hL : L <= 1000) (hM : M <= 1000) (hT : Tab w) : Calls Tryz.prog 58 #[.agg #[.bool s, .slice A n c, .bool t, .slice B m d], .agg #[.bool s', .slice A' n' c', .bool t', .slice B' m' d']] w (RetNR (q + p) (L + M + 1) w) := by
 have hL1 := h.pos;have hM1 := k.pos;replace hL : L <= 1000 := hL
 go_enter Tryz.func58, Tryz.ntmps58
 go_upto_region 1 with (fail)
 obtain ⟨W, hW, extW, bx, by_, bz, hz⟩ := box3 w 30 30 30 #[.bool s, .slice A n c, .bool t, .slice B m d] #[.bool s', .slice A' n' c', .bool t', .slice B' m' d'] #[Value.bool false, Value.slice none 0 0, Value.bool false, Value.slice none 0 0];rw [<- hW];clear hW;replace h := h.ext extW;replace k := k.ext extW;have x0 := bx.cell 0 (.bool s) rfl;have x1 := bx.cell 1 (.slice A n c) rfl;have x2 := bx.cell 2 (.bool t) rfl;have x3 := bx.cell 3 (.slice B m d) rfl;have y0 := by_.cell 0 (.bool s') rfl;have y1 := by_.cell 1 (.slice A' n' c') rfl;have y2 := by_.cell 2 (.bool t') rfl;have y3 := by_.cell 3 (.slice B' m' d') rfl
 go_wp2_with fail
 refine (p_smallPair h k (by omega) (by omega)).mono ?_;rintro e wa ⟨a1, a2, c1, c2, ok, rfl, hok, hxa⟩;have Hok := Lib.hid hok;clear hok;clear x0 x1 x2 x3;clear y0 y1 y2 y3
 go_upto_region 2 with (fail)
 refine at_world (fun V => Ext W V /\ Box V wa.heap.size 94 #[.int .i64 a1, .int .i64 a2] /\ Box V (wa.heap.size + 1) 94 #[.int .i64 c1, .int .i64 c2]) ?_ ?_
 ·obtain ⟨e1, e2, e3⟩ := two_new wa 94 #[.int .i64 a1, .int .i64 a2] #[.int .i64 c1, .int .i64 c2]
  exact ⟨hxa.trans e1, e2, e3⟩
 generalize wa.heap.size = g5;clear hxa;rintro V ⟨EV, b5, b6⟩;replace bx := bx.ext EV;replace by_ := by_.ext EV;replace bz := bz.ext EV;replace h := h.ext EV;replace k := k.ext EV;replace extW := extW.trans EV;clear EV
 cases ok with
 | true =>
  obtain ⟨sm1, sm2⟩ := Hok.out (by first | rfl | trivial);have j0 := b5.cell 0 (.int .i64 a1) rfl;have j1 := b5.cell 1 (.int .i64 a2) rfl;have j2 := b6.cell 0 (.int .i64 c1) rfl;have j3 := b6.cell 1 (.int .i64 c2) rfl
  go_wp2_with fail
  refine (p_plus sm1 sm2).mono ?_;rintro e wb ⟨s1, A1, n1, c1', t1, B1, m1, d1, rfl, hr, hxb⟩;have z0 := (bz.ext hxb).cell 0 _ rfl;have z1 := (bz.ext hxb).cell 1 _ rfl;have z2 := (bz.ext hxb).cell 2 _ rfl;have z3 := (bz.ext hxb).cell 3 _ rfl;have f0 := (bz.ext hxb).frozen 0;have f1 := (bz.ext hxb).frozen 1;have f2 := (bz.ext hxb).frozen 2;have f3 := (bz.ext hxb).frozen 3
  go_wp2_with fail
  obtain ⟨b1, b2, b3, b4⟩ := fin_quad (s := s1) (A := A1) (n := n1) (c := c1') (t := t1) (B := B1) (m := m1) (d := d1) (bz.ext hxb);have r0 := b1.cell 0 (.bool s1) rfl;have r1 := b1.cell 1 (.slice A1 n1 c1') rfl;have r2 := b1.cell 2 (.bool t1) rfl;have r3 := b1.cell 3 (.slice B1 m1 d1) rfl;unfold set4 at r0 r1 r2 r3;refine bodyPost_ret (v := .agg #[.bool s1, .slice A1 n1 c1', .bool t1, .slice B1 m1 d1]) (by simp [results, Tryz.results58, go_sem, r0, r1, r2, r3]) rfl ⟨s1, A1, n1, c1', t1, B1, m1, d1, rfl, ⟨?_, ?_⟩, b3 _ (extW.trans hxb) (by omega)⟩
  ·exact (b2 _ _ _ _ _ _ hr.num).le (by omega)
  ·exact (b2 _ _ _ _ _ _ hr.den).le (by omega)
 | false =>
  have x2 := bx.cell 2 (.bool t) rfl;have x3 := bx.cell 3 (.slice B m d) rfl
  go_wp2_with fail
  refine (p_isOne h.den).mono ?_;rintro e wb ⟨rfl, hxb⟩;replace bx := bx.ext hxb;replace by_ := by_.ext hxb;replace bz := bz.ext hxb;replace h := h.ext hxb;replace k := k.ext hxb;replace extW := extW.trans hxb;clear hxb x2 x3
  by_cases h1 : (q.den : Int) = 1
  case' neg =>
   rw [decide_eq_false h1]
   clear h1
  case' pos =>
   rw [decide_eq_true h1]
   have H1 := Lib.hid h1;clear h1;have y2 := by_.cell 2 (.bool t') rfl;have y3 := by_.cell 3 (.slice B' m' d') rfl
   go_wp2_with fail
   refine (p_isOne k.den).mono ?_;rintro e wb ⟨rfl, hxc⟩;replace bx := bx.ext hxc;replace by_ := by_.ext hxc;replace bz := bz.ext hxc;replace h := h.ext hxc;replace k := k.ext hxc;replace extW := extW.trans hxc;clear hxc y2 y3
   by_cases h2 : (p.den : Int) = 1
   ·rw [decide_eq_true h2]
    have H2 := Lib.hid h2;clear h2;have x0 := bx.cell 0 (.bool s) rfl;have x1 := bx.cell 1 (.slice A n c) rfl;have y0 := by_.cell 0 (.bool s') rfl;have y1 := by_.cell 1 (.slice A' n' c') rfl
    go_wp2_with fail
    refine (p_Add h.num k.num (by omega) (by omega)).mono ?_;rintro e we ⟨s1, A1, n1, c1', rfl, hn1, hxe⟩
    go_wp2_with fail
    refine (p_whole hn1).mono ?_;rintro e wf ⟨s2, A2, n2, c2', t2, B2, m2, d2, rfl, hr, hxf⟩;have hE := hxe.trans hxf;have z0 := (bz.ext hE).cell 0 _ rfl;have z1 := (bz.ext hE).cell 1 _ rfl;have z2 := (bz.ext hE).cell 2 _ rfl;have z3 := (bz.ext hE).cell 3 _ rfl;have f0 := (bz.ext hE).frozen 0;have f1 := (bz.ext hE).frozen 1;have f2 := (bz.ext hE).frozen 2;have f3 := (bz.ext hE).frozen 3
    go_wp2_with fail
    have hqp : ((q.num + p.num : Int) : Rat) = q + p := rat_add_one H1.out H2.out;rw [hqp] at hr;obtain ⟨b1, b2, b3, b4⟩ := fin_quad (s := s2) (A := A2) (n := n2) (c := c2') (t := t2) (B := B2) (m := m2) (d := d2) (bz.ext hE);have r0 := b1.cell 0 (.bool s2) rfl;have r1 := b1.cell 1 (.slice A2 n2 c2') rfl;have r2 := b1.cell 2 (.bool t2) rfl;have r3 := b1.cell 3 (.slice B2 m2 d2) rfl;unfold set4 at r0 r1 r2 r3;refine bodyPost_ret (v := .agg #[.bool s2, .slice A2 n2 c2', .bool t2, .slice B2 m2 d2]) (by simp [results, Tryz.results58, go_sem, r0, r1, r2, r3]) rfl ⟨s2, A2, n2, c2', t2, B2, m2, d2, rfl, ⟨?_, ?_⟩, b3 _ (extW.trans hE) (by omega)⟩
    ·exact (b2 _ _ _ _ _ _ hr.num).le (by omega)
    ·exact (b2 _ _ _ _ _ _ hr.den).le (by omega)
   rw [decide_eq_false h2]
   clear h2
  all_goals
   have x0 := bx.cell 0 (.bool s) rfl;have x1 := bx.cell 1 (.slice A n c) rfl;have x2 := bx.cell 2 (.bool t) rfl;have x3 := bx.cell 3 (.slice B m d) rfl;have y0 := by_.cell 0 (.bool s') rfl;have y1 := by_.cell 1 (.slice A' n' c') rfl;have y2 := by_.cell 2 (.bool t') rfl;have y3 := by_.cell 3 (.slice B' m' d') rfl
   go_wp2_with fail
   refine (p_GCD h.den k.den (by omega) (by omega) (hT.ext extW)).mono ?_;rintro e we ⟨s1, A1, n1, c1', rfl, hg, hxe⟩;rw [Int.natAbs_natCast, Int.natAbs_natCast] at hg;obtain ⟨g, hge⟩ : ∃ g, Nat.gcd q.den p.den = g := ⟨_, rfl⟩;rw [hge] at hg;have hgq : g ∣ q.den := by rw [<- hge]; exact Nat.gcd_dvd_left _ _
   have hgp : g ∣ p.den := by rw [<- hge]; exact Nat.gcd_dvd_right _ _
   have hg0 : (g : Int) ≠ 0 := by
    intro h0;have : g = 0 := by omega
    rw [this] at hgq;have := Nat.eq_zero_of_zero_dvd hgq;exact q.den_nz this
   have Hge := Lib.hid hge.symm;have Hg0 := Lib.hid hg0;have Hgq := Lib.hid (Int.ofNat_dvd.2 hgq);have Hgp := Lib.hid (Int.ofNat_dvd.2 hgp);clear hge hg0 hgq hgp;clear x0 x1 x2 x3;clear y0 y1 y2 y3
   go_upto_region 7 with (fail)
   refine at_world (fun V7 => Ext wb V7 /\ Box V7 we.heap.size 28 #[.bool s1, .slice A1 n1 c1'] /\ NI V7 (g : Int) (max L M) s1 A1 n1 c1') ⟨hxe.alloc _, Box.new we _ _, hg.ext ((Ext.refl we).alloc _)⟩ ?_;generalize we.heap.size = g8;clear hxe hg;rintro V7 ⟨EV, b8, hg⟩;replace bx := bx.ext EV;replace by_ := by_.ext EV;replace bz := bz.ext EV;replace h := h.ext EV;replace k := k.ext EV;replace extW := extW.trans EV;clear EV;have x0 := bx.cell 0 (.bool s) rfl;have x1 := bx.cell 1 (.slice A n c) rfl;have x2 := bx.cell 2 (.bool t) rfl;have x3 := bx.cell 3 (.slice B m d) rfl;have j0 := b8.cell 0 (.bool s1) rfl;have j1 := b8.cell 1 (.slice A1 n1 c1') rfl
   go_wp2_with fail
   refine (p_divide h.den hg (by omega) (by omega) Hg0.out Hgq.out).mono ?_;rintro e wf ⟨s2, A2, n2, c2', rfl, hD1, hxf⟩;clear x0 x1 x2 x3;clear j0 j1
   go_upto_region 8 with (fail)
   refine at_world (fun V9 => Ext V7 V9 /\ Box V9 wf.heap.size 28 #[.bool s2, .slice A2 n2 c2'] /\ NI V9 ((q.den : Int) / (g : Int)) L s2 A2 n2 c2') ⟨hxf.alloc _, Box.new wf _ _, hD1.ext ((Ext.refl wf).alloc _)⟩ ?_;generalize wf.heap.size = g9;clear hxf hD1;rintro V9 ⟨EV, b9, hD1⟩;replace bx := bx.ext EV;replace by_ := by_.ext EV;replace bz := bz.ext EV;replace b8 := b8.ext EV;replace h := h.ext EV;replace k := k.ext EV;replace hg := hg.ext EV;replace extW := extW.trans EV;clear EV
   go_wp2_with fail
   have ES0 := Ext.refl V9;refine wp_region_held_drew (S := Ext V9) (by kernel_rfl) ES0.drew (fun ES => ?_);clear ES0;refine Late.start1 (x := ⟨12, 10, 28, #[Value.bool false, Value.slice none 0 0]⟩) (n := 13) ⟨_, rfl, rfl, rfl, fun a w => by go_simp⟩ (fun _ _ _ _ _ => ⟨fun h => h, fun h => h⟩) ES rfl (fun hAl hQ => ?_);refine Late.t 0 46 ?_ hQ ?_ ?_;rotate_left
   ·intro w' hSw;go_simp;try rfl
   try simp only [zP]
   refine Late.t 2 48 ?_ hQ ?_ ?_;rotate_left
   ·intro w' hSw;go_simp;try rfl
   try simp only [zP]
   refine Late.t 4 50 ?_ hQ ?_ ?_;rotate_left
   ·intro w' hSw;have k00 := (bx.ext hSw).c4;have k10 := (by_.ext hSw).c4;have k20 := (b8.ext hSw).c2;have k30 := (b9.ext hSw).c2;go_simp;try rfl
   try simp only [zP]
   refine Late.t 7 53 ?_ hQ ?_ ?_;rotate_left
   ·intro w' hSw;go_simp;try rfl
   try simp only [zP]
   refine Late.t 9 55 ?_ hQ ?_ ?_;rotate_left
   ·intro w' hSw;have k00 := (bx.ext hSw).c4;have k10 := (by_.ext hSw).c4;have k20 := (b8.ext hSw).c2;have k30 := (b9.ext hSw).c2;go_simp;try rfl
   try simp only [zP]
   refine Late.t 1 47 ?_ hQ ?_ ?_;rotate_left
   ·intro w' hSw;have k00 := (bx.ext hSw).c4;have k10 := (by_.ext hSw).c4;have k20 := (b8.ext hSw).c2;have k30 := (b9.ext hSw).c2;go_simp;try rfl
   try simp only [zP]
   refine Late.t 3 49 ?_ hQ ?_ ?_;rotate_left
   ·intro w' hSw;have k00 := (bx.ext hSw).c4;have k10 := (by_.ext hSw).c4;have k20 := (b8.ext hSw).c2;have k30 := (b9.ext hSw).c2;go_simp;try rfl
   try simp only [zP]
   refine Late.t 8 54 ?_ hQ ?_ ?_;rotate_left
   ·intro w' hSw;have k00 := (bx.ext hSw).c4;have k10 := (by_.ext hSw).c4;have k20 := (b8.ext hSw).c2;have k30 := (b9.ext hSw).c2;go_simp;try rfl
   try simp only [zP]
   refine Late.cl (i := 5) rfl hAl hQ (fun w5 e5 E5 K hK => ?_);go_simp
   (go_at_call 100; refine (p_divide (k.den.ext E5) (hg.ext E5) (by omega) (by omega) Hg0.out Hgp.out).mono ?_; rintro e wk1 ⟨s1x, A1x, n1x, c1x, rfl, h1, hx5⟩)
   refine hK.out _ _ hx5 ?_;clear hK K
   try simp only [zP]
   refine Late.cl (i := 6) rfl hAl hQ (fun w6 e6 E6 K hK => ?_);go_simp
   (go_at_call 70; refine (p_MulG (h.num.ext E6) (h1.ext e6) (by omega) (by omega)).mono ?_; rintro e wk2 ⟨s2x, A2x, n2x, c2x, rfl, h2, hx6⟩)
   refine hK.out _ _ hx6 ?_;clear hK K
   try simp only [zP]
   refine Late.cl (i := 10) rfl hAl hQ (fun w10 e10 E10 K hK => ?_);go_simp
   (go_at_call 70; refine (p_MulG (k.num.ext E10) (hD1.ext E10) (by omega) (by omega)).mono ?_; rintro e wk3 ⟨s3, A3, n3, c3, rfl, h3, hx10⟩)
   refine hK.out _ _ hx10 ?_;clear hK K
   try simp only [zP]
   refine Late.cl (i := 11) rfl hAl hQ (fun w11 e11 E11 K hK => ?_);go_simp
   (go_at_call 99; refine (p_Add (h2.ext (e10.trans (hx10.trans e11))) (h3.ext e11) (by omega) (by omega)).mono ?_; rintro e wk4 ⟨s4, A4, n4, c4, rfl, h4, hx11⟩)
   refine hK.out _ _ hx11 ?_;clear hK K
   try simp only [zP]
   refine Late.finish1 (hAl _ (by simp)) (by kernel_rfl) (fun wz g10 ez Ez lg5 xb1 => ?_);clear hAl hQ ES;have f10 := xb1.cell 0 (Value.bool false) rfl;have f11 := xb1.cell 1 (Value.slice none 0 0) rfl;have f12 := xb1.frozen 0;have f13 := xb1.frozen 1;have e4 := fin_dual (s := s4) (A := A4) (n := n4) (c := c4) xb1
   try simp only [zP]
   refine wpAnyH_ready (rs := [13]) (by kernel_rfl) (by simp) (AllReadyH.cons rfl (fun K hK => ?_) AllReadyH.nil);go_simp;refine hK.out _ _ (e4.2.2.1 _ Ez lg5) (fun _ => ?_);clear hK K
   try simp only [zP]
   refine any_world (fun U => Ext V9 U /\ Box U g10 28 #[.bool s4, .slice A4 n4 c4] /\ NI U (q.num * ((p.den : Int) / (g : Int)) + p.num * ((q.den : Int) / (g : Int))) (L + M + 1) s4 A4 n4 c4) ⟨e4.2.2.1 _ Ez lg5, e4.1, (e4.2.1 _ _ _ _ _ _ (h4.ext ez)).le (by omega)⟩ ?_;clear e4 f10 f11 f12 f13 xb1 lg5;rintro U ⟨EU, b10, hS⟩;refine wpAnyH_done (by kernel_rfl) ?_ _;replace bx := bx.ext EU;replace by_ := by_.ext EU;replace bz := bz.ext EU;replace b8 := b8.ext EU;replace b9 := b9.ext EU;replace h := h.ext EU;replace k := k.ext EU;replace hg := hg.ext EU;replace hD1 := hD1.ext EU;replace extW := extW.trans EU;clear EU Ez ez;have j0 := b10.cell 0 (.bool s4) rfl;have j1 := b10.cell 1 (.slice A4 n4 c4) rfl;have j2 := b8.cell 0 (.bool s1) rfl;have j3 := b8.cell 1 (.slice A1 n1 c1') rfl
   go_wp2_with fail
   refine (p_GCD hS hg (by omega) (by omega) (hT.ext extW)).mono ?_;rintro e wg ⟨s5, A5, n5, c5, rfl, hr, hxg⟩;rw [Int.natAbs_natCast] at hr;clear j0 j1 j2 j3;obtain ⟨S, hSe⟩ : ∃ S : Int, q.num * ((p.den : Int) / (g : Int)) + p.num * ((q.den : Int) / (g : Int)) = S := ⟨_, rfl⟩;rw [hSe] at hS hr;obtain ⟨r, hre⟩ : ∃ r, Nat.gcd S.natAbs g = r := ⟨_, rfl⟩;rw [hre] at hr;obtain ⟨q1, q2, q3, q4⟩ := rat_add q p (S := S) (r := r) Hge.out rfl rfl (by rw [<- hSe]; simp) hre.symm;have Hq1 := Lib.hid q1;have Hq2 := Lib.hid q2;have Hr0 := Lib.hid (show (r : Int) ≠ 0 by omega);have Hrp := Lib.hid (Int.ofNat_dvd.2 q3);have HrS := Lib.hid (show (r : Int) ∣ S from Int.ofNat_dvd_left.2 (by rw [<- hre]; exact Nat.gcd_dvd_left _ _));clear q1 q2 q3 q4 hre hSe
   go_upto_region 10 with (fail)
   refine at_world (fun Z9 => Ext U Z9 /\ Box Z9 wg.heap.size 28 #[.bool s5, .slice A5 n5 c5] /\ NI Z9 (r : Int) (max (L + M + 1) (max L M)) s5 A5 n5 c5) ⟨hxg.alloc _, Box.new wg _ _, hr.ext ((Ext.refl wg).alloc _)⟩ ?_;generalize wg.heap.size = g11;clear hxg hr;rintro Z9 ⟨EV, b11, hr⟩;replace bx := bx.ext EV;replace by_ := by_.ext EV;replace bz := bz.ext EV;replace b9 := b9.ext EV;replace b10 := b10.ext EV;replace h := h.ext EV;replace k := k.ext EV;replace hD1 := hD1.ext EV;replace hS := hS.ext EV;replace extW := extW.trans EV;clear EV
   go_wp2_with fail
   refine wpL.st 10 (fun hQ ES => ?_);refine wpL.t 0 61 ?_ hQ ?_ ES ?_;rotate_left
   ·intro w' hSw;have k00 := (b9.ext hSw).c2;have k10 := (b10.ext hSw).c2;have k20 := (b11.ext hSw).c2;have k30 := (by_.ext hSw).c4;go_simp;try rfl
   try simp only [zP]
   refine wpL.t 1 62 ?_ hQ ?_ ES ?_;rotate_left
   ·intro w' hSw;have k00 := (b9.ext hSw).c2;have k10 := (b10.ext hSw).c2;have k20 := (b11.ext hSw).c2;have k30 := (by_.ext hSw).c4;go_simp;try rfl
   try simp only [zP]
   refine wpL.t 3 64 ?_ hQ ?_ ES ?_;rotate_left
   ·intro w' hSw;have k00 := (b9.ext hSw).c2;have k10 := (b10.ext hSw).c2;have k20 := (b11.ext hSw).c2;have k30 := (by_.ext hSw).c4;go_simp;try rfl
   try simp only [zP]
   refine wpL.t 4 65 ?_ hQ ?_ ES ?_;rotate_left
   ·intro w' hSw;go_simp;try rfl
   try simp only [zP]
   refine wpL.t 6 67 ?_ hQ ?_ ES ?_;rotate_left
   ·intro w' hSw;have k00 := (b9.ext hSw).c2;have k10 := (b10.ext hSw).c2;have k20 := (b11.ext hSw).c2;have k30 := (by_.ext hSw).c4;go_simp;try rfl
   try simp only [zP]
   refine wpL.t 5 66 ?_ hQ ?_ ES ?_;rotate_left
   ·intro w' hSw;have k00 := (b9.ext hSw).c2;have k10 := (b10.ext hSw).c2;have k20 := (b11.ext hSw).c2;have k30 := (by_.ext hSw).c4;go_simp;try rfl
   try simp only [zP]
   refine wpL.cl (i := 2) rfl (fun K hK => ?_);go_simp
   (go_at_call 100; refine (p_divide (hS.ext ES) (hr.ext ES) (by omega) (by omega) Hr0.out HrS.out).mono ?_; rintro e wk1 ⟨s1x, A1x, n1x, c1x, rfl, h1, hx0⟩; have E0_10 := Ext.trans ES hx0)
   refine hK.out _ _ E0_10 ?_;clear hK K
   try simp only [zP]
   refine wpL.cl (i := 7) rfl (fun K hK => ?_);go_simp
   (go_at_call 100; refine (p_divide (k.den.ext E0_10) (hr.ext E0_10) (by omega) (by omega) Hr0.out Hrp.out).mono ?_; rintro e wk2 ⟨s2x, A2x, n2x, c2x, rfl, h2, hx1⟩; have E1_10 := Ext.trans E0_10 hx1)
   refine hK.out _ _ E1_10 ?_;clear hK K
   try simp only [zP]
   refine wpL.cl (i := 8) rfl (fun K hK => ?_);go_simp
   (go_at_call 70; refine (p_MulG (hD1.ext E1_10) (h2) (by omega) (by omega)).mono ?_; rintro e wk3 ⟨s3, A3, n3, c3, rfl, h3, hx2⟩; have E2_10 := Ext.trans E1_10 hx2)
   refine hK.out _ _ E2_10 ?_;clear hK K
   try simp only [zP]
   refine wpL.t 9 70 ?_ hQ ?_ E2_10 ?_;rotate_left
   ·intro w' hSw;go_simp;try rfl
   try simp only [zP]
   have z0 := (bz.ext E2_10).cell 0 _ rfl;have z1 := (bz.ext E2_10).cell 1 _ rfl;have z2 := (bz.ext E2_10).cell 2 _ rfl;have z3 := (bz.ext E2_10).cell 3 _ rfl;have f0 := (bz.ext E2_10).frozen 0;have f1 := (bz.ext E2_10).frozen 1;have f2 := (bz.ext E2_10).frozen 2;have f3 := (bz.ext E2_10).frozen 3;refine wpL.tl (i := 10) rfl (fun K hK => ?_);go_simp;refine hK.out _ _ ?_;clear hK K
   try simp only [zP]
   refine wpL.done (by kernel_rfl) ?_ _;clear hQ
   go_wp2_with fail
   have hk1 : ((q.den : Int) / (g : Int)) * ((p.den : Int) / (r : Int)) = ((q + p).den : Int) := by rw [Hq2.out]; simp
   rw [hk1] at h3;rw [<- Hq1.out] at h1;obtain ⟨b1, b2, b3, b4⟩ := fin_quad (s := s1x) (A := A1x) (n := n1x) (c := c1x) (t := s3) (B := A3) (m := n3) (d := c3) (bz.ext E2_10);have r0 := b1.cell 0 (.bool s1x) rfl;have r1 := b1.cell 1 (.slice A1x n1x c1x) rfl;have r2 := b1.cell 2 (.bool s3) rfl;have r3 := b1.cell 3 (.slice A3 n3 c3) rfl;unfold set4 at r0 r1 r2 r3;refine bodyPost_ret (v := .agg #[.bool s1x, .slice A1x n1x c1x, .bool s3, .slice A3 n3 c3]) (by simp [results, Tryz.results58, go_sem, r0, r1, r2, r3]) rfl ⟨s1x, A1x, n1x, c1x, s3, A3, n3, c3, rfl, ⟨?_, ?_⟩, b3 _ (extW.trans E2_10) (by omega)⟩
   ·exact (b2 _ _ _ _ _ _ (h1.ext (hx1.trans hx2))).le (by omega)
   ·exact (b2 _ _ _ _ _ _ h3).le (by omega)
set_option maxRecDepth 100000 in
theorem p_MulRG (h : NR w q L s A n c t B m d) (k : NR w p M s' A' n' c' t' B' m' d') (hL : L <= 1000) (hM : M <= 1000) (hT : Tab w) : Calls Tryz.prog 63 #[.agg #[.bool s, .slice A n c, .bool t, .slice B m d], .agg #[.bool s', .slice A' n' c', .bool t', .slice B' m' d']] w (RetNR (q * p) (L + M) w) := by
 have hL1 := h.pos;have hM1 := k.pos
 go_enter Tryz.func63, Tryz.ntmps63
 go_upto_region 1 with (fail)
 obtain ⟨W, hW, extW, bx, by_, bz, hz⟩ := box3 w 30 30 30 #[.bool s, .slice A n c, .bool t, .slice B m d] #[.bool s', .slice A' n' c', .bool t', .slice B' m' d'] #[Value.bool false, Value.slice none 0 0, Value.bool false, Value.slice none 0 0];rw [<- hW];clear hW;replace h := h.ext extW;replace k := k.ext extW;have x0 := bx.cell 0 (.bool s) rfl;have x1 := bx.cell 1 (.slice A n c) rfl;have x2 := bx.cell 2 (.bool t) rfl;have x3 := bx.cell 3 (.slice B m d) rfl;have y0 := by_.cell 0 (.bool s') rfl;have y1 := by_.cell 1 (.slice A' n' c') rfl;have y2 := by_.cell 2 (.bool t') rfl;have y3 := by_.cell 3 (.slice B' m' d') rfl
 go_wp2_with fail
 refine (p_smallPair h k (by omega) (by omega)).mono ?_;rintro e wa ⟨a1, a2, c1, c2, ok, rfl, hok, hxa⟩;have Hok := Lib.hid hok;clear hok;clear x0 x1 x2 x3;clear y0 y1 y2 y3
 go_upto_region 2 with (fail)
 refine at_world (fun V => Ext W V /\ Box V wa.heap.size 94 #[.int .i64 a1, .int .i64 a2] /\ Box V (wa.heap.size + 1) 94 #[.int .i64 c1, .int .i64 c2]) ?_ ?_
 ·obtain ⟨e1, e2, e3⟩ := two_new wa 94 #[.int .i64 a1, .int .i64 a2] #[.int .i64 c1, .int .i64 c2]
  exact ⟨hxa.trans e1, e2, e3⟩
 generalize wa.heap.size = g5;clear hxa;rintro V ⟨EV, b5, b6⟩;replace bx := bx.ext EV;replace by_ := by_.ext EV;replace bz := bz.ext EV;replace h := h.ext EV;replace k := k.ext EV;replace extW := extW.trans EV;clear EV
 cases ok with
 | true =>
  obtain ⟨sm1, sm2⟩ := Hok.out (by first | rfl | trivial);have j0 := b5.cell 0 (.int .i64 a1) rfl;have j1 := b5.cell 1 (.int .i64 a2) rfl;have j2 := b6.cell 0 (.int .i64 c1) rfl;have j3 := b6.cell 1 (.int .i64 c2) rfl
  go_wp2_with fail
  refine (p_times sm1 sm2).mono ?_;rintro e wb ⟨s1, A1, n1, c1', t1, B1, m1, d1, rfl, hr, hxb⟩;have z0 := (bz.ext hxb).cell 0 _ rfl;have z1 := (bz.ext hxb).cell 1 _ rfl;have z2 := (bz.ext hxb).cell 2 _ rfl;have z3 := (bz.ext hxb).cell 3 _ rfl;have f0 := (bz.ext hxb).frozen 0;have f1 := (bz.ext hxb).frozen 1;have f2 := (bz.ext hxb).frozen 2;have f3 := (bz.ext hxb).frozen 3
  go_wp2_with fail
  obtain ⟨b1, b2, b3, b4⟩ := fin_quad (s := s1) (A := A1) (n := n1) (c := c1') (t := t1) (B := B1) (m := m1) (d := d1) (bz.ext hxb);have r0 := b1.cell 0 (.bool s1) rfl;have r1 := b1.cell 1 (.slice A1 n1 c1') rfl;have r2 := b1.cell 2 (.bool t1) rfl;have r3 := b1.cell 3 (.slice B1 m1 d1) rfl;unfold set4 at r0 r1 r2 r3;refine bodyPost_ret (v := .agg #[.bool s1, .slice A1 n1 c1', .bool t1, .slice B1 m1 d1]) (by simp [results, Tryz.results63, go_sem, r0, r1, r2, r3]) rfl ⟨s1, A1, n1, c1', t1, B1, m1, d1, rfl, ⟨?_, ?_⟩, b3 _ (extW.trans hxb) (by omega)⟩
  ·exact (b2 _ _ _ _ _ _ hr.num).le (by omega)
  ·exact (b2 _ _ _ _ _ _ hr.den).le (by omega)
 | false =>
  go_wp2_with fail
  have ES0 := Ext.refl V;refine wp_region_held_drew (S := Ext V) (by kernel_rfl) ES0.drew (fun ES => ?_);clear ES0;refine Late.start2 (x := ⟨10, 8, 28, #[Value.bool false, Value.slice none 0 0]⟩) (y := ⟨11, 9, 28, #[Value.bool false, Value.slice none 0 0]⟩) (n := 12) ⟨_, rfl, rfl, rfl, fun a w => by go_simp⟩ ⟨_, rfl, rfl, rfl, fun a w => by go_simp⟩ (fun _ _ _ _ _ => ⟨fun h => h, fun h => h⟩) ES rfl (fun hAl hQ => ?_);refine Late.u 0 21 hQ ?_
  try simp only [zP]
  refine Late.u 2 23 hQ ?_
  try simp only [zP]
  refine Late.u 5 26 hQ ?_
  try simp only [zP]
  refine Late.u 7 28 hQ ?_
  try simp only [zP]
  refine Late.t 1 22 ?v_4 hQ ?y_4 ?_
  case y_4 => intro w' hSw;have k00 := (bx.ext hSw).c4;have k10 := (by_.ext hSw).c4;go_simp;try rfl
  try simp only [zP]
  refine Late.t 3 24 ?v_5 hQ ?y_5 ?_
  case y_5 => intro w' hSw;have k00 := (bx.ext hSw).c4;have k10 := (by_.ext hSw).c4;go_simp;try rfl
  try simp only [zP]
  refine Late.t 6 27 ?v_6 hQ ?y_6 ?_
  case y_6 => intro w' hSw;have k00 := (bx.ext hSw).c4;have k10 := (by_.ext hSw).c4;go_simp;try rfl
  try simp only [zP]
  refine Late.t 8 29 ?v_7 hQ ?y_7 ?_
  case y_7 => intro w' hSw;have k00 := (bx.ext hSw).c4;have k10 := (by_.ext hSw).c4;go_simp;try rfl
  try simp only [zP]
  refine Late.cl (i := 4) rfl hAl hQ (fun w4 e4 E4 K hK => ?_);go_simp
  (go_at_call 88; refine (p_GCD (h.num.ext E4) (k.den.ext E4) (by omega) (by omega) (hT.ext (extW.trans E4))).mono ?_; rintro e wk1 ⟨s1, A1, n1, c1', rfl, h1, hx4⟩; rw [Int.natAbs_natCast] at h1)
  refine hK.out _ _ hx4 ?_;clear hK K
  try simp only [zP]
  refine Late.cl (i := 9) rfl hAl hQ (fun w9 e9 E9 K hK => ?_);go_simp
  (go_at_call 88; refine (p_GCD (k.num.ext E9) (h.den.ext E9) (by omega) (by omega) (hT.ext (extW.trans E9))).mono ?_; rintro e wk2 ⟨s2, A2, n2, c2', rfl, h2, hx9⟩; rw [Int.natAbs_natCast] at h2)
  refine hK.out _ _ hx9 ?_;clear hK K
  try simp only [zP]
  refine Late.finish2 (hAl _ (by simp)) (hAl _ (by simp)) (by decide) (by decide) (by kernel_rfl) (by kernel_rfl) (by kernel_rfl) (fun wz g5 g6 ez Ez lg5 lg6 hne xb1 xb2 => ?_);clear hAl hQ ES;have p10 := xb1.cell 0 (Value.bool false) rfl;have p11 := xb1.cell 1 (Value.slice none 0 0) rfl;have f10 := xb1.frozen 0;have f11 := xb1.frozen 1;have e4 := fin_dual (s := s1) (A := A1) (n := n1) (c := c1') xb1
  try simp only [zP]
  refine wpAnyH_ready (rs := [12]) (by kernel_rfl) (by simp) (AllReadyH.cons rfl (fun K hK => ?_) AllReadyH.nil);go_simp;refine hK.out _ _ (e4.2.2.1 _ Ez lg5) (fun _ => ?_);clear hK K
  try simp only [zP]
  have e5 := e4.2.2.2 _ _ _ (Ne.symm hne) xb2;refine any_world (fun U => Ext V U /\ Box U g5 28 #[.bool s1, .slice A1 n1 c1'] /\ Box U g6 28 #[Value.bool false, Value.slice none 0 0] /\ NI U ((q.num.natAbs.gcd p.den : Nat) : Int) (max L M) s1 A1 n1 c1' /\ NI U ((p.num.natAbs.gcd q.den : Nat) : Int) (max M L) s2 A2 n2 c2') ⟨e4.2.2.1 _ Ez lg5, e4.1, e5, e4.2.1 _ _ _ _ _ _ (h1.ext (e9.trans (hx9.trans ez))), e4.2.1 _ _ _ _ _ _ (h2.ext ez)⟩ ?_;clear e4 e5 p10 p11 f10 f11 xb1 xb2;rintro U ⟨EU, b8, xb2, h1, h2⟩;have p10 := xb2.cell 0 (Value.bool false) rfl;have p11 := xb2.cell 1 (Value.slice none 0 0) rfl;have f10 := xb2.frozen 0;have f11 := xb2.frozen 1;have e4 := fin_dual (s := s2) (A := A2) (n := n2) (c := c2') xb2;refine wpAnyH_ready (rs := [13]) (by kernel_rfl) (by simp) (AllReadyH.cons rfl (fun K hK => ?_) AllReadyH.nil);go_simp;refine hK.out _ _ (e4.2.2.1 _ EU lg6) (fun _ => ?_);clear hK K
  try simp only [zP]
  refine any_world (fun U2 => Ext V U2 /\ Box U2 g5 28 #[.bool s1, .slice A1 n1 c1'] /\ Box U2 g6 28 #[.bool s2, .slice A2 n2 c2'] /\ NI U2 ((q.num.natAbs.gcd p.den : Nat) : Int) (max L M) s1 A1 n1 c1' /\ NI U2 ((p.num.natAbs.gcd q.den : Nat) : Int) (max M L) s2 A2 n2 c2') ⟨e4.2.2.1 _ EU lg6, e4.2.2.2 _ _ _ hne b8, e4.1, e4.2.1 _ _ _ _ _ _ h1, e4.2.1 _ _ _ _ _ _ h2⟩ ?_;clear e4 p10 p11 f10 f11 xb2 b8 h1 h2 lg5 lg6;rintro U2 ⟨EU2, b8, b9, h1, h2⟩;refine wpAnyH_done (by kernel_rfl) ?_ _;replace bx := bx.ext EU2;replace by_ := by_.ext EU2;replace bz := bz.ext EU2;replace h := h.ext EU2;replace k := k.ext EU2;replace extW := extW.trans EU2;clear EU EU2 Ez ez;obtain ⟨g, hge⟩ : ∃ g, q.num.natAbs.gcd p.den = g := ⟨_, rfl⟩;obtain ⟨hq, hhe⟩ : ∃ g, p.num.natAbs.gcd q.den = g := ⟨_, rfl⟩;rw [hge] at h1;rw [hhe] at h2;obtain ⟨q1, q2⟩ := rat_mul q p hge.symm hhe.symm;have Hq1 := Lib.hid q1;have Hq2 := Lib.hid q2;have hgq : g ∣ q.num.natAbs := by rw [<- hge]; exact Nat.gcd_dvd_left _ _
  have hgp : g ∣ p.den := by rw [<- hge]; exact Nat.gcd_dvd_right _ _
  have hhp : hq ∣ p.num.natAbs := by rw [<- hhe]; exact Nat.gcd_dvd_left _ _
  have hhq : hq ∣ q.den := by rw [<- hhe]; exact Nat.gcd_dvd_right _ _
  have hg0 : (g : Int) ≠ 0 := by
   intro h0;have : g = 0 := by omega
   rw [this] at hgp;exact p.den_nz (Nat.eq_zero_of_zero_dvd hgp)
  have hh0 : (hq : Int) ≠ 0 := by
   intro h0;have : hq = 0 := by omega
   rw [this] at hhq;exact q.den_nz (Nat.eq_zero_of_zero_dvd hhq)
  have Hg0 := Lib.hid hg0;have Hh0 := Lib.hid hh0;have Hgq := Lib.hid (Int.ofNat_dvd_left.2 hgq);have Hgp := Lib.hid (Int.ofNat_dvd.2 hgp);have Hhp := Lib.hid (Int.ofNat_dvd_left.2 hhp);have Hhq := Lib.hid (Int.ofNat_dvd.2 hhq);have hg := h1;have hh := h2;clear hge hhe q1 q2 hgq hgp hhp hhq hg0 hh0 h1 h2
  go_wp2_with fail
  refine wpL.st 19 (fun hQ ES => ?_);refine wpL.u 0 31 hQ ES ?_
  try simp only [zP]
  refine wpL.t 2 33 ?v_9 hQ ?y_9 ES ?_
  case y_9 => intro w' hSw;have k00 := (bx.ext hSw).c4;have k10 := (by_.ext hSw).c4;have k20 := (b8.ext hSw).c2;have k30 := (b9.ext hSw).c2;go_simp;try rfl
  try simp only [zP]
  refine wpL.u 4 35 hQ ES ?_
  try simp only [zP]
  refine wpL.t 6 37 ?v_b hQ ?y_b ES ?_
  case y_b => intro w' hSw;have k00 := (bx.ext hSw).c4;have k10 := (by_.ext hSw).c4;have k20 := (b8.ext hSw).c2;have k30 := (b9.ext hSw).c2;go_simp;try rfl
  try simp only [zP]
  refine wpL.u 9 40 hQ ES ?_
  try simp only [zP]
  refine wpL.t 11 42 ?v_d hQ ?y_d ES ?_
  case y_d => intro w' hSw;have k00 := (bx.ext hSw).c4;have k10 := (by_.ext hSw).c4;have k20 := (b8.ext hSw).c2;have k30 := (b9.ext hSw).c2;go_simp;try rfl
  try simp only [zP]
  refine wpL.u 13 44 hQ ES ?_
  try simp only [zP]
  refine wpL.t 15 46 ?v_f hQ ?y_f ES ?_
  case y_f => intro w' hSw;have k00 := (bx.ext hSw).c4;have k10 := (by_.ext hSw).c4;have k20 := (b8.ext hSw).c2;have k30 := (b9.ext hSw).c2;go_simp;try rfl
  try simp only [zP]
  refine wpL.t 1 32 ?v_g hQ ?y_g ES ?_
  case y_g => intro w' hSw;have k00 := (bx.ext hSw).c4;have k10 := (by_.ext hSw).c4;have k20 := (b8.ext hSw).c2;have k30 := (b9.ext hSw).c2;go_simp;try rfl
  try simp only [zP]
  refine wpL.t 5 36 ?v_h hQ ?y_h ES ?_
  case y_h => intro w' hSw;have k00 := (bx.ext hSw).c4;have k10 := (by_.ext hSw).c4;have k20 := (b8.ext hSw).c2;have k30 := (b9.ext hSw).c2;go_simp;try rfl
  try simp only [zP]
  refine wpL.t 10 41 ?v_i hQ ?y_i ES ?_
  case y_i => intro w' hSw;have k00 := (bx.ext hSw).c4;have k10 := (by_.ext hSw).c4;have k20 := (b8.ext hSw).c2;have k30 := (b9.ext hSw).c2;go_simp;try rfl
  try simp only [zP]
  refine wpL.t 14 45 ?v_j hQ ?y_j ES ?_
  case y_j => intro w' hSw;have k00 := (bx.ext hSw).c4;have k10 := (by_.ext hSw).c4;have k20 := (b8.ext hSw).c2;have k30 := (b9.ext hSw).c2;go_simp;try rfl
  try simp only [zP]
  refine wpL.cl (i := 3) rfl (fun K hK => ?_);go_simp
  (go_at_call 100; refine (p_divide (h.num.ext ES) (hg.ext ES) (by omega) (by omega) Hg0.out Hgq.out).mono ?_; rintro e wk1 ⟨s3, A3, n3, c3, rfl, h3, hx0⟩; have E0_5 := Ext.trans ES hx0)
  refine hK.out _ _ E0_5 ?_;clear hK K
  try simp only [zP]
  refine wpL.cl (i := 7) rfl (fun K hK => ?_);go_simp
  (go_at_call 100; refine (p_divide (k.num.ext E0_5) (hh.ext E0_5) (by omega) (by omega) Hh0.out Hhp.out).mono ?_; rintro e wk2 ⟨s4, A4, n4, c4, rfl, h4, hx1⟩; have E1_5 := Ext.trans E0_5 hx1)
  refine hK.out _ _ E1_5 ?_;clear hK K
  try simp only [zP]
  refine wpL.cl (i := 8) rfl (fun K hK => ?_);go_simp
  (go_at_call 70; refine (p_MulG (h3.ext hx1) h4 (by omega) (by omega)).mono ?_; rintro e wk3 ⟨s5, A5, n5, c5, rfl, h5, hx2⟩; have E2_5 := Ext.trans E1_5 hx2)
  refine hK.out _ _ E2_5 ?_;clear hK K
  try simp only [zP]
  refine wpL.cl (i := 12) rfl (fun K hK => ?_);go_simp
  (go_at_call 100; refine (p_divide (h.den.ext E2_5) (hh.ext E2_5) (by omega) (by omega) Hh0.out Hhq.out).mono ?_; rintro e wk4 ⟨s6, A6, n6, c6, rfl, h6, hx3⟩; have E3_5 := Ext.trans E2_5 hx3)
  refine hK.out _ _ E3_5 ?_;clear hK K
  try simp only [zP]
  refine wpL.cl (i := 16) rfl (fun K hK => ?_);go_simp
  (go_at_call 100; refine (p_divide (k.den.ext E3_5) (hg.ext E3_5) (by omega) (by omega) Hg0.out Hgp.out).mono ?_; rintro e wk5 ⟨s7, A7, n7, c7, rfl, h7, hx4⟩; have E4_5 := Ext.trans E3_5 hx4)
  refine hK.out _ _ E4_5 ?_;clear hK K
  try simp only [zP]
  refine wpL.cl (i := 17) rfl (fun K hK => ?_);go_simp
  (go_at_call 70; refine (p_MulG (h6.ext hx4) h7 (by omega) (by omega)).mono ?_; rintro e wk6 ⟨s8, A8, n8, c8, rfl, h8, hx5⟩; have E5_5 := Ext.trans E4_5 hx5)
  refine hK.out _ _ E5_5 ?_;clear hK K
  try simp only [zP]
  refine wpL.u 18 49 hQ E5_5 ?_
  try simp only [zP]
  have z0 := (bz.ext E5_5).cell 0 _ rfl;have z1 := (bz.ext E5_5).cell 1 _ rfl;have z2 := (bz.ext E5_5).cell 2 _ rfl;have z3 := (bz.ext E5_5).cell 3 _ rfl;have f0 := (bz.ext E5_5).frozen 0;have f1 := (bz.ext E5_5).frozen 1;have f2 := (bz.ext E5_5).frozen 2;have f3 := (bz.ext E5_5).frozen 3;refine wpL.tl (i := 19) rfl (fun K hK => ?_);go_simp;refine hK.out _ _ ?_;clear hK K
  try simp only [zP]
  refine wpL.done (by kernel_rfl) ?_ _;clear hQ
  go_wp2_with fail
  have hk1 : ((q.den : Int) / (hq : Int)) * ((p.den : Int) / (g : Int)) = ((q * p).den : Int) := by rw [Hq2.out]; simp
  rw [hk1] at h8;rw [<- Hq1.out] at h5;obtain ⟨b1, b2, b3, b4⟩ := fin_quad (s := s5) (A := A5) (n := n5) (c := c5) (t := s8) (B := A8) (m := n8) (d := c8) (bz.ext E5_5);have r0 := b1.cell 0 (.bool s5) rfl;have r1 := b1.cell 1 (.slice A5 n5 c5) rfl;have r2 := b1.cell 2 (.bool s8) rfl;have r3 := b1.cell 3 (.slice A8 n8 c8) rfl;unfold set4 at r0 r1 r2 r3;refine bodyPost_ret (v := .agg #[.bool s5, .slice A5 n5 c5, .bool s8, .slice A8 n8 c8]) (by simp [results, Tryz.results63, go_sem, r0, r1, r2, r3]) rfl ⟨s5, A5, n5, c5, s8, A8, n8, c8, rfl, ⟨?_, ?_⟩, b3 _ (extW.trans E5_5) (by omega)⟩
  ·exact b2 _ _ _ _ _ _ (h5.ext (hx3.trans (hx4.trans hx5)))
  ·exact b2 _ _ _ _ _ _ h8
theorem p_MulR (h : NR w q L s A n c t B m d) (k : NR w p M s' A' n' c' t' B' m' d') (hL : L <= 1000) (hM : M <= 1000) (h64 : min L M < 64) (hT : Tab w) : Calls Tryz.prog 63 #[.agg #[.bool s, .slice A n c, .bool t, .slice B m d], .agg #[.bool s', .slice A' n' c', .bool t', .slice B' m' d']] w (RetNR (q * p) (L + M) w) :=
 p_MulRG h k hL hM hT
end
end
section
open Go.RowKit
section
variable {P : Program} {ops : Array Oper} {Q : Exit -> Act -> World -> Prop} {md : Region.Mode} {W0 : World} {z : Nat}
theorem wpL.first2 {i m : Nat} {oi : Oper} {v : Value} (hi : ops[i]? = some oi) (hs : Region.noSelect ops = true) (hiz : i ≠ z) (him : i ≠ m) (hw1 : Waits md ops i m) (hw2 : Waits md ops m z) (hQ : QStill Q) :
  ∀ (f : Nat) (L : Array Bool) (a : Act) (w : World), L.size = ops.size -> L.getD z false = false -> L.getD m false = false -> L.getD m true = false ->
   (∀ j oj, ops[j]? = some oj -> j ≠ i -> L.getD j true = false -> (∀ e ∈ oj.after, Region.binds md e = true -> e.on ≠ i) -> oi.apart ops oj = true) ->
   i ∈ Region.ready md ops L -> YieldsIf P ops (Ext W0) oi v a -> Ext W0 w ->
   wpL P md ops Q W0 z f (L.setIfInBounds i true) (a.put oi.dst v) w -> wpL P md ops Q W0 z (f + 1) L a w := by
 have hsel := Region.noSelect_spec hs;intro f
 induction f with
 | zero =>
  intro L a w _ _ _ _ _ hr hy hS H;refine ⟨(fun h0 => by rw [h0] at hr; cases hr), fun j hj => ?_⟩
  by_cases hji : j = i
  ·subst hji; exact hy.wpOp hi hS ⟨.inr hS, H⟩
  ·have := ready_mono hj hji
   rw [H.1] at this
   cases this
 | succ f ih =>
  intro L a w hsz hzL hmL hmT hfree hr hy hS H;refine ⟨(fun h0 => by rw [h0] at hr; cases hr), fun j hj => ?_⟩
  by_cases hji : j = i
  ·subst hji; exact hy.wpOp hi hS ⟨.inr hS, H⟩
  ·have hiL := (mem_ready.1 hr).1
   have hjz : j ≠ z := fun e => waits_not hw2 hmT hzL hsz (e ▸ hj)
   have hjm : j ≠ m := fun e => waits_not hw1 hiL hmL hsz (e ▸ hj)
   obtain ⟨hjun, oj, hoj, hall⟩ := mem_ready.1 hj
   have hnot : ∀ e ∈ oj.after, Region.binds md e = true -> e.on ≠ i := fun e he hb hh => by
    have h1 := hall e he hb;rw [hh] at h1
    have hlt : i < L.size := by
     rcases Nat.lt_or_ge i L.size with h | h
     ·exact h
     ·simp [h] at h1
    simp [hlt] at h1 hiL;rw [h1] at hiL
    cases hiL
   have h1 := H.2 j (ready_mono hj hji);have h2 := wpOp_putIf hoj (hfree j oj hoj hji hjun hnot) (fun cs b => hsel i oi cs b hi) (fun cs b => hsel j oj cs b hoj) (fun c a w => (hQ.put c a _ _ w).1) hy h1;refine wpOp_mono (fun a' w' h3 => ?_) h2;obtain ⟨hy', hS', H'⟩ := h3
   have hzz : ((L.setIfInBounds i true).setIfInBounds j true).getD z false = false := by
    rw [getD_set_ne false hjz, getD_set_ne false hiz]; exact hzL
   have hE : Ext W0 w' := by
    rcases hS' with h | h
    ·rw [hzz] at h; cases h
    ·exact h
   refine ⟨.inr hE, ih (L.setIfInBounds j true) a' w' (by simpa using hsz) (by rw [getD_set_ne false hjz]; exact hzL) (by rw [getD_set_ne false hjm]; exact hmL) (by rw [getD_set_ne true hjm]; exact hmT) ?_ (ready_mono hr (Ne.symm hji)) hy' hE ?_⟩
   ·intro k ok hk hki hun hno
    refine hfree k ok hk hki ?_ hno
    by_cases hjk : j = k
    ·subst hjk; exact hjun
    ·rwa [getD_set_ne true hjk] at hun
   ·rw [Array.setIfInBounds_comm _ _ hji]
    exact H'
theorem wpL.take2 {f i : Nat} {oi : Oper} {d : Option Tmp} {v : Value} {L : Array Bool} {a : Act} {w : World} (m : Nat) (hi : ops[i]? = some oi) (hd : oi.dst = d) (hs : Region.noSelect ops = true) (hf : Region.free md ops L i = true)
  (hr : (Region.ready md ops L).contains i = true) (hz : (i != z && i != m && waitsB md ops i m && waitsB md ops m z && !L.getD z false && !L.getD m false && !L.getD m true && L.size == ops.size) = true) (hQ : QStill Q) (hy : YieldsIf P ops (Ext W0) oi v a) (hS : Ext W0 w)
  (h : wpL P md ops Q W0 z f (L.setIfInBounds i true) (a.put d v) w) : wpL P md ops Q W0 z (f + 1) L a w := by
 subst hd;simp only [Bool.and_eq_true, bne_iff_ne, Bool.not_eq_true', beq_iff_eq] at hz;obtain ⟨⟨⟨⟨⟨⟨⟨h1, h2⟩, h3⟩, h4⟩, h5⟩, h6⟩, h7⟩, h8⟩ := hz;exact wpL.first2 hi hs h1 h2 (waitsB_spec h3) (waitsB_spec h4) hQ f L a w h8 h5 h6 h7 (fun j oj hj hne hun hno => Region.free_spec hi hf j oj hj hne hun hno) (by simpa using hr) hy hS h
theorem wpL.firstB {i : Nat} {oi : Oper} {v : Value} (B : List Nat) (hi : ops[i]? = some oi) (hs : Region.noSelect ops = true) (hB : ∀ k ∈ B, ∃ k' ∈ i :: B, Waits md ops k' k) (hzB : z ∈ B) (hiB : i ∉ B) (hQ : QStill Q) :
  ∀ (f : Nat) (L : Array Bool) (a : Act) (w : World), L.size = ops.size -> (∀ k ∈ B, L.getD k false = false /\ L.getD k true = false) ->
   (∀ j oj, ops[j]? = some oj -> j ≠ i -> L.getD j true = false -> (∀ e ∈ oj.after, Region.binds md e = true -> e.on ≠ i) -> oi.apart ops oj = true) ->
   i ∈ Region.ready md ops L -> YieldsIf P ops (Ext W0) oi v a -> Ext W0 w ->
   wpL P md ops Q W0 z f (L.setIfInBounds i true) (a.put oi.dst v) w -> wpL P md ops Q W0 z (f + 1) L a w := by
 have hsel := Region.noSelect_spec hs;have hiz : i ≠ z := fun e => hiB (e ▸ hzB)
 intro f
 induction f with
 | zero =>
  intro L a w _ _ _ hr hy hS H;refine ⟨(fun h0 => by rw [h0] at hr; cases hr), fun j hj => ?_⟩
  by_cases hji : j = i
  ·subst hji; exact hy.wpOp hi hS ⟨.inr hS, H⟩
  ·have := ready_mono hj hji
   rw [H.1] at this
   cases this
 | succ f ih =>
  intro L a w hsz hBL hfree hr hy hS H;refine ⟨(fun h0 => by rw [h0] at hr; cases hr), fun j hj => ?_⟩
  by_cases hji : j = i
  ·subst hji; exact hy.wpOp hi hS ⟨.inr hS, H⟩
  ·have hiL := (mem_ready.1 hr).1
   have hjB : j ∉ B := fun hb => by
    obtain ⟨k', hk', hw⟩ := hB j hb
    have hk1 : L.getD k' true = false := by
     rcases List.mem_cons.1 hk' with rfl | hk'
     ·exact hiL
     ·exact (hBL k' hk').2
    exact waits_not hw hk1 (hBL j hb).1 hsz hj
   have hjz : j ≠ z := fun e => hjB (e ▸ hzB)
   obtain ⟨hjun, oj, hoj, hall⟩ := mem_ready.1 hj
   have hnot : ∀ e ∈ oj.after, Region.binds md e = true -> e.on ≠ i := fun e he hb hh => by
    have h1 := hall e he hb;rw [hh] at h1
    have hlt : i < L.size := by
     rcases Nat.lt_or_ge i L.size with h | h
     ·exact h
     ·simp [h] at h1
    simp [hlt] at h1 hiL;rw [h1] at hiL
    cases hiL
   have h1 := H.2 j (ready_mono hj hji);have h2 := wpOp_putIf hoj (hfree j oj hoj hji hjun hnot) (fun cs b => hsel i oi cs b hi) (fun cs b => hsel j oj cs b hoj) (fun c a w => (hQ.put c a _ _ w).1) hy h1;refine wpOp_mono (fun a' w' h3 => ?_) h2;obtain ⟨hy', hS', H'⟩ := h3
   have hzz : ((L.setIfInBounds i true).setIfInBounds j true).getD z false = false := by
    rw [getD_set_ne false hjz, getD_set_ne false hiz]; exact (hBL z hzB).1
   have hE : Ext W0 w' := by
    rcases hS' with h | h
    ·rw [hzz] at h; cases h
    ·exact h
   refine ⟨.inr hE, ih (L.setIfInBounds j true) a' w' (by simpa using hsz) (fun k hk => ?_) ?_ (ready_mono hr (Ne.symm hji)) hy' hE ?_⟩
   ·have hjk : j ≠ k := fun e => hjB (e ▸ hk)
    rw [getD_set_ne false hjk, getD_set_ne true hjk];exact hBL k hk
   ·intro k ok hk hki hun hno
    refine hfree k ok hk hki ?_ hno
    by_cases hjk : j = k
    ·subst hjk; exact hjun
    ·rwa [getD_set_ne true hjk] at hun
   ·rw [Array.setIfInBounds_comm _ _ hji]
    exact H'
theorem wpL.takeB {f i : Nat} {oi : Oper} {d : Option Tmp} {v : Value} {L : Array Bool} {a : Act} {w : World} (B : List Nat) (hi : ops[i]? = some oi) (hd : oi.dst = d) (hs : Region.noSelect ops = true) (hf : Region.free md ops L i = true)
  (hr : (Region.ready md ops L).contains i = true) (hz : (B.all (fun k => (i :: B).any (fun k' => waitsB md ops k' k)) && B.contains z && !B.contains i && B.all (fun k => !L.getD k false && !L.getD k true) && L.size == ops.size) = true) (hQ : QStill Q) (hy : YieldsIf P ops (Ext W0) oi v a) (hS : Ext W0 w)
  (h : wpL P md ops Q W0 z f (L.setIfInBounds i true) (a.put d v) w) : wpL P md ops Q W0 z (f + 1) L a w := by
 subst hd;simp only [Bool.and_eq_true, Bool.not_eq_true', beq_iff_eq, List.all_eq_true, List.any_eq_true] at hz;obtain ⟨⟨⟨⟨h1, h2⟩, h3⟩, h4⟩, h5⟩ := hz;refine wpL.firstB B hi hs (fun k hk => ?_) (by simpa using h2) (by simpa using h3) hQ f L a w h5 (fun k hk => ?_) (fun j oj hj hne hun hno => Region.free_spec hi hf j oj hj hne hun hno) (by simpa using hr) hy hS h
 ·obtain ⟨k', hk', hw⟩ := h1 k hk
  exact ⟨k', hk', waitsB_spec hw⟩
 ·exact h4 k hk
theorem wpL.tkB {f i : Nat} {oi : Oper} {d : Option Tmp} {v : Value} {L : Array Bool} {a : Act} {w : World} (B : List Nat) (hi : ops[i]? = some oi) (hd : oi.dst = d) (hQ : QStill Q) (hy : YieldsIf P ops (Ext W0) oi v a) (hS : Ext W0 w) (h : wpL P md ops Q W0 z f (L.setIfInBounds i true) (a.put d v) w) (hs : Region.noSelect ops = true := by kernel_rfl) (hf : Region.free md ops L i = true := by kernel_rfl) (hr : (Region.ready md ops L).contains i = true := by kernel_rfl) (hz : (B.all (fun k => (i :: B).any (fun k' => waitsB md ops k' k)) && B.contains z && !B.contains i && B.all (fun k => !L.getD k false && !L.getD k true) && L.size == ops.size) = true := by kernel_rfl) : wpL P md ops Q W0 z (f + 1) L a w := wpL.takeB B hi hd hs hf hr hz hQ hy hS h
theorem wpL.tB {f : Nat} {oi : Oper} {L : Array Bool} {a : Act} {w : World} (B : List Nat) (i : Nat) (d : Tmp) (v : Value) (hQ : QStill Q) (hy : ∀ w, Ext W0 w -> (execOp a.eval oi).run P w = .ok (.value v) w) (hS : Ext W0 w) (h : wpL P md ops Q W0 z f (L.setIfInBounds i true) (a.put (some d) v) w) (hi : ops[i]? = some oi := by exact rfl) (hd : oi.dst = some d := by exact rfl) (hw : Region.wanted oi (yielded ops a.tmps) = true := by exact rfl) (hs : Region.noSelect ops = true := by kernel_rfl) (hf : Region.free md ops L i = true := by kernel_rfl) (hr : (Region.ready md ops L).contains i = true := by kernel_rfl) (hz : (B.all (fun k => (i :: B).any (fun k' => waitsB md ops k' k)) && B.contains z && !B.contains i && B.all (fun k => !L.getD k false && !L.getD k true) && L.size == ops.size) = true := by kernel_rfl) : wpL P md ops Q W0 z (f + 1) L a w := wpL.takeB B hi hd hs hf hr hz hQ (Or.inl ⟨hw, hy⟩) hS h
theorem wpL.uB {f : Nat} {oi : Oper} {v : Value} {L : Array Bool} {a : Act} {w : World} (B : List Nat) (i : Nat) (d : Tmp) (hQ : QStill Q) (hS : Ext W0 w) (h : wpL P md ops Q W0 z f (L.setIfInBounds i true) (a.put (some d) v) w) (hi : ops[i]? = some oi := by exact rfl) (hd : oi.dst = some d := by exact rfl) (hw : Region.wanted oi (yielded ops a.tmps) = true := by exact rfl) (hs : Region.noSelect ops = true := by kernel_rfl) (hf : Region.free md ops L i = true := by kernel_rfl) (hr : (Region.ready md ops L).contains i = true := by kernel_rfl) (hz : (B.all (fun k => (i :: B).any (fun k' => waitsB md ops k' k)) && B.contains z && !B.contains i && B.all (fun k => !L.getD k false && !L.getD k true) && L.size == ops.size) = true := by kernel_rfl) (hy : ∀ w, Ext W0 w -> (execOp a.eval oi).run P w = .ok (.value v) w := by intro w hSw; go_simp; try rfl) : wpL P md ops Q W0 z (f + 1) L a w := wpL.takeB B hi hd hs hf hr hz hQ (Or.inl ⟨hw, hy⟩) hS h
theorem wpL.firstT {i : Nat} {oi : Oper} {v : Value} (hi : ops[i]? = some oi) (hs : Region.noSelect ops = true) (hiz : i ≠ z) (hQ : QStill Q) :
  ∀ (f : Nat) (L : Array Bool) (a : Act) (w : World),
   (∀ j oj, ops[j]? = some oj -> j ≠ i -> L.getD j true = false -> (∀ e ∈ oj.after, Region.binds md e = true -> e.on ≠ i) -> oi.apart ops oj = true) ->
   i ∈ Region.ready md ops L -> YieldsIf P ops (fun _ => True) oi v a -> (L.getD z false = true \/ Ext W0 w) ->
   wpL P md ops Q W0 z f (L.setIfInBounds i true) (a.put oi.dst v) w -> wpL P md ops Q W0 z (f + 1) L a w := by
 have hsel := Region.noSelect_spec hs;intro f
 induction f with
 | zero =>
  intro L a w _ hr hy hS H;refine ⟨(fun h0 => by rw [h0] at hr; cases hr), fun j hj => ?_⟩
  by_cases hji : j = i
  ·subst hji; exact hy.wpOp hi trivial ⟨by rw [getD_set_ne false hiz]; exact hS, H⟩
  ·have := ready_mono hj hji
   rw [H.1] at this
   cases this
 | succ f ih =>
  intro L a w hfree hr hy hS H;refine ⟨(fun h0 => by rw [h0] at hr; cases hr), fun j hj => ?_⟩
  by_cases hji : j = i
  ·subst hji; exact hy.wpOp hi trivial ⟨by rw [getD_set_ne false hiz]; exact hS, H⟩
  ·have hiL := (mem_ready.1 hr).1
   obtain ⟨hjun, oj, hoj, hall⟩ := mem_ready.1 hj
   have hnot : ∀ e ∈ oj.after, Region.binds md e = true -> e.on ≠ i := fun e he hb hh => by
    have h1 := hall e he hb;rw [hh] at h1
    have hlt : i < L.size := by
     rcases Nat.lt_or_ge i L.size with h | h
     ·exact h
     ·simp [h] at h1
    simp [hlt] at h1 hiL;rw [h1] at hiL
    cases hiL
   have h1 := H.2 j (ready_mono hj hji);have h2 := wpOp_putIf hoj (hfree j oj hoj hji hjun hnot) (fun cs b => hsel i oi cs b hi) (fun cs b => hsel j oj cs b hoj) (fun c a w => (hQ.put c a _ _ w).1) hy h1;refine wpOp_mono (fun a' w' h3 => ?_) h2;obtain ⟨hy', hS', H'⟩ := h3;have hcm : (L.setIfInBounds i true).setIfInBounds j true = (L.setIfInBounds j true).setIfInBounds i true := Array.setIfInBounds_comm _ _ (Ne.symm hji)
   have hS2 : (L.setIfInBounds j true).getD z false = true \/ Ext W0 w' := by
    rcases hS' with h | h
    ·rw [hcm, getD_set_ne false hiz] at h; exact .inl h
    ·exact .inr h
   refine ⟨hS2, ih (L.setIfInBounds j true) a' w' ?_ (ready_mono hr (Ne.symm hji)) hy' hS2 ?_⟩
   ·intro k ok hk hki hun hno
    refine hfree k ok hk hki ?_ hno
    by_cases hjk : j = k
    ·subst hjk; exact hjun
    ·rwa [getD_set_ne true hjk] at hun
   ·rw [Array.setIfInBounds_comm _ _ hji]
    exact H'
theorem wpL.takeT {f i : Nat} {oi : Oper} {d : Option Tmp} {v : Value} {L : Array Bool} {a : Act} {w : World} (hi : ops[i]? = some oi) (hd : oi.dst = d) (hs : Region.noSelect ops = true) (hf : Region.free md ops L i = true)
  (hr : (Region.ready md ops L).contains i = true) (hz : (i != z) = true) (hQ : QStill Q) (hy : YieldsIf P ops (fun _ => True) oi v a) (hS : L.getD z false = true \/ Ext W0 w)
  (h : wpL P md ops Q W0 z f (L.setIfInBounds i true) (a.put d v) w) : wpL P md ops Q W0 z (f + 1) L a w := by
 subst hd;exact wpL.firstT hi hs (by simpa using hz) hQ f L a w (fun j oj hj hne hun hno => Region.free_spec hi hf j oj hj hne hun hno) (by simpa using hr) hy hS h
end
end
end Go.Proofs.YtijdljfnmdoffaaGreatDoor
