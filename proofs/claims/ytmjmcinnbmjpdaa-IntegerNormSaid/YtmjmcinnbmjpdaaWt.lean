/- Walks: numbers of binary digits; shifts to the left. -/
import Derived.Test.YtmjmcinnbmjpdaaWs
namespace Go.Proofs.Ytmjmcinnbmjpdaa
open Go.RowKit
section
variable {A B : Option Addr} {c d n m : Nat} {xs ys : List Nat} {w : World} {s t : Bool}
set_option maxHeartbeats 1000000 in
theorem int_shiftLeft {k : Nat} (hn : xs.length = n) (hx : Rd w A xs) (hk : k ≤ 100000) (h1 : n ≤ 10000) :
    Calls Try.prog 87 #[.slice A n c, .int .i64 (k : Int)] w (RetN (fun zs => val zs = val xs * 2 ^ k ∧ Nrm zs ∧ zs.length ≤ k / 32 + n + 1) w) := by
  have hmk : ∀ W : World, (Instr.makeSlice 48 (.int .i64 ((k : Int) / 32 + (n : Int) + 1)) (.int .i64 ((k : Int) / 32 + (n : Int) + 1))).run Try.prog W = .ok (.slice (some ⟨W.heap.size, 0, none⟩) (k / 32 + n + 1) (k / 32 + n + 1)) (W.alloc (.cells (madeCells #[.int .u32 0] (k / 32 + n + 1)) 46)) := fun W => by
    have h := mk_words 48 Try.underlying48 (k / 32 + n + 1) (by omega) W
    rwa [show ((k / 32 + n + 1 : Nat) : Int) = (k : Int) / 32 + (n : Int) + 1 by omega] at h
  have Hn := Lib.hid hn
  clear hn
  go_enter Try.func87, Try.ntmps87
  go_wp2_with fail
  rw [show ((k : Int) % 32) = ((k % 32 : Nat) : Int) by omega]
  have hb0 := BlkN.new w (k / 32 + n + 1)
  have hsp : List.replicate (k / 32 + n + 1) 0 = List.replicate (k / 32) 0 ++ List.replicate (xs.length + 1) 0 ++ ([] : List Nat) := by
    rw [List.append_nil, List.replicate_append_replicate, Hn.out, Nat.add_assoc]
  rw [hsp] at hb0
  refine (int_shiftInto (pre := List.replicate (k / 32) 0) (zs0 := List.replicate (xs.length + 1) 0) (post := []) hb0 (by simp) rfl (hx.ext ((Ext.refl w).alloc _)) Hn.out (hx.apart (Nat.le_refl _)) (by omega) (by omega) (by omega) (Nat.le_refl _) (by unfold maxLen; omega)).mono ?_
  rintro e w2 ⟨zs, rfl, hzl, hzw, hzb, hzv, hmod⟩
  have hext := hmod.ext ((Ext.refl w).alloc _) (Nat.le_refl _)
  rw [List.append_nil] at hzb
  have hfull : W32 (List.replicate (k / 32) 0 ++ zs) := (W32.replicate _).append hzw
  have hlen : (List.replicate (k / 32) 0 ++ zs).length = k / 32 + n + 1 := by rw [List.length_append, List.length_replicate, hzl]; omega
  have hval := shl_val (k := k) hzv
  generalize List.replicate (k / 32) 0 ++ zs = Z at hzb hfull hlen hval
  have Hlen := Lib.hid hlen
  have Hval := Lib.hid hval
  clear hlen hval hzl hzv hmod hsp hb0
  go_wp2_with fail
  refine (int_trimN (xs := Z) Hlen.out (hzb.rd0 hfull) (Nat.le_refl _) (by unfold maxLen; omega)).mono ?_
  rintro e w3 ⟨rfl, rfl⟩
  go_wp2_with fail
  go_ret
  have hl := trimL_len Z
  rw [Hlen.out] at hl
  refine ⟨_, _, trimL Z, rfl, ?_, by omega, by unfold maxLen; omega, ⟨by rw [val_trimL]; exact Hval.out, Nrm.trimL _, hl⟩, hext⟩
  rw [trimL_take]
  exact (Own.of_blk hzb hfull (Nat.le_refl _)).take _
set_option maxHeartbeats 1000000 in
theorem int_binaryDigits (hn : xs.length = n) (hx : Rd w A xs) (h1 : n ≤ 100000) :
    Calls Try.prog 52 #[.slice A n c] w fun e w' => e = .returned (.int .i64 ((if h : 0 < xs.length then 32 * (xs.length - 1) + Lib.bitLen (xs[xs.length - 1]'(by omega)) else 0 : Nat) : Int)) ∧ w = w' := by
  subst hn
  by_cases h : 0 < xs.length
  · obtain ⟨b1, off', rfl, hb1, hc1⟩ := hx.at_ (i := xs.length - 1) (by omega)
    have hxk := hx.1.get (k := xs.length - 1) (by omega)
    have hpos : ¬ xs.length = 0 := by omega
    have hle : Lib.bitLen xs[xs.length - 1] ≤ 32 := Lib.bitLen_le _ 32 (by omega) (by omega)
    go_enter Try.func52, Try.ntmps52
    go_wp2_with (go_at_call 73; refine (len32 _ _ (by omega) (by omega)).mono ?_; rintro e w2 ⟨rfl, rfl⟩)
    go_ret
    refine ⟨ret_int ?_, rfl⟩
    omega
  · have h0 : xs.length = 0 := by omega
    go_enter Try.func52, Try.ntmps52
    go_wp2_with fail
    go_ret
    refine ⟨ret_int ?_, rfl⟩
    rfl
end
end Go.Proofs.Ytmjmcinnbmjpdaa
