/- Walks and laws, part 15. -/
import Derived.Test.YtmjmcinnbmjpdaaDoorMt2
import Derived.Test.YtmjmcinnbmjpdaaDoorMt7
import Derived.Test.YtmjmcinnbmjpdaaDoorMt14
import Derived.Lib.Strings
namespace Go.Proofs.YtmjmcinnbmjpdaaDoor
open Go.RowKit
section
variable (s : ByteArray) (w : World)
set_option maxHeartbeats 400000 in
theorem hasp_t (h1 : 1 ≤ s.size) (h2 : s.size ≤ 100000000) (hb : ((s.extract 0 1).toList == [45]) = true) : Calls Tryd.prog 88 #[.string s, .string ⟨#[45]⟩] w fun e w' => e = .returned (.bool true) ∧ w = w' := by
  have t1 : decide ((1 : Int) ≤ (s.size : Int)) = true := decide_eq_true (by omega)
  go_enter Tryd.func88, Tryd.ntmps88
  go_wp2
  go_ret
  exact ⟨rfl, rfl⟩
set_option maxHeartbeats 400000 in
theorem hasp_f (h1 : 1 ≤ s.size) (h2 : s.size ≤ 100000000) (hb : ((s.extract 0 1).toList == [45]) = false) : Calls Tryd.prog 88 #[.string s, .string ⟨#[45]⟩] w fun e w' => e = .returned (.bool false) ∧ w = w' := by
  have t1 : decide ((1 : Int) ≤ (s.size : Int)) = true := decide_eq_true (by omega)
  go_enter Tryd.func88, Tryd.ntmps88
  go_wp2
  go_ret
  exact ⟨rfl, rfl⟩
set_option maxHeartbeats 400000 in
theorem hasp_0 (h1 : s.size = 0) : Calls Tryd.prog 88 #[.string s, .string ⟨#[45]⟩] w fun e w' => e = .returned (.bool false) ∧ w = w' := by
  have t1 : decide ((1 : Int) ≤ (s.size : Int)) = false := decide_eq_false (by omega)
  have h3 : s.size ≤ 0 := by omega
  clear h1
  go_enter Tryd.func88, Tryd.ntmps88
  go_wp2
  go_ret
  exact ⟨rfl, rfl⟩
set_option maxHeartbeats 400000 in
theorem cutl_t (h1 : 1 ≤ s.size) (h2 : s.size ≤ 100000000) (hb : ((s.extract 0 1).toList == [45]) = true) : Calls Tryd.prog 64 #[.string s, .string ⟨#[45]⟩] w fun e w' => e = .returned (.tuple #[.string (s.extract 1 s.size), .bool true]) ∧ w = w' := by
  have Hb := Lib.hid hb
  clear hb
  go_enter Tryd.func64, Tryd.ntmps64
  go_wp2_with (go_at_call 88; refine (hasp_t s _ h1 h2 Hb.out).mono ?_; rintro e w' ⟨rfl, rfl⟩)
  go_ret2
  exact ⟨rfl, rfl⟩
set_option maxHeartbeats 400000 in
theorem cutl_f (h : s.size = 0 ∨ 1 ≤ s.size ∧ s.size ≤ 100000000 ∧ ((s.extract 0 1).toList == [45]) = false) : Calls Tryd.prog 64 #[.string s, .string ⟨#[45]⟩] w fun e w' => e = .returned (.tuple #[.string s, .bool false]) ∧ w = w' := by
  have Hb := Lib.hid h
  clear h
  have hp : Calls Tryd.prog 88 #[.string s, .string ⟨#[45]⟩] w fun e w' => e = .returned (.bool false) ∧ w = w' := by
    rcases Hb.out with h | ⟨h1, h2, h3⟩
    · exact hasp_0 s w h
    · exact hasp_f s w h1 h2 h3
  have Hp := Lib.hid hp
  clear hp
  go_enter Tryd.func64, Tryd.ntmps64
  go_wp2_with (go_at_call 88; refine (Hp.out).mono ?_; rintro e w' ⟨rfl, rfl⟩)
  go_ret2
  exact ⟨rfl, rfl⟩
theorem cut_t (h1 : 1 ≤ s.size) (h2 : s.size ≤ 100000000) (hb : ((s.extract 0 1).toList == [45]) = true) : Calls Tryd.prog 35 #[.string s, .string ⟨#[45]⟩] w fun e w' => e = .returned (.tuple #[.string (s.extract 1 s.size), .bool true]) ∧ w = w' := by
  have Hb := Lib.hid hb
  clear hb
  go_enter Tryd.func35, Tryd.ntmps35
  go_wp2_with (go_at_call 64; refine (cutl_t s _ h1 h2 Hb.out).mono ?_; rintro e w' ⟨rfl, rfl⟩)
  go_ret2
  exact ⟨rfl, rfl⟩
theorem cut_f (h : s.size = 0 ∨ 1 ≤ s.size ∧ s.size ≤ 100000000 ∧ ((s.extract 0 1).toList == [45]) = false) : Calls Tryd.prog 35 #[.string s, .string ⟨#[45]⟩] w fun e w' => e = .returned (.tuple #[.string s, .bool false]) ∧ w = w' := by
  have Hb := Lib.hid h
  clear h
  go_enter Tryd.func35, Tryd.ntmps35
  go_wp2_with (go_at_call 64; refine (cutl_f s _ Hb.out).mono ?_; rintro e w' ⟨rfl, rfl⟩)
  go_ret2
  exact ⟨rfl, rfl⟩
end
set_option maxHeartbeats 400000 in
theorem dec_0 (w : World) : Calls Tryd.prog 36 #[.string ⟨#[48]⟩] w fun e w' => e = .returned (.bool true) ∧ w = w' := by
  go_enter Tryd.func36, Tryd.ntmps36
  go_wp2
  go_loop [6] (fun i => i = .int .i64 0 ∨ i = .int .i64 1) (fun i => 1 - (intOf i).toNat)
  case atStart => exact .inl rfl
  case round =>
    rcases hrel with rfl | rfl
    · go_wp2
      go_round
      case rel => exact .inr rfl
      case measure => simp [intOf]
    · go_wp2
      go_ret
      exact ⟨rfl, rfl⟩
set_option maxHeartbeats 400000 in
theorem dec_01 (w : World) : Calls Tryd.prog 36 #[.string ⟨#[48, 49]⟩] w fun e w' => e = .returned (.bool false) ∧ w = w' := by
  go_enter Tryd.func36, Tryd.ntmps36
  go_wp2
  go_loop [6] (fun i => i = .int .i64 0 ∨ i = .int .i64 1 ∨ i = .int .i64 2) (fun i => 2 - (intOf i).toNat)
  case atStart => exact .inl rfl
  case round =>
    rcases hrel with rfl | rfl | rfl
    · go_wp2
      go_round
      case rel => exact .inr (.inl rfl)
      case measure => simp [intOf]
    · go_wp2
      go_round
      case rel => exact .inr (.inr rfl)
      case measure => simp [intOf]
    · go_wp2
      go_ret
      exact ⟨rfl, rfl⟩
end Go.Proofs.YtmjmcinnbmjpdaaDoor
namespace Go.Proofs.YtmjmcinnbmjpdaaDoor
open Go.RowKit
section
variable (s : ByteArray) (w : World)
theorem digs_at {s : ByteArray} (h : Digs s.data.toList) (k : Nat) (hk : k < s.size) : Dig s[k] := by
  refine h _ ?_
  have : s[k] = s.data.toList[k]'(by rw [← Lib.size_eq]; exact hk) := rfl
  rw [this]
  exact List.getElem_mem _
theorem digs_of {s : ByteArray} (h : ∀ k (hk : k < s.size), Dig s[k]) : Digs s.data.toList := by
  intro c hc
  obtain ⟨k, hk, rfl⟩ := List.getElem_of_mem hc
  exact h k (by rw [Lib.size_eq]; exact hk)
theorem dv_take (s : ByteArray) (k : Nat) (h : k < s.size) : dv (s.data.toList.take (k + 1)) = 10 * dv (s.data.toList.take k) + (s[k].toNat - 48) := by
  rw [List.take_succ_eq_append_getElem (by simpa using h), dv_snoc]; rfl
set_option maxHeartbeats 1000000 in
theorem dec_nd (f : Nat) (hf : f < s.size) (hs : s.size ≤ 100000000) (hd : ∀ k (hk : k < s.size), k < f → Dig s[k]) (hn : ¬ Dig s[f]) :
    Calls Tryd.prog 36 #[.string s] w fun e w' => e = .returned (.bool false) ∧ w = w' := by
  have HD := Lib.hid hd
  have HN := Lib.hid hn
  clear hd hn
  go_enter Tryd.func36, Tryd.ntmps36
  go_wp2
  go_loop [6] (fun i => ∃ k : Nat, k ≤ f ∧ i = .int .i64 (k : Int)) (fun i => f - (intOf i).toNat)
  case atStart => exact ⟨0, Nat.zero_le _, rfl⟩
  case round =>
    obtain ⟨k, hk, rfl⟩ := hrel
    by_cases hlt : k < f
    · obtain ⟨h1, h2⟩ := HD.out k (by omega) hlt
      have t1 : decide ((s[k].toNat : Int) < 48) = false := decide_eq_false (by omega)
      have t2 : decide ((57 : Int) < (s[k].toNat : Int)) = false := decide_eq_false (by omega)
      have hks : k < s.size := by omega
      go_wp2
      go_round
      case rel => exact ⟨k + 1, by omega, by go_num⟩
      case measure => simp [intOf]; omega
    · obtain rfl : f = k := by omega
      by_cases h48 : s[f].toNat < 48
      · have t1 : decide ((s[f].toNat : Int) < 48) = true := decide_eq_true (by omega)
        go_wp2
        go_ret
        exact ⟨rfl, rfl⟩
      · have t1 : decide ((s[f].toNat : Int) < 48) = false := decide_eq_false (by omega)
        have h57 : 57 < s[f].toNat := Nat.lt_of_not_le fun h => HN.out ⟨by omega, h⟩
        have t2 : decide ((57 : Int) < (s[f].toNat : Int)) = true := decide_eq_true (by omega)
        go_wp2
        go_ret
        exact ⟨rfl, rfl⟩
set_option maxHeartbeats 1000000 in
theorem dec_y (hs : s.size ≤ 100000000) (hd : Digs s.data.toList) (h1 : 1 ≤ s.size) (h0 : s[0].toNat ≠ 48) :
    Calls Tryd.prog 36 #[.string s] w fun e w' => e = .returned (.bool true) ∧ w = w' := by
  have HD := Lib.hid hd
  have e0 : s.data.toList = s[0] :: s.data.toList.drop 1 := by
    have hl : 0 < s.data.toList.length := by rw [← Lib.size_eq]; omega
    exact List.drop_eq_getElem_cons hl
  have b1 : (s.toList == [48]) = false := by
    rw [beq_eq_false_iff_ne, Lib.toList_data, e0]
    intro e
    injection e with e _
    exact h0 (by rw [e]; rfl)
  have b2 : s.toList.isEmpty = false := by rw [Lib.toList_data, e0]; rfl
  have b3 : ((s[0].toNat : Int) == 48) = false := by rw [beq_eq_false_iff_ne]; omega
  have b4 : ((s[0].toNat : Int) != 48) = true := by rw [bne_iff_ne]; omega
  have B1 := Lib.hid b1
  have B2 := Lib.hid b2
  have B3 := Lib.hid b3
  have B4 := Lib.hid b4
  clear b1 b2 b3 b4 e0 h0
  clear hd
  go_enter Tryd.func36, Tryd.ntmps36
  go_wp2
  go_loop [6] (fun i => ∃ k : Nat, k ≤ s.size ∧ i = .int .i64 (k : Int)) (fun i => s.size - (intOf i).toNat)
  case atStart => exact ⟨0, Nat.zero_le _, rfl⟩
  case round =>
    obtain ⟨k, hk, rfl⟩ := hrel
    by_cases hlt : k < s.size
    · obtain ⟨h1, h2⟩ := digs_at HD.out k hlt
      have t1 : decide ((s[k].toNat : Int) < 48) = false := decide_eq_false (by omega)
      have t2 : decide ((57 : Int) < (s[k].toNat : Int)) = false := decide_eq_false (by omega)
      go_wp2
      go_round
      case rel => exact ⟨k + 1, by omega, by go_num⟩
      case measure => simp [intOf]; omega
    · obtain rfl : k = s.size := by omega
      have b1 := B1.out
      have b2 := B2.out
      have b3 := B3.out
      have b4 := B4.out
      go_wp2
      go_ret
      exact ⟨rfl, rfl⟩
set_option maxHeartbeats 1000000 in
theorem dec_z (hs : s.size ≤ 100000000) (hd : Digs s.data.toList) (h1 : 2 ≤ s.size) (h0 : s[0].toNat = 48) :
    Calls Tryd.prog 36 #[.string s] w fun e w' => e = .returned (.bool false) ∧ w = w' := by
  have HD := Lib.hid hd
  have e0 : s.data.toList = s[0] :: s.data.toList.drop 1 := by
    have hl : 0 < s.data.toList.length := by rw [← Lib.size_eq]; omega
    exact List.drop_eq_getElem_cons hl
  have b1 : (s.toList == [48]) = false := by
    rw [beq_eq_false_iff_ne, Lib.toList_data, e0]
    intro e
    injection e with _ e
    have := congrArg List.length e
    rw [List.length_drop, ← Lib.size_eq] at this
    simp at this
    omega
  have b2 : s.toList.isEmpty = false := by rw [Lib.toList_data, e0]; rfl
  have b3 : ((s[0].toNat : Int) == 48) = true := by rw [beq_iff_eq]; omega
  have b4 : ((s[0].toNat : Int) != 48) = false := by rw [bne_eq_false_iff_eq]; omega
  have B1 := Lib.hid b1
  have B2 := Lib.hid b2
  have B3 := Lib.hid b3
  have B4 := Lib.hid b4
  clear b1 b2 b3 b4 e0 h0
  clear hd
  go_enter Tryd.func36, Tryd.ntmps36
  go_wp2
  go_loop [6] (fun i => ∃ k : Nat, k ≤ s.size ∧ i = .int .i64 (k : Int)) (fun i => s.size - (intOf i).toNat)
  case atStart => exact ⟨0, Nat.zero_le _, rfl⟩
  case round =>
    obtain ⟨k, hk, rfl⟩ := hrel
    by_cases hlt : k < s.size
    · obtain ⟨h1, h2⟩ := digs_at HD.out k hlt
      have t1 : decide ((s[k].toNat : Int) < 48) = false := decide_eq_false (by omega)
      have t2 : decide ((57 : Int) < (s[k].toNat : Int)) = false := decide_eq_false (by omega)
      go_wp2
      go_round
      case rel => exact ⟨k + 1, by omega, by go_num⟩
      case measure => simp [intOf]; omega
    · obtain rfl : k = s.size := by omega
      have b1 := B1.out
      have b2 := B2.out
      have b3 := B3.out
      have b4 := B4.out
      go_wp2
      go_ret
      exact ⟨rfl, rfl⟩
set_option maxHeartbeats 1000000 in
theorem dec_e (hs : s.size ≤ 100000000) (hd : Digs s.data.toList) (h1 : s.size = 0) :
    Calls Tryd.prog 36 #[.string s] w fun e w' => e = .returned (.bool false) ∧ w = w' := by
  have HD := Lib.hid hd
  have hl : s.data.toList = [] := List.eq_nil_of_length_eq_zero (by rw [← Lib.size_eq]; exact h1)
  have b1 : (s.toList == [48]) = false := by rw [beq_eq_false_iff_ne, Lib.toList_data, hl]; intro e; cases e
  have b2 : s.toList.isEmpty = true := by rw [Lib.toList_data, hl]; rfl
  have B1 := Lib.hid b1
  have B2 := Lib.hid b2
  have h2 : s.size ≤ 0 := by omega
  clear b1 b2 hl h1
  clear hd
  go_enter Tryd.func36, Tryd.ntmps36
  go_wp2
  go_loop [6] (fun i => ∃ k : Nat, k ≤ s.size ∧ i = .int .i64 (k : Int)) (fun i => s.size - (intOf i).toNat)
  case atStart => exact ⟨0, Nat.zero_le _, rfl⟩
  case round =>
    obtain ⟨k, hk, rfl⟩ := hrel
    by_cases hlt : k < s.size
    · obtain ⟨h1, h2⟩ := digs_at HD.out k hlt
      have t1 : decide ((s[k].toNat : Int) < 48) = false := decide_eq_false (by omega)
      have t2 : decide ((57 : Int) < (s[k].toNat : Int)) = false := decide_eq_false (by omega)
      go_wp2
      go_round
      case rel => exact ⟨k + 1, by omega, by go_num⟩
      case measure => simp [intOf]; omega
    · obtain rfl : k = s.size := by omega
      have b1 := B1.out
      have b2 := B2.out
      go_wp2
      go_ret
      exact ⟨rfl, rfl⟩
end
end Go.Proofs.YtmjmcinnbmjpdaaDoor
namespace Go.Proofs.YtmjmcinnbmjpdaaDoor
open Go.RowKit
/-- a row of words of the call's own, with room. -/
def Row (w : World) (base : Nat) (A : Option Addr) (c : Nat) (ns : List Nat) : Prop := W32 ns ∧ w.ownsRow base 43 1 (.slice A ns.length c) ns.length (ns.map Wd)
section
variable {A : Option Addr} {c n base : Nat} {xs ns : List Nat} {w : World}
theorem Row.own (h : Row w base A c ns) : Own w base A ns := (Own.of_row h.2 h.1).1
theorem Row.cap (h : Row w base A c ns) : ns.length ≤ c ∧ c ≤ maxLen := by
  rcases h.2.2 with ⟨hv, h0⟩ | ⟨g, cap, cur, hv, _, _, hcap, hm, _⟩
  · injection hv with _ _ h3
    subst h3
    exact ⟨by omega, by unfold maxLen; omega⟩
  · injection hv with _ _ h3
    subst h3
    exact ⟨hcap, hm⟩
theorem Row.parts (h : Row w base A c ns) (hn : 0 < ns.length) : ∃ g, A = some ⟨g, 0, none⟩ ∧ base ≤ g ∧ ns.length ≤ c ∧ c ≤ maxLen ∧ (∀ i (hi : i < ns.length), w.cell? ⟨g, i, none⟩ = some (.int .u32 (ns[i] : Nat))) ∧ (∀ i, w.frozen? ⟨g, i, none⟩ = false) ∧
    ∀ i (v : Int) (k : Nat), v = k → k < 4294967296 → Row (w.setCell ⟨g, i, none⟩ (.int .u32 v)) base A c (ns.set i k) := by
  obtain ⟨hw, hl, hr⟩ := h
  rcases hr with ⟨_, h0⟩ | ⟨g, cap, cur, hv, hb, hh, hcap, hm, hs, ht⟩
  · omega
  · injection hv with h1 _ h3
    subst h1
    subst h3
    rw [Nat.mul_one] at ht hs
    refine ⟨g, rfl, hb, hcap, hm, fun i hi => ?_, fun i => ?_, fun i v k hv hk => ?_⟩
    · have e : cur[i]? = some (Wd ns[i]) := by
        rw [← Array.getElem?_toList]
        have := congrArg (fun l => l[i]?) ht
        simp only [List.getElem?_take, hi, if_true, List.getElem?_map, List.getElem?_eq_getElem hi, Option.map_some] at this
        exact this
      exact (cell_of_row w g i cur _ (0, 0) hh).trans e
    · simp [World.frozen?, hh]
    · subst hv
      refine ⟨hw.set i hk, by simp, .inr ⟨g, c, cur.setIfInBounds i (Wd k), by rw [List.length_set], hb, ?_, by rw [List.length_set]; exact hcap, hm, by simp [hs], ?_⟩⟩
      · simp [World.setCell, Array.getElem?_modify, hh, Wd]
      · rw [List.length_set, Nat.mul_one, Array.toList_setIfInBounds, List.take_set, ht, List.map_set]
/-- the rounds of appendGroup. -/
structure GInv (xs : List Nat) (wt c0 k : Nat) (zs : List Nat) (cy : Nat) : Prop where
  len : zs.length = xs.length
  w32 : W32 zs
  hcy : cy ≤ 1000000000
  rest : zs.drop k = xs.drop k
  eq : val (zs.take k) + 4294967296 ^ k * cy = val (xs.take k) * wt + c0
theorem GInv.at_ {xs zs : List Nat} {wt c0 k cy : Nat} (h : GInv xs wt c0 k zs cy) (hk : k < zs.length) : zs[k] = xs[k]'(by rw [← h.len]; exact hk) := by
  have := congrArg (fun l => l[0]?) h.rest
  simp only [List.getElem?_drop, Nat.add_zero] at this
  rw [List.getElem?_eq_getElem hk, List.getElem?_eq_getElem (by rw [← h.len]; exact hk)] at this
  injection this
theorem GInv.step {xs zs : List Nat} {wt c0 k cy : Nat} (h : GInv xs wt c0 k zs cy) (hwt : wt ≤ 1000000000) (hk : k < zs.length) {s : Nat} (hs : s = cy + zs[k] * wt) : GInv xs wt c0 (k + 1) (zs.set k (s % 4294967296)) (s / 4294967296) := by
  have hz := h.w32.get hk
  have hcy := h.hcy
  have hm : zs[k] * wt ≤ 4294967295 * 1000000000 := Nat.mul_le_mul (by omega) hwt
  refine ⟨by rw [List.length_set]; exact h.len, h.w32.set k (Nat.mod_lt _ (by omega)), by omega, ?_, ?_⟩
  · rw [drop_set_succ]
    have := congrArg (List.drop 1) h.rest
    simpa [List.drop_drop] using this
  · rw [val_take_set _ hk, val_take_succ xs k (by rw [← h.len]; exact hk), Nat.add_mul, Nat.add_assoc, pow_carry, ← h.at_ hk]
    have e := h.eq
    rw [hs, Nat.mul_add, Nat.mul_assoc]
    omega
theorem GInv.done {xs zs : List Nat} {wt c0 cy : Nat} (h : GInv xs wt c0 xs.length zs cy) : val zs + 4294967296 ^ xs.length * cy = val xs * wt + c0 := by
  have := h.eq
  rwa [List.take_of_length_le (by rw [h.len]; omega), List.take_of_length_le (by omega)] at this
theorem Nrm.of_ge {zs : List Nat} (hw : W32 zs) (h : zs ≠ [] → 4294967296 ^ (zs.length - 1) ≤ val zs) : Nrm zs := by
  refine Nrm.of_last fun hn h0 => ?_
  have h1 := h (by intro e; rw [e] at hn; simp at hn)
  have h2 := val_split zs (zs.length - 1) (by omega)
  have h3 : zs.drop (zs.length - 1) = [zs[zs.length - 1]'(by omega)] := by
    rw [List.drop_eq_getElem_cons (by omega)]
    congr 1
    exact List.drop_of_length_le (by omega)
  rw [h3, h0] at h2
  have h4 := val_lt (hw.take (zs.length - 1))
  rw [List.length_take, Nat.min_eq_left (by omega)] at h4
  simp [val] at h2
  omega
theorem GInv.nrm {xs zs : List Nat} {wt c0 : Nat} (h : GInv xs wt c0 xs.length zs 0) (hwt : 1 ≤ wt) (hn : Nrm xs) : Nrm zs := by
  refine Nrm.of_ge h.w32 fun hne => ?_
  have e := h.done
  rw [Nat.mul_zero, Nat.add_zero] at e
  have hx : xs ≠ [] := by
    rintro rfl
    exact hne (List.eq_nil_of_length_eq_zero h.len)
  have h1 := hn.ge hx
  have h2 : val xs * 1 ≤ val xs * wt := Nat.mul_le_mul_left _ hwt
  rw [h.len, e]
  omega
theorem wt_int {x wt : Nat} (hx : x < 4294967296) (hw : wt ≤ 1000000000) : (x : Int) * (wt : Int) ≤ 4294967295000000000 ∧ 0 ≤ (x : Int) * (wt : Int) := by
  have h : x * wt ≤ 4294967295 * 1000000000 := Nat.mul_le_mul (by omega) hw
  have h2 : ((x * wt : Nat) : Int) ≤ 4294967295000000000 := by omega
  rw [Int.natCast_mul] at h2
  exact ⟨h2, Int.mul_nonneg (Int.natCast_nonneg _) (Int.natCast_nonneg _)⟩
theorem cast_ga (cy x wt : Nat) : (cy : Int) + (x : Int) * (wt : Int) = ((cy + x * wt : Nat) : Int) := by rw [Int.natCast_add, Int.natCast_mul]
set_option maxHeartbeats 2000000 in
theorem app_group {wt c0 : Nat} (hr : Row w base A c xs) (hb : base ≤ w.heap.size) (hn : xs.length = n) (hw1 : 1 ≤ wt) (hwt : wt ≤ 1000000000) (hc0 : c0 ≤ 1000000000) (h1 : n ≤ 100000) :
    Calls Tryd.prog 65 #[.slice A n c, .int .u64 (wt : Int), .int .u64 (c0 : Int)] w fun e w' => ∃ A' c' zs, e = .returned (.slice A' (List.length zs) c') ∧ Row w' base A' c' zs ∧ val zs = val xs * wt + c0 ∧ (Nrm xs → Nrm zs) ∧ zs.length ≤ n + 1 ∧ Below base w w' ∧ base ≤ w'.heap.size := by
  have Hn := Lib.hid hn
  clear hn
  go_enter Tryd.func65, Tryd.ntmps65
  go_wp2
  go_loopw [2, 11] (fun cr i wr => ∃ (k : Nat) (zs : List Nat) (cy : Nat), k ≤ n ∧ i = .int .i64 (k : Int) ∧ cr = .int .u64 (cy : Int) ∧ GInv xs wt c0 k zs cy ∧ Row wr base A c zs ∧ Below base w wr ∧ base ≤ wr.heap.size) (fun _ i _ => n - (intOf i).toNat)
  case atStart => exact ⟨0, xs, c0, by omega, rfl, rfl, ⟨rfl, hr.1, hc0, rfl, by simp [val]⟩, hr, Below.refl _ _, hb⟩
  case round =>
    obtain ⟨k, zs, cy, hk, rfl, rfl, hinv, hrow, hbel, hbs⟩ := hrel
    have hcy := hinv.hcy
    have hzl : n ≤ zs.length := by rw [hinv.len, Hn.out]; omega
    have hzl2 : zs.length ≤ n := by rw [hinv.len, Hn.out]; omega
    by_cases hlt : k < n
    · obtain ⟨g, rfl, hg, hcap, hm, hcell, hfz, hset⟩ := hrow.parts (by omega)
      have hc1 := hcell k (by omega)
      have hfk := hfz k
      have hzk := hinv.w32.get (k := k) (by omega)
      have hmi := (wt_int hzk hwt).1
      have hmj := (wt_int hzk hwt).2
      have HS := Lib.hid hset
      have hlc : n ≤ c := by omega
      clear hcell hfz hset hrow
      go_wp2
      go_roundw
      case rel => exact ⟨k + 1, _, (cy + zs[k] * wt) / 4294967296, by omega, by go_num, u64_div _ (cast_ga _ _ _), hinv.step hwt (by omega) rfl, HS.out k _ _ (u32_mod _ (cast_ga _ _ _)) (Nat.mod_lt _ (by omega)), hbel.setCell hg _, by simpa [World.setCell] using hbs⟩
      case measure => simp [intOf]; omega
    · have hk' : k = xs.length := by have := Hn.out; omega
      subst hk'
      have Hd := Lib.hid hinv.done
      by_cases hc0 : cy = 0
      · subst hc0
        have HN := Lib.hid (fun h => hinv.nrm hw1 h)
        have HL := Lib.hid hinv.len
        clear hinv
        go_wp2
        go_ret
        have hd := Hd.out
        rw [Nat.mul_zero, Nat.add_zero] at hd
        exact ⟨A, c, zs, ret_slice' (by have := HL.out; have := Hn.out; omega), hrow, hd, HN.out, by omega, hbel, hbs⟩
      · have t1 : (((cy : Nat) : Int) == 0) = false := by rw [beq_eq_false_iff_ne]; omega
        have t2 : (((cy : Nat) : Int) != 0) = true := by rw [bne_iff_ne]; omega
        obtain ⟨i0, hi, hz0, hz1, hz2⟩ := info_parts Tryd.infoW
        have hlz : zs.length = n := by omega
        have hown : wr.ownsRow base 43 1 (.slice A n c) n (zs.map Wd) := by have := hrow.2; rwa [hlz] at this
        have hw1' := hrow.1.append (W32.one (x := cy) (by omega))
        have hrd := (BlkN.lit wr [cy] #[.int .u32 (cy : Int)] rfl).rd0 (W32.one (by omega))
        have hnews := cells_of_rd hrd
        have Hlz := Lib.hid hlz
        have HNw := Lib.hid hnews
        have Hcy := Lib.hid hc0
        clear hinv hrow hlz hrd hnews hc0 hzl hzl2
        go_wp2_with (at_builtin; refine wpList_append_own _ rfl _ _ 48 rfl base 43 i0 (.int .u32 0) 1 4 Tryd.underlying48 hi hz0 hz1 hz2 rfl (by decide) _ n _ rfl (hown.alloc _) ⟨wr.heap.size, 0, none⟩ 1 1 ([cy].map Wd) rfl rfl HNw.out (oneCell_words [cy]) (by unfold maxLen; omega) (by omega) (by simp; omega) ?_; intro v' w1 hown' hgr _)
        go_ret
        have hlz := Hlz.out
        have hd := Hd.out
        have hv : val (zs ++ [cy]) = val xs * wt + c0 := by rw [val_append, val_one, Hlz.out]; rw [Hn.out] at hd; exact hd
        have hnr : Nrm (zs ++ [cy]) := Nrm.snoc zs Hcy.out
        rw [← List.map_append] at hown'
        have hln : (zs ++ [cy]).length = n + 1 := by simp [hlz]
        have hbl := Below.grown (hbel.alloc hbs (.cells #[.int .u32 (cy : Int)] 43)) hgr (by simp; omega) (fun j hj => (hown.lt j hj).1)
        rcases hown'.2 with ⟨rfl, h0⟩ | ⟨g', cap', cur', rfl, _⟩
        · omega
        · refine ⟨some ⟨g', 0, none⟩, cap', zs ++ [cy], ret_slice' hln.symm, ⟨hw1', by rw [hln]; exact hown'⟩, hv, fun _ => hnr, by omega, hbl, Nat.le_trans (by simp; omega) hgr.size⟩
end
end Go.Proofs.YtmjmcinnbmjpdaaDoor
