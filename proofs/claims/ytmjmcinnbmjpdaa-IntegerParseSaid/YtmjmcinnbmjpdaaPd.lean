/- Walks: Parse, every text. -/
import Derived.Test.YtmjmcinnbmjpdaaPc
import Derived.Test.YtmjmcinnbmjpdaaWr
import Derived.Test.YtmjmcinnbmjpdaaPo
namespace Go.Proofs.Ytmjmcinnbmjpdaa
open Go.RowKit
theorem first_of {P : Nat → Prop} : ∀ (n k : Nat), k < n → P k → ∃ f, f ≤ k ∧ P f ∧ ∀ j, j < f → ¬ P j := by
  intro n
  induction n with
  | zero => intro k hk; omega
  | succ n ih =>
    intro k hk hp
    by_cases h : ∃ j, j < k ∧ P j
    · obtain ⟨j, hj, hpj⟩ := h
      obtain ⟨f, hf, h1, h2⟩ := ih j (by omega) hpj
      exact ⟨f, by omega, h1, h2⟩
    · exact ⟨k, Nat.le_refl _, hp, fun j hj hpj => h ⟨j, hj, hpj⟩⟩
theorem bytes_ext {a b : ByteArray} (h : a.data.toList = b.data.toList) : a = b := congrArg ByteArray.mk (Array.toList_inj.1 h)
/-- the integer of a text. -/
def PS (l : List UInt8) (z : Int) : Prop := (∃ t, l = 45 :: t ∧ Digs t ∧ Canon t ∧ t ≠ [48] ∧ z = -(dv t : Int)) ∨ (Digs l ∧ Canon l ∧ z = (dv l : Int))
section
variable {s : ByteArray} {w : World}
theorem get0 {c : UInt8} {t : List UInt8} (h : s.data.toList = c :: t) : ∃ hk : 0 < s.size, s[0] = c ∧ s.size = t.length + 1 := by
  have hl : s.size = t.length + 1 := by rw [Lib.size_eq, h]; rfl
  refine ⟨by omega, ?_, hl⟩
  have e : s[0]'(by omega) = s.data.toList[0]'(by rw [h]; simp) := rfl
  rw [e]
  simp [h]
theorem dec_true (hs : s.size ≤ 100000000) (hd : Digs s.data.toList) (hc : Canon s.data.toList) : Calls Try.prog 70 #[.string s] w fun e w' => e = .returned (.bool true) ∧ w = w' := by
  rcases hc with h | ⟨c, t, h, hc⟩
  · obtain rfl : s = ⟨#[48]⟩ := bytes_ext h
    exact dec_0 w
  · obtain ⟨hk, h0, hl⟩ := get0 h
    exact dec_y s w hs hd (by omega) (by rw [h0]; exact fun e => hc (u8_48 e))
theorem dec_false (hs : s.size ≤ 100000000) (h : ¬ (Digs s.data.toList ∧ Canon s.data.toList)) : Calls Try.prog 70 #[.string s] w fun e w' => e = .returned (.bool false) ∧ w = w' := by
  by_cases hd : Digs s.data.toList
  · have hc : ¬ Canon s.data.toList := fun hc => h ⟨hd, hc⟩
    match hl : s.data.toList with
    | [] => exact dec_e s w hs hd (by rw [Lib.size_eq, hl]; rfl)
    | c :: t =>
      obtain ⟨hk, h0, hsz⟩ := get0 hl
      by_cases hc48 : c = 48
      · subst hc48
        have ht : t ≠ [] := by rintro rfl; exact hc (.inl hl)
        have := List.length_pos_iff.2 ht
        exact dec_z s w hs hd (by omega) (by rw [h0]; rfl)
      · exact absurd (.inr ⟨c, t, hl, hc48⟩) hc
  · have hex : ∃ k, ∃ hk : k < s.size, ¬ Dig s[k] := by
      refine Classical.byContradiction fun hno => hd (digs_of fun k hk => Classical.byContradiction fun hn => hno ⟨k, hk, hn⟩)
    obtain ⟨k, hk, hn⟩ := hex
    obtain ⟨f, hf, h1, h2⟩ := first_of (P := fun k => ∃ hk : k < s.size, ¬ Dig s[k]) (k + 1) k (by omega) ⟨hk, hn⟩
    obtain ⟨hfs, hfn⟩ := h1
    exact dec_nd s w f hfs hs (fun j hj hjf => Classical.byContradiction fun hn => h2 j hjf ⟨hj, hn⟩) hfn
theorem cut_neg {t : List UInt8} (hs : s.size ≤ 100000000) (h : s.data.toList = 45 :: t) : (s.extract 1 s.size).data.toList = t ∧ (s.extract 1 s.size).size = t.length ∧
    Calls Try.prog 69 #[.string s, .string ⟨#[45]⟩] w fun e w' => e = .returned (.tuple #[.string (s.extract 1 s.size), .bool true]) ∧ w = w' := by
  have hl : s.size = t.length + 1 := by rw [Lib.size_eq, h]; rfl
  have he : (s.extract 1 s.size).data.toList = t := by
    rw [Lib.extract_data, h, hl]
    simp
  refine ⟨he, by rw [Lib.size_eq, he], cut_t s w (by omega) hs ?_⟩
  rw [Lib.extract_toList, h]
  rfl
theorem cut_pos (hs : s.size ≤ 100000000) (h : ∀ t, s.data.toList ≠ 45 :: t) : Calls Try.prog 69 #[.string s, .string ⟨#[45]⟩] w fun e w' => e = .returned (.tuple #[.string s, .bool false]) ∧ w = w' := by
  refine cut_f s w ?_
  match hl : s.data.toList with
  | [] => exact .inl (by rw [Lib.size_eq, hl]; rfl)
  | c :: t =>
    have hsz : s.size = t.length + 1 := by rw [Lib.size_eq, hl]; rfl
    refine .inr ⟨by omega, hs, ?_⟩
    rw [Lib.extract_toList, hl, beq_eq_false_iff_ne]
    intro e
    simp at e
    exact h t (by rw [hl, e])
set_option maxHeartbeats 1000000 in
theorem parse_pe (hs : s.size ≤ 60000) (hp : ∀ t, s.data.toList ≠ 45 :: t) (hn : ¬ (Digs s.data.toList ∧ Canon s.data.toList)) : Calls Try.prog 41 #[.string s] w (RetIE 0 0 2 w) := by
  have HC := Lib.hid (fun w => cut_pos (w := w) (s := s) (by omega) hp)
  have HN := Lib.hid hn
  clear hp hn
  have hz := Box.new w 24 #[.bool false, .slice none 0 0]
  have z0 := hz.cell 0 (.bool false) rfl
  have z1 := hz.cell 1 (.slice none 0 0) rfl
  have f0 := hz.frozen 0
  have f1 := hz.frozen 1
  have e1 := (Ext.refl w).alloc (.cells #[.bool false, .slice none 0 0] 24)
  clear hz
  go_enter Try.func41, Try.ntmps41
  go_wp2_with fail
  refine (HC.out _).mono ?_
  rintro e w1 ⟨rfl, rfl⟩
  go_wp2_with fail
  refine (dec_false (by omega) HN.out).mono ?_
  rintro e w1 ⟨rfl, rfl⟩
  go_wp2_with fail
  exact bodyPost_ret (v := .tuple #[.agg #[.bool false, .slice none 0 0], .int .i64 2]) (by simp [results, Try.results41, go_sem, z0, z1]) rfl ⟨false, none, 0, [], rfl, Rd.nil _ _, by simp, by unfold maxLen; omega, IsInt.nil false, by simp, e1⟩
set_option maxHeartbeats 1000000 in
theorem parse_ne (hs : s.size ≤ 60000) {t : List UInt8} (hp : s.data.toList = 45 :: t) (hn : ¬ (Digs t ∧ Canon t)) : Calls Try.prog 41 #[.string s] w (RetIE 0 0 2 w) := by
  obtain ⟨hx, hl, _⟩ := cut_neg (w := w) (by omega) hp
  have HC := Lib.hid (fun w => (cut_neg (w := w) (s := s) (by omega) hp).2.2)
  have hsz : (s.extract 1 s.size).size ≤ 60000 := by rw [hl]; have := congrArg List.length hp; rw [← Lib.size_eq] at this; simp at this; omega
  have HN := Lib.hid (show ¬ (Digs (s.extract 1 s.size).data.toList ∧ Canon (s.extract 1 s.size).data.toList) by rw [hx]; exact hn)
  clear hp hn hx hl
  have hz := Box.new w 24 #[.bool false, .slice none 0 0]
  have z0 := hz.cell 0 (.bool false) rfl
  have z1 := hz.cell 1 (.slice none 0 0) rfl
  have f0 := hz.frozen 0
  have f1 := hz.frozen 1
  have e1 := (Ext.refl w).alloc (.cells #[.bool false, .slice none 0 0] 24)
  clear hz
  go_enter Try.func41, Try.ntmps41
  go_wp2_with fail
  refine (HC.out _).mono ?_
  rintro e w1 ⟨rfl, rfl⟩
  go_wp2_with fail
  refine (dec_false (by omega) HN.out).mono ?_
  rintro e w1 ⟨rfl, rfl⟩
  go_wp2_with fail
  exact bodyPost_ret (v := .tuple #[.agg #[.bool false, .slice none 0 0], .int .i64 2]) (by simp [results, Try.results41, go_sem, z0, z1]) rfl ⟨false, none, 0, [], rfl, Rd.nil _ _, by simp, by unfold maxLen; omega, IsInt.nil false, by simp, e1⟩
set_option maxHeartbeats 1000000 in
theorem parse_n0 (hs : s.size ≤ 60000) (hp : s.data.toList = 45 :: [48]) : Calls Try.prog 41 #[.string s] w (RetIE 0 0 2 w) := by
  obtain ⟨hx, hl, _⟩ := cut_neg (w := w) (by omega) hp
  have HC := Lib.hid (fun w => (cut_neg (w := w) (s := s) (by omega) hp).2.2)
  have hsz : (s.extract 1 s.size).size ≤ 60000 := by rw [hl]; simp
  have HX := Lib.hid hx
  have t1 : ((s.extract 1 s.size).toList == [48]) = true := by rw [Lib.toList_data, hx]; rfl
  have T1 := Lib.hid t1
  clear hp hx hl t1
  have hz := Box.new w 24 #[.bool false, .slice none 0 0]
  have z0 := hz.cell 0 (.bool false) rfl
  have z1 := hz.cell 1 (.slice none 0 0) rfl
  have f0 := hz.frozen 0
  have f1 := hz.frozen 1
  have e1 := (Ext.refl w).alloc (.cells #[.bool false, .slice none 0 0] 24)
  clear hz
  go_enter Try.func41, Try.ntmps41
  go_wp2_with fail
  refine (HC.out _).mono ?_
  rintro e w1 ⟨rfl, rfl⟩
  go_wp2_with fail
  refine (dec_true (by omega) (by rw [HX.out]; intro c hc; rw [List.mem_singleton.1 hc]; exact ⟨by decide, by decide⟩) (by rw [HX.out]; exact .inl rfl)).mono ?_
  rintro e w1 ⟨rfl, rfl⟩
  have t1 := T1.out
  go_wp2_with fail
  exact bodyPost_ret (v := .tuple #[.agg #[.bool false, .slice none 0 0], .int .i64 2]) (by simp [results, Try.results41, go_sem, z0, z1]) rfl ⟨false, none, 0, [], rfl, Rd.nil _ _, by simp, by unfold maxLen; omega, IsInt.nil false, by simp, e1⟩
set_option maxHeartbeats 1000000 in
theorem parse_p (hs : s.size ≤ 60000) (hp : ∀ t, s.data.toList ≠ 45 :: t) (hd : Digs s.data.toList) (hc : Canon s.data.toList) {z : Int} (hzz : z = (dv s.data.toList : Int)) : Calls Try.prog 41 #[.string s] w (RetIE z s.size 0 w) := by
  have HC := Lib.hid (fun w => cut_pos (w := w) (s := s) (by omega) hp)
  have HD := Lib.hid (And.intro hd hc)
  have Hz := Lib.hid hzz
  have hsz : s.size ≤ 60000 := hs
  clear hp hd hc hzz
  have hz := Box.new w 24 #[.bool false, .slice none 0 0]
  have z0 := hz.cell 0 (.bool false) rfl
  have z1 := hz.cell 1 (.slice none 0 0) rfl
  have f0 := hz.frozen 0
  have f1 := hz.frozen 1
  have e1 := (Ext.refl w).alloc (.cells #[.bool false, .slice none 0 0] 24)
  have hg0 : w.heap.size ≤ w.heap.size := Nat.le_refl _
  go_enter Try.func41, Try.ntmps41
  go_wp2_with fail
  refine (HC.out _).mono ?_
  rintro e w1 ⟨rfl, rfl⟩
  go_wp2_with fail
  refine (dec_true (by omega) HD.out.1 HD.out.2).mono ?_
  rintro e w1 ⟨rfl, rfl⟩
  go_wp2_with fail
  refine (parse_digits s _ HD.out.1 (by omega)).mono ?_
  rintro e w2 ⟨A2, c2, zs, rfl, hr2, hc2, hm2, ⟨hv2, hn2, hl2⟩, hext2⟩
  have Hv2 := Lib.hid hv2
  clear hv2
  go_wp2_with fail
  refine (int_signed rfl hr2 hc2 hm2 hn2).mono ?_
  rintro e w3 ⟨b3, A3, c3, rs, rfl, hr3, hc3, hm3, hi3, hl3, hext3⟩
  have ext3 := hext2.trans hext3
  have bz3 := hz.ext ext3
  clear z0 z1 f0 f1
  have z0 := bz3.cell 0 (.bool false) rfl
  have z1 := bz3.cell 1 (.slice none 0 0) rfl
  have f0 := bz3.frozen 0
  have f1 := bz3.frozen 1
  go_wp2_with fail
  obtain ⟨r1, r2, r3, r4⟩ := fin_pair (b := b3) (n := rs.length) (c := c3) (e1.trans ext3) (Nat.le_refl _) bz3 hr3
  exact bodyPost_ret (v := .tuple #[.agg #[.bool b3, .slice A3 rs.length c3], .int .i64 0]) (by simp [results, Try.results41, go_sem, r3, r4]) rfl ⟨b3, A3, c3, rs, rfl, r1, hc3, hm3, by have h := hi3; rw [show ival false zs = z by rw [Hz.out, ← Hv2.out]; rfl] at h; exact h, by omega, r2⟩
set_option maxHeartbeats 1000000 in
theorem parse_n (hs : s.size ≤ 60000) {t : List UInt8} (hp : s.data.toList = 45 :: t) (hd : Digs t) (hc : Canon t) (h0 : t ≠ [48]) {z : Int} (hzz : z = -(dv t : Int)) : Calls Try.prog 41 #[.string s] w (RetIE z s.size 0 w) := by
  obtain ⟨hx, hl, _⟩ := cut_neg (w := w) (by omega) hp
  have HC := Lib.hid (fun w => (cut_neg (w := w) (s := s) (by omega) hp).2.2)
  have hsz : (s.extract 1 s.size).size ≤ s.size := by rw [hl]; have := congrArg List.length hp; rw [← Lib.size_eq] at this; simp at this; omega
  have HD : Hid (Digs (s.extract 1 s.size).data.toList ∧ Canon (s.extract 1 s.size).data.toList) := by rw [hx]; exact Lib.hid ⟨hd, hc⟩
  have t1 : ((s.extract 1 s.size).toList == [48]) = false := by rw [Lib.toList_data, hx, beq_eq_false_iff_ne]; exact h0
  have T1 := Lib.hid t1
  rw [← hx] at hzz
  have Hz := Lib.hid hzz
  clear hp hx hl t1 hd hc h0 hzz
  have hz := Box.new w 24 #[.bool false, .slice none 0 0]
  have z0 := hz.cell 0 (.bool false) rfl
  have z1 := hz.cell 1 (.slice none 0 0) rfl
  have f0 := hz.frozen 0
  have f1 := hz.frozen 1
  have e1 := (Ext.refl w).alloc (.cells #[.bool false, .slice none 0 0] 24)
  have hg0 : w.heap.size ≤ w.heap.size := Nat.le_refl _
  go_enter Try.func41, Try.ntmps41
  go_wp2_with fail
  refine (HC.out _).mono ?_
  rintro e w1 ⟨rfl, rfl⟩
  go_wp2_with fail
  refine (dec_true (by omega) HD.out.1 HD.out.2).mono ?_
  rintro e w1 ⟨rfl, rfl⟩
  have t1 := T1.out
  go_wp2_with fail
  refine (parse_digits (s.extract 1 s.size) _ HD.out.1 (by omega)).mono ?_
  rintro e w2 ⟨A2, c2, zs, rfl, hr2, hc2, hm2, ⟨hv2, hn2, hl2⟩, hext2⟩
  have Hv2 := Lib.hid hv2
  clear hv2
  go_wp2_with fail
  refine (int_signed rfl hr2 hc2 hm2 hn2).mono ?_
  rintro e w3 ⟨b3, A3, c3, rs, rfl, hr3, hc3, hm3, hi3, hl3, hext3⟩
  have ext3 := hext2.trans hext3
  have bz3 := hz.ext ext3
  clear z0 z1 f0 f1
  have z0 := bz3.cell 0 (.bool false) rfl
  have z1 := bz3.cell 1 (.slice none 0 0) rfl
  have f0 := bz3.frozen 0
  have f1 := bz3.frozen 1
  go_wp2_with fail
  obtain ⟨r1, r2, r3, r4⟩ := fin_pair (b := b3) (n := rs.length) (c := c3) (e1.trans ext3) (Nat.le_refl _) bz3 hr3
  exact bodyPost_ret (v := .tuple #[.agg #[.bool b3, .slice A3 rs.length c3], .int .i64 0]) (by simp [results, Try.results41, go_sem, r3, r4]) rfl ⟨b3, A3, c3, rs, rfl, r1, hc3, hm3, by have h := hi3; rw [show ival true zs = z by rw [Hz.out, ← Hv2.out]; rfl] at h; exact h, by omega, r2⟩
end
end Go.Proofs.Ytmjmcinnbmjpdaa
